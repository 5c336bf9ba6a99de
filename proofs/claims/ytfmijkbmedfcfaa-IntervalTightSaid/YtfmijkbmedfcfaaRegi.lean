/-
  Own law: a region that draws its order, walked by ONE invariant over what is listed: an obligation for each operation, not for each order.
-/
import Derived.Orders
import Derived.Great.Frames
namespace Go.Proofs.Ytfmijkbmedfcfaa
open Go
set_option linter.unusedVariables false
set_option linter.unusedSimpArgs false
section
variable {P : Program} {ops : Array Oper} {Q : Exit → Act → World → Prop} {md : Region.Mode}
/-- how many operations are not listed yet -/
def notYet (n : Nat) (listed : Array Bool) : Nat := (List.range n).countP (fun i => !listed.getD i true)
theorem notYet_set {n i : Nat} {listed : Array Bool} (hi : i < n) (hl : listed.getD i true = false) : notYet n (listed.setIfInBounds i true) + 1 ≤ notYet n listed := by
  unfold notYet
  have key : ∀ l : List Nat, l.Nodup → (i ∈ l → l.countP (fun j => !(listed.setIfInBounds i true).getD j true) + 1 ≤ l.countP (fun j => !listed.getD j true)) ∧ (i ∉ l → l.countP (fun j => !(listed.setIfInBounds i true).getD j true) = l.countP (fun j => !listed.getD j true)) := by
    intro l
    induction l with
    | nil => intro _; exact ⟨(fun h => by cases h), (fun _ => rfl)⟩
    | cons x l ih =>
      intro hn
      obtain ⟨hx, hn'⟩ := List.nodup_cons.1 hn
      obtain ⟨h1, h2⟩ := ih hn'
      constructor
      · intro hm
        by_cases e : x = i
        · subst e
          have := h2 hx
          rw [List.countP_cons, List.countP_cons, this]
          have a1 : (listed.setIfInBounds x true).getD x true = true := by
            by_cases hs : x < listed.size
            · simp [hs]
            · simp [hs]
          rw [a1, hl]; simp
        · have hm' : i ∈ l := by
            rcases List.mem_cons.1 hm with h | h
            · exact absurd h.symm e
            · exact h
          have := h1 hm'
          rw [List.countP_cons, List.countP_cons, getD_set_ne true (Ne.symm e)]
          omega
      · intro hm
        have e : x ≠ i := fun h => hm (h ▸ List.mem_cons_self ..)
        have hm' : i ∉ l := fun h => hm (List.mem_cons_of_mem _ h)
        rw [List.countP_cons, List.countP_cons, getD_set_ne true (Ne.symm e), h2 hm']
  exact (key _ List.nodup_range).1 (List.mem_range.2 hi)
theorem ready_lt {i : Nat} {listed : Array Bool} (h : i ∈ Region.ready md ops listed) : i < ops.size ∧ listed.getD i true = false := by
  rw [mem_ready] at h
  obtain ⟨h0, o, ho, _⟩ := h
  exact ⟨(Array.getElem?_eq_some_iff.1 ho).1, h0⟩
/-- ALL ORDERS BY ONE INVARIANT -/
theorem wpAny_inv (Inv : Array Bool → Act → World → Prop)
    (hs : ∀ listed a w i, i ∈ Region.ready md ops listed → Inv listed a w → wpOp P ops Q i (Inv (listed.setIfInBounds i true)) a w)
    (hd : ∀ listed a w, Region.ready md ops listed = [] → Inv listed a w → Q .normal a w) :
    ∀ (fuel : Nat) (listed : Array Bool) (a : Act) (w : World), notYet ops.size listed ≤ fuel → Inv listed a w → wpAny P md ops Q fuel listed a w
  | 0, listed, a, w, hc, h => by
    have hr : Region.ready md ops listed = [] := by
      rw [List.eq_nil_iff_forall_not_mem]
      intro i hi
      obtain ⟨h1, h2⟩ := ready_lt hi
      have := notYet_set h1 h2
      omega
    exact ⟨hr, hd listed a w hr h⟩
  | fuel + 1, listed, a, w, hc, h => by
    refine ⟨fun hr => hd listed a w hr h, fun i hi => ?_⟩
    obtain ⟨h1, h2⟩ := ready_lt hi
    have := notYet_set h1 h2
    refine wpOp_mono (fun a' w' h' => wpAny_inv Inv hs hd fuel _ a' w' (by omega) h') (hs listed a w i hi h)
theorem notYet_le (n : Nat) (listed : Array Bool) : notYet n listed ≤ n := by
  unfold notYet
  have := List.countP_le_length (p := fun i => !listed.getD i true) (l := List.range n)
  simpa using this
theorem region_inv {id : Nat} {a : Act} {w : World} (hm : P.follows .mixedOrders = true) (Inv : Array Bool → Act → World → Prop)
    (h0 : Inv (Array.replicate ops.size false) a { w with drawn := w.drawn + 1 })
    (hs : ∀ listed a w i, i ∈ Region.ready .any ops listed → Inv listed a w → wpOp P ops Q i (Inv (listed.setIfInBounds i true)) a w)
    (hd : ∀ listed a w, Region.ready .any ops listed = [] → Inv listed a w → Q .normal a w) : (Code.region id ops true).wp P Q a w :=
  wp_region_any hm (wpAny_inv Inv hs hd ops.size _ a _ (notYet_le _ _) h0)
end
/-- what the listed operations have put -/
def putL (l : Array Bool) : List (Nat × Nat × Value) → Act → Act
  | [], a => a
  | (i, d, v) :: vs, a => if l.getD i false = true then (putL l vs a).put (some d) v else putL l vs a
theorem putL_out {l : Array Bool} {i : Nat} : ∀ {vs : List (Nat × Nat × Value)} {a : Act}, i ∉ vs.map (·.1) → putL (l.setIfInBounds i true) vs a = putL l vs a
  | [], _, _ => rfl
  | (j, d, v) :: vs, a, h => by
    have hj : i ≠ j := fun e => h (by simp [e])
    have ht : i ∉ vs.map (·.1) := fun e => h (by simp at e ⊢; exact Or.inr e)
    unfold putL
    rw [getD_set_ne false hj, putL_out ht]
theorem putL_set {l : Array Bool} {i d : Nat} {v : Value} (hl : i < l.size) (h0 : l.getD i false = false) : ∀ {vs : List (Nat × Nat × Value)} {a : Act}, (vs.map (·.1)).Nodup → (vs.map (·.2.1)).Nodup → (i, d, v) ∈ vs → putL (l.setIfInBounds i true) vs a = (putL l vs a).put (some d) v
  | (j, e, u) :: vs, a, n1, n2, hm => by
    simp only [List.map_cons, List.nodup_cons] at n1 n2
    by_cases hj : i = j
    · subst hj
      have he : (e, u) = (d, v) := by
        rcases List.mem_cons.1 hm with h | h
        · cases h; rfl
        · exact absurd (List.mem_map_of_mem (f := (·.1)) h) n1.1
      cases he
      unfold putL
      rw [putL_out n1.1]
      simp [hl, h0]
    · have hm' : (i, d, v) ∈ vs := by
        rcases List.mem_cons.1 hm with h | h
        · cases h; exact absurd rfl hj
        · exact h
      have hd : e ≠ d := fun h => n2.1 (h ▸ List.mem_map_of_mem (f := (·.2.1)) hm')
      unfold putL
      rw [getD_set_ne false hj, putL_set hl h0 n1.2 n2.2 hm']
      split
      · exact Act.put_comm _ _ _ (fun x hx hy => hd (by cases hx; cases hy; rfl))
      · rfl
theorem putL_size {l : Array Bool} : ∀ {vs : List (Nat × Nat × Value)} {a : Act}, (putL l vs a).tmps.size = a.tmps.size
  | [], _ => rfl
  | (j, e, u) :: vs, a => by
    unfold putL
    split
    · simp [Act.put, putL_size]
    · exact putL_size
theorem putL_eval_out {l : Array Bool} {d : Nat} : ∀ {vs : List (Nat × Nat × Value)} {a : Act}, d ∉ vs.map (·.2.1) → (putL l vs a).eval (.tmp d) = a.eval (.tmp d)
  | [], _, _ => rfl
  | (j, e, u) :: vs, a, h => by
    have he : e ≠ d := fun x => h (by simp [x])
    have ht : d ∉ vs.map (·.2.1) := fun x => h (by simp at x ⊢; exact Or.inr x)
    unfold putL
    split
    · rw [Act.eval_put_ne _ _ _ _ he, putL_eval_out ht]
    · exact putL_eval_out ht
theorem putL_eval {l : Array Bool} {i d : Nat} {v : Value} (h1 : l.getD i false = true) : ∀ {vs : List (Nat × Nat × Value)} {a : Act}, (vs.map (·.2.1)).Nodup → (i, d, v) ∈ vs → d < a.tmps.size → (putL l vs a).eval (.tmp d) = v
  | (j, e, u) :: vs, a, n2, hm, hs => by
    simp only [List.map_cons, List.nodup_cons] at n2
    rcases List.mem_cons.1 hm with h | h
    · cases h
      unfold putL
      rw [if_pos h1]
      exact Act.eval_put_same _ _ _ (by rw [putL_size]; exact hs)
    · have he : e ≠ d := fun x => n2.1 (x ▸ List.mem_map_of_mem (f := (·.2.1)) h)
      unfold putL
      split
      · rw [Act.eval_put_ne _ _ _ _ he]; exact putL_eval h1 n2.2 h hs
      · exact putL_eval h1 n2.2 h hs
theorem putL_const {l : Array Bool} {c : Value} {vs : List (Nat × Nat × Value)} {a : Act} : (putL l vs a).eval (.const c) = c := rfl
/-- only what is listed counts -/
theorem putL_congr {l : Array Bool} {a : Act} (f g : Nat → Nat → Value) (h : ∀ i d, l.getD i false = true → f i d = g i d) : ∀ (xs : List (Nat × Nat)), putL l (xs.map fun x => (x.1, x.2, f x.1 x.2)) a = putL l (xs.map fun x => (x.1, x.2, g x.1 x.2)) a
  | [] => rfl
  | (i, d) :: xs => by
    have ih := putL_congr (a := a) f g h xs
    simp only [List.map_cons, putL]
    rw [ih]
    split
    · rename_i hl; rw [h i d hl]
    · rfl
theorem putL_none (a : Act) (n : Nat) : ∀ (vs : List (Nat × Nat × Value)), putL (Array.replicate n false) vs a = a
  | [] => rfl
  | (i, d, v) :: vs => by
    unfold putL
    rw [putL_none a n vs]
    split
    · rename_i h
      by_cases hi : i < n
      · simp [hi] at h
      · simp [hi] at h
    · rfl
theorem ready_on {ops : Array Oper} {md : Region.Mode} {i d : Nat} {l : Array Bool} (hi : i ∈ Region.ready md ops l) (h : (ops[i]?.map (fun o => o.after.any (fun e => e.on == d && Region.binds md e))) = some true) : l.getD d false = true := by
  rw [mem_ready] at hi
  obtain ⟨_, o, ho, hq⟩ := hi
  rw [ho] at h
  simp only [Option.map_some, Option.some.injEq, Array.any_eq_true] at h
  obtain ⟨k, hk, he⟩ := h
  simp only [Bool.and_eq_true, beq_iff_eq] at he
  have := hq o.after[k] (Array.getElem_mem hk) he.2
  rwa [he.1] at this
theorem ready_not {ops : Array Oper} {md : Region.Mode} {i : Nat} {l : Array Bool} (hi : i ∈ Region.ready md ops l) : l.getD i false = false ∨ l.size ≤ i := by
  rw [mem_ready] at hi
  by_cases h : i < l.size
  · left; have := hi.1; simp [h] at this ⊢; exact this
  · right; omega
theorem wpOp_of {P : Program} {ops : Array Oper} {Q : Exit → Act → World → Prop} {i : Nat} {K : Act → World → Prop} {a : Act} {w : World} {o : Oper} (ho : ops[i]? = some o) (hg : o.guard = none) (h : o.wp P a w K Q) : wpOp P ops Q i K a w := by
  unfold wpOp
  rw [ho]
  simp only [Region.wanted, hg]
  exact Or.inl h
theorem wp_value {P : Program} {Q : Exit → Act → World → Prop} {K : Act → World → Prop} {a : Act} {w w' : World} {o : Oper} {v : Value} (hr : (execOp a.eval o).run P w = .ok (.value v) w') (h : K (a.put o.dst v) w') : o.wp P a w K Q := by
  unfold Oper.wp
  rw [hr]
  exact h
theorem wp_skip {P : Program} {Q : Exit → Act → World → Prop} {K : Act → World → Prop} {a : Act} {w w' : World} {o : Oper} (hr : (execOp a.eval o).run P w = .ok .skip w') (h : K (a.put o.dst undef) w') : o.wp P a w K Q := by
  unfold Oper.wp
  rw [hr]
  exact h
theorem region_put {P : Program} {ops : Array Oper} {Q : Exit → Act → World → Prop} {id : Nat} {a : Act} {w : World} (hm : P.follows .mixedOrders = true) {X : Type} (vs : X → List (Nat × Nat × Value)) (J : X → Array Bool → World → Prop) (p0 : X)
    (h0 : J p0 (Array.replicate ops.size false) { w with drawn := w.drawn + 1 })
    (hs : ∀ p l w i, i ∈ Region.ready .any ops l → J p l w → wpOp P ops Q i (fun a' w' => ∃ p', a' = putL (l.setIfInBounds i true) (vs p') a ∧ J p' (l.setIfInBounds i true) w') (putL l (vs p) a) w)
    (hd : ∀ p l w, Region.ready .any ops l = [] → J p l w → Q .normal (putL l (vs p) a) w) : (Code.region id ops true).wp P Q a w := by
  refine region_inv hm (fun l a' w' => ∃ p, a' = putL l (vs p) a ∧ J p l w') ⟨p0, (putL_none a _ _).symm, h0⟩ ?_ ?_
  · rintro l a' w' i hi ⟨p, rfl, hj⟩
    exact hs p l w' i hi hj
  · rintro l a' w' hr ⟨p, rfl, hj⟩
    exact hd p l w' hr hj
theorem all_listed {ops : Array Oper} {md : Region.Mode} {l : Array Bool} (hr : Region.ready md ops l = []) (hl : l.size = ops.size) (hac : ∀ (i : Nat) (o : Oper), ops[i]? = some o → ∀ e ∈ o.after, Region.binds md e = true → e.on < i) : ∀ n i, i < n → i < ops.size → l.getD i false = true
  | n + 1, i, hn, hi => by
    have ih := all_listed hr hl hac n
    cases h : l.getD i false with
    | true => rfl
    | false =>
      exfalso
      have hm : i ∈ Region.ready md ops l := by
        rw [mem_ready]
        refine ⟨by simp [show i < l.size by omega] at h ⊢; exact h, ops[i], by simp [hi], fun e he hb => ?_⟩
        have hlt := hac i ops[i] (by simp [hi]) e he hb
        exact ih e.on (by omega) (by omega)
      rw [hr] at hm
      cases hm
theorem acyc_of {ops : Array Oper} {md : Region.Mode} (h : ((List.range ops.size).all fun i => (ops[i]?.map fun (o : Oper) => o.after.all fun e => !Region.binds md e || decide (e.on < i)).getD true) = true) : ∀ (i : Nat) (o : Oper), ops[i]? = some o → ∀ e ∈ o.after, Region.binds md e = true → e.on < i := by
  intro i o ho e he hb
  rw [List.all_eq_true] at h
  have hi : i < ops.size := (Array.getElem?_eq_some_iff.1 ho).1
  have := h i (List.mem_range.2 hi)
  rw [ho] at this
  simp only [Option.map_some, Option.getD_some, Array.all_eq_true_iff_forall_mem] at this
  have := this e he
  rw [hb] at this
  simpa using this
/-- an entry that is not listed may be any -/
theorem putL_mid {l : Array Bool} {i d : Nat} {u v : Value} (h : l.getD i false = false) (a : Act) : ∀ (xs ys : List (Nat × Nat × Value)), putL l (xs ++ (i, d, u) :: ys) a = putL l (xs ++ (i, d, v) :: ys) a
  | [], ys => by
    show putL l ((i, d, u) :: ys) a = putL l ((i, d, v) :: ys) a
    unfold putL
    rw [h]; rfl
  | (j, e, x) :: xs, ys => by
    have ih := putL_mid (d := d) (u := u) (v := v) h a xs ys
    show putL l ((j, e, x) :: (xs ++ (i, d, u) :: ys)) a = putL l ((j, e, x) :: (xs ++ (i, d, v) :: ys)) a
    unfold putL
    rw [ih]
theorem putL_one {l : Array Bool} {i d : Nat} (h : l.getD i false = false) (a : Act) (u v : Value) (xs ys vs ws : List (Nat × Nat × Value)) (h1 : vs = xs ++ (i, d, u) :: ys) (h2 : ws = xs ++ (i, d, v) :: ys) : putL l vs a = putL l ws a := by
  rw [h1, h2]; exact putL_mid h a xs ys
theorem put_none (a : Act) (v : Value) : a.put none v = a := rfl
theorem wp_skip0 {P : Program} {Q : Exit → Act → World → Prop} {K : Act → World → Prop} {a : Act} {w w' : World} {o : Oper} (hd : o.dst = none) (hr : (execOp a.eval o).run P w = .ok .skip w') (h : K a w') : o.wp P a w K Q := by
  unfold Oper.wp
  rw [hr]
  show K (a.put o.dst undef) w'
  rw [hd]
  exact h
theorem wp_call {P : Program} {Q : Exit → Act → World → Prop} {K : Act → World → Prop} {a : Act} {w : World} {o : Oper} {f : FuncId} {args : Array Value} (hr : (execOp a.eval o).run P w = .ok (.enter f args) w) (h : Calls P f args w fun e w'' => match e, w'' with
    | .returned v, w'' => K (a.put o.dst v) w''
    | .panicked chain, w'' => Q (.panic chain) a w''
    | .outgrown, _ => LetsOut Q) : o.wp P a w K Q := by
  unfold Oper.wp
  rw [hr]
  exact h
end Go.Proofs.Ytfmijkbmedfcfaa
