/-
  Own frame: a world kept but for new blocks ('Kept'), what follows for cells and readings, and the row's end of a law that answers true.
-/
import Derived.WalkKit
import Derived.ProofKit
import Derived.OpenShut
import Derived.Handy
import Derived.Deep.QuietTactic
import Derived.Lib.SmallJoins
namespace Go.Proofs.Ytfmijkbmedfcfaa
open Go.ChangeShapes Go.WideShapes Go.ChangeAt Go.RowKit
set_option linter.unusedVariables false
set_option linter.unusedSimpArgs false

/-- w' is w with new blocks laid and draws made -/
structure Kept (w w' : World) : Prop where
  os : w'.os = w.os
  output : w'.output = w.output
  size : w.heap.size ≤ w'.heap.size
  block : ∀ k, k < w.heap.size → w'.heap[k]? = w.heap[k]?

theorem Kept.refl (w : World) : Kept w w := ⟨rfl, rfl, Nat.le_refl _, fun _ _ => rfl⟩
theorem Kept.trans {a b c : World} (h : Kept a b) (k : Kept b c) : Kept a c :=
  ⟨k.os.trans h.os, k.output.trans h.output, Nat.le_trans h.size k.size, fun i hi => (k.block i (Nat.lt_of_lt_of_le hi h.size)).trans (h.block i hi)⟩
theorem Kept.drew {a b : World} (h : Kept a b) : Kept a b.drew := ⟨h.os, h.output, h.size, h.block⟩
theorem Kept.drewN {a b : World} (h : Kept a b) (n : Nat) : Kept a (b.drewN n) := ⟨h.os, h.output, h.size, h.block⟩
theorem Kept.alloc {a b : World} (h : Kept a b) (o : Obj) : Kept a (b.alloc o) :=
  ⟨h.os, h.output, Nat.le_trans h.size (by show b.heap.size ≤ (b.heap.push _).size; simp), fun i hi => (Below.heap_alloc b o i (Nat.lt_of_lt_of_le hi h.size)).trans (h.block i hi)⟩
theorem Kept.setCell {a b : World} (h : Kept a b) {p : Addr} (hp : a.heap.size ≤ p.block) (u : Value) : Kept a (b.setCell p u) :=
  ⟨h.os, h.output, by have := h.size; simpa [World.setCell] using this, fun i hi => (Below.heap_setCell b p u i (by omega)).trans (h.block i hi)⟩
theorem Kept.below {a b : World} (h : Below a.heap.size a b) : Kept a b := ⟨h.os, h.output, h.size, h.block⟩
theorem Kept.grown {a b : World} (h : Grown a b) : Kept a b := by
  obtain ⟨⟨h1, h2, h3⟩, hf, hs⟩ := h
  refine ⟨h1, h2, hs, fun i hi => ?_⟩
  have := h3 i hi
  split at this
  · rename_i c t fr c' t' fr' e1 e2
    obtain ⟨rfl, rfl, hz, hc⟩ := this
    have : c' = c := Array.ext_getElem? (fun j => hc j (by simp))
    rw [e1, e2, this]
  · rename_i es clock es' clock' e1 e2
    rcases this with h | ⟨rfl, rfl⟩
    · exact h.elim
    · rw [e1, e2]
  · exact this
theorem Kept.cell {w w' : World} (h : Kept w w') {p : Addr} (hp : p.block < w.heap.size) : w'.cell? p = w.cell? p := World.cell?_of_block (w := w) (h.block p.block hp)
theorem Kept.frozen {w w' : World} (h : Kept w w') {p : Addr} (hp : p.block < w.heap.size) : w'.frozen? p = w.frozen? p := World.frozen?_of_block (w := w) (h.block p.block hp)
theorem Kept.same {W w' : World} (h : Kept W w') {p : MemPlace} (hp : p.block < W.heap.size) : W.sameAt w' p := by
  cases p with
  | cell b off => exact h.cell hp
  | map b => exact h.block b hp
theorem Kept.frame {W w' : World} (h : Kept W w') (may : MemPlace → Prop) : W.keptBut w' may := by
  refine ⟨h.os, h.output, fun i hi => ?_⟩
  rw [h.block i hi]
  split
  · rename_i e1 e2; rw [e1] at e2; cases e2; exact ⟨rfl, rfl, rfl, fun _ _ => rfl⟩
  · rename_i e1 e2; rw [e1] at e2; cases e2; exact Or.inr ⟨rfl, rfl⟩
  · rfl

/-- what is read below stays as it reads -/
theorem args_stay {H : Type} {enc : TypeId × Value → H} {P : Program} (hl : laidOutB P = true) {W W' : World} (hk : Kept W W') :
    ∀ {ts : List TypeId} {vs : List Value} {ds : List (DataW H)} {ps : List MemPlace}, (∀ t ∈ ts, P.readableRec t = true ∧ t < P.types.size) → DataW.TrodAll enc P W 0 (fun _ => true) true ts vs ds ps → (∀ x ∈ ps, x.block < W.heap.size) →
    DataW.TrodAll enc P W' 0 (fun b => decide (b < W.heap.size)) true ts vs ds ps
  | [], [], [], _, _, h, _ => h
  | t :: _, _ :: _, _ :: _, _, hT, ⟨p, q, h1, h2, e⟩, hs =>
    ⟨p, q, WideElems.Trod_stays hl (hT t (List.mem_cons.2 (Or.inl rfl))).1 (hT t (List.mem_cons.2 (Or.inl rfl))).2 h1 (fun x hx => hk.same (hs x (by rw [e]; exact List.mem_append_left _ hx))) (fun x hx => by simpa using hs x (by rw [e]; exact List.mem_append_left _ hx)),
      args_stay hl hk (fun u hu => hT u (List.mem_cons.2 (Or.inr hu))) h2 (fun x hx => hs x (by rw [e]; exact List.mem_append_right _ hx)), e⟩

/-- the end of a law's row: it answered true, and nothing that was there has turned -/
theorem law_post {H : Type} {enc : TypeId × Value → H} {P : Program} {f : Func} {s : ChangeSpec} {W W' : World} {args : Array Value} {ds gs : List (DataW H)} {before : List MemPlace} {tb : TypeId}
    (hl : laidOutB P = true) (hT0 : (f.params.toList.all fun t => P.readableRec t && decide (t < P.types.size)) = true) (hr : f.resultTypes = #[tb]) (hb : P.underlying tb = some .bool)
    (hv : s.vars = []) (hW : DataW.Whole enc P f.params.toList s.vars false W args.toList ds gs before)
    (hs : (s.fn H (ds ++ gs)).results = [.lit (.bool true)] ∧ (s.fn H (ds ++ gs)).args = ds ∧ (s.fn H (ds ++ gs)).vars = []) (hk : Kept W W') :
    s.post enc P f false true false false W args (.bool true) W' := by
  have hT : ∀ t ∈ f.params.toList, P.readableRec t = true ∧ t < P.types.size := fun t ht => by simpa using List.all_eq_true.1 hT0 t ht
  have hlt : ∀ x ∈ before, x.block < W.heap.size := fun x hx => hW.lt x hx
  have hW' := hW
  obtain ⟨p, q, hA, hV, rfl, hfz, hnd⟩ := hW
  rw [hv] at hV
  obtain ⟨rfl, rfl⟩ := trodVars_none hV
  refine ⟨ds, [], p ++ [], [], p, [], hW', ?_, ?_, ?_, hk.frame _, fun h => by cases h⟩
  · rw [hs.1, hr]; exact trodAll_cons_mk (shut_bool hb true) trodAll_mk0
  · rw [hs.2.1]; exact args_stay hl hk hT hA (fun x hx => hlt x (List.mem_append_left _ hx))
  · rw [hs.2.2, hv]; rfl

/-! ### rows of cells: a struct or an array by value is one flat row; which type stands at a place -/
def leafAt (P : Program) : Nat → TypeId → Nat → Option TypeId
  | 0, _, _ => none
  | n + 1, t, o =>
    match P.underlying t with
    | some (.struct fs) => fs.toList.findSome? fun f => if f.offset ≤ o ∧ o < f.offset + P.cellsOf f.type then leafAt P n f.type (o - f.offset) else none
    | some (.array k e) => if o / P.cellsOf e < k ∧ 0 < P.cellsOf e then leafAt P n e (o % P.cellsOf e) else none
    | some (.int _) => if o = 0 then some t else none
    | some .bool => if o = 0 then some t else none
    | some .string => if o = 0 then some t else none
    | some (.slice _) => if o = 0 then some t else none
    | _ => none

theorem sub_get {cs : List Value} {off k o : Nat} {c : Value} (h : ((cs.drop off).take k)[o]? = some c) : cs[off + o]? = some c := by
  rw [List.getElem?_take] at h
  split at h
  · rw [List.getElem?_drop] at h; exact h
  · cases h

theorem leaf_reads {H : Type} {enc : TypeId × Value → H} {P : Program} {w : World} {base : Nat} {sp : Nat → Bool} {held : Bool} :
    ∀ (n : Nat) (t : TypeId) (o : Nat) (l : TypeId) (fuel : Nat) (cs : List Value) (x : DataW H × List MemPlace), leafAt P n t o = some l → DataW.trod enc P w base sp held fuel t cs = some x →
      ∃ (m : Nat) (y : DataW H × List MemPlace) (c : Value), cs[o]? = some c ∧ DataW.trod enc P w base sp held m l [c] = some y := by
  intro n
  induction n with
  | zero => intro t o l fuel cs x h; simp [leafAt] at h
  | succ n ih =>
    intro t o l fuel cs x h hr
    unfold leafAt at h
    split at h
    · rename_i fs hu
      obtain ⟨f, hf, hl⟩ := List.exists_of_findSome?_eq_some h
      split at hl
      · rename_i hin
        obtain ⟨xs, m, rfl, hx, hlen, hsz, hel⟩ := DataW.trod_struct hu hr
        obtain ⟨i, hi, he⟩ := List.getElem_of_mem hf
        have hi' : i < fs.size := by simpa using hi
        have hfi : fs[i]? = some f := by rw [Array.getElem?_eq_getElem hi']; simpa using he
        have hh := hel i f hfi
        rw [List.getElem?_eq_getElem (by omega)] at hh
        obtain ⟨m', y, c, hc, hy⟩ := ih f.type (o - f.offset) l m _ _ hl hh
        refine ⟨m', y, c, ?_, hy⟩
        have := sub_get hc
        rwa [show f.offset + (o - f.offset) = o from by omega] at this
      · cases hl
    · rename_i k e hu
      split at h
      · rename_i hin
        obtain ⟨xs, m, rfl, hx, hlen, hsz, hel⟩ := DataW.trod_array hu hr
        have hh := hel (o / P.cellsOf e) hin.1
        rw [List.getElem?_eq_getElem (by omega)] at hh
        obtain ⟨m', y, c, hc, hy⟩ := ih e (o % P.cellsOf e) l m _ _ h hh
        refine ⟨m', y, c, ?_, hy⟩
        have := sub_get hc
        rwa [show o / P.cellsOf e * P.cellsOf e + o % P.cellsOf e = o from by rw [Nat.mul_comm]; exact Nat.div_add_mod o _] at this
      · cases h
    · rename_i k hu
      split at h
      · rename_i ho; subst ho; cases h
        obtain ⟨v, rfl, hv, _⟩ := DataW.trod_int hu hr
        exact ⟨fuel, x, _, rfl, hr⟩
      · cases h
    · rename_i hu
      split at h
      · rename_i ho; subst ho; cases h
        obtain ⟨v, rfl, hv⟩ := DataW.trod_bool hu hr
        exact ⟨fuel, x, _, rfl, hr⟩
      · cases h
    · rename_i hu
      split at h
      · rename_i ho; subst ho; cases h
        obtain ⟨v, rfl, hv, _⟩ := DataW.trod_string hu hr
        exact ⟨fuel, x, _, rfl, hr⟩
      · cases h
    · rename_i e hu
      split at h
      · rename_i ho; subst ho; cases h
        obtain ⟨a, ln, cp, rfl⟩ := Joins.slice_form hu hr
        exact ⟨fuel, x, _, rfl, hr⟩
      · cases h
    · cases h

theorem leaf_int {H : Type} {enc : TypeId × Value → H} {P : Program} {w : World} {base : Nat} {sp : Nat → Bool} {held : Bool} {t : TypeId} {o : Nat} {l : TypeId} {k : IntKind} {d : DataW H} {cs : Array Value} {ps : List MemPlace}
    (hl : leafAt P 12 t o = some l) (hk : P.underlying l = some (.int k)) (hr : DataW.Trod enc P w base sp held t (.agg cs) d ps) : ∃ z : Int, cs[o]? = some (.int k z) ∧ (Lit.int k z).wf = true := by
  obtain ⟨fuel, hf⟩ := hr
  obtain ⟨m, y, c, hc, hy⟩ := leaf_reads 12 t o l fuel _ _ hl hf
  obtain ⟨z, hz, _, hw⟩ := DataW.trod_int hk hy
  cases hz
  exact ⟨z, by simpa [Value.cells] using hc, hw⟩
theorem leaf_bool {H : Type} {enc : TypeId × Value → H} {P : Program} {w : World} {base : Nat} {sp : Nat → Bool} {held : Bool} {t : TypeId} {o : Nat} {l : TypeId} {d : DataW H} {cs : Array Value} {ps : List MemPlace}
    (hl : leafAt P 12 t o = some l) (hk : P.underlying l = some .bool) (hr : DataW.Trod enc P w base sp held t (.agg cs) d ps) : ∃ z : Bool, cs[o]? = some (.bool z) := by
  obtain ⟨fuel, hf⟩ := hr
  obtain ⟨m, y, c, hc, hy⟩ := leaf_reads 12 t o l fuel _ _ hl hf
  obtain ⟨z, hz, _⟩ := DataW.trod_bool hk hy
  cases hz
  exact ⟨z, by simpa [Value.cells] using hc⟩
theorem leaf_string {H : Type} {enc : TypeId × Value → H} {P : Program} {w : World} {base : Nat} {sp : Nat → Bool} {held : Bool} {t : TypeId} {o : Nat} {l : TypeId} {d : DataW H} {cs : Array Value} {ps : List MemPlace}
    (hl : leafAt P 12 t o = some l) (hk : P.underlying l = some .string) (hr : DataW.Trod enc P w base sp held t (.agg cs) d ps) : ∃ z : ByteArray, cs[o]? = some (.string z) ∧ z.size ≤ maxLen := by
  obtain ⟨fuel, hf⟩ := hr
  obtain ⟨m, y, c, hc, hy⟩ := leaf_reads 12 t o l fuel _ _ hl hf
  obtain ⟨z, hz, _, hw⟩ := DataW.trod_string hk hy
  cases hz
  exact ⟨z, by simpa [Value.cells] using hc, hw⟩
theorem row_of {cs : Array Value} (l : List Value) (h : cs.size = l.length) (hh : ∀ i, i < l.length → cs[i]? = l[i]?) : cs = l.toArray := by
  apply Array.ext_getElem?
  intro i
  by_cases hi : i < l.length
  · rw [hh i hi]; simp
  · rw [Array.getElem?_eq_none (by omega), Array.getElem?_eq_none (by simp; omega)]
theorem agg_of {P : Program} {w : World} {r : Reach} {base : Nat} {t : TypeId} {v : Value} (ht : (match P.underlying t with | some (.struct _) => true | some (.array _ _) => true | _ => false) = true) (h : Value.okWide P w r base t v) : ∃ cs, v = .agg cs ∧ cs.size = P.cellsOf t := by
  unfold Value.okWide at h
  split at h
  · obtain ⟨cs, e, hs, _⟩ := h; exact ⟨cs, e, hs⟩
  · obtain ⟨cs, e, hs, _⟩ := h; exact ⟨cs, e, hs⟩
  · rename_i h1 h2
    split at ht
    · rename_i fs hu; exact absurd hu (h1 fs)
    · rename_i n e hu; exact absurd hu (h2 n e)
    · cases ht
theorem bd_i64 {z : Int} (h : (Lit.int .i64 z).wf = true) : -9223372036854775808 ≤ z ∧ z ≤ 9223372036854775807 := by
  simp [Lit.wf, IntKind.min, IntKind.max, IntKind.signed, IntKind.bits] at h; omega
theorem bd_u64 {z : Int} (h : (Lit.int .u64 z).wf = true) : 0 ≤ z ∧ z ≤ 18446744073709551615 := by
  simp [Lit.wf, IntKind.min, IntKind.max, IntKind.signed, IntKind.bits] at h; omega
theorem bd_u8 {z : Int} (h : (Lit.int .u8 z).wf = true) : 0 ≤ z ∧ z ≤ 255 := by
  simp [Lit.wf, IntKind.min, IntKind.max, IntKind.signed, IntKind.bits] at h; omega
theorem bd_u16 {z : Int} (h : (Lit.int .u16 z).wf = true) : 0 ≤ z ∧ z ≤ 65535 := by
  simp [Lit.wf, IntKind.min, IntKind.max, IntKind.signed, IntKind.bits] at h; omega
theorem bd_u32 {z : Int} (h : (Lit.int .u32 z).wf = true) : 0 ≤ z ∧ z ≤ 4294967295 := by
  simp [Lit.wf, IntKind.min, IntKind.max, IntKind.signed, IntKind.bits] at h; omega
theorem bd_i32 {z : Int} (h : (Lit.int .i32 z).wf = true) : -2147483648 ≤ z ∧ z ≤ 2147483647 := by
  simp [Lit.wf, IntKind.min, IntKind.max, IntKind.signed, IntKind.bits] at h; omega

/-! ### a world after some draws: what a function leaves that only computes -/
def Dr (w w' : World) : Prop := ∃ n, w' = w.drewN n
theorem Dr.refl (w : World) : Dr w w := ⟨0, rfl⟩
theorem Dr.same {w w' : World} (h : w = w') : Dr w w' := h ▸ Dr.refl w
theorem Dr.trans {a b c : World} (h : Dr a b) (k : Dr b c) : Dr a c := by
  obtain ⟨n, rfl⟩ := h; obtain ⟨m, rfl⟩ := k; exact ⟨n + m, World.drewN_drewN ..⟩
theorem Dr.drew {a b : World} (h : Dr a b) : Dr a b.drew := h.trans ⟨1, rfl⟩
theorem Dr.drewN {a b : World} (h : Dr a b) (n : Nat) : Dr a (b.drewN n) := h.trans ⟨n, rfl⟩
theorem Dr.kept {a b : World} (h : Dr a b) : Kept a b := by obtain ⟨n, rfl⟩ := h; exact (Kept.refl a).drewN n
theorem Kept.dr {a b c : World} (h : Kept a b) (k : Dr b c) : Kept a c := h.trans k.kept
/-- in a region that is walked quietly -/
theorem quiet_dr {P : Program} {f : FuncId} {args : Array Value} {w : World} {n : Nat} {v : Value}
    (h : Calls P f args (w.drewN n) fun e w' => e = .returned v ∧ Dr (w.drewN n) w') : Calls P f args (w.drewN n) fun e w'' => e = .returned v ∧ ∃ m, w'' = w.drewN m :=
  h.mono fun _ _ ⟨he, m, hm⟩ => ⟨he, n + m, by rw [hm, World.drewN_drewN]⟩
theorem quiet_eq {P : Program} {f : FuncId} {args : Array Value} {w : World} {n : Nat} {v : Value}
    (h : Calls P f args (w.drewN n) fun e w' => e = .returned v ∧ w.drewN n = w') : Calls P f args (w.drewN n) fun e w'' => e = .returned v ∧ ∃ m, w'' = w.drewN m :=
  h.mono fun _ _ ⟨he, hm⟩ => ⟨he, n, hm.symm⟩
theorem quiet_dr_add {P : Program} {f : FuncId} {args : Array Value} {w : World} {a n : Nat} {v : Value}
    (h : Calls P f args (w.drewN (a + n)) fun e w' => e = .returned v ∧ Dr (w.drewN (a + n)) w') : Calls P f args (w.drewN (a + n)) fun e w'' => e = .returned v ∧ ∃ m, w'' = w.drewN (a + m) :=
  h.mono fun _ _ ⟨he, m, hm⟩ => ⟨he, n + m, by rw [hm, World.drewN_drewN, Nat.add_assoc]⟩
theorem quiet_eq_add {P : Program} {f : FuncId} {args : Array Value} {w : World} {a n : Nat} {v : Value}
    (h : Calls P f args (w.drewN (a + n)) fun e w' => e = .returned v ∧ w.drewN (a + n) = w') : Calls P f args (w.drewN (a + n)) fun e w'' => e = .returned v ∧ ∃ m, w'' = w.drewN (a + m) :=
  h.mono fun _ _ ⟨he, hm⟩ => ⟨he, n, hm.symm⟩
end Go.Proofs.Ytfmijkbmedfcfaa
