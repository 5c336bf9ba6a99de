/-
  Own contracts: package octets: a writer of bytes.
-/
import Derived.Test.YtjmnipdibjhbhaaByt
import Derived.OneCell
import Derived.Lib.AppendStr
import Derived.Deep.RegionLaw
import Derived.WalkKit
import Derived.ProofKit
import Derived.OpenShut
import Derived.WalkLawsBesides
import Derived.WalkSpells
import Derived.Lib.Hide
import Derived.Deep.DeepCutAuto
import Derived.Deep.CutBlock
import Derived.Deep.QuietTactic
import Derived.BigQuiet
import Derived.Handy
import Derived.StillTailTactics
import Derived.IntWalk
import Derived.LoopN
import Derived.Deep.RegionHeld3
namespace Go.Proofs.Ytjmnipdibjhbhaa
open Go.ChangeShapes Go.WideShapes Go.ChangeAt Go.RowKit
set_option linter.unusedVariables false
set_option linter.unusedSimpArgs false

theorem own_ne {w : World} {base n g : Nat} {v : Value} {F : Nat → Int} {C : Array Value} {T : TypeId} {fr : Nat × Nat} (h : Rw w base v n F) (hg : w.heap[g]? = some (.cells C T fr)) (hT : T ≠ 5) : v.ownBlock ≠ some g := by
  intro e
  rcases h.2 with ⟨rfl, _⟩ | ⟨g', cap, cur, rfl, h1, h2, _⟩
  · cases e
  · simp [Value.ownBlock] at e
    subst e
    rw [hg] at h2
    cases h2
    exact hT rfl
/-- a writer at block g, with n bytes written -/
def Wrt (w0 w : World) (g n : Nat) (F : Nat → Int) : Prop := ∃ v, w.heap[g]? = some (.cells #[v] 37 (0, 0)) ∧ Rw w w0.heap.size v n F ∧ w0.heap.size ≤ g ∧ Kept w0 w
theorem tw_ne : (37 : TypeId) ≠ 5 := by decide
/-- behind an append and the store of what it gives -/
theorem wrt_next {w0 w w' : World} {g n m : Nat} {F G : Nat → Int} {v v' : Value} (hg : w.heap[g]? = some (.cells #[v] 37 (0, 0))) (hr : Rw w w0.heap.size v n F) (hb : w0.heap.size ≤ g) (hk : Kept w0 w) (hr' : Rw w' w0.heap.size v' m G) (hgr : w.grownBy w' v.ownBlock) :
    Wrt w0 (w'.setCell ⟨g, 0, none⟩ v') g m G := by
  have hlt := lt_of_block hg
  have hg' : w'.heap[g]? = some (.cells #[v] 37 (0, 0)) := (hgr.block g hlt (fun e => own_ne hr hg tw_ne e.symm)).trans hg
  refine ⟨v', one_setCell hg', ownsRow_setCell_other hr' (own_ne hr' hg' tw_ne) v', hb, ?_⟩
  exact (kept_grown hk hgr (fun k e => (World.ownsRow.lt hr k e).1)).setCell hb _
theorem wrt_congr {w0 w : World} {g n : Nat} {F G : Nat → Int} (h : Wrt w0 w g n F) (e : ∀ i, i < n → G i = F i) : Wrt w0 w g n G := by
  obtain ⟨v, h1, h2, h3, h4⟩ := h
  refine ⟨v, h1, ?_, h3, h4⟩
  unfold Rw at h2 ⊢
  rwa [show row G n = row F n from List.map_congr_left (fun i hi => by rw [e i (by simpa using hi)])]
theorem rw_alloc {w : World} {base n : Nat} {v : Value} {F : Nat → Int} (h : Rw w base v n F) (o : Obj) : Rw (w.alloc o) base v n F := World.ownsRow.alloc h o
theorem heap_alloc_keep {w : World} {g : Nat} {x o : Obj} (h : w.heap[g]? = some x) : (w.alloc o).heap[g]? = some x := (Below.heap_alloc w o g (lt_of_block h)).trans h
theorem one_new {w : World} {x : Int} : ∀ j u, (row (fun _ => x) 1)[j]? = some u → (w.alloc (.cells #[.int .u8 x] 5)).cell? ((⟨w.heap.size, 0, none⟩ : Addr).add j) = some u := by
  intro j u hj
  obtain ⟨h1, rfl⟩ := rowv_of hj
  obtain rfl : j = 0 := by omega
  rw [add_none, World.cell?_alloc_mark]; rfl
/-- appending one byte that was just made, or any that are read -/
theorem app_g {ops : Array Oper} {rest : List Oper} {op : Oper} {a : Act} {Q : Exit → Act → World → Prop} {w : World} (hgd : op.guard = none) (s x : Operand)
    (ho : op.op = .call { callee := .builtin .append, args := #[s, x], argTypes := #[27, 27] }) {base : Nat} {v : Value} {n : Nat} {F : Nat → Int} {ad : Addr} {m c : Nat} {G : Nat → Int}
    (hs : a.eval s = v) (hx : a.eval x = .slice (some ad) m c) (hown : Rw w base v n F) (hG : ∀ j u, (row G m)[j]? = some u → w.cell? (ad.add j) = some u) (hb : n + m ≤ 100000000) (hbase : base ≤ w.heap.size)
    (h : ∀ v' w', Hid (Rw w' base v' (n + m) (catF F n G)) → Hid (w.grownBy w' v.ownBlock) → wpList Try.prog ops Q rest (a.put op.dst v') w') : wpList Try.prog ops Q (op :: rest) a w := by
  obtain ⟨i0, hi, hz0, hz1, hz2⟩ := info_parts info_u8
  refine wpList_append_own _ hgd s x 27 ho base 5 i0 (.int .u8 0) 1 1 und_bytes hi hz0 hz1 hz2 rfl (by decide) v n (row F n) hs hown ad m c (row G m) hx (by rw [row_length]; omega) hG (row_one G m) (by unfold maxLen; omega) (by omega) hbase ?_
  intro v' w' h1 h2 _
  refine h v' w' (Lib.hid ?_) (Lib.hid h2)
  unfold Rw
  rwa [← row_cat]
set_option maxHeartbeats 4000000 in
set_option maxRecDepth 100000 in
theorem byte_w (w0 w : World) (g n : Nat) (F : Nat → Int) (x : Int) (h : Wrt w0 w g n F) (hn : n ≤ 1000000) : Calls Try.prog 13 #[.pointer (some ⟨g, 0, none⟩), .int .u8 x] w fun en w' => en = .returned (.tuple #[]) ∧ Wrt w0 w' g (n + 1) (catF F n (fun _ => x)) := by
  obtain ⟨v, h1, h2, h3, h4⟩ := h
  have c0 := cell_of_one h1
  have f0 := free_of_one h1
  have H1 := Lib.hid h1
  have H2 := Lib.hid h2
  have H4 := Lib.hid h4
  have hlt := lt_of_block h1
  clear h1 h2 h4
  go_enter Try.func13, Try.ntmps13
  go_wp2_with (at_builtin; refine app_g rfl _ _ rfl (base := w0.heap.size) (G := fun _ => x) rfl rfl (rw_alloc H2.out _) ?c1 (by omega) ?c2 ?_)
  case c1 => exact one_new
  case c2 => have := H4.out.size; simp; omega
  intro v' w' HR HG
  obtain ⟨gb, cap, rfl, _⟩ := own_form HR.out (by omega)
  have hg' : w'.heap[g]? = some (.cells #[v] 37 (0, 0)) := (HG.out.block g (by simp; omega) (fun e => own_ne H2.out H1.out tw_ne e.symm)).trans (heap_alloc_keep H1.out)
  have c1 := cell_of_one hg'
  have f1 := free_of_one hg'
  have HN := Lib.hid (wrt_next (heap_alloc_keep H1.out) (rw_alloc H2.out _) h3 (H4.out.alloc _) HR.out HG.out)
  clear hg' c0 f0
  go_wp2_with fail
  go_end0
  exact ⟨rfl, HN.out⟩
theorem rw_drew {w : World} {base n : Nat} {v : Value} {F : Nat → Int} (h : Rw w base v n F) : Rw w.drew base v n F := World.ownsRow.drew h
theorem one_new_drew {w : World} {x : Int} : ∀ j u, (row (fun _ => x) 1)[j]? = some u → (w.alloc (.cells #[.int .u8 x] 5)).drew.cell? ((⟨w.heap.size, 0, none⟩ : Addr).add j) = some u := fun j u h => one_new j u h
theorem grown_one {W w' : World} {g : Nat} {u v : Value} (hg : W.grownBy w' v.ownBlock) (hW : W.heap[g]? = some (.cells #[u] 37 (0, 0))) (hne : v.ownBlock ≠ some g) : w'.heap[g]? = some (.cells #[u] 37 (0, 0)) := (hg.block g (lt_of_block hW) (fun e => hne e.symm)).trans hW
theorem heap_drew_keep {w : World} {g : Nat} {x o : Obj} (h : w.heap[g]? = some x) : (w.alloc o).drew.heap[g]? = some x := heap_alloc_keep h
theorem byt_at (v j : Nat) : IntKind.u8.wrap ((v : Int) / 2 ^ (8 * (j : Int)).toNat) = ((v / 256 ^ j % 256 : Nat) : Int) := by
  rw [show (8 * (j : Int)).toNat = 8 * j by omega, show (2 : Int) ^ (8 * j) = ((2 ^ (8 * j) : Nat) : Int) by rw [Int.natCast_pow]; rfl, show (256 : Nat) ^ j = 2 ^ (8 * j) by rw [Nat.pow_mul], IntKind.wrap_u8']
  generalize 2 ^ (8 * j) = p
  rw [← Int.natCast_ediv]
  generalize v / p = q
  omega
theorem num_at (F : Nat → Int) (n v j : Nat) : ∀ i, i < n + j + 1 → catF F n (fun i => ((v / 256 ^ i % 256 : Nat) : Int)) i = catF (catF F n (fun i => ((v / 256 ^ i % 256 : Nat) : Int))) (n + j) (fun _ => IntKind.u8.wrap ((v : Int) / 2 ^ (8 * (j : Int)).toNat)) i := fun i hi => by
  by_cases h : i < n + j
  · rw [catF_lo _ _ _ i h]
  · obtain rfl : i = n + j := by omega
    rw [catF_hi, show catF (catF F n _) (n + j) _ (n + j) = _ from catF_hi _ (n + j) _ 0, byt_at]
theorem step_g {ops : Array Oper} {op : Oper} {a : Act} {K : Act → World → Prop} {Q : Exit → Act → World → Prop} {E : Prop} {w : World} (hgd : op.guard = none) (s x : Operand)
    (ho : op.op = .call { callee := .builtin .append, args := #[s, x], argTypes := #[27, 27] }) {base : Nat} {v : Value} {n : Nat} {F : Nat → Int} {ad : Addr} {c : Nat} {y : Int}
    (hs : a.eval s = v) (hx : a.eval x = .slice (some ad) 1 c) (hown : Rw w base v n F) (hG : ∀ j u, (row (fun _ => y) 1)[j]? = some u → w.cell? (ad.add j) = some u) (hb : n ≤ 10000000) (hbase : base ≤ w.heap.size)
    (h : ∀ gb cap w', Hid (Rw w' base (.slice (some ⟨gb, 0, none⟩) (n + 1) cap) (n + 1) (catF F n (fun _ => y))) → Hid (w.grownBy w' v.ownBlock) → K (a.put op.dst (.slice (some ⟨gb, 0, none⟩) (n + 1) cap)) w') :
    if Region.wanted op (yielded ops a.tmps) = true then Oper.wp Try.prog op a w K Q else E := by
  obtain ⟨i0, hi, hz0, hz1, hz2⟩ := info_parts info_u8
  refine step_append_lies _ hgd s x 27 ho base 5 i0 (.int .u8 0) 1 1 und_bytes hi hz0 hz1 hz2 rfl (by decide) v n (row F n) hs hown ad 1 c (row (fun _ => y) 1) hx (by rw [row_length]) hG (row_one _ 1) (by decide) (by unfold maxLen; omega) (by omega) hbase w.heap.size rfl ?_
  intro gb cap w' h1 h2 _ _
  refine h gb cap w' (Lib.hid ?_) (Lib.hid h2)
  unfold Rw
  rwa [← row_cat]
set_option maxHeartbeats 4000000 in
set_option maxRecDepth 100000 in
theorem number_w (w0 w : World) (g n : Nat) (F : Nat → Int) (v k : Nat) (hv : v < 18446744073709551616) (hk : k ≤ 8) (h : Wrt w0 w g n F) (hn : n ≤ 1000000) : Calls Try.prog 21 #[.pointer (some ⟨g, 0, none⟩), .int .u64 v, .int .i64 k] w fun en w' => en = .returned (.tuple #[]) ∧ Wrt w0 w' g (n + k) (catF F n (fun i => (v / 256 ^ i % 256 : Nat))) := by
  have H0 := Lib.hid h
  clear h
  have hkk : (0 : Int) ≤ (k : Int) := by omega
  go_enter Try.func21, Try.ntmps21
  go_wp2_with fail
  go_loopw [8] (fun i wr => ∃ j : Nat, j ≤ k ∧ i = .int .i64 (j : Int) ∧ Hid (Wrt w0 wr g (n + j) (catF F n (fun i => (v / 256 ^ i % 256 : Nat))))) (fun i _ => k - (intOf i).toNat)
  case atStart => exact ⟨0, by omega, rfl, Lib.hid (wrt_congr H0.out (fun i hi => catF_lo F n _ i hi))⟩
  case round =>
    obtain ⟨j, hj, rfl, hR⟩ := hrel
    by_cases hlt : j < k
    · have hjj : (0 : Int) ≤ (j : Int) := by omega
      obtain ⟨u, h1, h2, h3, h4⟩ := hR.out
      have c0 := cell_of_one h1
      have f0 := free_of_one h1
      have H1 := Lib.hid h1
      have H2 := Lib.hid h2
      have H4 := Lib.hid h4
      have hlt := lt_of_block h1
      clear h1 h2 h4 hR
      have hw1 : IntKind.i64.wrap (8 * (j : Int)) = 8 * (j : Int) := IntWalk.i64_in _ (by omega)
      go_wp2_with fail
      go_region_law (first | (refine step_g rfl _ _ rfl (base := w0.heap.size) rfl rfl (by first | exact rw_alloc H2.out _ | exact rw_drew (rw_alloc H2.out _)) (by first | exact one_new | exact one_new_drew) (by omega) (by have := H4.out.size; simp; omega) ?_; intro gb cap w' HR HG; have hh := (grown_one HG.out (by first | exact heap_alloc_keep H1.out | exact heap_drew_keep H1.out) (own_ne H2.out H1.out tw_ne)); have c1 := cell_of_one hh; have f1 := free_of_one hh; clear hh; have HN := Lib.hid (wrt_next (by first | exact heap_alloc_keep H1.out | exact heap_drew_keep H1.out) (by first | exact rw_alloc H2.out _ | exact rw_drew (rw_alloc H2.out _)) h3 (by first | exact H4.out.alloc _ | exact (H4.out.alloc _).drew) HR.out HG.out)))
      all_goals go_wp2_with fail
      all_goals exact ⟨⟨j + 1, by omega, by go_num, Lib.hid (wrt_congr HN.out (num_at F n v j))⟩, by simp [intOf]; omega⟩
    · obtain rfl : j = k := by omega
      go_wp2_with fail
      go_end0
      exact ⟨rfl, hR.out⟩
theorem app_s {ops : Array Oper} {rest : List Oper} {op : Oper} {a : Act} {Q : Exit → Act → World → Prop} {w : World} (hgd : op.guard = none) (s x : Operand)
    (ho : op.op = .call { callee := .builtin .append, args := #[s, x], argTypes := #[27, 9] }) {base : Nat} {v : Value} {n : Nat} {F : Nat → Int} {st : ByteArray}
    (hs : a.eval s = v) (hx : a.eval x = .string st) (hown : Rw w base v n F) (hb : n + st.size ≤ 100000000) (hbase : base ≤ w.heap.size)
    (h : ∀ v' w', Hid (w'.ownsRow base 5 1 v' (n + st.size) (row F n ++ Go.Lib.strCells st)) → Hid (w.grownBy w' v.ownBlock) → wpList Try.prog ops Q rest (a.put op.dst v') w') : wpList Try.prog ops Q (op :: rest) a w := by
  obtain ⟨i0, hi, hz0, hz1, hz2⟩ := info_parts info_u8
  exact Go.Lib.wpList_append_own_string _ hgd s x 27 9 ho base 5 i0 und_bytes (by kernel_rfl) hi hz0 hz1 hz2 v n (row F n) hs hown st hx (by unfold maxLen; omega) (by omega) hbase (fun v' w' h1 h2 _ => h v' w' (Lib.hid h1) (Lib.hid h2))
theorem str_row (S : Nat → Int) (m : Nat) (hS : ∀ i, i < m → 0 ≤ S i ∧ S i ≤ 255) : Go.Lib.strCells (bs S m) = row S m := by
  unfold Go.Lib.strCells bs row
  simp only [List.map_map]
  refine List.map_congr_left (fun i hi => ?_)
  have := hS i (by simpa using hi)
  simp
  omega
theorem bs_size (S : Nat → Int) (m : Nat) : (bs S m).size = m := by simp [bs, ByteArray.size]
set_option maxHeartbeats 4000000 in
set_option maxRecDepth 100000 in
theorem text_w (w0 w : World) (g n : Nat) (F S : Nat → Int) (m k : Nat) (hm : 0 < m) (hm2 : m ≤ 100000) (hS : ∀ i, i < m → 0 ≤ S i ∧ S i ≤ 255) (hk : k ≤ 8) (h : Wrt w0 w g n F) (hn : n ≤ 100000) : Calls Try.prog 14 #[.pointer (some ⟨g, 0, none⟩), .string (bs S m), .int .i64 k] w fun en w' => en = .returned (.tuple #[]) ∧ Wrt w0 w' g (n + k + m) (catF (catF F n (fun i => (m / 256 ^ i % 256 : Nat))) (n + k) S) := by
  have H := Lib.hid h
  have cn := number_w w0 w g n F m k (by omega) hk h (by omega)
  obtain ⟨st, hst⟩ : ∃ st, bs S m = st := ⟨_, rfl⟩
  have hz : st.size = m := by rw [← hst, bs_size]
  have hrow : Go.Lib.strCells st = row S m := by rw [← hst, str_row S m hS]
  rw [hst]
  have HZ := Lib.hid hz
  have HR_ := Lib.hid hrow
  clear h hst hrow
  go_enter Try.func14, Try.ntmps14
  go_wp2_with fail
  refine cn.mono ?_
  rintro e w1 ⟨rfl, h1⟩
  obtain ⟨v, g1, g2, g3, g4⟩ := h1
  have c0 := cell_of_one g1
  have f0 := free_of_one g1
  have G1 := Lib.hid g1
  have G2 := Lib.hid g2
  have G4 := Lib.hid g4
  clear g1 g2 g4 cn
  go_wp2_with (at_builtin; refine app_s rfl _ _ rfl (base := w0.heap.size) rfl rfl G2.out (by rw [HZ.out]; omega) G4.out.size ?_)
  intro v' w' HR1 HG
  have hr0 := HR1.out
  have hg := HG.out
  (try rw [HR_.out] at hr0)
  (try rw [HZ.out] at hr0)
  have hr : Rw w' w0.heap.size v' (n + k + m) (catF (catF F n (fun i => (m / 256 ^ i % 256 : Nat))) (n + k) S) := by
    unfold Rw
    rw [← row_cat]
    simpa using hr0
  obtain ⟨gb, cap, rfl, _⟩ := own_form hr (by omega)
  have hg' := grown_one hg G1.out (own_ne G2.out G1.out tw_ne)
  have c1 := cell_of_one hg'
  have f1 := free_of_one hg'
  have HN := Lib.hid (wrt_next G1.out G2.out g3 G4.out hr hg)
  clear hr hg hg' c0 f0
  go_wp2_with fail
  go_end0
  exact ⟨rfl, HN.out⟩
set_option maxHeartbeats 4000000 in
set_option maxRecDepth 100000 in
theorem bytes_w (w0 w : World) (g n : Nat) (F : Nat → Int) (h : Wrt w0 w g n F) (hn : n ≤ 1000000) (hF : ∀ i, i < n → 0 ≤ F i ∧ F i ≤ 255) : Calls Try.prog 15 #[.pointer (some ⟨g, 0, none⟩)] w (Got w n F) := by
  obtain ⟨v, h1, h2, h3, h4⟩ := h
  have c0 := cell_of_one h1
  obtain ⟨p, c, b, rfl, o⟩ := (show Rw w w0.heap.size v n F from h2).ow hF
  have cc := clone_s o.sl hn
  clear h1 h2 h4 o
  go_enter Try.func15, Try.ntmps15
  go_wp2_with fail
  refine cc.mono ?_
  rintro e w' ⟨p', c', b', rfl, ho, hk⟩
  go_wp2_with fail
  go_ret
  exact ⟨p', c', b', rfl, ho, hk⟩
theorem wrt_new (w : World) (F : Nat → Int) : Wrt w (w.alloc (.cells #[.slice none 0 0] 37)) w.heap.size 0 F :=
  ⟨_, heap_alloc_new w _, World.ownsRow_nil _ _ _ _, Nat.le_refl _, (Kept.refl w).alloc _⟩
end Go.Proofs.Ytjmnipdibjhbhaa
