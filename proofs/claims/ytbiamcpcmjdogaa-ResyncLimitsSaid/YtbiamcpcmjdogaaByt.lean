/-
  Own words: strings of bytes in memory: what is read, what is one's own, strings of them, copying, appending.
-/
import Derived.Test.YtbiamcpcmjdogaaRows
import Derived.Test.YtbiamcpcmjdogaaBase
import Derived.Deep.AppendLies
import Derived.Laws.OwnMore
import Derived.Lib.SlBytesConst
import Derived.OwnWalk
import Derived.Laws.AppendOwn
import Derived.Laws.AppendOwnNone
import Derived.Lib.BufferRead
import Derived.Outline
import Derived.WalkKit
import Derived.ProofKit
import Derived.OpenShut
import Derived.WalkLawsBesides
import Derived.WalkSpells
import Derived.Lib.Hide
import Derived.Deep.DeepCutAuto
import Derived.Deep.CutBlock
import Derived.Deep.QuietTactic
import Derived.BigQuiet
import Derived.Handy
import Derived.StillTailTactics
import Derived.IntWalk
import Derived.LoopN
import Derived.Deep.RegionHeld3
namespace Go.Proofs.Ytbiamcpcmjdogaa
open Go.ChangeShapes Go.WideShapes Go.ChangeAt Go.RowKit
set_option linter.unusedVariables false
set_option linter.unusedSimpArgs false

theorem info_u8 : (Try.prog.info? 5).map (fun i => (i.zero, i.size, i.bytes)) = some (some (.int .u8 0), 1, 1) := by kernel_rfl
theorem made1 (z : Value) (n : Nat) : madeCells #[z] n = Array.replicate n z := by
  apply Array.ext
  · simp [madeCells]
  · intro i h1 h2
    simp [madeCells, Nat.mod_one]
theorem mk_bytes (n : Nat) (hn : n ≤ 1099511627776) (W : World) : (Instr.makeSlice 37 (.int .i64 n) (.int .i64 n)).run Try.prog W = .ok (.slice (some ⟨W.heap.size, 0, none⟩) n n) (W.alloc (.cells (madeCells #[.int .u8 0] n) 5)) := by
  obtain ⟨i, hi, h1, h2, h3⟩ := info_parts info_u8
  have := run_make (P := Try.prog) W 37 5 i (.int .u8 0) Try.underlying37 hi h1 .i64 .i64 n n (by omega) (by omega) (by rw [h3]; omega) (by omega)
  rw [h2] at this
  simpa [Value.cells] using this
theorem und_bytes : Try.prog.underlying 37 = some (.slice 5) := by kernel_rfl
/-- n bytes of a block of w -/
def By (w : World) (b o n : Nat) (F : Nat → Int) : Prop := ∀ i, i < n → w.cell? ⟨b, o + i, none⟩ = some (.int .u8 (F i))
def row (F : Nat → Int) (n : Nat) : List Value := (List.range n).map (fun i => .int .u8 (F i))
theorem add_none (b o j : Nat) : (⟨b, o, none⟩ : Addr).add j = ⟨b, o + j, none⟩ := by
  unfold Addr.add
  split
  · rename_i h; subst h; rfl
  · rfl
theorem row_length (F : Nat → Int) (n : Nat) : (row F n).length = n := by simp [row]
theorem row_get (F : Nat → Int) (n j : Nat) (h : j < n) : (row F n)[j]? = some (.int .u8 (F j)) := by simp [row, h]
theorem rowv_of {F : Nat → Int} {n j : Nat} {u : Value} (h : (row F n)[j]? = some u) : j < n ∧ u = .int .u8 (F j) := by
  by_cases hj : j < n
  · rw [row_get F n j hj] at h
    exact ⟨hj, by cases h; rfl⟩
  · rw [List.getElem?_eq_none (by rw [row_length]; omega)] at h
    cases h
theorem row_one (F : Nat → Int) (n : Nat) : ∀ u ∈ row F n, u.oneCell' = true := by
  intro u hu
  simp [row] at hu
  obtain ⟨i, _, rfl⟩ := hu
  rfl
theorem grown_kept {w w' : World} (h : w.grownBy w' none) : Kept w w' := ⟨h.os, h.output, h.size, fun k hk => h.block k hk (by simp)⟩
/-- a slice of own bytes: what is known of it -/
theorem own_form {w : World} {base n : Nat} {v : Value} {F : Nat → Int} (h : w.ownsRow base 5 1 v n (row F n)) (hn : 0 < n) :
    ∃ g cap, v = .slice (some ⟨g, 0, none⟩) n cap ∧ n ≤ cap ∧ cap ≤ maxLen ∧ base ≤ g ∧ g < w.heap.size ∧ By w g 0 n F ∧ ∀ j, w.frozen? ⟨g, j, none⟩ = false := by
  obtain ⟨g, cap, rfl, h1, h2⟩ := h.form hn
  refine ⟨g, cap, rfl, ?_, ?_, h1, h2, fun i hi => ?_, fun j => h.frozenAt j⟩
  · rcases h.2 with ⟨h', _⟩ | ⟨_, _, _, h', _, _, hnc, _⟩
    · simp at h'
    · simp at h'; omega
  · rcases h.2 with ⟨h', _⟩ | ⟨_, _, _, h', _, _, _, hcm, _⟩
    · simp at h'
    · simp at h'; omega
  · rw [Nat.zero_add, h.cellAt i (by omega)]; exact row_get F n i hi
set_option maxHeartbeats 1000000 in
theorem clone_w (n c b o : Nat) (F : Nat → Int) (h0 : 0 < n) (hm : n ≤ 1099511627776) (w : World) (hb : b < w.heap.size) (hc : By w b o n F) :
    Calls Try.prog 15 #[.slice (some ⟨b, o, none⟩) n c] w fun en w' => ∃ g cap, en = .returned (.slice (some ⟨g, 0, none⟩) n cap) ∧ n ≤ cap ∧ cap ≤ maxLen ∧ Kept w w' ∧ w.heap.size ≤ g ∧ g < w'.heap.size ∧ By w' g 0 n F ∧ ∀ j, w'.frozen? ⟨g, j, none⟩ = false := by
  obtain ⟨i0, hi, hz0, hz1, hz2⟩ := info_parts info_u8
  have he : ∀ w, Sem.run Try.prog (binOp BinOp.eql 37 (.slice (some ⟨b, o, none⟩) n c) (.slice none 0 0)) w = .ok (.bool false) w := fun _ => by kernel_rfl
  have Hc := Lib.hid hc
  clear hc
  go_enter Try.func15, Try.ntmps15
  go_wp2_with (first | (at_builtin; refine wpList_append_grows _ rfl _ _ 37 rfl 5 i0 (.int .u8 0) 1 1 und_bytes hi hz0 hz1 hz2 rfl (by decide) (some ⟨w.heap.size, 0, none⟩) 0 0 [] rfl (fun h => by cases h) rfl (by intro b hb j u hj; simp at hj) ⟨b, o, none⟩ n c (row F n) rfl (by rw [row_length]; omega) ?c2 (row_one F n) (by omega) (by unfold maxLen; omega) (by omega) ?_))
  case c2 =>
    intro j u hj
    obtain ⟨h1, rfl⟩ := rowv_of hj
    have := Hc.out j h1
    rw [← this]
    have e := ((Kept.refl w).alloc (.cells #[] 5)).cell (p := ⟨b, o + j, none⟩) hb
    rw [add_none]; exact e
  intro v' w1 hown hgrow
  have hk := grown_kept hgrow
  obtain ⟨g, cap, rfl, hnc, hcm, hg1, hg2, hby, hfr⟩ := own_form hown h0
  have HB := Lib.hid hby; have HF := Lib.hid hfr; have HO := Lib.hid hown
  clear hby hfr hown hgrow
  go_wp2
  go_ret
  exact ⟨g, cap, rfl, hnc, hcm, ((Kept.refl w).alloc _).trans hk, by (try simp at hg1); omega, hg2, HB.out, HF.out⟩
theorem clone0_w (c b o : Nat) (w : World) :
    Calls Try.prog 15 #[.slice (some ⟨b, o, none⟩) 0 c] w fun en w' => en = .returned (.slice (some ⟨w.heap.size, 0, none⟩) 0 0) ∧ Kept w w' := by
  have he : ∀ w, Sem.run Try.prog (binOp BinOp.eql 37 (.slice (some ⟨b, o, none⟩) 0 c) (.slice none 0 0)) w = .ok (.bool false) w := fun _ => by kernel_rfl
  go_enter Try.func15, Try.ntmps15
  go_wp2
  all_goals (go_ret; exact ⟨rfl, (by repeat (first | with_reducible exact Kept.refl _ | with_reducible assumption | with_reducible refine Kept.setCell ?_ (by first | (simp; done) | (simp; omega) | omega) _ | with_reducible refine Kept.alloc ?_ _ | with_reducible refine Kept.drewN ?_ _ | with_reducible refine Kept.drew ?_ | with_reducible refine Kept.trans ?_ (by with_reducible assumption) | with_reducible refine Kept.dr ?_ (by with_reducible assumption)))⟩)
theorem clonen_w (w : World) : Calls Try.prog 15 #[.slice none 0 0] w fun en w' => en = .returned (.slice none 0 0) ∧ w = w' := by
  have he : ∀ w, Sem.run Try.prog (binOp BinOp.eql 37 (.slice none 0 0) (.slice none 0 0)) w = .ok (.bool true) w := fun _ => by kernel_rfl
  go_enter Try.func15, Try.ntmps15
  go_wp2
  all_goals (go_ret; exact ⟨rfl, rfl⟩)
/-- n bytes that are read: a slice that came in, or one's own -/
structure Sl (w : World) (p : Option Addr) (n c b o : Nat) (F : Nat → Int) : Prop where
  le : n ≤ c
  mx : c ≤ maxLen
  nil : p = none → c = 0
  at_ : 0 < n → p = some ⟨b, o, none⟩
  bd : ∀ i, i < n → 0 ≤ F i ∧ F i ≤ 255
  by_ : By w b o n F
theorem Sl.kept {w w' : World} {p : Option Addr} {n c b o : Nat} {F : Nat → Int} (h : Sl w p n c b o F) (hk : Kept w w') : Sl w' p n c b o F :=
  ⟨h.le, h.mx, h.nil, h.at_, h.bd, fun i hi => (hk.cell (World.block_lt_of_cell? _ _ (h.by_ i hi))).trans (h.by_ i hi)⟩
theorem Sl.cut {w : World} {p : Option Addr} {n c b o : Nat} {F : Nat → Int} (h : Sl w p n c b o F) (m : Nat) (hm : m ≤ n) : Sl w p m c b o F :=
  ⟨Nat.le_trans hm h.le, h.mx, h.nil, fun k => h.at_ (by omega), fun i hi => h.bd i (by omega), fun i hi => h.by_ i (by omega)⟩
theorem Sl.drewN {w : World} {p : Option Addr} {n c b o : Nat} {F : Nat → Int} (h : Sl w p n c b o F) (k : Nat) : Sl (w.drewN k) p n c b o F := h.kept ((Kept.refl w).drewN k)
theorem Sl.congr {w : World} {p : Option Addr} {n c b o : Nat} {F G : Nat → Int} (h : Sl w p n c b o F) (e : ∀ i, i < n → G i = F i) : Sl w p n c b o G :=
  ⟨h.le, h.mx, h.nil, h.at_, fun i hi => by rw [e i hi]; exact h.bd i hi, fun i hi => by rw [e i hi]; exact h.by_ i hi⟩
/-- n bytes of one's own, in a block behind W's -/
structure Ow (W w : World) (p : Option Addr) (n c b : Nat) (F : Nat → Int) : Prop where
  le : n ≤ c
  mx : c ≤ maxLen
  nil : p = none → c = 0
  at_ : 0 < n → p = some ⟨b, 0, none⟩
  bd : ∀ i, i < n → 0 ≤ F i ∧ F i ≤ 255
  by_ : By w b 0 n F
  own : 0 < n → W.heap.size ≤ b ∧ b < w.heap.size ∧ ∀ j, w.frozen? ⟨b, j, none⟩ = false
theorem Ow.sl {W w : World} {p : Option Addr} {n c b : Nat} {F : Nat → Int} (h : Ow W w p n c b F) : Sl w p n c b 0 F := ⟨h.le, h.mx, h.nil, h.at_, h.bd, h.by_⟩
theorem Ow.kept {W w w' : World} {p : Option Addr} {n c b : Nat} {F : Nat → Int} (h : Ow W w p n c b F) (hk : Kept w w') : Ow W w' p n c b F :=
  ⟨h.le, h.mx, h.nil, h.at_, h.bd, (h.sl.kept hk).by_, fun hn => ⟨(h.own hn).1, Nat.lt_of_lt_of_le (h.own hn).2.1 hk.size, fun j => (hk.frozen (p := ⟨b, j, none⟩) (h.own hn).2.1).trans ((h.own hn).2.2 j)⟩⟩
theorem Ow.mono {V W w : World} {p : Option Addr} {n c b : Nat} {F : Nat → Int} (h : Ow W w p n c b F) (hs : V.heap.size ≤ W.heap.size) : Ow V w p n c b F :=
  ⟨h.le, h.mx, h.nil, h.at_, h.bd, h.by_, fun hn => ⟨Nat.le_trans hs (h.own hn).1, (h.own hn).2⟩⟩
theorem Ow.congr {W w : World} {p : Option Addr} {n c b : Nat} {F G : Nat → Int} (h : Ow W w p n c b F) (e : ∀ i, i < n → G i = F i) : Ow W w p n c b G :=
  ⟨h.le, h.mx, h.nil, h.at_, fun i hi => by rw [e i hi]; exact h.bd i hi, fun i hi => by rw [e i hi]; exact h.by_ i hi, h.own⟩
/-- a store into it -/
theorem Ow.set {W w : World} {p : Option Addr} {n c b : Nat} {F : Nat → Int} (h : Ow W w p n c b F) (k : Nat) (hk : k < n) (x : Int) (x0 : 0 ≤ x) (x1 : x ≤ 255) :
    Ow W (w.setCell ⟨b, k, none⟩ (.int .u8 x)) p n c b (fun i => if i = k then x else F i) := by
  have ho := h.own (by omega)
  refine ⟨h.le, h.mx, h.nil, h.at_, fun i hi => ?_, fun i hi => ?_, fun hn => ⟨ho.1, by simpa [World.setCell] using ho.2.1, fun j => by rw [World.frozen?_setCell]; exact ho.2.2 j⟩⟩
  · split
    · exact ⟨x0, x1⟩
    · exact h.bd i hi
  · have h6 := h.by_ i hi
    rw [Nat.zero_add] at h6 ⊢
    try dsimp only
    by_cases e : i = k
    · subst e
      rw [if_pos rfl]
      exact World.cell?_setCell_same _ _ _ h6
    · have hne : (⟨b, k, none⟩ : Addr) ≠ ⟨b, i, none⟩ := by intro h; injection h with _ h _; omega
      rw [if_neg e, World.cell?_setCell_other _ _ _ _ hne, h6]
theorem Ow.keeps {W w : World} {p : Option Addr} {n c b : Nat} {F : Nat → Int} (h : Ow W w p n c b F) (k : Nat) (hk : k < n) (v : Value) {w0 : World} (h0 : Kept w0 w) (hs : w0.heap.size ≤ W.heap.size) : Kept w0 (w.setCell ⟨b, k, none⟩ v) :=
  h0.setCell (Nat.le_trans hs (h.own (by omega)).1) v
/-- the string of bytes -/
def bs (F : Nat → Int) (n : Nat) : ByteArray := ⟨((List.range n).map (fun i => UInt8.ofNat (F i).toNat)).toArray⟩
theorem bs_congr {F G : Nat → Int} {n : Nat} (h : ∀ i, i < n → F i = G i) : bs F n = bs G n := by
  unfold bs
  congr 2
  apply List.map_congr_left
  intro i hi
  rw [h i (by simpa using hi)]
theorem conv_w {w : World} {p : Option Addr} {n c b o : Nat} {F : Nat → Int} (h : Sl w p n c b o F) :
    Sem.run Try.prog (convert 37 9 (.slice p n c)) w = .ok (.string (bs F n)) w := by
  by_cases hn : 0 < n
  · rw [h.at_ hn]
    have hl : ((List.range n).map (fun i => UInt8.ofNat (F i).toNat)).length = n := by simp
    have := run_convert_bytes_back (P := Try.prog) w 37 9 5 ⟨b, o, none⟩ c ((List.range n).map (fun i => UInt8.ofNat (F i).toNat)) und_bytes (by kernel_rfl) (by kernel_rfl) (fun j hj => by
      rw [add_none, h.by_ j (by simpa using hj)]
      have hb := h.bd j (by simpa using hj)
      simp
      omega)
    rw [hl] at this
    exact this
  · obtain rfl : n = 0 := by omega
    cases p with
    | none => exact Go.Lib.run_convert_nil_bytes w _ _ 5 c und_bytes (by kernel_rfl) (by kernel_rfl)
    | some a =>
      exact run_convert_bytes_back (P := Try.prog) w 37 9 5 a c [] und_bytes (by kernel_rfl) (by kernel_rfl) (fun j hj => by simp at hj)
def catF (F : Nat → Int) (n : Nat) (G : Nat → Int) (i : Nat) : Int := if i < n then F i else G (i - n)
theorem catF_lo (F : Nat → Int) (n : Nat) (G : Nat → Int) (i : Nat) (h : i < n) : catF F n G i = F i := if_pos h
theorem catF_hi (F : Nat → Int) (n : Nat) (G : Nat → Int) (i : Nat) : catF F n G (n + i) = G i := by unfold catF; rw [if_neg (by omega)]; congr 1; omega
theorem row_cat (F : Nat → Int) (n : Nat) (G : Nat → Int) (m : Nat) : row F n ++ row G m = row (catF F n G) (n + m) := by
  unfold row
  rw [List.range_add, List.map_append, List.map_map]
  congr 1
  · exact List.map_congr_left (fun i hi => by rw [catF_lo F n G i (by simpa using hi)])
  · exact List.map_congr_left (fun i _ => by simp [catF_hi])
/-- an own row, while it is being filled -/
def Rw (w : World) (base : Nat) (v : Value) (n : Nat) (F : Nat → Int) : Prop := w.ownsRow base 5 1 v n (row F n)
theorem rw_empty (w : World) (base : Nat) (hb : base ≤ w.heap.size) (F : Nat → Int) : Rw (w.alloc (.cells #[] 5)) base (.slice (some ⟨w.heap.size, 0, none⟩) 0 0) 0 F :=
  World.ownsRow_made w #[] 0 hb (by decide) (by simp)
theorem Rw.ow {W w : World} {v : Value} {n : Nat} {F : Nat → Int} (h : Rw w W.heap.size v n F) (hF : ∀ i, i < n → 0 ≤ F i ∧ F i ≤ 255) : ∃ p c b, v = .slice p n c ∧ Ow W w p n c b F := by
  by_cases hn : 0 < n
  · obtain ⟨g, cap, rfl, h1, h2, h3, h4, h5, h6⟩ := own_form h hn
    exact ⟨_, cap, g, rfl, h1, h2, (fun e => by cases e), fun _ => rfl, hF, h5, fun _ => ⟨h3, h4, h6⟩⟩
  · obtain rfl : n = 0 := by omega
    rcases h.2 with ⟨rfl, _⟩ | ⟨g, cap, cur, rfl, h1, h2, h3, h4, h5, h6⟩
    · exact ⟨none, 0, 0, rfl, Nat.le_refl _, Nat.zero_le _, fun _ => rfl, fun h => by omega, hF, fun i hi => by omega, fun h => by omega⟩
    · exact ⟨_, cap, g, rfl, h3, h4, (fun e => by cases e), (fun h => by omega), hF, fun i hi => by omega, fun h => by omega⟩
theorem kept_grown {w0 w w' : World} {r : Option Nat} (h : Kept w0 w) (hg : w.grownBy w' r) (hr : ∀ k, r = some k → w0.heap.size ≤ k) : Kept w0 w' :=
  ⟨hg.os.trans h.os, hg.output.trans h.output, Nat.le_trans h.size hg.size, fun k hk => (hg.block k (Nat.lt_of_lt_of_le hk h.size) (fun e => by have := hr k e.symm; omega)).trans (h.block k hk)⟩
/-- appending bytes that are read -/
theorem app_w {ops : Array Oper} {rest : List Oper} {op : Oper} {a : Act} {Q : Exit → Act → World → Prop} {w : World} (hgd : op.guard = none) (s x : Operand)
    (ho : op.op = .call { callee := .builtin .append, args := #[s, x], argTypes := #[37, 37] }) {w0 : World} {v : Value} {n : Nat} {F : Nat → Int} {p : Option Addr} {m c b o : Nat} {G : Nat → Int}
    (hs : a.eval s = v) (hx : a.eval x = .slice p m c) (hown : Rw w w0.heap.size v n F) (hk : Kept w0 w) (hG : Sl w p m c b o G) (hb : n + m ≤ 100000000)
    (h : ∀ v' w', Hid (Rw w' w0.heap.size v' (n + m) (catF F n G)) → Kept w0 w' → wpList Try.prog ops Q rest (a.put op.dst v') w') : wpList Try.prog ops Q (op :: rest) a w := by
  obtain ⟨i0, hi, hz0, hz1, hz2⟩ := info_parts info_u8
  cases hp : p with
  | none =>
    have hc := hG.nil hp
    subst hc
    obtain rfl : m = 0 := by have := hG.le; omega
    subst hp
    refine wpList_append_own_none hgd s x 37 ho w0.heap.size 5 i0 1 und_bytes hi v n (row F n) hs hown hx ?_
    refine h v w (Lib.hid ?_) hk
    unfold Rw
    rw [← row_cat]
    have e : row G 0 = [] := rfl
    rw [e, List.append_nil]
    exact hown
  | some ad =>
    subst hp
    refine wpList_append_own _ hgd s x 37 ho w0.heap.size 5 i0 (.int .u8 0) 1 1 und_bytes hi hz0 hz1 hz2 rfl (by decide) v n (row F n) hs hown ad m c (row G m) hx (by rw [row_length]; omega) ?_ (row_one G m) (by unfold maxLen; omega) (by omega) hk.size ?_
    · intro j u hj
      obtain ⟨h1, rfl⟩ := rowv_of hj
      have := hG.at_ (by omega)
      simp at this
      subst this
      rw [add_none]; exact hG.by_ j h1
    · intro v' w' h1 h2 _
      refine h v' w' (Lib.hid ?_) (kept_grown hk h2 (fun k hk => (World.ownsRow.lt hown k hk).1))
      unfold Rw
      rwa [← row_cat]
theorem sl_none (w : World) (F : Nat → Int) : Sl w none 0 0 0 0 F := ⟨Nat.le_refl _, Nat.zero_le _, fun _ => rfl, fun h => by omega, fun i hi => by omega, fun i hi => by omega⟩
theorem cat_bd (F G : Nat → Int) (n m : Nat) (hF : ∀ i, i < n → 0 ≤ F i ∧ F i ≤ 255) (hG : ∀ i, i < m → 0 ≤ G i ∧ G i ≤ 255) : ∀ i, i < n + m → 0 ≤ catF F n G i ∧ catF F n G i ≤ 255 := fun i hi => by
  unfold catF; split
  · exact hF i (by omega)
  · exact hG _ (by omega)
theorem rw_first {w : World} {base : Nat} {v : Value} {n : Nat} {F G : Nat → Int} (h : Rw w base v (0 + n) (catF F 0 G)) : Rw w base v n G := by
  unfold Rw at h ⊢
  rw [Nat.zero_add] at h
  rwa [show row (catF F 0 G) n = row G n from List.map_congr_left (fun i _ => by unfold catF; rw [if_neg (by omega)]; rfl)] at h
/-- own bytes come back -/
def Got (w : World) (n : Nat) (F : Nat → Int) (en : Ending) (w' : World) : Prop := ∃ p c b, en = .returned (.slice p n c) ∧ Ow w w' p n c b F ∧ Kept w w'
/-- .. with an error's number -/
def GotE (w : World) (n : Nat) (F : Nat → Int) (er : Int) (en : Ending) (w' : World) : Prop := ∃ p c b, en = .returned (.tuple #[.slice p n c, .int .i64 er]) ∧ Ow w w' p n c b F ∧ Kept w w'
theorem ow_none (W w : World) (F : Nat → Int) : Ow W w none 0 0 0 F := ⟨Nat.le_refl _, Nat.zero_le _, fun _ => rfl, fun h => by omega, fun i hi => by omega, fun i hi => by omega, fun h => by omega⟩
theorem clone0a_w (c : Nat) (a : Addr) (w : World) :
    Calls Try.prog 15 #[.slice (some a) 0 c] w fun en w' => en = .returned (.slice (some ⟨w.heap.size, 0, none⟩) 0 0) ∧ Kept w w' := by
  have he : ∀ w, Sem.run Try.prog (binOp BinOp.eql 37 (.slice (some a) 0 c) (.slice none 0 0)) w = .ok (.bool false) w := fun _ => by kernel_rfl
  go_enter Try.func15, Try.ntmps15
  go_wp2
  all_goals (go_ret; exact ⟨rfl, (by repeat (first | with_reducible exact Kept.refl _ | with_reducible assumption | with_reducible refine Kept.setCell ?_ (by first | (simp; done) | (simp; omega) | omega) _ | with_reducible refine Kept.alloc ?_ _ | with_reducible refine Kept.drewN ?_ _ | with_reducible refine Kept.drew ?_ | with_reducible refine Kept.trans ?_ (by with_reducible assumption) | with_reducible refine Kept.dr ?_ (by with_reducible assumption)))⟩)
theorem clone_s {p : Option Addr} {n c b o : Nat} {F : Nat → Int} {w : World} (h : Sl w p n c b o F) (hm : n ≤ 1000000) : Calls Try.prog 15 #[.slice p n c] w (Got w n F) := by
  by_cases hn : 0 < n
  · rw [h.at_ hn]
    refine (clone_w n c b o F hn (by omega) w (World.block_lt_of_cell? _ _ (h.by_ 0 hn)) h.by_).mono ?_
    rintro e w' ⟨g, cap, rfl, h1, h2, h3, h4, h5, h6, h7⟩
    exact ⟨_, cap, g, rfl, ⟨h1, h2, (fun e => by cases e), (fun _ => rfl), h.bd, h6, fun _ => ⟨h4, h5, h7⟩⟩, h3⟩
  · obtain rfl : n = 0 := by omega
    cases hp : p with
    | none =>
      have := h.nil hp
      subst this
      refine (clonen_w w).mono ?_
      rintro e w' ⟨rfl, rfl⟩
      exact ⟨none, 0, 0, rfl, ow_none _ _ _, Kept.refl _⟩
    | some a =>
      refine (clone0a_w c a w).mono ?_
      rintro e w' ⟨rfl, hk⟩
      exact ⟨_, 0, 0, rfl, ⟨Nat.le_refl _, Nat.zero_le _, (fun e => by cases e), (fun h => by omega), (fun i hi => by omega), (fun i hi => by omega), fun h => by omega⟩, hk⟩
theorem by_at {w : World} {b o n : Nat} {F : Nat → Int} (h : By w b o n F) (i : Nat) (hi : i < n) : w.cell? ⟨b, o + i, none⟩ = some (.int .u8 (F i)) := h i hi
end Go.Proofs.Ytbiamcpcmjdogaa
