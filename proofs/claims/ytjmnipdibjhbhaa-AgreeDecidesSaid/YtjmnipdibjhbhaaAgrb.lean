/-
  Own contracts: a reader of one byte; package agree: what awake asks.
-/
import Derived.Test.YtjmnipdibjhbhaaOct
import Derived.Test.YtjmnipdibjhbhaaAgra
import Derived.Lib.SlBytesConst
import Derived.WalkKit
import Derived.ProofKit
import Derived.OpenShut
import Derived.WalkLawsBesides
import Derived.WalkSpells
import Derived.Lib.Hide
import Derived.Deep.DeepCutAuto
import Derived.Deep.CutBlock
import Derived.Deep.QuietTactic
import Derived.BigQuiet
import Derived.Handy
import Derived.StillTailTactics
import Derived.IntWalk
import Derived.LoopN
import Derived.Deep.RegionHeld3
namespace Go.Proofs.Ytjmnipdibjhbhaa
open Go.ChangeShapes Go.WideShapes Go.ChangeAt Go.RowKit
set_option linter.unusedVariables false
set_option linter.unusedSimpArgs false
theorem withF {p G : Prop} (h : p) (g : p → G) : G := g h
theorem retb {b : Bool} (h : b = true) : Ending.returned (.bool b) = .returned (.bool true) := by rw [h]
theorem kcell {W w1 : World} (h : Kept W w1) (b : Nat) (hb : b < W.heap.size) : (∀ o, w1.cell? ⟨b, o, none⟩ = W.cell? ⟨b, o, none⟩) ∧ (∀ o, w1.frozen? ⟨b, o, none⟩ = W.frozen? ⟨b, o, none⟩) :=
  ⟨fun o => h.cell (p := ⟨b, o, none⟩) hb, fun o => h.frozen (p := ⟨b, o, none⟩) hb⟩
theorem kuse {W w1 : World} {b : Nat} {G : Prop} (h : Kept W w1) (hb : b < W.heap.size) (g : (∀ o, w1.cell? ⟨b, o, none⟩ = W.cell? ⟨b, o, none⟩) → (∀ o, w1.frozen? ⟨b, o, none⟩ = W.frozen? ⟨b, o, none⟩) → G) : G := g (kcell h b hb).1 (kcell h b hb).2
theorem kfacts {W w1 : World} (h : Kept W w1) : (∀ b o, b < W.heap.size → w1.cell? ⟨b, o, none⟩ = W.cell? ⟨b, o, none⟩) ∧ (∀ b o, b < W.heap.size → w1.frozen? ⟨b, o, none⟩ = W.frozen? ⟨b, o, none⟩) ∧ W.heap.size ≤ w1.heap.size :=
  ⟨fun b o hb => h.cell (p := ⟨b, o, none⟩) hb, fun b o hb => h.frozen (p := ⟨b, o, none⟩) hb, h.size⟩

/-- a reader at block g whose rest is v -/
structure Rd (w0 w : World) (g : Nat) (v : Value) : Prop where
  c0 : w.cell? ⟨g, 0, none⟩ = some v
  c1 : w.cell? ⟨g, 1, none⟩ = some (.bool false)
  fr : ∀ o, w.frozen? ⟨g, o, none⟩ = false
  bs : w0.heap.size ≤ g
  lt : g < w.heap.size
  kp : Kept w0 w
theorem Rd.kept {w0 w w' : World} {g : Nat} {v : Value} (h : Rd w0 w g v) (k : Kept w w') : Rd w0 w' g v :=
  ⟨((kcell k g h.lt).1 0).trans h.c0, ((kcell k g h.lt).1 1).trans h.c1, fun o => ((kcell k g h.lt).2 o).trans (h.fr o), h.bs, Nat.lt_of_lt_of_le h.lt k.size, h.kp.trans k⟩
theorem sl_one (w : World) (b : Nat) (hb : w.cell? ⟨b, 0, none⟩ = some (.int .u8 4)) : Sl w (some ⟨b, 0, none⟩) 1 1 b 0 (fun _ => 4) := by
  refine ⟨Nat.le_refl _, by decide, ?_, fun _ => rfl, fun i hi => by omega, ?_⟩
  · intro h; cases h
  · intro i hi
    obtain rfl : i = 0 := by omega
    simpa using hb
theorem Rd.set {w0 w : World} {g : Nat} {v : Value} (h : Rd w0 w g v) (u : Value) : Rd w0 (w.setCell ⟨g, 0, none⟩ u) g u :=
  ⟨World.cell?_setCell_same _ _ _ h.c0, by rw [World.cell?_setCell_other _ _ _ _ (by simp)]; exact h.c1, fun o => by rw [World.frozen?_setCell]; exact h.fr o, h.bs, by simpa [World.setCell] using h.lt, h.kp.setCell h.bs _⟩
set_option maxHeartbeats 4000000 in
set_option maxRecDepth 100000 in
theorem raw_w (w0 w : World) (g b : Nat) (hb : w.cell? ⟨b, 0, none⟩ = some (.int .u8 4)) (hbg : b < w.heap.size ∧ b ≠ g) (h : Rd w0 w g (.slice (some ⟨b, 0, none⟩) 1 1)) : Calls Try.prog 18 #[.pointer (some ⟨g, 0, none⟩), .int .i64 1] w fun en w' => ∃ a c q d, en = .returned (.slice (some a) 1 c) ∧ w'.cell? a = some (.int .u8 4) ∧ a.spot = none ∧ Rd w0 w' g (.slice q 0 d) := by
  have H := Lib.hid h
  have c0 := h.c0
  have s := sl_one w b hb
  have cc := clone_s s (by omega)
  clear h s
  go_enter Try.func18, Try.ntmps18
  go_wp2_with fail
  refine cc.mono ?_
  rintro e w1 ⟨p, c, b', rfl, ho, hk⟩
  obtain rfl := ho.at_ (by omega)
  have cb := ho.by_ 0 (by omega)
  have hR := Lib.hid (H.out.kept hk)
  have c0' := hR.out.c0
  have fr' := hR.out.fr
  have hne := (ho.own (by omega)).1
  have hlt := H.out.lt
  clear ho hk cc H c0
  go_wp2_with fail
  go_ret
  refine ⟨_, _, _, _, rfl, ?_, rfl, hR.out.set _⟩
  rw [World.cell?_setCell_other _ _ _ _ (by first | (simp; done) | (simp; omega))]
  simpa using cb
set_option maxHeartbeats 4000000 in
set_option maxRecDepth 100000 in
theorem number_r (w0 w : World) (g b : Nat) (hb : w.cell? ⟨b, 0, none⟩ = some (.int .u8 4)) (hbg : b < w.heap.size ∧ b ≠ g) (h : Rd w0 w g (.slice (some ⟨b, 0, none⟩) 1 1)) : Calls Try.prog 19 #[.pointer (some ⟨g, 0, none⟩), .int .i64 1] w fun en w' => ∃ q d, en = .returned (.int .u64 4) ∧ Rd w0 w' g (.slice q 0 d) := by
  have cc := raw_w w0 w g b hb hbg h
  clear h hb
  go_enter Try.func19, Try.ntmps19
  go_wp2_with fail
  refine cc.mono ?_
  rintro e w1 ⟨a, c, q, d, rfl, ha, hs, hR⟩
  obtain ⟨ab, ao, asp⟩ := a
  obtain rfl : asp = none := hs
  have R := Lib.hid hR
  clear cc hR
  try clear hs
  go_wp2_with fail
  go_loopw [5, 6, 7, 12] (fun v x y i wr => wr = w1 ∧ ((i = .int .i64 0 ∧ v = .int .u64 0) ∨ (i = .int .i64 1 ∧ v = .int .u64 4))) (fun v x y i _ => 1 - (intOf i).toNat)
  case atStart => exact ⟨rfl, Or.inl ⟨rfl, rfl⟩⟩
  case round =>
    obtain ⟨rfl, ⟨rfl, rfl⟩ | ⟨rfl, rfl⟩⟩ := hrel
    · go_wp2_with fail
      exact ⟨⟨trivial, Or.inr ⟨rfl, by rw [show bits .or .u64 0 4 = 4 by decide]⟩⟩, by decide⟩
    · go_wp2_with fail
      go_ret
      exact ⟨_, _, rfl, R.out⟩
set_option maxHeartbeats 4000000 in
set_option maxRecDepth 100000 in
theorem byte_r (w0 w : World) (g b : Nat) (hb : w.cell? ⟨b, 0, none⟩ = some (.int .u8 4)) (hbg : b < w.heap.size ∧ b ≠ g) (h : Rd w0 w g (.slice (some ⟨b, 0, none⟩) 1 1)) : Calls Try.prog 17 #[.pointer (some ⟨g, 0, none⟩)] w fun en w' => ∃ q d, en = .returned (.int .u8 4) ∧ Rd w0 w' g (.slice q 0 d) := by
  have cc := number_r w0 w g b hb hbg h
  clear h hb
  go_enter Try.func17, Try.ntmps17
  go_wp2_with fail
  refine cc.mono ?_
  rintro e w1 ⟨q, d, rfl, hR⟩
  have R := Lib.hid hR
  clear cc hR
  go_wp2_with fail
  go_ret
  exact ⟨_, _, rfl, R.out⟩
set_option maxHeartbeats 4000000 in
set_option maxRecDepth 100000 in
theorem done_r (w0 w : World) (g : Nat) (q : Option Addr) (d : Nat) (h : Rd w0 w g (.slice q 0 d)) : Calls Try.prog 20 #[.pointer (some ⟨g, 0, none⟩)] w fun en w' => en = .returned (.bool true) ∧ w = w' := by
  have c0 := h.c0
  have c1 := h.c1
  clear h
  go_enter Try.func20, Try.ntmps20
  go_wp2_with fail
  go_ret
  exact ⟨rfl, rfl⟩
set_option maxHeartbeats 4000000 in
set_option maxRecDepth 100000 in
theorem new_r (w : World) (b : Nat) (hb : w.cell? ⟨b, 0, none⟩ = some (.int .u8 4)) (hbl : b < w.heap.size) : Calls Try.prog 16 #[.slice (some ⟨b, 0, none⟩) 1 1] w fun en w' => en = .returned (.pointer (some ⟨w.heap.size, 0, none⟩)) ∧ w'.cell? ⟨b, 0, none⟩ = some (.int .u8 4) ∧ Rd w w' w.heap.size (.slice (some ⟨b, 0, none⟩) 1 1) := by
  go_enter Try.func16, Try.ntmps16
  go_wp2_with fail
  go_ret
  refine ⟨rfl, ?_, ⟨?_, ?_, ?_, ?_, ?_, ?_⟩⟩
  · exact (World.cell?_alloc_lt _ _ _ hbl).trans hb
  · simp [go_sem]
  · simp [go_sem]
  · intro o; simp [go_sem]
  · exact Nat.le_refl _
  · simp [go_sem]
  · exact (Kept.refl w).alloc _
set_option maxHeartbeats 4000000 in
set_option maxRecDepth 100000 in
theorem unpack_w (w : World) (b : Nat) (hb : w.cell? ⟨b, 0, none⟩ = some (.int .u8 4)) (hbl : b < w.heap.size) : Calls Try.prog 9 #[.slice (some ⟨b, 0, none⟩) 1 1] w fun en w' => en = .returned (.tuple #[.slice none 0 0, .bool false, .slice none 0 0, .bool false, .int .i64 4]) ∧ Kept w w' := by
  go_enter Try.func9, Try.ntmps9
  go_wp2_with fail
  refine (new_r w b hb hbl).mono ?_
  rintro e w1 ⟨rfl, h1, hR⟩
  have cc := byte_r w w1 w.heap.size b h1 ⟨Nat.lt_trans hbl hR.lt, Nat.ne_of_lt hbl⟩ hR
  clear hR hb hbl h1
  go_wp2_with fail
  refine cc.mono ?_
  rintro e w2 ⟨q, d, rfl, hR⟩
  have R := Lib.hid hR
  clear cc hR
  have e1 : bits .and .u8 4 1 = 0 := by decide
  have e2 : bits .and .u8 4 2 = 0 := by decide
  go_wp2_with fail
  refine (done_r w w2 w.heap.size q d R.out).mono ?_
  rintro e w3 ⟨rfl, rfl⟩
  go_wp2_with fail
  exact bodyPost_ret (v := .tuple #[.slice none 0 0, .bool false, .slice none 0 0, .bool false, .int .i64 4]) (by first | (simp [results, Try.results9, go_sem]; done) | (simp (maxDischargeDepth := 7) [results, Try.results9, go_sem, *]; done)) rfl ⟨rfl, R.out.kp⟩

def F0 : Nat → Int := fun _ => 0
def pk : Nat → Int := catF (catF (catF F0 0 (fun _ => 1)) (0 + 1) (fun i => ((1 / 256 ^ i % 256 : Nat) : Int))) (0 + 1 + 2) (fun _ => 65)
theorem pk_bd : ∀ i, i < 4 → 0 ≤ pk i ∧ pk i ≤ 255 := by decide
theorem pk_bs : bs pk 4 = ⟨#[1, 1, 0, 65]⟩ := by rfl
theorem sl_a (w : World) (b : Nat) (hb : w.cell? ⟨b, 0, none⟩ = some (.int .u8 65)) : Sl w (some ⟨b, 0, none⟩) 1 1 b 0 (fun _ => 65) := by
  refine ⟨Nat.le_refl _, by decide, ?_, fun _ => rfl, fun i hi => by omega, ?_⟩
  · intro h; cases h
  · intro i hi
    obtain rfl : i = 0 := by omega
    simpa using hb
set_option maxHeartbeats 4000000 in
set_option maxRecDepth 100000 in
theorem pack_w (w : World) (b : Nat) (hb : w.cell? ⟨b, 0, none⟩ = some (.int .u8 65)) (hbl : b < w.heap.size) : Calls Try.prog 8 #[.slice (some ⟨b, 0, none⟩) 1 1, .bool true, .slice none 0 0, .bool false] w (GotE w 4 pk 0) := by
  have e1 : bits .or .u8 0 1 = 1 := by decide
  go_enter Try.func8, Try.ntmps8
  go_wp2_with fail
  refine (byte_w w _ w.heap.size 0 F0 1 (wrt_new w F0) (by omega)).mono ?_
  rintro e w1 ⟨rfl, h1⟩
  obtain ⟨v1, a1, a2, a3, a4⟩ := id h1
  have hb1 : w1.cell? ⟨b, 0, none⟩ = some (.int .u8 65) := (a4.cell hbl).trans hb
  have H1 := Lib.hid h1
  clear a1 a2 a3 a4 h1 hb
  have cv := conv_w (sl_a w1 b hb1)
  go_wp2_with fail
  refine (text_w w w1 w.heap.size (0 + 1) _ (fun _ => 65) 1 2 (by decide) (by decide) (fun i _ => by decide) (by decide) H1.out (by decide)).mono ?_
  rintro e w2 ⟨rfl, h2⟩
  have H2 := Lib.hid h2
  obtain ⟨v2, a1, a2, a3, a4⟩ := h2
  have K2 := Lib.hid a4
  have hsz := a3
  clear a1 a2 a3 a4 cv
  go_wp2_with fail
  refine (bytes_w w w2 w.heap.size 4 pk H2.out (by decide) pk_bd).mono ?_
  rintro e w3 ⟨p, c, b', rfl, ho, hk⟩
  have HO := Lib.hid (ho.mono K2.out.size)
  have HK := Lib.hid (K2.out.trans hk)
  clear ho hk
  go_wp2_with fail
  exact bodyPost_ret (v := .tuple #[.slice p 4 c, .int .i64 0]) (by first | (simp [results, Try.results8, go_sem]; done)) rfl ⟨p, c, b', rfl, HO.out, HK.out⟩

end Go.Proofs.Ytjmnipdibjhbhaa
