/-
  Own contracts: strings read as latitudes and longitudes: every string is the text of its angle, or has its error.
-/
import Derived.Test.YtofeijgcbjhkdaaAngv
import Derived.WalkKit
import Derived.ProofKit
import Derived.OpenShut
import Derived.WalkLawsBesides
import Derived.WalkSpells
import Derived.Lib.Hide
import Derived.Deep.DeepCutAuto
import Derived.Deep.CutBlock
import Derived.Deep.QuietTactic
import Derived.BigQuiet
import Derived.Handy
import Derived.StillTailTactics
import Derived.IntWalk
import Derived.LoopN
import Derived.Deep.RegionHeld3
namespace Go.Proofs.Ytofeijgcbjhkdaa
open Go.ChangeShapes Go.WideShapes Go.ChangeAt Go.RowKit
set_option linter.unusedVariables false
set_option linter.unusedSimpArgs false
theorem as10 (s : ByteArray) (h : s.size = 10) : ∃ c0 c1 c2 c3 c4 c5 c6 c7 c8 c9, s = ⟨#[c0, c1, c2, c3, c4, c5, c6, c7, c8, c9]⟩ := by
  obtain ⟨⟨l⟩⟩ := s
  match l, h with
  | [c0, c1, c2, c3, c4, c5, c6, c7, c8, c9], _ => exact ⟨c0, c1, c2, c3, c4, c5, c6, c7, c8, c9, rfl⟩
theorem cut9 (s : ByteArray) (h : s.size = 9) : s = ⟨#[s[0]'(by omega)]⟩ ++ s.extract 1 9 := by
  obtain ⟨c0, c1, c2, c3, c4, c5, c6, c7, c8, rfl⟩ := as9 s h
  rfl
theorem cut10 (s : ByteArray) (h : s.size = 10) : s = ⟨#[s[0]'(by omega)]⟩ ++ s.extract 1 10 := by
  obtain ⟨c0, c1, c2, c3, c4, c5, c6, c7, c8, c9, rfl⟩ := as10 s h
  rfl
theorem u8_of (c d : UInt8) (h : (c.toNat : Int) = (d.toNat : Int)) : c = d := UInt8.toNat_inj.1 (by omega)
theorem parselat_err (s : ByteArray) (hx : ∀ w, Calls Try.prog 48 #[.string s, .int .u8 78, .int .u8 83, .int .i64 2] w fun e w' => e = .returned (.tuple #[.int .i64 0, .int .i64 4]) ∧ w = w')  (w : World) : Calls Try.prog 32 #[.string s] w fun e w' => e = .returned (.tuple #[.int .i64 0, .int .i64 4]) ∧ w = w' := by
  have HX := Lib.hid hx
  clear hx
  go_enter Try.func32, Try.ntmps32
  go_wp2_with (first | (go_at_call 48; refine (HX.out _).mono ?_; rintro e w' ⟨rfl, rfl⟩))
  all_goals go_ret2
  all_goals exact ⟨rfl, rfl⟩
theorem rparselat_err (s : ByteArray) (hx : ∀ w, Calls Try.prog 49 #[.string s, .string ⟨#[78, 83]⟩, .int .i64 2] w fun e w' => e = .returned (.tuple #[.int .i64 0, .bool false]) ∧ Dr w w')  (w : World) : Calls Try.prog 35 #[.string s] w fun e w' => e = .returned (.tuple #[.int .i64 0, .int .i64 4]) ∧ Dr w w' := by
  have HX := Lib.hid hx
  clear hx
  go_enter Try.func35, Try.ntmps35
  go_wp2_with (first | (go_at_call 49; refine (HX.out _).mono ?_; rintro e w' ⟨rfl, nd, rfl⟩))
  all_goals go_ret2
  all_goals exact ⟨rfl, (by repeat (first | exact Dr.refl _ | refine Dr.drewN ?_ _ | refine Dr.drew ?_))⟩
theorem parselat_ok (s : ByteArray) (a : Int) (hx : ∀ w, Calls Try.prog 48 #[.string s, .int .u8 78, .int .u8 83, .int .i64 2] w fun e w' => e = .returned (.tuple #[.int .i64 a, .int .i64 0]) ∧ w = w') (h0 : -32400000 ≤ a) (h1 : a ≤ 32400000) (w : World) : Calls Try.prog 32 #[.string s] w fun e w' => e = .returned (.tuple #[.int .i64 a, .int .i64 0]) ∧ w = w' := by
  have HX := Lib.hid hx
  clear hx
  go_enter Try.func32, Try.ntmps32
  go_wp2_with (first | (go_at_call 48; refine (HX.out _).mono ?_; rintro e w' ⟨rfl, rfl⟩))
  all_goals go_ret2
  all_goals exact ⟨rfl, rfl⟩
theorem rparselat_ok (s : ByteArray) (a : Int) (hx : ∀ w, Calls Try.prog 49 #[.string s, .string ⟨#[78, 83]⟩, .int .i64 2] w fun e w' => e = .returned (.tuple #[.int .i64 a, .bool true]) ∧ Dr w w') (h0 : -32400000 ≤ a) (h1 : a ≤ 32400000) (w : World) : Calls Try.prog 35 #[.string s] w fun e w' => e = .returned (.tuple #[.int .i64 a, .int .i64 0]) ∧ Dr w w' := by
  have HX := Lib.hid hx
  clear hx
  go_enter Try.func35, Try.ntmps35
  go_wp2_with (first | (go_at_call 49; refine (HX.out _).mono ?_; rintro e w' ⟨rfl, nd, rfl⟩))
  all_goals go_ret2
  all_goals exact ⟨rfl, (by repeat (first | exact Dr.refl _ | refine Dr.drewN ?_ _ | refine Dr.drew ?_))⟩
theorem parselat_rng (s : ByteArray) (a : Int) (hx : ∀ w, Calls Try.prog 48 #[.string s, .int .u8 78, .int .u8 83, .int .i64 2] w fun e w' => e = .returned (.tuple #[.int .i64 a, .int .i64 0]) ∧ w = w') (h : a < -32400000 ∨ 32400000 < a) (w : World) : Calls Try.prog 32 #[.string s] w fun e w' => e = .returned (.tuple #[.int .i64 0, .int .i64 2]) ∧ w = w' := by
  have HX := Lib.hid hx
  clear hx
  rcases h with h | h
  all_goals
    go_enter Try.func32, Try.ntmps32
    go_wp2_with (first | (go_at_call 48; refine (HX.out _).mono ?_; rintro e w' ⟨rfl, rfl⟩))
    all_goals go_ret2
    all_goals exact ⟨rfl, rfl⟩
theorem rparselat_rng (s : ByteArray) (a : Int) (hx : ∀ w, Calls Try.prog 49 #[.string s, .string ⟨#[78, 83]⟩, .int .i64 2] w fun e w' => e = .returned (.tuple #[.int .i64 a, .bool true]) ∧ Dr w w') (h : a < -32400000 ∨ 32400000 < a) (w : World) : Calls Try.prog 35 #[.string s] w fun e w' => e = .returned (.tuple #[.int .i64 0, .int .i64 2]) ∧ Dr w w' := by
  have HX := Lib.hid hx
  clear hx
  rcases h with h | h
  all_goals
    go_enter Try.func35, Try.ntmps35
    go_wp2_with (first | (go_at_call 49; refine (HX.out _).mono ?_; rintro e w' ⟨rfl, nd, rfl⟩))
    all_goals go_ret2
    all_goals exact ⟨rfl, (by repeat (first | exact Dr.refl _ | refine Dr.drewN ?_ _ | refine Dr.drew ?_))⟩
theorem parselat_size (s : ByteArray) (hm : s.size ≤ 9223372036854775807) (hz : s.size < 9 ∨ 9 < s.size) : (∀ w, Calls Try.prog 32 #[.string s] w fun e w' => e = .returned (.tuple #[.int .i64 0, .int .i64 4]) ∧ w = w') ∧ (∀ w, Calls Try.prog 35 #[.string s] w fun e w' => e = .returned (.tuple #[.int .i64 0, .int .i64 4]) ∧ Dr w w') := by
  refine ⟨parselat_err s (fun w => ?_), rparselat_err s (fun w => rsig2_size s ⟨#[78, 83]⟩ hm hz w)⟩
  by_cases z0 : s.size = 0
  · exact psig2_empty s 78 83 z0 w
  · by_cases hP : ((s[0]'(by omega)).toNat : Int) = 78 ∨ ((s[0]'(by omega)).toNat : Int) = 83
    · exact psig2_err s 78 83 _ s.size rfl (by omega) rfl hP (fun w => psex2_size _ (by rw [ByteArray.size_extract]; omega) (by rw [ByteArray.size_extract]; omega) w) w
    · exact psig2_letter s 78 83 _ (by omega) rfl (fun h => hP (Or.inl h)) (fun h => hP (Or.inr h)) w
theorem parselat_all (s : ByteArray) (hm : s.size ≤ 9223372036854775807) : (∃ a : Int, -32400000 ≤ a ∧ a ≤ 32400000 ∧ latS a = s ∧ (∀ w, Calls Try.prog 32 #[.string s] w fun e w' => e = .returned (.tuple #[.int .i64 a, .int .i64 0]) ∧ w = w') ∧ (∀ w, Calls Try.prog 35 #[.string s] w fun e w' => e = .returned (.tuple #[.int .i64 a, .int .i64 0]) ∧ Dr w w')) ∨ (∃ er : Int, (er = 2 ∨ er = 4) ∧ (∀ w, Calls Try.prog 32 #[.string s] w fun e w' => e = .returned (.tuple #[.int .i64 0, .int .i64 er]) ∧ w = w') ∧ (∀ w, Calls Try.prog 35 #[.string s] w fun e w' => e = .returned (.tuple #[.int .i64 0, .int .i64 er]) ∧ Dr w w')) := by
  by_cases z : s.size = 9
  · have cut := cut9 s z
    obtain ⟨c0, hc0⟩ : ∃ c, s[0]'(by omega) = c := ⟨_, rfl⟩
    obtain ⟨L, hL⟩ : ∃ L : Int, (c0.toNat : Int) = L := ⟨_, rfl⟩
    have h0 : ((s[0]'(by omega)).toNat : Int) = L := by rw [hc0]; exact hL
    obtain ⟨T, hT⟩ : ∃ T, s.extract 1 9 = T := ⟨_, rfl⟩
    have zT : T.size = 8 := by rw [← hT, ByteArray.size_extract]; omega
    rw [hc0, hT] at cut
    by_cases hP : L = 78 ∨ L = 83
    · by_cases dT : Dig T
      · obtain ⟨e0, e1, e2, e3, e4, e5, e6, e7⟩ := bds2 T zT dT
        obtain ⟨d, hd1⟩ : ∃ n, numL (T.extract 0 2).data.toList = n := ⟨_, rfl⟩
        obtain ⟨m, hm1⟩ : ∃ n, numL (T.extract 2 4).data.toList = n := ⟨_, rfl⟩
        obtain ⟨x, hx1⟩ : ∃ n, numL (T.extract 4 6).data.toList = n := ⟨_, rfl⟩
        obtain ⟨c, hc1⟩ : ∃ n, numL (T.extract 6 8).data.toList = n := ⟨_, rfl⟩
        rw [hd1] at e0 e1
        rw [hm1] at e2 e3
        rw [hx1] at e4 e5
        rw [hc1] at e6 e7
        by_cases k6 : 60 ≤ m ∨ 60 ≤ x
        · exact Or.inr ⟨4, Or.inr rfl, parselat_err s (fun w => psig2_err s 78 83 L 9 z (by omega) h0 hP (fun w => by rw [hT]; exact psex2_sixty T _ d m x c zT dT (Lib.hid rfl) (Lib.hid hd1) (Lib.hid hm1) (Lib.hid hx1) (Lib.hid hc1) e0 (by omega) e2 e3 e4 e5 e6 e7 k6 w) w), rparselat_err s (fun w => rsig2_err s ⟨#[78, 83]⟩ 78 83 L rfl rfl rfl z h0 hP (fun w => by rw [hT]; exact rang2_sixty T _ d m x c zT dT (Lib.hid rfl) (Lib.hid hd1) (Lib.hid hm1) (Lib.hid hx1) (Lib.hid hc1) e0 (by omega) e2 e3 e4 e5 e6 e7 k6 w) w)⟩
        · obtain ⟨hi, _⟩ := inv_sx2 T d m x c zT dT hd1 hm1 hx1 hc1 (by omega) (by omega)
          obtain ⟨a, ha⟩ : ∃ a, d * 360000 + m * 6000 + x * 100 + c = a := ⟨_, rfl⟩
          have a0 : 0 ≤ a := by omega
          have a1 : a ≤ 999999999 := by omega
          rw [ha] at hi
          have hs1 := psex2 T _ d m x c zT dT (Lib.hid rfl) (Lib.hid hd1) (Lib.hid hm1) (Lib.hid hx1) (Lib.hid hc1) e0 (by omega) e2 (by omega) e4 (by omega) e6 e7
          have hr1 := rang2_ok T _ d m x c zT dT (Lib.hid rfl) (Lib.hid hd1) (Lib.hid hm1) (Lib.hid hx1) (Lib.hid hc1) e0 (by omega) e2 e3 e4 e5 e6 e7 (by omega) (by omega)
          rw [ha] at hs1 hr1
          rcases hP with hP | hP
          · have hc : c0 = 78 := u8_of c0 78 (by rw [hL, hP]; rfl)
            have h0P : ((s[0]'(by omega)).toNat : Int) = 78 := by rw [h0, hP]
            by_cases kr : a ≤ 32400000
            · refine Or.inl ⟨a, by omega, kr, ?_, parselat_ok s a (fun w => psig2_pos s 78 83 a z h0P (fun w => by rw [hT]; exact hs1 w) w) (by omega) kr, rparselat_ok s a (fun w => rsig2_pos s ⟨#[78, 83]⟩ 78 83 L rfl rfl rfl a z h0 hP (by decide) (fun w => by rw [hT]; exact hr1 w) w) (by omega) kr⟩
              rw [show latS a = _ from if_neg (by omega), hi, cut, hc]
            · exact Or.inr ⟨2, Or.inl rfl, parselat_rng s (a) (fun w => psig2_pos s 78 83 a z h0P (fun w => by rw [hT]; exact hs1 w) w) (by omega), rparselat_rng s (a) (fun w => rsig2_pos s ⟨#[78, 83]⟩ 78 83 L rfl rfl rfl a z h0 hP (by decide) (fun w => by rw [hT]; exact hr1 w) w) (by omega)⟩
          · have hc : c0 = 83 := u8_of c0 83 (by rw [hL, hP]; rfl)
            have h0Q : ((s[0]'(by omega)).toNat : Int) = 83 := by rw [h0, hP]
            by_cases ka : a = 0
            · exact Or.inr ⟨4, Or.inr rfl, parselat_err s (fun w => psig2_zero s 78 83 a z h0Q (by decide) ka (fun w => by rw [hT]; exact hs1 w) w), rparselat_err s (fun w => rsig2_zero s ⟨#[78, 83]⟩ 78 83 L rfl rfl rfl a z h0 hP (by decide) ka (fun w => by rw [hT]; exact hr1 w) w)⟩
            · by_cases kr : -32400000 ≤ -a
              · refine Or.inl ⟨-a, kr, by omega, ?_, parselat_ok s (-a) (fun w => psig2_neg s 78 83 a z h0Q (by decide) (by omega) (by omega) (fun w => by rw [hT]; exact hs1 w) w) kr (by omega), rparselat_ok s (-a) (fun w => rsig2_neg s ⟨#[78, 83]⟩ 78 83 L rfl rfl rfl a z h0 hP (by decide) (by omega) (by omega) (fun w => by rw [hT]; exact hr1 w) w) kr (by omega)⟩
                rw [show latS (-a) = _ from if_pos (by omega), Int.neg_neg, hi, cut, hc]
              · exact Or.inr ⟨2, Or.inl rfl, parselat_rng s (-a) (fun w => psig2_neg s 78 83 a z h0Q (by decide) (by omega) (by omega) (fun w => by rw [hT]; exact hs1 w) w) (by omega), rparselat_rng s (-a) (fun w => rsig2_neg s ⟨#[78, 83]⟩ 78 83 L rfl rfl rfl a z h0 hP (by decide) (by omega) (by omega) (fun w => by rw [hT]; exact hr1 w) w) (by omega)⟩
      · exact Or.inr ⟨4, Or.inr rfl, parselat_err s (fun w => psig2_err s 78 83 L 9 z (by omega) h0 hP (fun w => by rw [hT]; exact psex2_no T zT dT w) w), rparselat_err s (fun w => rsig2_err s ⟨#[78, 83]⟩ 78 83 L rfl rfl rfl z h0 hP (fun w => by rw [hT]; exact rang2_no T zT dT w) w)⟩
    · exact Or.inr ⟨4, Or.inr rfl, parselat_err s (fun w => psig2_letter s 78 83 L (by omega) h0 (fun h => hP (Or.inl h)) (fun h => hP (Or.inr h)) w), rparselat_err s (fun w => rsig2_letter s ⟨#[78, 83]⟩ 78 83 L rfl rfl rfl z h0 (fun h => hP (Or.inl h)) (fun h => hP (Or.inr h)) w)⟩
  · obtain ⟨h1, h2⟩ := parselat_size s hm (by omega)
    exact Or.inr ⟨4, Or.inr rfl, h1, h2⟩
theorem parselon_err (s : ByteArray) (hx : ∀ w, Calls Try.prog 48 #[.string s, .int .u8 69, .int .u8 87, .int .i64 3] w fun e w' => e = .returned (.tuple #[.int .i64 0, .int .i64 4]) ∧ w = w')  (w : World) : Calls Try.prog 33 #[.string s] w fun e w' => e = .returned (.tuple #[.int .i64 0, .int .i64 4]) ∧ w = w' := by
  have HX := Lib.hid hx
  clear hx
  go_enter Try.func33, Try.ntmps33
  go_wp2_with (first | (go_at_call 48; refine (HX.out _).mono ?_; rintro e w' ⟨rfl, rfl⟩))
  all_goals go_ret2
  all_goals exact ⟨rfl, rfl⟩
theorem rparselon_err (s : ByteArray) (hx : ∀ w, Calls Try.prog 49 #[.string s, .string ⟨#[69, 87]⟩, .int .i64 3] w fun e w' => e = .returned (.tuple #[.int .i64 0, .bool false]) ∧ Dr w w')  (w : World) : Calls Try.prog 36 #[.string s] w fun e w' => e = .returned (.tuple #[.int .i64 0, .int .i64 4]) ∧ Dr w w' := by
  have HX := Lib.hid hx
  clear hx
  go_enter Try.func36, Try.ntmps36
  go_wp2_with (first | (go_at_call 49; refine (HX.out _).mono ?_; rintro e w' ⟨rfl, nd, rfl⟩))
  all_goals go_ret2
  all_goals exact ⟨rfl, (by repeat (first | exact Dr.refl _ | refine Dr.drewN ?_ _ | refine Dr.drew ?_))⟩
theorem parselon_ok (s : ByteArray) (a : Int) (hx : ∀ w, Calls Try.prog 48 #[.string s, .int .u8 69, .int .u8 87, .int .i64 3] w fun e w' => e = .returned (.tuple #[.int .i64 a, .int .i64 0]) ∧ w = w') (h0 : -64800000 < a) (h1 : a ≤ 64800000) (w : World) : Calls Try.prog 33 #[.string s] w fun e w' => e = .returned (.tuple #[.int .i64 a, .int .i64 0]) ∧ w = w' := by
  have HX := Lib.hid hx
  clear hx
  go_enter Try.func33, Try.ntmps33
  go_wp2_with (first | (go_at_call 48; refine (HX.out _).mono ?_; rintro e w' ⟨rfl, rfl⟩))
  all_goals go_ret2
  all_goals exact ⟨rfl, rfl⟩
theorem rparselon_ok (s : ByteArray) (a : Int) (hx : ∀ w, Calls Try.prog 49 #[.string s, .string ⟨#[69, 87]⟩, .int .i64 3] w fun e w' => e = .returned (.tuple #[.int .i64 a, .bool true]) ∧ Dr w w') (h0 : -64800000 < a) (h1 : a ≤ 64800000) (w : World) : Calls Try.prog 36 #[.string s] w fun e w' => e = .returned (.tuple #[.int .i64 a, .int .i64 0]) ∧ Dr w w' := by
  have HX := Lib.hid hx
  clear hx
  go_enter Try.func36, Try.ntmps36
  go_wp2_with (first | (go_at_call 49; refine (HX.out _).mono ?_; rintro e w' ⟨rfl, nd, rfl⟩))
  all_goals go_ret2
  all_goals exact ⟨rfl, (by repeat (first | exact Dr.refl _ | refine Dr.drewN ?_ _ | refine Dr.drew ?_))⟩
theorem parselon_rng (s : ByteArray) (a : Int) (hx : ∀ w, Calls Try.prog 48 #[.string s, .int .u8 69, .int .u8 87, .int .i64 3] w fun e w' => e = .returned (.tuple #[.int .i64 a, .int .i64 0]) ∧ w = w') (h : a ≤ -64800000 ∨ 64800000 < a) (w : World) : Calls Try.prog 33 #[.string s] w fun e w' => e = .returned (.tuple #[.int .i64 0, .int .i64 2]) ∧ w = w' := by
  have HX := Lib.hid hx
  clear hx
  rcases h with h | h
  all_goals
    go_enter Try.func33, Try.ntmps33
    go_wp2_with (first | (go_at_call 48; refine (HX.out _).mono ?_; rintro e w' ⟨rfl, rfl⟩))
    all_goals go_ret2
    all_goals exact ⟨rfl, rfl⟩
theorem rparselon_rng (s : ByteArray) (a : Int) (hx : ∀ w, Calls Try.prog 49 #[.string s, .string ⟨#[69, 87]⟩, .int .i64 3] w fun e w' => e = .returned (.tuple #[.int .i64 a, .bool true]) ∧ Dr w w') (h : a ≤ -64800000 ∨ 64800000 < a) (w : World) : Calls Try.prog 36 #[.string s] w fun e w' => e = .returned (.tuple #[.int .i64 0, .int .i64 2]) ∧ Dr w w' := by
  have HX := Lib.hid hx
  clear hx
  rcases h with h | h
  all_goals
    go_enter Try.func36, Try.ntmps36
    go_wp2_with (first | (go_at_call 49; refine (HX.out _).mono ?_; rintro e w' ⟨rfl, nd, rfl⟩))
    all_goals go_ret2
    all_goals exact ⟨rfl, (by repeat (first | exact Dr.refl _ | refine Dr.drewN ?_ _ | refine Dr.drew ?_))⟩
theorem parselon_size (s : ByteArray) (hm : s.size ≤ 9223372036854775807) (hz : s.size < 10 ∨ 10 < s.size) : (∀ w, Calls Try.prog 33 #[.string s] w fun e w' => e = .returned (.tuple #[.int .i64 0, .int .i64 4]) ∧ w = w') ∧ (∀ w, Calls Try.prog 36 #[.string s] w fun e w' => e = .returned (.tuple #[.int .i64 0, .int .i64 4]) ∧ Dr w w') := by
  refine ⟨parselon_err s (fun w => ?_), rparselon_err s (fun w => rsig3_size s ⟨#[69, 87]⟩ hm hz w)⟩
  by_cases z0 : s.size = 0
  · exact psig3_empty s 69 87 z0 w
  · by_cases hP : ((s[0]'(by omega)).toNat : Int) = 69 ∨ ((s[0]'(by omega)).toNat : Int) = 87
    · exact psig3_err s 69 87 _ s.size rfl (by omega) rfl hP (fun w => psex3_size _ (by rw [ByteArray.size_extract]; omega) (by rw [ByteArray.size_extract]; omega) w) w
    · exact psig3_letter s 69 87 _ (by omega) rfl (fun h => hP (Or.inl h)) (fun h => hP (Or.inr h)) w
theorem parselon_all (s : ByteArray) (hm : s.size ≤ 9223372036854775807) : (∃ a : Int, -64800000 < a ∧ a ≤ 64800000 ∧ lonS a = s ∧ (∀ w, Calls Try.prog 33 #[.string s] w fun e w' => e = .returned (.tuple #[.int .i64 a, .int .i64 0]) ∧ w = w') ∧ (∀ w, Calls Try.prog 36 #[.string s] w fun e w' => e = .returned (.tuple #[.int .i64 a, .int .i64 0]) ∧ Dr w w')) ∨ (∃ er : Int, (er = 2 ∨ er = 4) ∧ (∀ w, Calls Try.prog 33 #[.string s] w fun e w' => e = .returned (.tuple #[.int .i64 0, .int .i64 er]) ∧ w = w') ∧ (∀ w, Calls Try.prog 36 #[.string s] w fun e w' => e = .returned (.tuple #[.int .i64 0, .int .i64 er]) ∧ Dr w w')) := by
  by_cases z : s.size = 10
  · have cut := cut10 s z
    obtain ⟨c0, hc0⟩ : ∃ c, s[0]'(by omega) = c := ⟨_, rfl⟩
    obtain ⟨L, hL⟩ : ∃ L : Int, (c0.toNat : Int) = L := ⟨_, rfl⟩
    have h0 : ((s[0]'(by omega)).toNat : Int) = L := by rw [hc0]; exact hL
    obtain ⟨T, hT⟩ : ∃ T, s.extract 1 10 = T := ⟨_, rfl⟩
    have zT : T.size = 9 := by rw [← hT, ByteArray.size_extract]; omega
    rw [hc0, hT] at cut
    by_cases hP : L = 69 ∨ L = 87
    · by_cases dT : Dig T
      · obtain ⟨e0, e1, e2, e3, e4, e5, e6, e7⟩ := bds3 T zT dT
        obtain ⟨d, hd1⟩ : ∃ n, numL (T.extract 0 3).data.toList = n := ⟨_, rfl⟩
        obtain ⟨m, hm1⟩ : ∃ n, numL (T.extract 3 5).data.toList = n := ⟨_, rfl⟩
        obtain ⟨x, hx1⟩ : ∃ n, numL (T.extract 5 7).data.toList = n := ⟨_, rfl⟩
        obtain ⟨c, hc1⟩ : ∃ n, numL (T.extract 7 9).data.toList = n := ⟨_, rfl⟩
        rw [hd1] at e0 e1
        rw [hm1] at e2 e3
        rw [hx1] at e4 e5
        rw [hc1] at e6 e7
        by_cases k6 : 60 ≤ m ∨ 60 ≤ x
        · exact Or.inr ⟨4, Or.inr rfl, parselon_err s (fun w => psig3_err s 69 87 L 10 z (by omega) h0 hP (fun w => by rw [hT]; exact psex3_sixty T _ d m x c zT dT (Lib.hid rfl) (Lib.hid hd1) (Lib.hid hm1) (Lib.hid hx1) (Lib.hid hc1) e0 (by omega) e2 e3 e4 e5 e6 e7 k6 w) w), rparselon_err s (fun w => rsig3_err s ⟨#[69, 87]⟩ 69 87 L rfl rfl rfl z h0 hP (fun w => by rw [hT]; exact rang3_sixty T _ d m x c zT dT (Lib.hid rfl) (Lib.hid hd1) (Lib.hid hm1) (Lib.hid hx1) (Lib.hid hc1) e0 (by omega) e2 e3 e4 e5 e6 e7 k6 w) w)⟩
        · obtain ⟨hi, _⟩ := inv_sx3 T d m x c zT dT hd1 hm1 hx1 hc1 (by omega) (by omega)
          obtain ⟨a, ha⟩ : ∃ a, d * 360000 + m * 6000 + x * 100 + c = a := ⟨_, rfl⟩
          have a0 : 0 ≤ a := by omega
          have a1 : a ≤ 999999999 := by omega
          rw [ha] at hi
          have hs1 := psex3 T _ d m x c zT dT (Lib.hid rfl) (Lib.hid hd1) (Lib.hid hm1) (Lib.hid hx1) (Lib.hid hc1) e0 (by omega) e2 (by omega) e4 (by omega) e6 e7
          have hr1 := rang3_ok T _ d m x c zT dT (Lib.hid rfl) (Lib.hid hd1) (Lib.hid hm1) (Lib.hid hx1) (Lib.hid hc1) e0 (by omega) e2 e3 e4 e5 e6 e7 (by omega) (by omega)
          rw [ha] at hs1 hr1
          rcases hP with hP | hP
          · have hc : c0 = 69 := u8_of c0 69 (by rw [hL, hP]; rfl)
            have h0P : ((s[0]'(by omega)).toNat : Int) = 69 := by rw [h0, hP]
            by_cases kr : a ≤ 64800000
            · refine Or.inl ⟨a, by omega, kr, ?_, parselon_ok s a (fun w => psig3_pos s 69 87 a z h0P (fun w => by rw [hT]; exact hs1 w) w) (by omega) kr, rparselon_ok s a (fun w => rsig3_pos s ⟨#[69, 87]⟩ 69 87 L rfl rfl rfl a z h0 hP (by decide) (fun w => by rw [hT]; exact hr1 w) w) (by omega) kr⟩
              rw [show lonS a = _ from if_neg (by omega), hi, cut, hc]
            · exact Or.inr ⟨2, Or.inl rfl, parselon_rng s (a) (fun w => psig3_pos s 69 87 a z h0P (fun w => by rw [hT]; exact hs1 w) w) (by omega), rparselon_rng s (a) (fun w => rsig3_pos s ⟨#[69, 87]⟩ 69 87 L rfl rfl rfl a z h0 hP (by decide) (fun w => by rw [hT]; exact hr1 w) w) (by omega)⟩
          · have hc : c0 = 87 := u8_of c0 87 (by rw [hL, hP]; rfl)
            have h0Q : ((s[0]'(by omega)).toNat : Int) = 87 := by rw [h0, hP]
            by_cases ka : a = 0
            · exact Or.inr ⟨4, Or.inr rfl, parselon_err s (fun w => psig3_zero s 69 87 a z h0Q (by decide) ka (fun w => by rw [hT]; exact hs1 w) w), rparselon_err s (fun w => rsig3_zero s ⟨#[69, 87]⟩ 69 87 L rfl rfl rfl a z h0 hP (by decide) ka (fun w => by rw [hT]; exact hr1 w) w)⟩
            · by_cases kr : -64800000 < -a
              · refine Or.inl ⟨-a, kr, by omega, ?_, parselon_ok s (-a) (fun w => psig3_neg s 69 87 a z h0Q (by decide) (by omega) (by omega) (fun w => by rw [hT]; exact hs1 w) w) kr (by omega), rparselon_ok s (-a) (fun w => rsig3_neg s ⟨#[69, 87]⟩ 69 87 L rfl rfl rfl a z h0 hP (by decide) (by omega) (by omega) (fun w => by rw [hT]; exact hr1 w) w) kr (by omega)⟩
                rw [show lonS (-a) = _ from if_pos (by omega), Int.neg_neg, hi, cut, hc]
              · exact Or.inr ⟨2, Or.inl rfl, parselon_rng s (-a) (fun w => psig3_neg s 69 87 a z h0Q (by decide) (by omega) (by omega) (fun w => by rw [hT]; exact hs1 w) w) (by omega), rparselon_rng s (-a) (fun w => rsig3_neg s ⟨#[69, 87]⟩ 69 87 L rfl rfl rfl a z h0 hP (by decide) (by omega) (by omega) (fun w => by rw [hT]; exact hr1 w) w) (by omega)⟩
      · exact Or.inr ⟨4, Or.inr rfl, parselon_err s (fun w => psig3_err s 69 87 L 10 z (by omega) h0 hP (fun w => by rw [hT]; exact psex3_no T zT dT w) w), rparselon_err s (fun w => rsig3_err s ⟨#[69, 87]⟩ 69 87 L rfl rfl rfl z h0 hP (fun w => by rw [hT]; exact rang3_no T zT dT w) w)⟩
    · exact Or.inr ⟨4, Or.inr rfl, parselon_err s (fun w => psig3_letter s 69 87 L (by omega) h0 (fun h => hP (Or.inl h)) (fun h => hP (Or.inr h)) w), rparselon_err s (fun w => rsig3_letter s ⟨#[69, 87]⟩ 69 87 L rfl rfl rfl z h0 (fun h => hP (Or.inl h)) (fun h => hP (Or.inr h)) w)⟩
  · obtain ⟨h1, h2⟩ := parselon_size s hm (by omega)
    exact Or.inr ⟨4, Or.inr rfl, h1, h2⟩
end Go.Proofs.Ytofeijgcbjhkdaa
