/-
  Own contracts: package fuel and the document's answers of layer 32: what is needed for flows one after the other.
-/
import Derived.Test.YtcchhmekmoekeaaFuelb
import Derived.Test.YtcchhmekmoekeaaSlice
import Derived.WalkKit
import Derived.ProofKit
import Derived.OpenShut
import Derived.WalkLawsBesides
import Derived.WalkSpells
import Derived.Lib.Hide
import Derived.Deep.DeepCutAuto
import Derived.Deep.CutBlock
import Derived.Deep.QuietTactic
import Derived.BigQuiet
import Derived.Handy
import Derived.StillTailTactics
import Derived.IntWalk
import Derived.LoopN
import Derived.Deep.RegionHeld3
namespace Go.Proofs.Ytcchhmekmoekeaa
open Go.ChangeShapes Go.WideShapes Go.ChangeAt Go.RowKit
set_option linter.unusedVariables false
set_option linter.unusedSimpArgs false

def ftB (f t : Int) : Bool := decide (0 ≤ f ∧ f ≤ 50000 ∧ 0 ≤ t ∧ t ≤ 1099511627776)
theorem ftB_yes {f t : Int} (h : ftB f t = true) : 0 ≤ f ∧ f ≤ 50000 ∧ 0 ≤ t ∧ t ≤ 1099511627776 := by unfold ftB at h; simpa using h
theorem ftB_no {f t : Int} (h : ftB f t = false) : f < 0 ∨ 50000 < f ∨ (0 ≤ f ∧ f ≤ 50000 ∧ (t < 0 ∨ 1099511627776 < t)) := by unfold ftB at h; simp at h; omega
def ndS (R : Int) (F T : Nat → Int) : Nat → Int | 0 => R | k + 1 => ndS R F T k + F k * T k
def okB (F T : Nat → Int) : Nat → Bool | 0 => true | k + 1 => okB F T k && ftB (F k) (T k)
def ndE (n m : Nat) (R : Int) (F T : Nat → Int) : Int := if n ≠ m then 1 else if 64 < n then 3 else if R < 0 ∨ 3000000000 < R then 2 else if okB F T n = false then 2 else if 3000000000 < ndS R F T n then 2 else 0
def ndV (n m : Nat) (R : Int) (F T : Nat → Int) : Int := if ndE n m R F T = 0 then ndS R F T n else 0
theorem okB_succ {F T : Nat → Int} {k : Nat} (h : okB F T (k + 1) = true) : okB F T k = true ∧ ftB (F k) (T k) = true := by simpa [okB] using h
theorem okB_le {F T : Nat → Int} {k n : Nat} (h : okB F T n = true) (hk : k ≤ n) : okB F T k = true := by
  induction n with
  | zero => obtain rfl : k = 0 := by omega
            exact h
  | succ n ih =>
    rcases Nat.lt_or_ge k (n + 1) with g | g
    · exact ih (okB_succ h).1 (by omega)
    · obtain rfl : k = n + 1 := by omega
      exact h
theorem okB_bad {F T : Nat → Int} {k n : Nat} (h : ftB (F k) (T k) = false) (hk : k < n) : okB F T n = false := by
  cases e : okB F T n with
  | false => rfl
  | true => have := (okB_succ (okB_le e hk)).2; rw [h] at this; cases this
theorem ndS_bd {R : Int} {F T : Nat → Int} (h0 : 0 ≤ R) (h1 : R ≤ 3000000000) : ∀ k : Nat, k ≤ 64 → okB F T k = true → 0 ≤ ndS R F T k ∧ ndS R F T k ≤ 3000000000 + k * 54975581388800000
  | 0, _, _ => by simp [ndS]; omega
  | k + 1, hk, h => by
    have g := okB_succ h
    have ih := ndS_bd h0 h1 k (by omega) g.1
    have p := FT.prod (f := F k) (t := T k) (ftB_yes g.2)
    simp only [ndS]
    have : ((k + 1 : Nat) : Int) = (k : Int) + 1 := by omega
    rw [this]
    omega
theorem ret2 {a b c d : Int} (h1 : a = c) (h2 : b = d) : Ending.returned (.tuple #[.int .i64 a, .int .i64 b]) = .returned (.tuple #[.int .i64 c, .int .i64 d]) := by rw [h1, h2]
set_option maxHeartbeats 1000000 in
theorem needed_w (p : Option Addr) (n c b o : Nat) (F : Nat → Int) (p2 : Option Addr) (m c2 b2 o2 : Nat) (T : Nat → Int) (R : Int) (R_0 : -9223372036854775808 ≤ R) (R_1 : R ≤ 9223372036854775807) (hn : n ≤ maxLen) (hm : m ≤ maxLen)
    (fb : ∀ i, i < n → -9223372036854775808 ≤ F i ∧ F i ≤ 9223372036854775807) (tb : ∀ i, i < m → -9223372036854775808 ≤ T i ∧ T i ≤ 9223372036854775807) (w : World)
    (hp : 0 < n → p = some ⟨b, o, none⟩) (hc : ∀ i, i < n → w.cell? ⟨b, o + i, none⟩ = some (.int .i64 (F i))) (hp2 : 0 < m → p2 = some ⟨b2, o2, none⟩) (hc2 : ∀ i, i < m → w.cell? ⟨b2, o2 + i, none⟩ = some (.int .i64 (T i))) :
    Calls Try.prog 28 #[.slice p n c, .slice p2 m c2, .int .i64 R] w fun e w' => e = .returned (.tuple #[.int .i64 (ndV n m R F T), .int .i64 (ndE n m R F T)]) ∧ w = w' := by
  unfold maxLen at hn hm
  have Hp := Lib.hid hp; have Hc := Lib.hid hc; have Hp2 := Lib.hid hp2; have Hc2 := Lib.hid hc2; have Fb := Lib.hid fb; have Tb := Lib.hid tb
  clear hp hc hp2 hc2 fb tb
  by_cases h1 : n = m
  · subst h1
    by_cases h2 : 64 < n
    · have E : Hid (ndE n n R F T = 3) := Lib.hid (by unfold ndE; rw [if_neg (by omega), if_pos h2])
      have V : Hid (ndV n n R F T = 0) := Lib.hid (by unfold ndV; rw [E.out]; rfl)
      rw [E.out, V.out]
      go_enter Try.func28, Try.ntmps28
      go_wp2_with (first | (go_at_call 30; (first | refine (within_yes _ _ _ (by omega) (by omega) _).mono ?_ | refine (within_lo _ _ _ (by omega) _).mono ?_ | refine (within_hi _ _ _ (by omega) _).mono ?_); rintro e w' ⟨rfl, rfl⟩) | (go_at_call 31; (first | refine (vflow_yes _ (by omega) (by omega) _).mono ?_ | refine (vflow_no _ (by omega) _).mono ?_); rintro e w' ⟨rfl, rfl⟩) | (go_at_call 32; (first | refine (vticks_yes _ (by omega) (by omega) _).mono ?_ | refine (vticks_no _ (by omega) _).mono ?_); rintro e w' ⟨rfl, rfl⟩))
      go_ret2
      exact ⟨rfl, rfl⟩
    · have h2' : n ≤ 64 := by omega
      clear h2
      by_cases h3 : R < 0 ∨ 3000000000 < R
      · have E : Hid (ndE n n R F T = 2) := Lib.hid (by unfold ndE; rw [if_neg (by omega), if_neg (by omega), if_pos h3])
        have V : Hid (ndV n n R F T = 0) := Lib.hid (by unfold ndV; rw [E.out]; rfl)
        rcases h3 with h3 | h3
        all_goals
          go_enter Try.func28, Try.ntmps28
          go_wp2_with (first | (go_at_call 30; (first | refine (within_yes _ _ _ (by omega) (by omega) _).mono ?_ | refine (within_lo _ _ _ (by omega) _).mono ?_ | refine (within_hi _ _ _ (by omega) _).mono ?_); rintro e w' ⟨rfl, rfl⟩) | (go_at_call 31; (first | refine (vflow_yes _ (by omega) (by omega) _).mono ?_ | refine (vflow_no _ (by omega) _).mono ?_); rintro e w' ⟨rfl, rfl⟩) | (go_at_call 32; (first | refine (vticks_yes _ (by omega) (by omega) _).mono ?_ | refine (vticks_no _ (by omega) _).mono ?_); rintro e w' ⟨rfl, rfl⟩))
          rw [E.out, V.out]
          go_ret2
          exact ⟨rfl, rfl⟩
      · have r0 : 0 ≤ R := by omega
        have r1 : R ≤ 3000000000 := by omega
        clear h3
        go_enter Try.func28, Try.ntmps28
        go_wp2_with (first | (go_at_call 30; (first | refine (within_yes _ _ _ (by omega) (by omega) _).mono ?_ | refine (within_lo _ _ _ (by omega) _).mono ?_ | refine (within_hi _ _ _ (by omega) _).mono ?_); rintro e w' ⟨rfl, rfl⟩) | (go_at_call 31; (first | refine (vflow_yes _ (by omega) (by omega) _).mono ?_ | refine (vflow_no _ (by omega) _).mono ?_); rintro e w' ⟨rfl, rfl⟩) | (go_at_call 32; (first | refine (vticks_yes _ (by omega) (by omega) _).mono ?_ | refine (vticks_no _ (by omega) _).mono ?_); rintro e w' ⟨rfl, rfl⟩))
        go_loop [8, 25] (fun s i => ∃ k : Nat, k ≤ n ∧ okB F T k = true ∧ i = .int .i64 k ∧ s = .int .i64 (ndS R F T k)) (fun _ i => n - (intOf i).toNat)
        case atStart => exact ⟨0, Nat.zero_le _, rfl, rfl, rfl⟩
        case round =>
          obtain ⟨k, hk, hok, rfl, rfl⟩ := hrel
          have sb := ndS_bd r0 r1 k (by omega) hok
          have OK := Lib.hid hok
          clear hok
          by_cases hlt : k < n
          · obtain ⟨x, hx⟩ : ∃ x, F k = x := ⟨_, rfl⟩
            obtain ⟨y, hy⟩ : ∃ y, T k = y := ⟨_, rfl⟩
            have c0 := Hc.out k hlt
            have d0 := Hc2.out k hlt
            obtain ⟨f0, f1⟩ := Fb.out k hlt
            obtain ⟨t0, t1⟩ := Tb.out k hlt
            rw [hx] at c0 f0 f1
            rw [hy] at d0 t0 t1
            have HX := Lib.hid hx
            have HY := Lib.hid hy
            clear hx hy
            obtain rfl := Hp.out (by omega)
            obtain rfl := Hp2.out (by omega)
            by_cases g : ftB x y = true
            · obtain ⟨g0, g1, g2, g3⟩ := ftB_yes g
              have G := Lib.hid g
              clear g
              obtain ⟨q0, q1⟩ := FT.prod (f := x) (t := y) ⟨g0, g1, g2, g3⟩
              generalize hs : ndS R F T k = s at sb ⊢
              have HS := Lib.hid hs
              clear hs
              go_wp2_with (first | (go_at_call 30; (first | refine (within_yes _ _ _ (by omega) (by omega) _).mono ?_ | refine (within_lo _ _ _ (by omega) _).mono ?_ | refine (within_hi _ _ _ (by omega) _).mono ?_); rintro e w' ⟨rfl, rfl⟩) | (go_at_call 31; (first | refine (vflow_yes _ (by omega) (by omega) _).mono ?_ | refine (vflow_no _ (by omega) _).mono ?_); rintro e w' ⟨rfl, rfl⟩) | (go_at_call 32; (first | refine (vticks_yes _ (by omega) (by omega) _).mono ?_ | refine (vticks_no _ (by omega) _).mono ?_); rintro e w' ⟨rfl, rfl⟩))
              exact ⟨⟨k + 1, by omega, by simp only [okB, OK.out, HX.out, HY.out, G.out]; rfl, by go_num, by simp only [ndS, HS.out, HX.out, HY.out]⟩, by simp [intOf]; omega⟩
            · have g' : ftB x y = false := by simpa using g
              have hb : okB F T n = false := okB_bad (k := k) (by rw [HX.out, HY.out]; exact g') hlt
              have HB := Lib.hid hb
              have gg := ftB_no g'
              clear g g' hb
              have E : Hid (ndE n n R F T = 2) := Lib.hid (by unfold ndE; rw [if_neg (by omega), if_neg (by omega), if_neg (by omega), if_pos HB.out])
              have V : Hid (ndV n n R F T = 0) := Lib.hid (by unfold ndV; rw [E.out]; rfl)
              rcases gg with g | g | ⟨g1, g2, g | g⟩
              all_goals
                go_wp2_with (first | (go_at_call 30; (first | refine (within_yes _ _ _ (by omega) (by omega) _).mono ?_ | refine (within_lo _ _ _ (by omega) _).mono ?_ | refine (within_hi _ _ _ (by omega) _).mono ?_); rintro e w' ⟨rfl, rfl⟩) | (go_at_call 31; (first | refine (vflow_yes _ (by omega) (by omega) _).mono ?_ | refine (vflow_no _ (by omega) _).mono ?_); rintro e w' ⟨rfl, rfl⟩) | (go_at_call 32; (first | refine (vticks_yes _ (by omega) (by omega) _).mono ?_ | refine (vticks_no _ (by omega) _).mono ?_); rintro e w' ⟨rfl, rfl⟩))
                rw [E.out, V.out]
                go_ret2
                exact ⟨rfl, rfl⟩
          · obtain rfl : k = n := by omega
            generalize hs : ndS R F T k = s at sb ⊢
            have HS := Lib.hid hs
            clear hs
            by_cases h4 : 3000000000 < s
            · have E : Hid (ndE k k R F T = 2) := Lib.hid (by unfold ndE; rw [if_neg (by omega), if_neg (by omega), if_neg (by omega), if_neg (by rw [OK.out]; decide), if_pos (by rw [HS.out]; exact h4)])
              have V : Hid (ndV k k R F T = 0) := Lib.hid (by unfold ndV; rw [E.out]; rfl)
              go_wp2_with (first | (go_at_call 30; (first | refine (within_yes _ _ _ (by omega) (by omega) _).mono ?_ | refine (within_lo _ _ _ (by omega) _).mono ?_ | refine (within_hi _ _ _ (by omega) _).mono ?_); rintro e w' ⟨rfl, rfl⟩) | (go_at_call 31; (first | refine (vflow_yes _ (by omega) (by omega) _).mono ?_ | refine (vflow_no _ (by omega) _).mono ?_); rintro e w' ⟨rfl, rfl⟩) | (go_at_call 32; (first | refine (vticks_yes _ (by omega) (by omega) _).mono ?_ | refine (vticks_no _ (by omega) _).mono ?_); rintro e w' ⟨rfl, rfl⟩))
              rw [E.out, V.out]
              go_ret2
              exact ⟨rfl, rfl⟩
            · have E : Hid (ndE k k R F T = 0) := Lib.hid (by unfold ndE; rw [if_neg (by omega), if_neg (by omega), if_neg (by omega), if_neg (by rw [OK.out]; decide), if_neg (by rw [HS.out]; exact h4)])
              have V : Hid (ndV k k R F T = s) := Lib.hid (by unfold ndV; rw [E.out]; rw [if_pos rfl, HS.out])
              go_wp2_with (first | (go_at_call 30; (first | refine (within_yes _ _ _ (by omega) (by omega) _).mono ?_ | refine (within_lo _ _ _ (by omega) _).mono ?_ | refine (within_hi _ _ _ (by omega) _).mono ?_); rintro e w' ⟨rfl, rfl⟩) | (go_at_call 31; (first | refine (vflow_yes _ (by omega) (by omega) _).mono ?_ | refine (vflow_no _ (by omega) _).mono ?_); rintro e w' ⟨rfl, rfl⟩) | (go_at_call 32; (first | refine (vticks_yes _ (by omega) (by omega) _).mono ?_ | refine (vticks_no _ (by omega) _).mono ?_); rintro e w' ⟨rfl, rfl⟩))
              rw [E.out, V.out]
              go_ret2
              exact ⟨rfl, rfl⟩
  · have E : Hid (ndE n m R F T = 1) := Lib.hid (by unfold ndE; rw [if_pos h1])
    have V : Hid (ndV n m R F T = 0) := Lib.hid (by unfold ndV; rw [E.out]; rfl)
    rw [E.out, V.out]
    have h1' : (n == m) = false := by simpa using h1
    have h1'' : (n != m) = true := by simpa using h1
    clear h1
    go_enter Try.func28, Try.ntmps28
    go_wp2_with (first | (go_at_call 30; (first | refine (within_yes _ _ _ (by omega) (by omega) _).mono ?_ | refine (within_lo _ _ _ (by omega) _).mono ?_ | refine (within_hi _ _ _ (by omega) _).mono ?_); rintro e w' ⟨rfl, rfl⟩) | (go_at_call 31; (first | refine (vflow_yes _ (by omega) (by omega) _).mono ?_ | refine (vflow_no _ (by omega) _).mono ?_); rintro e w' ⟨rfl, rfl⟩) | (go_at_call 32; (first | refine (vticks_yes _ (by omega) (by omega) _).mono ?_ | refine (vticks_no _ (by omega) _).mono ?_); rintro e w' ⟨rfl, rfl⟩))
    go_ret2
    exact ⟨rfl, rfl⟩
set_option maxHeartbeats 1000000 in
theorem ref_needed_w (p : Option Addr) (n c b o : Nat) (F : Nat → Int) (p2 : Option Addr) (m c2 b2 o2 : Nat) (T : Nat → Int) (R : Int) (R_0 : -9223372036854775808 ≤ R) (R_1 : R ≤ 9223372036854775807) (hn : n ≤ maxLen) (hm : m ≤ maxLen)
    (fb : ∀ i, i < n → -9223372036854775808 ≤ F i ∧ F i ≤ 9223372036854775807) (tb : ∀ i, i < m → -9223372036854775808 ≤ T i ∧ T i ≤ 9223372036854775807) (w : World)
    (hp : 0 < n → p = some ⟨b, o, none⟩) (hc : ∀ i, i < n → w.cell? ⟨b, o + i, none⟩ = some (.int .i64 (F i))) (hp2 : 0 < m → p2 = some ⟨b2, o2, none⟩) (hc2 : ∀ i, i < m → w.cell? ⟨b2, o2 + i, none⟩ = some (.int .i64 (T i))) :
    Calls Try.prog 29 #[.slice p n c, .slice p2 m c2, .int .i64 R] w fun e w' => e = .returned (.tuple #[.int .i64 (ndV n m R F T), .int .i64 (ndE n m R F T)]) ∧ Dr w w' := by
  unfold maxLen at hn hm
  have Hp := Lib.hid hp; have Hc := Lib.hid hc; have Hp2 := Lib.hid hp2; have Hc2 := Lib.hid hc2; have Fb := Lib.hid fb; have Tb := Lib.hid tb
  clear hp hc hp2 hc2 fb tb
  by_cases h1 : n = m
  · subst h1
    by_cases h2 : 64 < n
    · have E : Hid (ndE n n R F T = 3) := Lib.hid (by unfold ndE; rw [if_neg (by omega), if_pos h2])
      have V : Hid (ndV n n R F T = 0) := Lib.hid (by unfold ndV; rw [E.out]; rfl)
      rw [E.out, V.out]
      go_enter Try.func29, Try.ntmps29
      go_wp2_with fail
      go_ret2
      exact ⟨rfl, Dr.refl _⟩
    · have h2' : n ≤ 64 := by omega
      clear h2
      go_enter Try.func29, Try.ntmps29
      go_wp2_with fail
      go_loop [23] (fun i => ∃ k : Nat, k ≤ n ∧ okB F T k = true ∧ i = .int .i64 k) (fun i => n - (intOf i).toNat)
      case atStart => exact ⟨0, Nat.zero_le _, rfl, rfl⟩
      case round =>
        obtain ⟨k, hk, hok, rfl⟩ := hrel
        have OK := Lib.hid hok
        clear hok
        by_cases hlt : k < n
        · obtain ⟨x, hx⟩ : ∃ x, F k = x := ⟨_, rfl⟩
          obtain ⟨y, hy⟩ : ∃ y, T k = y := ⟨_, rfl⟩
          have c0 := Hc.out k hlt
          have d0 := Hc2.out k hlt
          obtain ⟨f0, f1⟩ := Fb.out k hlt
          obtain ⟨t0, t1⟩ := Tb.out k hlt
          rw [hx] at c0 f0 f1
          rw [hy] at d0 t0 t1
          have HX := Lib.hid hx
          have HY := Lib.hid hy
          clear hx hy
          obtain rfl := Hp.out (by omega)
          obtain rfl := Hp2.out (by omega)
          by_cases g : ftB x y = true
          · obtain ⟨g0, g1, g2, g3⟩ := ftB_yes g
            have G := Lib.hid g
            clear g
            go_wp2_with fail
            exact ⟨⟨k + 1, by omega, by simp only [okB, OK.out, HX.out, HY.out, G.out]; rfl, by go_num⟩, by simp [intOf]; omega⟩
          · have g' : ftB x y = false := by simpa using g
            have hb : okB F T n = false := okB_bad (k := k) (by rw [HX.out, HY.out]; exact g') hlt
            have HB := Lib.hid hb
            have gg := ftB_no g'
            clear g g' hb
            have E : Hid (ndE n n R F T = 2) := Lib.hid (by unfold ndE; rw [if_neg (by omega), if_neg (by omega), if_pos HB.out]; split <;> rfl)
            have V : Hid (ndV n n R F T = 0) := Lib.hid (by unfold ndV; rw [E.out]; rfl)
            rcases gg with g | g | ⟨g1, g2, g | g⟩
            all_goals
              go_wp2_with fail
              rw [E.out, V.out]
              go_ret2
              exact ⟨rfl, by first | exact Dr.refl _ | exact (Dr.refl _).drewN _⟩
        · obtain rfl : k = n := by omega
          by_cases h3 : R < 0 ∨ 3000000000 < R
          · have E : Hid (ndE k k R F T = 2) := Lib.hid (by unfold ndE; rw [if_neg (by omega), if_neg (by omega), if_pos h3])
            have V : Hid (ndV k k R F T = 0) := Lib.hid (by unfold ndV; rw [E.out]; rfl)
            rcases h3 with h3 | h3
            all_goals
              go_wp2_with fail
              rw [E.out, V.out]
              go_ret2
              exact ⟨rfl, by first | exact Dr.refl _ | exact (Dr.refl _).drewN _⟩
          · have r0 : 0 ≤ R := by omega
            have r1 : R ≤ 3000000000 := by omega
            clear h3
            go_wp2_with fail
            go_loopw [9, 62] (fun s i wr => ∃ j : Nat, j ≤ k ∧ i = .int .i64 j ∧ s = .int .i64 (ndS R F T j) ∧ Dr w wr) (fun _ i _ => k - (intOf i).toNat)
            case atStart => exact ⟨0, Nat.zero_le _, rfl, rfl, Dr.refl _⟩
            case round =>
              obtain ⟨j, hj, rfl, rfl, nd, rfl⟩ := hrel
              have sb := ndS_bd r0 r1 j (by omega) (okB_le OK.out hj)
              by_cases hlt : j < k
              · obtain ⟨x, hx⟩ : ∃ x, F j = x := ⟨_, rfl⟩
                obtain ⟨y, hy⟩ : ∃ y, T j = y := ⟨_, rfl⟩
                have c0 := Hc.out j hlt
                have d0 := Hc2.out j hlt
                obtain ⟨f0, f1⟩ := Fb.out j hlt
                obtain ⟨t0, t1⟩ := Tb.out j hlt
                rw [hx] at c0 f0 f1
                rw [hy] at d0 t0 t1
                have HX := Lib.hid hx
                have HY := Lib.hid hy
                clear hx hy
                obtain rfl := Hp.out (by omega)
                obtain rfl := Hp2.out (by omega)
                have gb := okB_succ (okB_le OK.out (show j + 1 ≤ k by omega))
                obtain ⟨g0, g1, g2, g3⟩ := ftB_yes gb.2
                rw [HX.out] at g0 g1
                rw [HY.out] at g2 g3
                clear gb
                obtain ⟨q0, q1⟩ := FT.prod (f := x) (t := y) ⟨g0, g1, g2, g3⟩
                generalize hs : ndS R F T j = s at sb ⊢
                have HS := Lib.hid hs
                clear hs
                go_wp2_with fail
                go_quiet (fail)
                go_wp2_with fail
                exact ⟨⟨j + 1, by omega, by go_num, by simp only [ndS, HS.out, HX.out, HY.out], (Dr.refl _).drewN _⟩, by simp [intOf]; omega⟩
              · obtain rfl : j = k := by omega
                generalize hs : ndS R F T j = s at sb ⊢
                have HS := Lib.hid hs
                clear hs
                by_cases h4 : 3000000000 < s
                · have E : Hid (ndE j j R F T = 2) := Lib.hid (by unfold ndE; rw [if_neg (by omega), if_neg (by omega), if_neg (by omega), if_neg (by rw [OK.out]; decide), if_pos (by rw [HS.out]; exact h4)])
                  have V : Hid (ndV j j R F T = 0) := Lib.hid (by unfold ndV; rw [E.out]; rfl)
                  go_wp2_with fail
                  rw [E.out, V.out]
                  go_ret2
                  exact ⟨rfl, by first | exact Dr.refl _ | exact (Dr.refl _).drewN _⟩
                · have E : Hid (ndE j j R F T = 0) := Lib.hid (by unfold ndE; rw [if_neg (by omega), if_neg (by omega), if_neg (by omega), if_neg (by rw [OK.out]; decide), if_neg (by rw [HS.out]; exact h4)])
                  have V : Hid (ndV j j R F T = s) := Lib.hid (by unfold ndV; rw [E.out]; rw [if_pos rfl, HS.out])
                  go_wp2_with fail
                  rw [E.out, V.out]
                  go_ret2
                  exact ⟨rfl, by first | exact Dr.refl _ | exact (Dr.refl _).drewN _⟩
  · have E : Hid (ndE n m R F T = 1) := Lib.hid (by unfold ndE; rw [if_pos h1])
    have V : Hid (ndV n m R F T = 0) := Lib.hid (by unfold ndV; rw [E.out]; rfl)
    rw [E.out, V.out]
    have h1' : (n == m) = false := by simpa using h1
    have h1'' : (n != m) = true := by simpa using h1
    clear h1
    go_enter Try.func29, Try.ntmps29
    go_wp2_with fail
    go_ret2
    exact ⟨rfl, Dr.refl _⟩
end Go.Proofs.Ytcchhmekmoekeaa
