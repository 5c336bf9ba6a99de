/-
  Own contracts: layer 30: the numbers of the air, plain.
-/
import Derived.Test.YtfkgghjinkmpiaaDoorAirm
import Derived.WalkKit
import Derived.ProofKit
import Derived.OpenShut
import Derived.WalkLawsBesides
import Derived.WalkSpells
import Derived.Lib.Hide
import Derived.Deep.DeepCutAuto
import Derived.Deep.CutBlock
import Derived.Deep.QuietTactic
import Derived.BigQuiet
import Derived.Handy
import Derived.StillTailTactics
import Derived.IntWalk
import Derived.LoopN
import Derived.Deep.RegionHeld3
namespace Go.Proofs.YtfkgghjinkmpiaaDoor
open Go.ChangeShapes Go.WideShapes Go.ChangeAt Go.RowKit
set_option linter.unusedVariables false
set_option linter.unusedSimpArgs false
def rE (a d : Int) : Int := if a < -200000 ∨ 6000000 < a then 2 else if d < -4000 ∨ 4000 < d then 1 else 0
def tE (c a d : Int) : Int := if c < 0 ∨ 1000 < c then 1 else rE a d
def tV (c a d : Int) : Int := if tE c a d = 0 then c * ratD a d / 1000000 else 0
def mE (t a d : Int) : Int := if t < 0 ∨ 4000 < t then 1 else rE a d
def mV (t a d : Int) : Int := if mE t a d = 0 then 16000 * t / snd a d else 0
def oE (m a d : Int) : Int := if m < 0 ∨ 2000 < m then 1 else rE a d
def oV (m a d : Int) : Int := if oE m a d = 0 then (m * snd a d + 15999) / 16000 else 0
def hE (c m a d : Int) : Int := if (c < 0 ∨ 1000 < c) ∨ (m < 0 ∨ 2000 < m) then 1 else rE a d
def hV (c m a d : Int) : Int := if hE c m a d = 0 then min (c * ratD a d / 1000000) ((m * snd a d + 15999) / 16000) else 0
def Ok2 (a d : Int) : Prop := -200000 ≤ a ∧ a ≤ 6000000 ∧ -4000 ≤ d ∧ d ≤ 4000
theorem rE_ok {a d : Int} (h : rE a d = 0) : Ok2 a d := by
  unfold rE at h
  unfold Ok2
  split at h
  · omega
  · split at h <;> omega
theorem rE_of {a d : Int} (h : Ok2 a d) : rE a d = 0 := by
  obtain ⟨h1, h2, h3, h4⟩ := h
  unfold rE; rw [if_neg (by omega), if_neg (by omega)]
theorem rE_cases (a d : Int) : rE a d = 0 ∨ rE a d = 1 ∨ rE a d = 2 := by
  unfold rE; split
  · omega
  · split <;> omega
theorem ratD_bd {a d : Int} (h : Ok2 a d) : 900000 ≤ ratD a d ∧ ratD a d ≤ 3500000 := by
  obtain ⟨h1, h2, h3, h4⟩ := h
  obtain ⟨r0, r1⟩ := rat_bd a h1 h2
  have m0 : 971400 * (57630 + -4000) ≤ rat a * (57630 + d) := Int.mul_le_mul r0 (by omega) (by omega) (by omega)
  have m1 : rat a * (57630 + d) ≤ 3259100 * (57630 + 4000) := Int.mul_le_mul r1 (by omega) (by omega) (by omega)
  unfold ratD
  generalize rat a * (57630 + d) = X at *
  omega
theorem ratD_mono {a b d e : Int} (h : Ok2 a d) (k : Ok2 b e) (hab : a ≤ b) (hde : d ≤ e) : ratD a d ≤ ratD b e := by
  obtain ⟨h1, h2, h3, h4⟩ := h
  obtain ⟨k1, k2, k3, k4⟩ := k
  have r := rat_mono a b h1 hab k2
  have r0 := (rat_bd a h1 h2).1
  have r1 := (rat_bd b k1 k2).1
  have m : rat a * (57630 + d) ≤ rat b * (57630 + e) := Int.mul_le_mul r (by omega) (by omega) (by omega)
  unfold ratD
  exact Int.ediv_le_ediv (by omega) m
theorem tmp_in {a d : Int} (h : Ok2 a d) : 17665 ≤ tmp a + d ∧ tmp a + d ≤ 33211 := by
  obtain ⟨h1, h2, h3, h4⟩ := h
  obtain ⟨r0, r1⟩ := tmp_bd a h1 h2
  omega
theorem snd_mono {a b d e : Int} (h : Ok2 a d) (k : Ok2 b e) (hx : tmp a + d ≤ tmp b + e) : snd a d ≤ snd b e := by
  have t0 := tmp_in h
  have t1 := tmp_in k
  unfold snd
  exact isq_mono _ _ (by omega) (by omega) (by omega)
theorem snd_bd {a d : Int} (h : Ok2 a d) : 8000 ≤ snd a d ∧ snd a d ≤ 12000 := by
  have t0 := tmp_in h
  unfold snd
  have i0 : isq 64000000 = 8000 := by decide +kernel
  have i1 : isq 144000000 = 12000 := by decide +kernel
  have j0 := isq_mono 64000000 (388734 * (tmp a + d) / 100) (by omega) (by omega) (by omega)
  have j1 := isq_mono (388734 * (tmp a + d) / 100) 144000000 (by omega) (by omega) (by omega)
  omega
/-- the least number of which a rising predicate holds -/
structure Lst (p : Int → Bool) (lo hi V : Int) : Prop where
  l : lo ≤ V
  h : V ≤ hi
  no : ∀ x, lo ≤ x → x < V → p x = false
  yes : ∀ x, V ≤ x → x ≤ hi → p x = true
theorem lst_ex (p : Int → Bool) (lo hi : Int) (h : lo ≤ hi) (hm : ∀ x y, lo ≤ x → x ≤ y → y ≤ hi → p x = true → p y = true) (ht : p hi = true) : ∃ V, Lst p lo hi V := by
  have main : ∀ (n : Nat) (y : Int), lo ≤ y → y ≤ hi → (y - lo).toNat = n → p y = true → ∃ V, lo ≤ V ∧ V ≤ y ∧ p V = true ∧ ∀ x, lo ≤ x → x < V → p x = false := by
    intro n
    induction n with
    | zero => intro y h0 h1 h2 hp; exact ⟨y, h0, by omega, hp, fun x a b => by omega⟩
    | succ n ih =>
      intro y h0 h1 h2 hp
      cases hq : p (y - 1) with
      | true =>
        obtain ⟨V, a, b, c, d⟩ := ih (y - 1) (by omega) (by omega) (by omega) hq
        exact ⟨V, a, by omega, c, d⟩
      | false =>
        refine ⟨y, h0, by omega, hp, fun x a b => ?_⟩
        cases hx : p x with
        | false => rfl
        | true => have := hm x (y - 1) a (by omega) (by omega) hx; rw [hq] at this; cases this
  obtain ⟨V, a, b, c, d⟩ := main _ hi h (Int.le_refl _) rfl ht
  exact ⟨V, a, b, d, fun x e g => hm V x a e g c⟩
theorem lst_at (p : Int → Bool) (lo hi V : Int) (hm : ∀ x y, lo ≤ x → x ≤ y → y ≤ hi → p x = true → p y = true) (h0 : lo ≤ V) (h1 : V ≤ hi) (hy : p V = true) (hn : lo = V ∨ p (V - 1) = false) : Lst p lo hi V := by
  refine ⟨h0, h1, fun x a b => ?_, fun x a b => hm V x h0 a b hy⟩
  rcases hn with hn | hn
  · omega
  · cases hx : p x with
    | false => rfl
    | true => have := hm x (V - 1) a (by omega) (by omega) hx; rw [hn] at this; cases this
def casP (t a d : Int) (c : Int) : Bool := decide (t ≤ tV c a d)
def croP (c m d : Int) (a : Int) : Bool := decide (m ≤ mV (tV c a d) a d)
theorem tV_ok {c a d : Int} (c0 : 0 ≤ c) (c1 : c ≤ 1000) (h : Ok2 a d) : tE c a d = 0 ∧ tV c a d = c * ratD a d / 1000000 := by
  have e : tE c a d = 0 := by unfold tE; rw [if_neg (by omega)]; exact rE_of h
  exact ⟨e, by unfold tV; rw [if_pos e]⟩
theorem mV_ok {t a d : Int} (c0 : 0 ≤ t) (c1 : t ≤ 4000) (h : Ok2 a d) : mE t a d = 0 ∧ mV t a d = 16000 * t / snd a d := by
  have e : mE t a d = 0 := by unfold mE; rw [if_neg (by omega)]; exact rE_of h
  exact ⟨e, by unfold mV; rw [if_pos e]⟩
theorem oV_ok {m a d : Int} (c0 : 0 ≤ m) (c1 : m ≤ 2000) (h : Ok2 a d) : oE m a d = 0 ∧ oV m a d = (m * snd a d + 15999) / 16000 := by
  have e : oE m a d = 0 := by unfold oE; rw [if_neg (by omega)]; exact rE_of h
  exact ⟨e, by unfold oV; rw [if_pos e]⟩
theorem hV_ok {c m a d : Int} (c0 : 0 ≤ c) (c1 : c ≤ 1000) (m0 : 0 ≤ m) (m1 : m ≤ 2000) (h : Ok2 a d) : hE c m a d = 0 ∧ hV c m a d = min (tV c a d) (oV m a d) := by
  have e : hE c m a d = 0 := by unfold hE; rw [if_neg (by omega)]; exact rE_of h
  exact ⟨e, by unfold hV; rw [if_pos e, (tV_ok c0 c1 h).2, (oV_ok m0 m1 h).2]⟩
theorem cr_bd {c a d : Int} (c0 : 0 ≤ c) (c1 : c ≤ 1000) (h : Ok2 a d) : 0 ≤ c * ratD a d ∧ c * ratD a d ≤ 3500000000 := by
  obtain ⟨r0, r1⟩ := ratD_bd h
  have m0 : 0 ≤ c * ratD a d := Int.mul_nonneg c0 (by omega)
  have m1 : c * ratD a d ≤ 1000 * 3500000 := Int.mul_le_mul c1 r1 (by omega) (by omega)
  omega
theorem tV_bd {c a d : Int} (c0 : 0 ≤ c) (c1 : c ≤ 1000) (h : Ok2 a d) : 0 ≤ tV c a d ∧ tV c a d ≤ 3500 := by
  rw [(tV_ok c0 c1 h).2]
  have := cr_bd c0 c1 h
  omega
theorem ms_bd {m a d : Int} (m0 : 0 ≤ m) (m1 : m ≤ 2000) (h : Ok2 a d) : 0 ≤ m * snd a d ∧ m * snd a d ≤ 24000000 := by
  obtain ⟨r0, r1⟩ := snd_bd h
  have a0 : 0 ≤ m * snd a d := Int.mul_nonneg m0 (by omega)
  have a1 : m * snd a d ≤ 2000 * 12000 := Int.mul_le_mul m1 r1 (by omega) (by omega)
  omega
theorem mV_bd {t a d : Int} (c0 : 0 ≤ t) (c1 : t ≤ 4000) (h : Ok2 a d) : 0 ≤ mV t a d ∧ mV t a d ≤ 8000 := by
  rw [(mV_ok c0 c1 h).2]
  obtain ⟨r0, r1⟩ := snd_bd h
  constructor
  · exact Int.ediv_nonneg (by omega) (by omega)
  · have : 16000 * t / snd a d < 8001 := Int.ediv_lt_of_lt_mul (by omega) (by
      have : 8001 * 8000 ≤ 8001 * snd a d := Int.mul_le_mul_of_nonneg_left r0 (by omega)
      omega)
    omega
theorem oV_bd {m a d : Int} (m0 : 0 ≤ m) (m1 : m ≤ 2000) (h : Ok2 a d) : 0 ≤ oV m a d ∧ oV m a d ≤ 1501 := by
  rw [(oV_ok m0 m1 h).2]
  have := ms_bd m0 m1 h
  omega
theorem cas_mono {t a d : Int} (h : Ok2 a d) : ∀ x y, 0 ≤ x → x ≤ y → y ≤ 1000 → casP t a d x = true → casP t a d y = true := by
  intro x y x0 xy y1 hx
  unfold casP at *
  rw [decide_eq_true_eq] at *
  rw [(tV_ok x0 (by omega) h).2] at hx
  rw [(tV_ok (by omega) y1 h).2]
  have r := (ratD_bd h).1
  have m : x * ratD a d ≤ y * ratD a d := Int.mul_le_mul_of_nonneg_right xy (by omega)
  have := Int.ediv_le_ediv (c := 1000000) (by omega) m
  omega
theorem mach_mono {t u a b d e : Int} (t0 : 0 ≤ t) (u1 : u ≤ 4000) (htu : t ≤ u) (h : Ok2 a d) (k : Ok2 b e) (hx : snd b e ≤ snd a d) : mV t a d ≤ mV u b e := by
  rw [(mV_ok t0 (by omega) h).2, (mV_ok (by omega) u1 k).2]
  obtain ⟨r0, r1⟩ := snd_bd h
  obtain ⟨s0, s1⟩ := snd_bd k
  have a1 : 16000 * t / snd a d ≤ 16000 * u / snd a d := Int.ediv_le_ediv (by omega) (by omega)
  have a2 : 16000 * u / snd a d ≤ 16000 * u / snd b e := by
    rw [Int.le_ediv_iff_mul_le (by omega)]
    have q := Int.ediv_mul_le (16000 * u) (b := snd a d) (by omega)
    have q0 : 0 ≤ 16000 * u / snd a d := Int.ediv_nonneg (by omega) (by omega)
    have m : 16000 * u / snd a d * snd b e ≤ 16000 * u / snd a d * snd a d := Int.mul_le_mul_of_nonneg_left hx q0
    omega
  omega
theorem tas_mono {c c' a b d e : Int} (c0 : 0 ≤ c) (hc : c ≤ c') (c1 : c' ≤ 1000) (h : Ok2 a d) (k : Ok2 b e) (hab : a ≤ b) (hde : d ≤ e) : tV c a d ≤ tV c' b e := by
  rw [(tV_ok c0 (by omega) h).2, (tV_ok (by omega) c1 k).2]
  have r := ratD_mono h k hab hde
  have r0 := (ratD_bd h).1
  have m : c * ratD a d ≤ c' * ratD b e := Int.mul_le_mul hc r (by omega) (by omega)
  exact Int.ediv_le_ediv (by omega) m
theorem cro_mono {c m d : Int} (c0 : 0 ≤ c) (c1 : c ≤ 1000) (d0 : -4000 ≤ d) (d1 : d ≤ 4000) : ∀ x y, -200000 ≤ x → x ≤ y → y ≤ 6000000 → croP c m d x = true → croP c m d y = true := by
  intro x y x0 xy y1 hx
  have h : Ok2 x d := ⟨x0, by omega, d0, d1⟩
  have k : Ok2 y d := ⟨by omega, y1, d0, d1⟩
  unfold croP at *
  rw [decide_eq_true_eq] at *
  have tm := tmp_mono x y x0 xy y1
  have b1 := tV_bd c0 c1 h
  have b2 := tV_bd c0 c1 k
  have := mach_mono b1.1 (by omega) (tas_mono c0 (Int.le_refl _) c1 h k xy (Int.le_refl _)) h k (snd_mono k h (by omega))
  omega
theorem of_mach {m t a d : Int} (m0 : 0 ≤ m) (m1 : m ≤ 2000) (t0 : 0 ≤ t) (t1 : t ≤ 4000) (h : Ok2 a d) : m ≤ mV t a d ↔ oV m a d ≤ t := by
  rw [(mV_ok t0 t1 h).2, (oV_ok m0 m1 h).2]
  obtain ⟨r0, r1⟩ := snd_bd h
  rw [Int.le_ediv_iff_mul_le (by omega)]
  omega
theorem o_mono {m m' a d e : Int} (m0 : 0 ≤ m) (hm : m ≤ m') (m1 : m' ≤ 2000) (h : Ok2 a d) (k : Ok2 a e) (hde : d ≤ e) : oV m a d ≤ oV m' a e := by
  rw [(oV_ok m0 (by omega) h).2, (oV_ok (by omega) m1 k).2]
  have s := snd_mono h k (by omega)
  have s0 := (snd_bd h).1
  have q : m * snd a d ≤ m' * snd a e := Int.mul_le_mul hm s (by omega) (by omega)
  generalize m * snd a d = X at *; generalize m' * snd a e = Y at *
  omega
end Go.Proofs.YtfkgghjinkmpiaaDoor
