/-
  Plain numbers of layer 7: the series in integers, their bounds.
-/
import Derived.Test.YtfpgdicacjkfoaaGreatDoorAnga
namespace Go.Proofs.YtfpgdicacjkfoaaGreatDoor
set_option linter.unusedVariables false
set_option linter.unusedSimpArgs false

def tms (x y : Int) : Int := (x * y + 1073741824) / 2147483648
def rad (a : Int) : Int := (a * 6746518852 + 32400000) / 64800000
def stp (u r n : Int) : Int := 2147483648 - (tms u r + n / 2) / n
def sser (u : Int) : Int := stp u (stp u (stp u (stp u (stp u 2147483648 110) 72) 42) 20) 6
def cser (u : Int) : Int := stp u (stp u (stp u (stp u (stp u 2147483648 90) 56) 30) 12) 2
def ssn (a : Int) : Int := (tms (rad a) (sser (tms (rad a) (rad a))) + 1) / 2
def csn (a : Int) : Int := (cser (tms (rad a) (rad a)) + 1) / 2
def qsn (a : Int) : Int := if a ≤ 16200000 then ssn a else csn (32400000 - a)
def sinV (a : Int) : Int := if nrm a ≤ 32400000 then qsn (nrm a) else if nrm a ≤ 64800000 then qsn (64800000 - nrm a) else if nrm a ≤ 97200000 then -qsn (nrm a - 64800000) else -qsn (129600000 - nrm a)
def cosV (a : Int) : Int := sinV (trn a 32400000)

theorem mul_bd (x y m n : Int) (h0 : 0 ≤ x) (h1 : x ≤ m) (h2 : 0 ≤ y) (h3 : y ≤ n) : 0 ≤ x * y ∧ x * y ≤ m * n :=
  ⟨Int.mul_nonneg h0 h2, Int.mul_le_mul h1 h3 h2 (by omega)⟩
theorem rad_bd (a : Int) (h0 : 0 ≤ a) (h1 : a ≤ 16200000) : 0 ≤ rad a ∧ rad a ≤ 1686629713 := by unfold rad; omega
theorem tms_one (u : Int) : tms u 2147483648 = u := by unfold tms; omega
theorem tms_bd (x y m : Int) (h0 : 0 ≤ x) (h1 : x ≤ m) (hm : m ≤ 2147483648) (h2 : 0 ≤ y) (h3 : y ≤ 2147483648) : 0 ≤ x * y ∧ x * y ≤ 4611686018427387904 ∧ 0 ≤ tms x y ∧ tms x y ≤ m := by
  obtain ⟨a, b⟩ := mul_bd x y m 2147483648 h0 h1 h2 h3
  unfold tms
  omega
theorem usq_bd (t : Int) (h0 : 0 ≤ t) (h1 : t ≤ 1686629713) : 0 ≤ t * t ∧ t * t ≤ 2844719788774462369 ∧ 0 ≤ tms t t ∧ tms t t ≤ 1324675879 := by
  obtain ⟨a, b⟩ := mul_bd t t 1686629713 1686629713 h0 h1 h0 h1
  unfold tms
  omega
theorem stp_bd (u r n : Int) (hu : 0 ≤ u) (hu1 : u ≤ 1324675879) (h0 : 0 ≤ r) (h1 : r ≤ 2147483648) (hn : 2 ≤ n) : 0 ≤ stp u r n ∧ stp u r n ≤ 2147483648 := by
  obtain ⟨a, b, c, d⟩ := tms_bd u r 1324675879 hu hu1 (by omega) h0 h1
  have e0 : 0 ≤ (tms u r + n / 2) / n := Int.ediv_nonneg (by omega) (by omega)
  have e1 : (tms u r + n / 2) / n ≤ tms u r + n / 2 := Int.ediv_le_self _ (by omega)
  have e2 : (tms u r + n / 2) / n ≤ 1324675879 := by
    rw [← Int.lt_add_one_iff, Int.ediv_lt_iff_lt_mul (by omega)]
    have : (1324675879 + 1) * 1 ≤ (1324675879 + 1) * (n - 1) := Int.mul_le_mul_of_nonneg_left (by omega) (by omega)
    rw [show (1324675879 + 1) * n = (1324675879 + 1) * (n - 1) + (1324675879 + 1) by rw [Int.mul_sub]; omega]
    omega
  unfold stp
  omega
theorem sser_bd (u : Int) (u0 : 0 ≤ u) (u1 : u ≤ 1324675879) : 0 ≤ sser u ∧ sser u ≤ 2147483648 := by
  unfold sser
  have s1 := stp_bd u 2147483648 110 u0 u1 (by omega) (by omega) (by omega)
  have s2 := stp_bd u _ 72 u0 u1 s1.1 s1.2 (by omega)
  have s3 := stp_bd u _ 42 u0 u1 s2.1 s2.2 (by omega)
  have s4 := stp_bd u _ 20 u0 u1 s3.1 s3.2 (by omega)
  exact stp_bd u _ 6 u0 u1 s4.1 s4.2 (by omega)
theorem cser_bd (u : Int) (u0 : 0 ≤ u) (u1 : u ≤ 1324675879) : 0 ≤ cser u ∧ cser u ≤ 2147483648 := by
  unfold cser
  have s1 := stp_bd u 2147483648 90 u0 u1 (by omega) (by omega) (by omega)
  have s2 := stp_bd u _ 56 u0 u1 s1.1 s1.2 (by omega)
  have s3 := stp_bd u _ 30 u0 u1 s2.1 s2.2 (by omega)
  have s4 := stp_bd u _ 12 u0 u1 s3.1 s3.2 (by omega)
  exact stp_bd u _ 2 u0 u1 s4.1 s4.2 (by omega)
theorem ssn_bd (a : Int) (h0 : 0 ≤ a) (h1 : a ≤ 16200000) : 0 ≤ ssn a ∧ ssn a ≤ 1073741824 := by
  obtain ⟨r0, r1⟩ := rad_bd a h0 h1
  obtain ⟨_, _, u0, u1⟩ := usq_bd (rad a) r0 r1
  unfold ssn sser
  generalize tms (rad a) (rad a) = u at *
  have s1 := stp_bd u 2147483648 110 u0 u1 (by omega) (by omega) (by omega)
  have s2 := stp_bd u _ 72 u0 u1 s1.1 s1.2 (by omega)
  have s3 := stp_bd u _ 42 u0 u1 s2.1 s2.2 (by omega)
  have s4 := stp_bd u _ 20 u0 u1 s3.1 s3.2 (by omega)
  have s5 := stp_bd u _ 6 u0 u1 s4.1 s4.2 (by omega)
  have s6 := tms_bd (rad a) _ 1686629713 r0 r1 (by omega) s5.1 s5.2
  omega
theorem csn_bd (a : Int) (h0 : 0 ≤ a) (h1 : a ≤ 16200000) : 0 ≤ csn a ∧ csn a ≤ 1073741824 := by
  obtain ⟨r0, r1⟩ := rad_bd a h0 h1
  obtain ⟨_, _, u0, u1⟩ := usq_bd (rad a) r0 r1
  unfold csn cser
  generalize tms (rad a) (rad a) = u at *
  have s1 := stp_bd u 2147483648 90 u0 u1 (by omega) (by omega) (by omega)
  have s2 := stp_bd u _ 56 u0 u1 s1.1 s1.2 (by omega)
  have s3 := stp_bd u _ 30 u0 u1 s2.1 s2.2 (by omega)
  have s4 := stp_bd u _ 12 u0 u1 s3.1 s3.2 (by omega)
  have s5 := stp_bd u _ 2 u0 u1 s4.1 s4.2 (by omega)
  omega
theorem qsn_bd (a : Int) (h0 : 0 ≤ a) (h1 : a ≤ 32400000) : 0 ≤ qsn a ∧ qsn a ≤ 1073741824 := by
  unfold qsn
  split
  · exact ssn_bd a h0 (by omega)
  · exact csn_bd _ (by omega) (by omega)
theorem sinV_bd (a : Int) : -1073741824 ≤ sinV a ∧ sinV a ≤ 1073741824 := by
  obtain ⟨n0, n1⟩ := nrm_bd a
  unfold sinV
  generalize nrm a = b at *
  split
  · have := qsn_bd b n0 (by omega); omega
  split
  · have := qsn_bd (64800000 - b) (by omega) (by omega); omega
  split
  · have := qsn_bd (b - 64800000) (by omega) (by omega); omega
  · have := qsn_bd (129600000 - b) (by omega) (by omega); omega
theorem cosV_bd (a : Int) : -1073741824 ≤ cosV a ∧ cosV a ≤ 1073741824 := sinV_bd _
/-! the search for the greatest number -/
def grt (p : Int → Bool) (lo hi : Int) : Int :=
  if h : lo < hi then (if p ((lo + hi + 1) / 2) then grt p ((lo + hi + 1) / 2) hi else grt p lo ((lo + hi + 1) / 2 - 1)) else lo
termination_by (hi - lo).toNat
decreasing_by all_goals omega
theorem grt_yes (p : Int → Bool) (lo hi : Int) (h : lo < hi) (hp : p ((lo + hi + 1) / 2) = true) : grt p lo hi = grt p ((lo + hi + 1) / 2) hi := by
  rw [grt, dif_pos h, if_pos hp]
theorem grt_no (p : Int → Bool) (lo hi : Int) (h : lo < hi) (hp : p ((lo + hi + 1) / 2) = false) : grt p lo hi = grt p lo ((lo + hi + 1) / 2 - 1) := by
  rw [grt, dif_pos h, if_neg (by simp [hp])]
theorem grt_end (p : Int → Bool) (lo hi : Int) (h : ¬ lo < hi) : grt p lo hi = lo := by
  rw [grt, dif_neg h]
theorem grt_ind (p : Int → Bool) (P : Int → Int → Int → Prop) (he : ∀ lo hi, lo = hi → P lo hi lo)
    (hy : ∀ lo hi r, lo < hi → p ((lo + hi + 1) / 2) = true → P ((lo + hi + 1) / 2) hi r → P lo hi r)
    (hn : ∀ lo hi r, lo < hi → p ((lo + hi + 1) / 2) = false → P lo ((lo + hi + 1) / 2 - 1) r → P lo hi r) :
    ∀ (n : Nat) (lo hi : Int), (hi - lo).toNat = n → lo ≤ hi → P lo hi (grt p lo hi) := by
  intro n
  induction n using Nat.strongRecOn with
  | _ n ih =>
    intro lo hi hd hl
    by_cases h : lo < hi
    · cases hp : p ((lo + hi + 1) / 2)
      · rw [grt_no p lo hi h hp]
        exact hn lo hi _ h hp (ih _ (by omega) lo _ rfl (by omega))
      · rw [grt_yes p lo hi h hp]
        exact hy lo hi _ h hp (ih _ (by omega) _ hi rfl (by omega))
    · rw [grt_end p lo hi h]
      exact he lo hi (by omega)
theorem grt_bd (p : Int → Bool) (lo hi : Int) (h : lo ≤ hi) : lo ≤ grt p lo hi ∧ grt p lo hi ≤ hi := by
  refine grt_ind p (fun a b r => a ≤ r ∧ r ≤ b) ?_ ?_ ?_ _ lo hi rfl h
  · intro a b e; omega
  · intro a b r h1 _ h2; omega
  · intro a b r h1 _ h2; omega
/-- the search finds x if p is true up to x and false behind it -/
theorem grt_is (p : Int → Bool) (x lo hi : Int) (h0 : lo ≤ x) (h1 : x ≤ hi) (ht : ∀ c, lo ≤ c → c ≤ x → p c = true) (hf : ∀ c, x < c → c ≤ hi → p c = false) : grt p lo hi = x := by
  have := grt_ind p (fun a b r => lo ≤ a → b ≤ hi → a ≤ x → x ≤ b → r = x) ?_ ?_ ?_ _ lo hi rfl (by omega)
  · exact this (by omega) (by omega) h0 h1
  · intro a b e _ _ _ _; omega
  · intro a b r h2 hp k h3 h4 h5 h6
    refine k (by omega) h4 ?_ h6
    rcases Int.lt_or_le x ((a + b + 1) / 2) with h | h
    · have := hf _ h (by omega); rw [hp] at this; cases this
    · exact h
  · intro a b r h2 hp k h3 h4 h5 h6
    refine k h3 (by omega) h5 ?_
    rcases Int.lt_or_le x ((a + b + 1) / 2) with h | h
    · omega
    · have := ht _ (by omega) h; rw [hp] at this; cases this
theorem grt_congr (p q : Int → Bool) (lo hi : Int) (h : lo ≤ hi) (he : ∀ c, lo ≤ c → c ≤ hi → p c = q c) : grt p lo hi = grt q lo hi := by
  have := grt_ind p (fun a b r => lo ≤ a → b ≤ hi → r = grt q a b) ?_ ?_ ?_ _ lo hi rfl h
  · exact this (by omega) (by omega)
  · intro a b e _ _; rw [grt_end q a b (by omega)]
  · intro a b r h2 hp k h3 h4
    rw [grt_yes q a b h2 (by rw [← he _ (by omega) (by omega)]; exact hp)]
    exact k (by omega) h4
  · intro a b r h2 hp k h3 h4
    rw [grt_no q a b h2 (by rw [← he _ (by omega) (by omega)]; exact hp)]
    exact k h3 (by omega)

def lesP (m n c : Int) : Bool := decide (ssn c * m ≤ qsn (32400000 - c) * n)
def les (m n : Int) : Int := grt (lesP m n) 0 16200000
def asP (s r c : Int) : Bool := decide (qsn c * r ≤ 1073741824 * s)
def asn (s r : Int) : Int := grt (asP s r) 0 32400000
theorem les_bd (m n : Int) : 0 ≤ les m n ∧ les m n ≤ 16200000 := grt_bd _ _ _ (by omega)
theorem asn_bd (s r : Int) : 0 ≤ asn s r ∧ asn s r ≤ 32400000 := grt_bd _ _ _ (by omega)
def smB (x : Int) : Bool := decide (-2147483647 ≤ x ∧ x ≤ 2147483647)
def iabs (x : Int) : Int := if x < 0 then -x else x
def at2Q (y x : Int) : Int := if iabs x < iabs y then 32400000 - les (iabs y) (iabs x) else les (iabs x) (iabs y)
def at2V (y x : Int) : Int := if ¬ (smB y ∧ smB x) then 0 else if x = 0 ∧ y = 0 then 0 else if x < 0 ∧ y < 0 then 64800000 + at2Q y x else if x < 0 then 64800000 - at2Q y x else if y < 0 then nrm (-at2Q y x) else at2Q y x
def at2E (y x : Int) : Int := if ¬ (smB y ∧ smB x) then 2 else if x = 0 ∧ y = 0 then 1 else 0
def asV (y r : Int) : Int := if r < 1 then 0 else if 2147483647 < r ∨ r < y ∨ y < -r then 0 else if y < 0 then -asn (-y) r else asn y r
def asE (y r : Int) : Int := if r < 1 then 1 else if 2147483647 < r ∨ r < y ∨ y < -r then 2 else 0
theorem at2Q_bd (y x : Int) : 0 ≤ at2Q y x ∧ at2Q y x ≤ 32400000 := by
  unfold at2Q
  split
  · have := les_bd (iabs y) (iabs x); omega
  · have := les_bd (iabs x) (iabs y); omega
theorem sinV_q (c : Int) (h0 : 0 ≤ c) (h1 : c ≤ 32400000) : sinV c = qsn c := by
  have e : nrm c = c := by unfold nrm; omega
  unfold sinV; rw [e, if_pos h1]
theorem cosV_q (c : Int) (h0 : 0 ≤ c) (h1 : c ≤ 32400000) : cosV c = qsn (32400000 - c) := by
  have e : nrm (trn c 32400000) = c + 32400000 := by unfold trn nrm; omega
  unfold cosV sinV
  rw [e]
  by_cases h : c = 0
  · subst h; rfl
  · rw [if_neg (by omega), if_pos (by omega)]
    congr 1; omega
theorem lesP_ref (m n c : Int) (h0 : 0 ≤ c) (h1 : c ≤ 16200000) : lesP m n c = decide (sinV c * m ≤ cosV c * n) := by
  rw [sinV_q c h0 (by omega), cosV_q c h0 (by omega)]
  unfold lesP qsn
  rw [if_pos h1]
end Go.Proofs.YtfpgdicacjkfoaaGreatDoor
