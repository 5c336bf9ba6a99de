/-
  Plain numbers of layer 7: symmetries, rising, the inverse of the sine.
-/
import Derived.Test.YtfpgdicacjkfoaaGreatDoorTrgn
namespace Go.Proofs.YtfpgdicacjkfoaaGreatDoor
set_option linter.unusedVariables false
set_option linter.unusedSimpArgs false

theorem qsn_0 : qsn 0 = 0 := by decide +kernel
theorem sin1 (b : Int) (h0 : 0 ≤ b) (h1 : b ≤ 32400000) : sinV b = qsn b := sinV_q b h0 h1
theorem sin2 (b : Int) (h0 : 32400000 ≤ b) (h1 : b ≤ 64800000) : sinV b = qsn (64800000 - b) := by
  have e : nrm b = b := by unfold nrm; omega
  by_cases h : b = 32400000
  · subst h; exact sinV_q _ (by omega) (by omega)
  · unfold sinV; rw [e, if_neg (by omega), if_pos h1]
theorem sin3 (b : Int) (h0 : 64800000 ≤ b) (h1 : b ≤ 97200000) : sinV b = -qsn (b - 64800000) := by
  have e : nrm b = b := by unfold nrm; omega
  by_cases h : b = 64800000
  · subst h; decide +kernel
  · unfold sinV; rw [e, if_neg (by omega), if_neg (by omega), if_pos h1]
theorem sin4 (b : Int) (h0 : 97200000 ≤ b) (h1 : b ≤ 129600000) : sinV b = -qsn (129600000 - b) := by
  by_cases h : b = 97200000
  · subst h; exact sin3 _ (by omega) (by omega)
  by_cases h' : b = 129600000
  · subst h'; decide +kernel
  have e : nrm b = b := by unfold nrm; omega
  unfold sinV; rw [e, if_neg (by omega), if_neg (by omega), if_neg (by omega)]
theorem sin_nrm (a b : Int) (h : nrm a = nrm b) : sinV a = sinV b := by unfold sinV; rw [h]
theorem sin_per (a : Int) : sinV (nrm a) = sinV a := sin_nrm _ _ (by unfold nrm; omega)
theorem cong {a b : Int} (h : a = b) : qsn a = qsn b := by rw [h]
theorem congn {a b : Int} (h : a = b) : -qsn a = -qsn b := by rw [h]
theorem sin_neg (b : Int) (h0 : 0 ≤ b) (h1 : b < 129600000) : sinV (-b) = -sinV b := by
  rw [sin_nrm (-b) (129600000 - b) (by unfold nrm; omega)]
  rcases (show b ≤ 32400000 ∨ (32400000 ≤ b ∧ b ≤ 64800000) ∨ (64800000 ≤ b ∧ b ≤ 97200000) ∨ 97200000 ≤ b by omega) with h | h | h | h
  · rw [sin4 _ (by omega) (by omega), sin1 b h0 h]; exact congn (by omega)
  · rw [sin3 _ (by omega) (by omega), sin2 b h.1 h.2]; exact congn (by omega)
  · rw [sin2 _ (by omega) (by omega), sin3 b h.1 h.2, Int.neg_neg]; exact cong (by omega)
  · rw [sin1 _ (by omega) (by omega), sin4 b h (by omega), Int.neg_neg]
theorem sin_half (b : Int) (h0 : 0 ≤ b) (h1 : b < 129600000) : sinV (64800000 - b) = sinV b := by
  rcases (show b ≤ 32400000 ∨ (32400000 ≤ b ∧ b ≤ 64800000) ∨ (64800000 ≤ b ∧ b ≤ 97200000) ∨ 97200000 ≤ b by omega) with h | h | h | h
  · rw [sin2 _ (by omega) (by omega), sin1 b h0 h]; exact cong (by omega)
  · rw [sin1 _ (by omega) (by omega), sin2 b h.1 h.2]
  · rw [sin_nrm (64800000 - b) (64800000 - b + 129600000) (by unfold nrm; omega), sin4 _ (by omega) (by omega), sin3 b h.1 h.2]; exact congn (by omega)
  · rw [sin_nrm (64800000 - b) (64800000 - b + 129600000) (by unfold nrm; omega), sin3 _ (by omega) (by omega), sin4 b h (by omega)]; exact congn (by omega)
theorem sin_plus (b : Int) (h0 : 0 ≤ b) (h1 : b < 129600000) : sinV (b + 64800000) = -sinV b := by
  rcases (show b ≤ 32400000 ∨ (32400000 ≤ b ∧ b ≤ 64800000) ∨ (64800000 ≤ b ∧ b ≤ 97200000) ∨ 97200000 ≤ b by omega) with h | h | h | h
  · rw [sin3 _ (by omega) (by omega), sin1 b h0 h]; exact congn (by omega)
  · rw [sin4 _ (by omega) (by omega), sin2 b h.1 h.2]; exact congn (by omega)
  · rw [sin_nrm (b + 64800000) (b - 64800000) (by unfold nrm; omega), sin1 _ (by omega) (by omega), sin3 b h.1 h.2, Int.neg_neg]
  · rw [sin_nrm (b + 64800000) (b - 64800000) (by unfold nrm; omega), sin2 _ (by omega) (by omega), sin4 b h (by omega), Int.neg_neg]; exact cong (by omega)
theorem cos_as (a : Int) : cosV a = sinV (nrm a + 32400000) := by unfold cosV; exact sin_nrm _ _ (by unfold trn nrm; omega)
theorem cos_neg (b : Int) (h0 : 0 ≤ b) (h1 : b < 129600000) : cosV (-b) = cosV b := by
  have e : cosV (-b) = sinV (32400000 - b) := by unfold cosV; exact sin_nrm _ _ (by unfold trn nrm; omega)
  have e2 : cosV b = sinV (b + 32400000) := by unfold cosV; exact sin_nrm _ _ (by unfold trn nrm; omega)
  rw [e, e2]
  rcases (show b ≤ 32400000 ∨ (32400000 ≤ b ∧ b ≤ 64800000) ∨ (64800000 ≤ b ∧ b ≤ 97200000) ∨ 97200000 ≤ b by omega) with h | h | h | h
  · rw [sin1 _ (by omega) (by omega), sin2 _ (by omega) (by omega)]; exact cong (by omega)
  · rw [sin_nrm (32400000 - b) (32400000 - b + 129600000) (by unfold nrm; omega), sin4 _ (by omega) (by omega), sin3 _ (by omega) (by omega)]; exact congn (by omega)
  · rw [sin_nrm (32400000 - b) (32400000 - b + 129600000) (by unfold nrm; omega), sin3 _ (by omega) (by omega), sin4 _ (by omega) (by omega)]; exact congn (by omega)
  · rw [sin_nrm (32400000 - b) (32400000 - b + 129600000) (by unfold nrm; omega), sin2 _ (by omega) (by omega), sin_nrm (b + 32400000) (b + 32400000 - 129600000) (by unfold nrm; omega), sin1 _ (by omega) (by omega)]; exact cong (by omega)
theorem cos_per (a : Int) : cosV (nrm a) = cosV a := by unfold cosV; exact sin_nrm _ _ (by unfold trn nrm; omega)

/-! how far the series move -/
theorem tms_lip (u1 u2 r1 r2 d e : Int) (a0 : 0 ≤ u2) (a1 : u2 ≤ 2147483648) (b0 : 0 ≤ r1) (b1 : r1 ≤ 2147483648) (hd : 0 ≤ d) (he : 0 ≤ e)
    (h1 : u2 - u1 ≤ e) (h2 : u1 - u2 ≤ e) (k1 : r2 - r1 ≤ d) (k2 : r1 - r2 ≤ d) : tms u2 r2 - tms u1 r1 ≤ d + e ∧ tms u1 r1 - tms u2 r2 ≤ d + e := by
  have e1 : u2 * (r2 - r1) ≤ u2 * d := Int.mul_le_mul_of_nonneg_left k1 a0
  have e2 : u2 * (r1 - r2) ≤ u2 * d := Int.mul_le_mul_of_nonneg_left k2 a0
  have e3 : u2 * d ≤ 2147483648 * d := Int.mul_le_mul_of_nonneg_right a1 hd
  have e4 : (u2 - u1) * r1 ≤ e * r1 := Int.mul_le_mul_of_nonneg_right h1 b0
  have e5 : (u1 - u2) * r1 ≤ e * r1 := Int.mul_le_mul_of_nonneg_right h2 b0
  have e6 : e * r1 ≤ e * 2147483648 := Int.mul_le_mul_of_nonneg_left b1 he
  rw [Int.mul_sub] at e1 e2
  rw [Int.sub_mul] at e4 e5
  unfold tms
  omega
theorem sser_lip (u1 u2 : Int) (a0 : 0 ≤ u1) (a1 : u1 ≤ 1324675879) (b0 : 0 ≤ u2) (b1 : u2 ≤ 1324675879) (h1 : u2 - u1 ≤ 166) (h2 : u1 ≤ u2) : sser u1 - sser u2 ≤ 30 ∧ sser u2 - sser u1 ≤ 30 := by
  unfold sser
  have s1 := stp_bd u1 2147483648 110 a0 a1 (by omega) (by omega) (by omega)
  have t1 := stp_bd u2 2147483648 110 b0 b1 (by omega) (by omega) (by omega)
  have d1 : stp u2 2147483648 110 - stp u1 2147483648 110 ≤ 2 ∧ stp u1 2147483648 110 - stp u2 2147483648 110 ≤ 2 := by unfold stp; rw [tms_one, tms_one]; omega
  generalize stp u1 2147483648 110 = x1 at *
  generalize stp u2 2147483648 110 = y1 at *
  have s2 := stp_bd u1 x1 72 a0 a1 s1.1 s1.2 (by omega)
  have t2 := stp_bd u2 y1 72 b0 b1 t1.1 t1.2 (by omega)
  have d2 : stp u2 y1 72 - stp u1 x1 72 ≤ 3 ∧ stp u1 x1 72 - stp u2 y1 72 ≤ 3 := by
    have := tms_lip u1 u2 x1 y1 2 166 b0 (by omega) s1.1 s1.2 (by omega) (by omega) (by omega) (by omega) (by omega) (by omega)
    unfold stp; omega
  generalize stp u1 x1 72 = x2 at *
  generalize stp u2 y1 72 = y2 at *
  have s3 := stp_bd u1 x2 42 a0 a1 s2.1 s2.2 (by omega)
  have t3 := stp_bd u2 y2 42 b0 b1 t2.1 t2.2 (by omega)
  have d3 : stp u2 y2 42 - stp u1 x2 42 ≤ 5 ∧ stp u1 x2 42 - stp u2 y2 42 ≤ 5 := by
    have := tms_lip u1 u2 x2 y2 3 166 b0 (by omega) s2.1 s2.2 (by omega) (by omega) (by omega) (by omega) (by omega) (by omega)
    unfold stp; omega
  generalize stp u1 x2 42 = x3 at *
  generalize stp u2 y2 42 = y3 at *
  have s4 := stp_bd u1 x3 20 a0 a1 s3.1 s3.2 (by omega)
  have t4 := stp_bd u2 y3 20 b0 b1 t3.1 t3.2 (by omega)
  have d4 : stp u2 y3 20 - stp u1 x3 20 ≤ 9 ∧ stp u1 x3 20 - stp u2 y3 20 ≤ 9 := by
    have := tms_lip u1 u2 x3 y3 5 166 b0 (by omega) s3.1 s3.2 (by omega) (by omega) (by omega) (by omega) (by omega) (by omega)
    unfold stp; omega
  generalize stp u1 x3 20 = x4 at *
  generalize stp u2 y3 20 = y4 at *
  have := tms_lip u1 u2 x4 y4 9 166 b0 (by omega) s4.1 s4.2 (by omega) (by omega) (by omega) (by omega) (by omega) (by omega)
  unfold stp; omega
theorem sser_lo (u : Int) (u0 : 0 ≤ u) (u1 : u ≤ 1324675879) : 1926704335 ≤ sser u := by
  unfold sser
  have s1 := stp_bd u 2147483648 110 u0 u1 (by omega) (by omega) (by omega)
  have s2 := stp_bd u _ 72 u0 u1 s1.1 s1.2 (by omega)
  have s3 := stp_bd u _ 42 u0 u1 s2.1 s2.2 (by omega)
  have s4 := stp_bd u _ 20 u0 u1 s3.1 s3.2 (by omega)
  generalize stp u (stp u (stp u (stp u 2147483648 110) 72) 42) 20 = r at *
  have := tms_bd u r 1324675879 u0 u1 (by omega) s4.1 s4.2
  unfold stp; omega
theorem ssn_step (a : Int) (h0 : 0 ≤ a) (h1 : a < 16200000) : ssn a + 34 ≤ ssn (a + 1) := by
  obtain ⟨r0, r1⟩ := rad_bd a h0 (by omega)
  obtain ⟨q0, q1⟩ := rad_bd (a + 1) (by omega) (by omega)
  have hd : 104 ≤ rad (a + 1) - rad a ∧ rad (a + 1) - rad a ≤ 105 := by unfold rad; omega
  obtain ⟨_, _, u0, u1⟩ := usq_bd (rad a) r0 r1
  obtain ⟨_, _, v0, v1⟩ := usq_bd (rad (a + 1)) q0 q1
  unfold ssn
  generalize rad a = t at *
  generalize rad (a + 1) = s at *
  have e1 : (s - t) * (s + t) ≤ 105 * (s + t) := Int.mul_le_mul_of_nonneg_right hd.2 (by omega)
  have e0 : 0 ≤ (s - t) * (s + t) := Int.mul_nonneg (by omega) (by omega)
  rw [Int.sub_mul, Int.mul_add, Int.mul_add, Int.mul_comm t s] at e1 e0
  have hu : tms s s - tms t t ≤ 166 ∧ tms t t ≤ tms s s := by unfold tms; omega
  have hl := sser_lip _ _ u0 u1 v0 v1 hu.1 hu.2
  have hr := sser_lo _ v0 v1
  generalize sser (tms t t) = x at *
  generalize sser (tms s s) = y at *
  have f1 : 104 * y ≤ (s - t) * y := Int.mul_le_mul_of_nonneg_right hd.1 (by omega)
  have f2 : t * (x - y) ≤ t * 30 := Int.mul_le_mul_of_nonneg_left hl.1 r0
  rw [Int.sub_mul] at f1
  rw [Int.mul_sub] at f2
  have : tms t x + 69 ≤ tms s y := by unfold tms; omega
  omega
theorem ssn_mono (a : Int) (h0 : 0 ≤ a) : ∀ n : Nat, a + n ≤ 16200000 → ssn a + 34 * n ≤ ssn (a + n)
  | 0, _ => by simp
  | n + 1, h => by
    have h1 := ssn_mono a h0 n (by omega)
    have h2 := ssn_step (a + n) (by omega) (by omega)
    rw [show a + ((n + 1 : Nat) : Int) = a + n + 1 by omega]
    omega
theorem ssn_lt (a b : Int) (h0 : 0 ≤ a) (h : a < b) (h1 : b ≤ 16200000) : ssn a < ssn b := by
  have := ssn_mono a h0 (b - a).toNat (by omega)
  rw [show a + ((b - a).toNat : Int) = b by omega] at this
  omega
theorem cser_step (u : Int) (u0 : 0 ≤ u) (u1 : u < 1324675879) : cser (u + 1) ≤ cser u := by
  unfold cser
  have s1 := stp_bd u 2147483648 90 u0 (by omega) (by omega) (by omega) (by omega)
  have t1 := stp_bd (u + 1) 2147483648 90 (by omega) (by omega) (by omega) (by omega) (by omega)
  have d1 : stp (u + 1) 2147483648 90 - stp u 2147483648 90 ≤ 1 ∧ stp u 2147483648 90 - stp (u + 1) 2147483648 90 ≤ 1 := by unfold stp; rw [tms_one, tms_one]; omega
  generalize stp u 2147483648 90 = x1 at *
  generalize stp (u + 1) 2147483648 90 = y1 at *
  have s2 := stp_bd u x1 56 u0 (by omega) s1.1 s1.2 (by omega)
  have t2 := stp_bd (u + 1) y1 56 (by omega) (by omega) t1.1 t1.2 (by omega)
  have d2 : stp (u + 1) y1 56 - stp u x1 56 ≤ 1 ∧ stp u x1 56 - stp (u + 1) y1 56 ≤ 1 := by
    have := tms_lip u (u + 1) x1 y1 1 1 (by omega) (by omega) s1.1 s1.2 (by omega) (by omega) (by omega) (by omega) (by omega) (by omega)
    unfold stp; omega
  generalize stp u x1 56 = x2 at *
  generalize stp (u + 1) y1 56 = y2 at *
  have s3 := stp_bd u x2 30 u0 (by omega) s2.1 s2.2 (by omega)
  have t3 := stp_bd (u + 1) y2 30 (by omega) (by omega) t2.1 t2.2 (by omega)
  have d3 : stp (u + 1) y2 30 - stp u x2 30 ≤ 1 ∧ stp u x2 30 - stp (u + 1) y2 30 ≤ 1 := by
    have := tms_lip u (u + 1) x2 y2 1 1 (by omega) (by omega) s2.1 s2.2 (by omega) (by omega) (by omega) (by omega) (by omega) (by omega)
    unfold stp; omega
  generalize stp u x2 30 = x3 at *
  generalize stp (u + 1) y2 30 = y3 at *
  have s4 := stp_bd u x3 12 u0 (by omega) s3.1 s3.2 (by omega)
  have t4 := stp_bd (u + 1) y3 12 (by omega) (by omega) t3.1 t3.2 (by omega)
  have d4 : stp (u + 1) y3 12 - stp u x3 12 ≤ 1 ∧ stp u x3 12 - stp (u + 1) y3 12 ≤ 1 := by
    have := tms_lip u (u + 1) x3 y3 1 1 (by omega) (by omega) s3.1 s3.2 (by omega) (by omega) (by omega) (by omega) (by omega) (by omega)
    unfold stp; omega
  have lo : 2000000000 ≤ stp (u + 1) y3 12 := by
    have := tms_bd (u + 1) y3 1324675879 (by omega) (by omega) (by omega) t3.1 t3.2
    unfold stp; omega
  generalize stp u x3 12 = x4 at *
  generalize stp (u + 1) y3 12 = y4 at *
  have e : u * (x4 - y4) ≤ u * 1 := Int.mul_le_mul_of_nonneg_left d4.2 u0
  rw [Int.mul_sub] at e
  have : tms u x4 ≤ tms (u + 1) y4 := by unfold tms; rw [Int.add_mul]; omega
  unfold stp; omega
theorem cser_mono (u : Int) (u0 : 0 ≤ u) : ∀ n : Nat, u + n ≤ 1324675879 → cser (u + n) ≤ cser u
  | 0, _ => by simp
  | n + 1, h => by
    have h1 := cser_mono u u0 n (by omega)
    have h2 := cser_step (u + n) (by omega) (by omega)
    rw [show u + ((n + 1 : Nat) : Int) = u + n + 1 by omega]
    omega
theorem csn_mono (a b : Int) (h0 : 0 ≤ a) (h : a ≤ b) (h1 : b ≤ 16200000) : csn b ≤ csn a := by
  obtain ⟨r0, r1⟩ := rad_bd a h0 (by omega)
  obtain ⟨q0, q1⟩ := rad_bd b (by omega) (by omega)
  have hd : rad a ≤ rad b := by unfold rad; omega
  obtain ⟨_, _, u0, u1⟩ := usq_bd (rad a) r0 r1
  obtain ⟨_, _, v0, v1⟩ := usq_bd (rad b) q0 q1
  have hm : rad a * rad a ≤ rad b * rad b := Int.mul_le_mul hd hd r0 q0
  have hu : tms (rad a) (rad a) ≤ tms (rad b) (rad b) := by unfold tms; omega
  unfold csn
  generalize tms (rad a) (rad a) = u at *
  generalize tms (rad b) (rad b) = v at *
  have := cser_mono u u0 (v - u).toNat (by omega)
  rw [show u + ((v - u).toNat : Int) = v by omega] at this
  omega
theorem joint : ssn 16200000 < csn 16199999 := by decide +kernel
theorem qsn_lt (a b : Int) (h0 : 0 ≤ a) (ha : a ≤ 16200000) (h : a < b) (h1 : b ≤ 32400000) : qsn a < qsn b := by
  unfold qsn
  rw [if_pos ha]
  split
  · exact ssn_lt a b h0 h (by assumption)
  · have h2 : ssn a ≤ ssn 16200000 := by
      by_cases e : a = 16200000
      · rw [e]; omega
      · exact Int.le_of_lt (ssn_lt a _ h0 (by omega) (by omega))
    have h3 := joint
    have h4 := csn_mono (32400000 - b) 16199999 (by omega) (by omega) (by omega)
    omega
theorem qsn_le (a b : Int) (h0 : 0 ≤ a) (h : a ≤ b) (h1 : b ≤ 32400000) : qsn a ≤ qsn b := by
  by_cases e : a = b
  · rw [e]; omega
  by_cases ha : a ≤ 16200000
  · exact Int.le_of_lt (qsn_lt a b h0 ha (by omega) h1)
  · unfold qsn
    rw [if_neg ha, if_neg (by omega)]
    exact csn_mono _ _ (by omega) (by omega) (by omega)
theorem qsn_pos (a : Int) (h0 : 0 < a) (h1 : a ≤ 32400000) : 0 < qsn a := by
  have := qsn_lt 0 a (by omega) (by omega) h0 h1
  rw [qsn_0] at this; exact this

/-! the arc of a sine -/
theorem les_self (m : Int) (h0 : 0 ≤ m) : les m m = 16200000 := by
  refine grt_is _ _ _ _ (by omega) (by omega) ?_ ?_
  · intro c c0 c1
    have h := qsn_le c (32400000 - c) c0 (by omega) (by omega)
    have e : qsn c = ssn c := by unfold qsn; rw [if_pos c1]
    rw [e] at h
    unfold lesP
    exact decide_eq_true (Int.mul_le_mul_of_nonneg_right h h0)
  · intro c c0 c1; omega
theorem les_of (b : Int) (h0 : 0 ≤ b) (h1 : b ≤ 16200000) : les (qsn (32400000 - b)) (qsn b) = b := by
  have eb : qsn b = ssn b := by unfold qsn; rw [if_pos h1]
  have kp := qsn_pos (32400000 - b) (by omega) (by omega)
  obtain ⟨s0, s1⟩ := qsn_bd b h0 (by omega)
  refine grt_is _ _ _ _ h0 h1 ?_ ?_
  · intro c c0 c1
    have ec : qsn c = ssn c := by unfold qsn; rw [if_pos (by omega)]
    have g1 := qsn_le c b c0 c1 (by omega)
    have g2 := qsn_le (32400000 - b) (32400000 - c) (by omega) (by omega) (by omega)
    unfold lesP
    rw [← ec]
    refine decide_eq_true ?_
    have a1 : qsn c * qsn (32400000 - b) ≤ qsn b * qsn (32400000 - b) := Int.mul_le_mul_of_nonneg_right g1 (by omega)
    have a2 : qsn b * qsn (32400000 - b) ≤ qsn b * qsn (32400000 - c) := Int.mul_le_mul_of_nonneg_left g2 s0
    rw [Int.mul_comm (qsn (32400000 - c))]
    omega
  · intro c c0 c1
    have ec : qsn c = ssn c := by unfold qsn; rw [if_pos (by omega)]
    have g1 := qsn_lt b c h0 h1 c0 (by omega)
    have g2 := qsn_le (32400000 - c) (32400000 - b) (by omega) (by omega) (by omega)
    unfold lesP
    rw [← ec]
    refine decide_eq_false ?_
    have a1 : (qsn b + 1) * qsn (32400000 - b) ≤ qsn c * qsn (32400000 - b) := Int.mul_le_mul_of_nonneg_right (by omega) (by omega)
    have a2 : qsn b * qsn (32400000 - c) ≤ qsn b * qsn (32400000 - b) := Int.mul_le_mul_of_nonneg_left g2 s0
    rw [Int.add_mul] at a1
    rw [Int.mul_comm (qsn (32400000 - c))]
    omega
theorem at2Q_iabs (y x u v : Int) (hy : iabs y = iabs u) (hx : iabs x = iabs v) : at2Q y x = at2Q u v := by unfold at2Q; rw [hy, hx]
theorem iabs_pos (x : Int) (h : 0 ≤ x) : iabs x = x := by unfold iabs; rw [if_neg (by omega)]
theorem iabs_neg (x : Int) (h : x ≤ 0) : iabs x = -x := by unfold iabs; split <;> omega
theorem iabs_flip (x : Int) : iabs (-x) = iabs x := by unfold iabs; split <;> split <;> omega
theorem at2Q_of (b : Int) (h0 : 0 ≤ b) (h1 : b ≤ 32400000) : at2Q (qsn b) (qsn (32400000 - b)) = b := by
  obtain ⟨s0, s1⟩ := qsn_bd b h0 h1
  obtain ⟨k0, k1⟩ := qsn_bd (32400000 - b) (by omega) (by omega)
  unfold at2Q
  rw [iabs_pos _ s0, iabs_pos _ k0]
  by_cases hb : b ≤ 16200000
  · have := qsn_le b (32400000 - b) h0 (by omega) (by omega)
    rw [if_neg (by omega)]
    exact les_of b h0 hb
  · have := qsn_lt (32400000 - b) b (by omega) (by omega) (by omega) h1
    rw [if_pos this]
    have := les_of (32400000 - b) (by omega) (by omega)
    rw [show (32400000 : Int) - (32400000 - b) = b by omega] at this
    rw [this]; omega
theorem smB_of (x : Int) (h0 : -2147483647 ≤ x) (h1 : x ≤ 2147483647) : smB x = true := by unfold smB; simp; omega
theorem at2_good (y x : Int) (sy : smB y = true) (sx : smB x = true) (hz : ¬ (x = 0 ∧ y = 0)) : at2E y x = 0 ∧ at2V y x = if x < 0 ∧ y < 0 then 64800000 + at2Q y x else if x < 0 then 64800000 - at2Q y x else if y < 0 then nrm (-at2Q y x) else at2Q y x := by
  unfold at2E at2V; rw [sy, sx]; simp [hz]
theorem at2_sincos (a : Int) : at2V (sinV a) (cosV a) = nrm a ∧ at2E (sinV a) (cosV a) = 0 := by
  rw [← sin_per a, ← cos_per a]
  obtain ⟨n0, n1⟩ := nrm_bd a
  generalize nrm a = b at *
  have hb := sinV_bd b
  have hc := cosV_bd b
  have ec : cosV b = sinV (b + 32400000) := by rw [cos_as]; exact sin_nrm _ _ (by unfold nrm; omega)
  have sm1 := smB_of (sinV b) (by omega) (by omega)
  have sm2 := smB_of (cosV b) (by omega) (by omega)
  have go : ∀ q, 0 ≤ q → q ≤ 32400000 → iabs (sinV b) = qsn q → iabs (cosV b) = qsn (32400000 - q) → at2Q (sinV b) (cosV b) = q ∧ ¬ (cosV b = 0 ∧ sinV b = 0) := by
    intro q q0 q1 h1 h2
    have p0 := qsn_bd q q0 q1
    have p1 := qsn_bd (32400000 - q) (by omega) (by omega)
    refine ⟨(at2Q_iabs _ _ _ _ (by rw [h1, iabs_pos _ p0.1]) (by rw [h2, iabs_pos _ p1.1])).trans (at2Q_of q q0 q1), ?_⟩
    intro ⟨z1, z2⟩
    rw [z1, iabs_pos 0 (by omega)] at h2
    rw [z2, iabs_pos 0 (by omega)] at h1
    by_cases hq : q = 0
    · have := qsn_pos (32400000 - q) (by omega) (by omega); omega
    · have := qsn_pos q (by omega) q1; omega
  rcases (show b ≤ 32400000 ∨ (32400000 < b ∧ b ≤ 64800000) ∨ (64800000 < b ∧ b < 97200000) ∨ 97200000 ≤ b by omega) with h | h | h | h
  · have es : sinV b = qsn b := sin1 b n0 h
    have ek : cosV b = qsn (32400000 - b) := cosV_q b n0 h
    have p0 := qsn_bd b n0 h
    have p1 := qsn_bd (32400000 - b) (by omega) (by omega)
    obtain ⟨g1, g2⟩ := go b n0 h (by rw [es]; exact iabs_pos _ p0.1) (by rw [ek]; exact iabs_pos _ p1.1)
    obtain ⟨f1, f2⟩ := at2_good _ _ sm1 sm2 g2
    rw [f2, g1, if_neg (by omega), if_neg (by omega), if_neg (by omega)]
    exact ⟨rfl, f1⟩
  · have es : sinV b = qsn (64800000 - b) := sin2 b (by omega) h.2
    have ek : cosV b = -qsn (32400000 - (64800000 - b)) := by rw [ec, sin3 _ (by omega) (by omega)]; exact congn (by omega)
    have p0 := qsn_bd (64800000 - b) (by omega) (by omega)
    have p1 := qsn_pos (32400000 - (64800000 - b)) (by omega) (by omega)
    obtain ⟨g1, g2⟩ := go (64800000 - b) (by omega) (by omega) (by rw [es]; exact iabs_pos _ p0.1) (by rw [ek, iabs_neg _ (by omega), Int.neg_neg])
    obtain ⟨f1, f2⟩ := at2_good _ _ sm1 sm2 g2
    rw [f2, g1, if_neg (by omega), if_pos (by omega)]
    exact ⟨by omega, f1⟩
  · have es : sinV b = -qsn (b - 64800000) := sin3 b (by omega) (by omega)
    have ek : cosV b = -qsn (32400000 - (b - 64800000)) := by rw [ec, sin4 _ (by omega) (by omega)]; exact congn (by omega)
    have p0 := qsn_pos (b - 64800000) (by omega) (by omega)
    have p1 := qsn_pos (32400000 - (b - 64800000)) (by omega) (by omega)
    obtain ⟨g1, g2⟩ := go (b - 64800000) (by omega) (by omega) (by rw [es, iabs_neg _ (by omega), Int.neg_neg]) (by rw [ek, iabs_neg _ (by omega), Int.neg_neg])
    obtain ⟨f1, f2⟩ := at2_good _ _ sm1 sm2 g2
    rw [f2, g1, if_pos ⟨by omega, by omega⟩]
    exact ⟨by omega, f1⟩
  · have es : sinV b = -qsn (129600000 - b) := sin4 b h (by omega)
    have ek : cosV b = qsn (32400000 - (129600000 - b)) := by rw [ec, sin_nrm (b + 32400000) (b + 32400000 - 129600000) (by unfold nrm; omega), sin1 _ (by omega) (by omega)]; exact cong (by omega)
    have p0 := qsn_pos (129600000 - b) (by omega) (by omega)
    have p1 := qsn_bd (32400000 - (129600000 - b)) (by omega) (by omega)
    obtain ⟨g1, g2⟩ := go (129600000 - b) (by omega) (by omega) (by rw [es, iabs_neg _ (by omega), Int.neg_neg]) (by rw [ek, iabs_pos _ p1.1])
    obtain ⟨f1, f2⟩ := at2_good _ _ sm1 sm2 g2
    rw [f2, g1, if_neg (by omega), if_neg (by omega), if_pos (by omega)]
    exact ⟨by unfold nrm; omega, f1⟩
theorem asn_of (d : Int) (h0 : 0 ≤ d) (h1 : d ≤ 16200000) : asn (qsn d) 1073741824 = d := by
  refine grt_is _ _ _ _ h0 (by omega) ?_ ?_
  · intro c c0 c1
    have := qsn_le c d c0 c1 (by omega)
    unfold asP
    exact decide_eq_true (by omega)
  · intro c c0 c1
    have := qsn_lt d c h0 h1 c0 c1
    unfold asP
    exact decide_eq_false (by omega)
/-- a search with a bounded number of steps -/
def grtF (p : Int → Bool) : Nat → Int → Int → Int
  | 0, lo, _ => lo
  | k + 1, lo, hi => if lo < hi then (if p ((lo + hi + 1) / 2) = true then grtF p k ((lo + hi + 1) / 2) hi else grtF p k lo ((lo + hi + 1) / 2 - 1)) else lo
theorem grtF_eq (p : Int → Bool) : ∀ (k : Nat) (lo hi : Int), hi - lo < (2 : Int) ^ k → grtF p k lo hi = grt p lo hi
  | 0, lo, hi, h => by rw [grt_end p lo hi (by simp at h; omega)]; rfl
  | k + 1, lo, hi, h => by
    rw [Int.pow_succ] at h
    show (if lo < hi then (if p ((lo + hi + 1) / 2) = true then grtF p k ((lo + hi + 1) / 2) hi else grtF p k lo ((lo + hi + 1) / 2 - 1)) else lo) = _
    by_cases hl : lo < hi
    · rw [if_pos hl]
      cases hp : p ((lo + hi + 1) / 2)
      · rw [grt_no p lo hi hl hp, if_neg (by simp)]
        exact grtF_eq p k _ _ (by omega)
      · rw [grt_yes p lo hi hl hp, if_pos rfl]
        exact grtF_eq p k _ _ (by omega)
    · rw [if_neg hl, grt_end p lo hi hl]
theorem les_10 : les 1 0 = 0 := by
  unfold les
  rw [← grtF_eq _ 25 _ _ (by decide)]
  decide +kernel
theorem asn_12 : asn 1 2 = 10800000 := by
  unfold asn
  rw [← grtF_eq _ 26 _ _ (by decide)]
  decide +kernel
theorem aw1 : at2V 1 1 = 16200000 ∧ at2E 1 1 = 0 := by
  obtain ⟨f1, f2⟩ := at2_good 1 1 (by decide) (by decide) (by decide)
  rw [f2, f1]
  refine ⟨?_, rfl⟩
  rw [if_neg (by decide), if_neg (by decide), if_neg (by decide)]
  unfold at2Q
  rw [if_neg (by decide)]
  exact les_self 1 (by decide)
theorem aw2 : at2V (-1) 0 = 97200000 ∧ at2E (-1) 0 = 0 := by
  obtain ⟨f1, f2⟩ := at2_good (-1) 0 (by decide) (by decide) (by decide)
  rw [f2, f1]
  refine ⟨?_, rfl⟩
  rw [if_neg (by decide), if_neg (by decide), if_pos (by decide)]
  unfold at2Q
  rw [if_pos (by decide), show iabs (-1) = 1 from rfl, show iabs 0 = 0 from rfl, les_10]
  decide
theorem aw3 : asV 1 2 = 10800000 ∧ asE 1 2 = 0 := by
  refine ⟨?_, by decide⟩
  unfold asV
  rw [if_neg (by decide), if_neg (by decide), if_neg (by decide), asn_12]
theorem aws : sinV 0 = 0 ∧ sinV 32400000 = 1073741824 ∧ sinV 10800000 = 536870912 ∧ cosV 21600000 = 536870912 := by decide +kernel
end Go.Proofs.YtfpgdicacjkfoaaGreatDoor
