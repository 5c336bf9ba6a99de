/-
  Plain numbers of layer 42: normal equations, their sums, limits and identities.
-/
import Derived.Test.YtoegcfdlecbcjaaNum
import Derived.Test.YtoegcfdlecbcjaaWidn
namespace Go.Proofs.Ytoegcfdlecbcjaa
set_option linter.unusedVariables false
set_option linter.unusedSimpArgs false
def mok (s a b z e u : Int) : Bool := decide (1 ≤ s ∧ s ≤ 8 ∧ -256 ≤ a ∧ a ≤ 256 ∧ -256 ≤ b ∧ b ≤ 256 ∧ (a ≠ 0 ∨ b ≠ 0) ∧ -4294967296 ≤ z ∧ z ≤ 4294967296 ∧ 0 ≤ e ∧ e ≤ 4294967296 ∧ 1 ≤ u ∧ u ≤ 16)
theorem mok_yes {s a b z e u : Int} (h : mok s a b z e u = true) : 1 ≤ s ∧ s ≤ 8 ∧ -256 ≤ a ∧ a ≤ 256 ∧ -256 ≤ b ∧ b ≤ 256 ∧ (a ≠ 0 ∨ b ≠ 0) ∧ -4294967296 ≤ z ∧ z ≤ 4294967296 ∧ 0 ≤ e ∧ e ≤ 4294967296 ∧ 1 ≤ u ∧ u ≤ 16 := by
  unfold mok at h; exact of_decide_eq_true h
/-- a list of measurements -/
structure Ms where
  s : Nat → Int
  a : Nat → Int
  b : Nat → Int
  z : Nat → Int
  e : Nat → Int
  u : Nat → Int
def Ms.ok (M : Ms) (i : Nat) : Bool := mok (M.s i) (M.a i) (M.b i) (M.z i) (M.e i) (M.u i)
def Ms.all (M : Ms) : Nat → Bool | 0 => true | k + 1 => M.all k && M.ok k
def sm (f : Nat → Int) : Nat → Int | 0 => 0 | k + 1 => sm f k + f k
def Ms.xx (M : Ms) (n : Nat) : Int := sm (fun i => M.u i * M.a i * M.a i) n
def Ms.xy (M : Ms) (n : Nat) : Int := sm (fun i => M.u i * M.a i * M.b i) n
def Ms.yy (M : Ms) (n : Nat) : Int := sm (fun i => M.u i * M.b i * M.b i) n
def Ms.xz (M : Ms) (n : Nat) : Int := sm (fun i => M.u i * M.a i * M.z i) n
def Ms.yz (M : Ms) (n : Nat) : Int := sm (fun i => M.u i * M.b i * M.z i) n
def Ms.zz (M : Ms) (n : Nat) : Int := sm (fun i => M.z i * M.z i * M.u i) n
def Ms.rs (M : Ms) (x y : Int) (i : Nat) : Int := M.a i * x + M.b i * y - M.z i
def Ms.rr (M : Ms) (x y : Int) (n : Nat) : Int := sm (fun i => M.rs x y i * M.rs x y i * M.u i) n
def Ms.det (M : Ms) (n : Nat) : Int := M.xx n * M.yy n - M.xy n * M.xy n
def Ms.X (M : Ms) (n : Nat) : Int := M.yy n * M.xz n - M.xy n * M.yz n
def Ms.Y (M : Ms) (n : Nat) : Int := M.xx n * M.yz n - M.xy n * M.xz n
def Ms.num (M : Ms) (n : Nat) : Int := M.zz n * M.det n - M.X n * M.xz n - M.Y n * M.yz n
def Ms.chk (M : Ms) (n : Nat) : Int := if 16 < n then 3 else if M.all n = true then 0 else 1
theorem Ms.all_succ {M : Ms} {k : Nat} (h : M.all (k + 1) = true) : M.all k = true ∧ M.ok k = true := by simpa [Ms.all] using h
theorem Ms.all_le {M : Ms} {n k : Nat} (h : M.all n = true) (hk : k ≤ n) : M.all k = true := by
  induction n with
  | zero => obtain rfl : k = 0 := by omega
            exact h
  | succ n ih =>
    rcases Nat.lt_or_ge k (n + 1) with g | g
    · exact ih (Ms.all_succ h).1 (by omega)
    · obtain rfl : k = n + 1 := by omega
      exact h
theorem Ms.all_at {M : Ms} {n k : Nat} (h : M.all n = true) (hk : k < n) : M.ok k = true := (Ms.all_succ (Ms.all_le h (show k + 1 ≤ n by omega))).2
theorem Ms.all_bad {M : Ms} {n k : Nat} (h : M.ok k = false) (hk : k < n) : M.all n = false := by
  cases e : M.all n with
  | false => rfl
  | true => have := Ms.all_at e hk; rw [h] at this; cases this
theorem Ms.all_of {M : Ms} {n : Nat} (h : ∀ k, k < n → M.ok k = true) : M.all n = true := by
  induction n with
  | zero => rfl
  | succ n ih => simp [Ms.all, ih (fun k hk => h k (by omega)), h n (by omega)]
theorem Ms.chk_0 {M : Ms} {n : Nat} (h : M.chk n = 0) : n ≤ 16 ∧ M.all n = true := by
  unfold Ms.chk at h
  split at h
  · omega
  · split at h
    · exact ⟨by omega, by assumption⟩
    · omega
theorem Ms.chk_lim {M : Ms} {n : Nat} (h : 16 < n) : M.chk n = 3 := by unfold Ms.chk; rw [if_pos h]
theorem Ms.chk_ok {M : Ms} {n : Nat} (h : n ≤ 16) (g : M.all n = true) : M.chk n = 0 := by unfold Ms.chk; rw [if_neg (by omega), if_pos g]
theorem Ms.chk_bad {M : Ms} {n : Nat} (h : n ≤ 16) (g : M.all n = false) : M.chk n = 1 := by unfold Ms.chk; rw [if_neg (by omega), g]; rfl
theorem Ms.chk_vals (M : Ms) (n : Nat) : M.chk n = 0 ∨ M.chk n = 1 ∨ M.chk n = 3 := by
  unfold Ms.chk; split
  · exact Or.inr (Or.inr rfl)
  · split
    · exact Or.inl rfl
    · exact Or.inr (Or.inl rfl)
/-- products of bounded numbers -/
theorem mulb {x y p q : Int} (p0 : 0 ≤ p) (x0 : -p ≤ x) (x1 : x ≤ p) (y0 : -q ≤ y) (y1 : y ≤ q) : -(p * q) ≤ x * y ∧ x * y ≤ p * q := by
  have a := Int.mul_nonneg (show 0 ≤ p - x by omega) (show 0 ≤ q - y by omega)
  have b := Int.mul_nonneg (show 0 ≤ p + x by omega) (show 0 ≤ q + y by omega)
  have c := Int.mul_nonneg (show 0 ≤ p - x by omega) (show 0 ≤ q + y by omega)
  have d := Int.mul_nonneg (show 0 ≤ p + x by omega) (show 0 ≤ q - y by omega)
  simp only [Int.mul_sub, Int.sub_mul, Int.mul_add, Int.add_mul] at a b c d
  constructor <;> omega
theorem sq_nn (x : Int) : 0 ≤ x * x := by
  rcases Int.le_total 0 x with h | h
  · exact Int.mul_nonneg h h
  · exact Int.mul_nonneg_of_nonpos_of_nonpos h h
theorem Ms.term {M : Ms} {i : Nat} (h : M.ok i = true) {s q t : Int} (x0 : -s ≤ q) (x1 : q ≤ s) (y0 : -s ≤ t) : True := trivial
theorem uab {u a b p q : Int} (u0 : 1 ≤ u) (u1 : u ≤ 16) (p0 : 0 ≤ p) (q0 : 0 ≤ q) (a0 : -p ≤ a) (a1 : a ≤ p) (b0 : -q ≤ b) (b1 : b ≤ q) : -(16 * p) ≤ u * a ∧ u * a ≤ 16 * p ∧ -(16 * p * q) ≤ u * a * b ∧ u * a * b ≤ 16 * p * q := by
  have h := mulb (x := u) (y := a) (p := 16) (q := p) (by omega) (by omega) (by omega) a0 a1
  have g := mulb (x := u * a) (y := b) (p := 16 * p) (q := q) (by omega) (by omega) (by omega) b0 b1
  exact ⟨h.1, h.2, g.1, g.2⟩
/-- the terms of the sums -/
structure MT (s a b z e u : Int) : Prop where
  ua : -4096 ≤ u * a ∧ u * a ≤ 4096
  ub : -4096 ≤ u * b ∧ u * b ≤ 4096
  aa : 0 ≤ u * a * a ∧ u * a * a ≤ 1048576
  ab : -1048576 ≤ u * a * b ∧ u * a * b ≤ 1048576
  bb : 0 ≤ u * b * b ∧ u * b * b ≤ 1048576
  az : -17592186044416 ≤ u * a * z ∧ u * a * z ≤ 17592186044416
  bz : -17592186044416 ≤ u * b * z ∧ u * b * z ≤ 17592186044416
  z2 : 0 ≤ z * z ∧ z * z ≤ 18446744073709551616
  zz : 0 ≤ z * z * u ∧ z * z * u ≤ 295147905179352825856
theorem mt_of {s a b z e u : Int} (h : mok s a b z e u = true) : MT s a b z e u := by
  obtain ⟨_, _, a0, a1, b0, b1, _, z0, z1, _, _, u0, u1⟩ := mok_yes h
  have h1 := uab (p := 256) (q := 256) u0 u1 (by omega) (by omega) a0 a1 a0 a1
  have h2 := uab (p := 256) (q := 256) u0 u1 (by omega) (by omega) a0 a1 b0 b1
  have h3 := uab (p := 256) (q := 256) u0 u1 (by omega) (by omega) b0 b1 b0 b1
  have h4 := uab (p := 256) (q := 4294967296) u0 u1 (by omega) (by omega) a0 a1 z0 z1
  have h5 := uab (p := 256) (q := 4294967296) u0 u1 (by omega) (by omega) b0 b1 z0 z1
  have h6 := mulb (x := z) (y := z) (p := 4294967296) (q := 4294967296) (by omega) z0 z1 z0 z1
  have h7 := mulb (x := z * z) (y := u) (p := 18446744073709551616) (q := 16) (by omega) (by omega) (by omega) (by omega) (by omega)
  have p1 : 0 ≤ u * a * a := by rw [Int.mul_assoc]; exact Int.mul_nonneg (by omega) (sq_nn a)
  have p3 : 0 ≤ u * b * b := by rw [Int.mul_assoc]; exact Int.mul_nonneg (by omega) (sq_nn b)
  have p6 := sq_nn z
  have p7 : 0 ≤ z * z * u := Int.mul_nonneg p6 (by omega)
  exact ⟨by omega, by omega, by omega, by omega, by omega, by omega, by omega, by omega, by omega⟩
theorem sm_bd {f : Nat → Int} {lo hi : Int} : ∀ n : Nat, (∀ i, i < n → lo ≤ f i ∧ f i ≤ hi) → n * lo ≤ sm f n ∧ sm f n ≤ n * hi
  | 0, _ => by simp [sm]
  | n + 1, h => by
    have ih := sm_bd n (fun i hi => h i (by omega))
    have g := h n (by omega)
    have e1 : ((n + 1 : Nat) : Int) * lo = n * lo + lo := by rw [Int.natCast_add, Int.add_mul]; simp
    have e2 : ((n + 1 : Nat) : Int) * hi = n * hi + hi := by rw [Int.natCast_add, Int.add_mul]; simp
    rw [e1, e2]
    simp only [sm]
    omega
/-- limits of the sums -/
structure MB (M : Ms) (n : Nat) : Prop where
  xx : 0 ≤ M.xx n ∧ M.xx n ≤ 16777216
  xy : -16777216 ≤ M.xy n ∧ M.xy n ≤ 16777216
  yy : 0 ≤ M.yy n ∧ M.yy n ≤ 16777216
  xz : -281474976710656 ≤ M.xz n ∧ M.xz n ≤ 281474976710656
  yz : -281474976710656 ≤ M.yz n ∧ M.yz n ≤ 281474976710656
  zz : 0 ≤ M.zz n ∧ M.zz n ≤ 4722366482869645213696
theorem n16 {n : Nat} (hn : n ≤ 16) {c s : Int} (hc : 0 ≤ c) (h : s ≤ n * c) : s ≤ 16 * c := by
  have := Int.mul_le_mul_of_nonneg_right (show (n : Int) ≤ 16 by omega) hc
  omega
theorem n16' {n : Nat} (hn : n ≤ 16) {c s : Int} (hc : 0 ≤ c) (h : n * (-c) ≤ s) : -(16 * c) ≤ s := by
  have := Int.mul_le_mul_of_nonneg_right (show (n : Int) ≤ 16 by omega) hc
  rw [Int.mul_neg] at h
  omega
theorem mb_of {M : Ms} {n : Nat} (hn : n ≤ 16) (h : M.all n = true) : MB M n := by
  have t : ∀ i, i < n → MT (M.s i) (M.a i) (M.b i) (M.z i) (M.e i) (M.u i) := fun i hi => mt_of (Ms.all_at h hi)
  have h1 := sm_bd (lo := 0) (hi := 1048576) n (fun i hi => (t i hi).aa)
  have h2 := sm_bd (lo := -1048576) (hi := 1048576) n (fun i hi => (t i hi).ab)
  have h3 := sm_bd (lo := 0) (hi := 1048576) n (fun i hi => (t i hi).bb)
  have h4 := sm_bd (lo := -17592186044416) (hi := 17592186044416) n (fun i hi => (t i hi).az)
  have h5 := sm_bd (lo := -17592186044416) (hi := 17592186044416) n (fun i hi => (t i hi).bz)
  have h6 := sm_bd (lo := 0) (hi := 295147905179352825856) n (fun i hi => (t i hi).zz)
  refine ⟨⟨?_, ?_⟩, ⟨?_, ?_⟩, ⟨?_, ?_⟩, ⟨?_, ?_⟩, ⟨?_, ?_⟩, ⟨?_, ?_⟩⟩
  · have := h1.1; unfold Ms.xx; omega
  · exact n16 hn (by omega) h1.2
  · exact n16' hn (by omega) h2.1
  · exact n16 hn (by omega) h2.2
  · have := h3.1; unfold Ms.yy; omega
  · exact n16 hn (by omega) h3.2
  · exact n16' hn (by omega) h4.1
  · exact n16 hn (by omega) h4.2
  · exact n16' hn (by omega) h5.1
  · exact n16 hn (by omega) h5.2
  · have := h6.1; unfold Ms.zz; omega
  · exact n16 hn (by omega) h6.2
/-- limits of the solution -/
structure MX (M : Ms) (n : Nat) : Prop where
  p1 : 0 ≤ M.xx n * M.yy n ∧ M.xx n * M.yy n ≤ 281474976710656
  p2 : 0 ≤ M.xy n * M.xy n ∧ M.xy n * M.xy n ≤ 281474976710656
  X : -9444732965739290427392 ≤ M.X n ∧ M.X n ≤ 9444732965739290427392
  Y : -9444732965739290427392 ≤ M.Y n ∧ M.Y n ≤ 9444732965739290427392
  d1 : -281474976710656 ≤ M.det n ∧ M.det n ≤ 281474976710656
  q1 : -4722366482869645213696 ≤ M.yy n * M.xz n ∧ M.yy n * M.xz n ≤ 4722366482869645213696
  q2 : -4722366482869645213696 ≤ M.xy n * M.yz n ∧ M.xy n * M.yz n ≤ 4722366482869645213696
  q3 : -4722366482869645213696 ≤ M.xx n * M.yz n ∧ M.xx n * M.yz n ≤ 4722366482869645213696
  q4 : -4722366482869645213696 ≤ M.xy n * M.xz n ∧ M.xy n * M.xz n ≤ 4722366482869645213696
theorem mx_of {M : Ms} {n : Nat} (h : MB M n) : MX M n := by
  obtain ⟨h1, h2, h3, h4, h5, h6⟩ := h
  have q1 := mulb (p := 16777216) (q := 281474976710656) (by omega) (by omega) h3.2 h4.1 h4.2
  have q2 := mulb (p := 16777216) (q := 281474976710656) (by omega) h2.1 h2.2 h5.1 h5.2
  have q3 := mulb (p := 16777216) (q := 281474976710656) (by omega) (by omega) h1.2 h5.1 h5.2
  have q4 := mulb (p := 16777216) (q := 281474976710656) (by omega) h2.1 h2.2 h4.1 h4.2
  have r1 := mulb (p := 16777216) (q := 16777216) (by omega) (by omega) h1.2 (by omega) h3.2
  have r2 := mulb (p := 16777216) (q := 16777216) (by omega) h2.1 h2.2 h2.1 h2.2
  have r3 := Int.mul_nonneg h1.1 h3.1
  have r4 := sq_nn (M.xy n)
  refine ⟨⟨r3, by omega⟩, ⟨r4, by omega⟩, ?_, ?_, ?_, by omega, by omega, by omega, by omega⟩
  · unfold Ms.X; omega
  · unfold Ms.Y; omega
  · unfold Ms.det; omega
/-- identities of sums -/
theorem sm_congr {f g : Nat → Int} {n : Nat} (h : ∀ i, i < n → f i = g i) : sm f n = sm g n := by
  induction n with
  | zero => rfl
  | succ n ih => simp only [sm]; rw [ih (fun i hi => h i (by omega)), h n (by omega)]
theorem sm_add (f g : Nat → Int) (n : Nat) : sm (fun i => f i + g i) n = sm f n + sm g n := by
  induction n with
  | zero => rfl
  | succ n ih => simp only [sm]; rw [ih]; omega
theorem sm_mul (c : Int) (f : Nat → Int) (n : Nat) : sm (fun i => c * f i) n = c * sm f n := by
  induction n with
  | zero => simp [sm]
  | succ n ih => simp only [sm]; rw [ih, Int.mul_add]
theorem sm_nn {f : Nat → Int} {n : Nat} (h : ∀ i, i < n → 0 ≤ f i) : 0 ≤ sm f n := by
  induction n with
  | zero => simp [sm]
  | succ n ih => have := ih (fun i hi => h i (by omega)); have := h n (by omega); simp only [sm]; omega
/-- a weighted sum of squares, expanded -/
theorem quad (M : Ms) (p q r : Int) (n : Nat) : sm (fun i => (p * M.a i + q * M.b i - r * M.z i) * (p * M.a i + q * M.b i - r * M.z i) * M.u i) n
    = p * p * M.xx n + 2 * (p * q) * M.xy n + q * q * M.yy n - 2 * (p * r) * M.xz n - 2 * (q * r) * M.yz n + r * r * M.zz n := by
  induction n with
  | zero => simp [sm, Ms.xx, Ms.xy, Ms.yy, Ms.xz, Ms.yz, Ms.zz]
  | succ n ih =>
    simp only [sm, Ms.xx, Ms.xy, Ms.yy, Ms.xz, Ms.yz, Ms.zz] at ih ⊢
    rw [ih]
    generalize M.a n = a; generalize M.b n = b; generalize M.z n = z; generalize M.u n = u
    grind
theorem quad_nn {M : Ms} {n : Nat} (h : M.all n = true) (p q r : Int) : 0 ≤ p * p * M.xx n + 2 * (p * q) * M.xy n + q * q * M.yy n - 2 * (p * r) * M.xz n - 2 * (q * r) * M.yz n + r * r * M.zz n := by
  rw [← quad]
  refine sm_nn fun i hi => Int.mul_nonneg (sq_nn _) ?_
  obtain ⟨_, _, _, _, _, _, _, _, _, _, _, u0, _⟩ := mok_yes (Ms.all_at h hi)
  omega
theorem rr_quad (M : Ms) (x y : Int) (n : Nat) : M.rr x y n = x * x * M.xx n + 2 * (x * y) * M.xy n + y * y * M.yy n - 2 * (x * 1) * M.xz n - 2 * (y * 1) * M.yz n + 1 * 1 * M.zz n := by
  rw [← quad]
  refine sm_congr fun i _ => ?_
  have : M.rs x y i = x * M.a i + y * M.b i - 1 * M.z i := by unfold Ms.rs; grind
  rw [this]
/-- the determinant is not negative -/
theorem det_nn {M : Ms} {n : Nat} (hn : n ≤ 16) (h : M.all n = true) : 0 ≤ M.det n := by
  have b := mb_of hn h
  by_cases z : M.xx n = 0
  · have q := quad_nn h (-(M.yy n + 1)) (M.xy n) 0
    rw [z] at q
    unfold Ms.det
    rw [z]
    have q2 := b.yy.1
    by_cases w : M.xy n = 0
    · rw [w]; omega
    · exfalso
      have : 0 < M.xy n * M.xy n := by
        have := sq_nn (M.xy n)
        have : M.xy n * M.xy n ≠ 0 := fun e => w ((Int.mul_eq_zero.1 e).elim id id)
        omega
      have e : (-(M.yy n + 1)) * -(M.yy n + 1) * 0 + 2 * (-(M.yy n + 1) * M.xy n) * M.xy n + M.xy n * M.xy n * M.yy n - 2 * (-(M.yy n + 1) * 0) * M.xz n - 2 * (M.xy n * 0) * M.yz n + 0 * 0 * M.zz n = -((M.yy n + 2) * (M.xy n * M.xy n)) := by grind
      rw [e] at q
      have := Int.mul_pos (show 0 < M.yy n + 2 by omega) this
      omega
  · have q := quad_nn h (-(M.xy n)) (M.xx n) 0
    have e : (-(M.xy n)) * -(M.xy n) * M.xx n + 2 * (-(M.xy n) * M.xx n) * M.xy n + M.xx n * M.xx n * M.yy n - 2 * (-(M.xy n) * 0) * M.xz n - 2 * (M.xx n * 0) * M.yz n + 0 * 0 * M.zz n = M.xx n * M.det n := by unfold Ms.det; grind
    rw [e] at q
    have p : 0 < M.xx n := by have := b.xx.1; omega
    exact Int.nonneg_of_mul_nonneg_right q p
/-- the solution meets the normal equations -/
theorem eqn_x (M : Ms) (n : Nat) : M.X n * M.xx n + M.Y n * M.xy n = M.xz n * M.det n := by unfold Ms.X Ms.Y Ms.det; grind
theorem eqn_y (M : Ms) (n : Nat) : M.X n * M.xy n + M.Y n * M.yy n = M.yz n * M.det n := by unfold Ms.X Ms.Y Ms.det; grind
theorem best_id (X Y D a b c xx xy yy zz x y : Int) (h1 : X * xx + Y * xy = a * D) (h2 : X * xy + Y * yy = b * D) :
    (D * x - X) * (D * x - X) * xx + 2 * ((D * x - X) * (D * y - Y)) * xy + (D * y - Y) * (D * y - Y) * yy = D * ((x * x * xx + 2 * (x * y) * xy + y * y * yy - 2 * (x * 1) * a - 2 * (y * 1) * b + 1 * 1 * zz) * D - (zz * D - X * a - Y * b)) := by
  grind
theorem num_id (X Y D a b xx xy yy zz : Int) (h1 : X * xx + Y * xy = a * D) (h2 : X * xy + Y * yy = b * D) :
    X * X * xx + 2 * (X * Y) * xy + Y * Y * yy - 2 * (X * D) * a - 2 * (Y * D) * b + D * D * zz = D * (zz * D - X * a - Y * b) := by
  grind
theorem best {M : Ms} {n : Nat} (hn : n ≤ 16) (h : M.all n = true) (hd : M.det n ≠ 0) (x y : Int) : M.num n ≤ M.rr x y n * M.det n := by
  have d0 := det_nn hn h
  have q := quad_nn h (M.det n * x - M.X n) (M.det n * y - M.Y n) 0
  have e := best_id (M.X n) (M.Y n) (M.det n) (M.xz n) (M.yz n) 0 (M.xx n) (M.xy n) (M.yy n) (M.zz n) x y (eqn_x M n) (eqn_y M n)
  rw [← rr_quad] at e
  simp only [Int.mul_zero, Int.zero_mul, Int.sub_zero, Int.add_zero] at q
  rw [e] at q
  have := Int.nonneg_of_mul_nonneg_right q (by omega)
  unfold Ms.num
  omega
theorem num_nn {M : Ms} {n : Nat} (hn : n ≤ 16) (h : M.all n = true) (hd : M.det n ≠ 0) : 0 ≤ M.num n := by
  have d0 := det_nn hn h
  have q := quad_nn h (M.X n) (M.Y n) (M.det n)
  rw [num_id (M.X n) (M.Y n) (M.det n) (M.xz n) (M.yz n) (M.xx n) (M.xy n) (M.yy n) (M.zz n) (eqn_x M n) (eqn_y M n)] at q
  exact Int.nonneg_of_mul_nonneg_right q (by omega)
end Go.Proofs.Ytoegcfdlecbcjaa
