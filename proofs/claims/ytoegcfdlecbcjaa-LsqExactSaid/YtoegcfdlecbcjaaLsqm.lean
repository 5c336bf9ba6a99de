/-
  Plain numbers of layer 42: nearest integers, the solution's errors, limits of residuals.
-/
import Derived.Test.YtoegcfdlecbcjaaLsqn
import Derived.Test.YtoegcfdlecbcjaaWidp
namespace Go.Proofs.Ytoegcfdlecbcjaa
set_option linter.unusedVariables false
set_option linter.unusedSimpArgs false
/-- x / d, to the nearest, halfway up -/
def nq (x d : Int) : Int := (2 * x + d) / (2 * d)
theorem nq_bd {x d : Int} (hd : 0 < d) : -(1 + wmag x) ≤ nq x d ∧ nq x d ≤ 1 + wmag x := by
  have h1 := Int.emod_add_mul_ediv (2 * x + d) (2 * d)
  have h2 := Int.emod_nonneg (2 * x + d) (show 2 * d ≠ 0 by omega)
  have h3 := Int.emod_lt_of_pos (2 * x + d) (show 0 < 2 * d by omega)
  unfold nq
  generalize (2 * x + d) / (2 * d) = q at *
  generalize (2 * x + d) % (2 * d) = r at *
  have e : 2 * d * q = 2 * (d * q) := by grind
  rw [e] at h1
  have hw : x ≤ wmag x ∧ -x ≤ wmag x ∧ 0 ≤ wmag x := by unfold wmag; split <;> omega
  constructor
  · by_cases g : -(1 + wmag x) ≤ q
    · exact g
    · have : d * (q + (1 + wmag x)) ≤ d * (-1) := Int.mul_le_mul_of_nonneg_left (by omega) (by omega)
      have e2 : d * (q + (1 + wmag x)) = d * q + d + d * wmag x := by grind
      have : wmag x ≤ d * wmag x := by have := Int.mul_le_mul_of_nonneg_right (show 1 ≤ d by omega) hw.2.2; omega
      omega
  · by_cases g : q ≤ 1 + wmag x
    · exact g
    · have : d * (2 + wmag x) ≤ d * q := Int.mul_le_mul_of_nonneg_left (by omega) (by omega)
      have e2 : d * (2 + wmag x) = 2 * d + d * wmag x := by grind
      have : wmag x ≤ d * wmag x := by have := Int.mul_le_mul_of_nonneg_right (show 1 ≤ d by omega) hw.2.2; omega
      omega
theorem wq_nq {x d : Int} (hd : 0 < d) (x0 : -85070591730234615865843651857942052864 ≤ x) (x1 : x ≤ 85070591730234615865843651857942052864) : wqV 2 x d = nq x d ∧ wqE 2 x d = true ∧ -85070591730234615865843651857942052865 ≤ nq x d ∧ nq x d ≤ 85070591730234615865843651857942052865 := by
  have e : wq 2 x d = nq x d := by
    rw [wq_rnd 2 x d (Or.inr (Or.inr rfl)) (by omega)]
    unfold rnd nq
    rw [if_neg (by decide), if_neg (by decide), Int.fdiv_eq_ediv_of_nonneg _ (by omega)]
  have b := nq_bd (x := x) hd
  have w : wmag x ≤ 85070591730234615865843651857942052864 := by unfold wmag; split <;> omega
  have f := wfit_yes (u := nq x d) (by omega) (by omega)
  unfold wqV wqE
  rw [if_neg (by omega), if_neg (by omega), e, f.1, f.2]
  exact ⟨rfl, rfl, by omega, by omega⟩
/-- the integer of the program: none that fits is told as no coordinate -/
def nrV (q : Int) : Int := if -9223372036854775808 ≤ q ∧ q ≤ 9223372036854775807 then q else 2000001
theorem nrV_in {q : Int} (h0 : -9223372036854775808 ≤ q) (h1 : q ≤ 9223372036854775807) : nrV q = q := if_pos ⟨h0, h1⟩
theorem nrV_out {q : Int} (h : q < -9223372036854775808 ∨ 9223372036854775807 < q) : nrV q = 2000001 := if_neg (by omega)
theorem nrV_bd (q : Int) : -9223372036854775808 ≤ nrV q ∧ nrV q ≤ 9223372036854775807 := by unfold nrV; split <;> omega
def pok (x y : Int) : Bool := decide (-2000000 ≤ x ∧ x ≤ 2000000 ∧ -2000000 ≤ y ∧ y ≤ 2000000)
theorem pokk {x y : Int} (h : pok x y = true) : -2000000 ≤ x ∧ x ≤ 2000000 ∧ -2000000 ≤ y ∧ y ≤ 2000000 := of_decide_eq_true h
theorem pokn {x y : Int} (h : pok x y = false) : ¬ (-2000000 ≤ x ∧ x ≤ 2000000 ∧ -2000000 ≤ y ∧ y ≤ 2000000) := of_decide_eq_false h
theorem pok_nr (x y : Int) : pok (nrV x) (nrV y) = pok x y := by
  rw [Bool.eq_iff_iff]
  unfold pok
  rw [decide_eq_true_eq, decide_eq_true_eq]
  unfold nrV
  split <;> split <;> constructor <;> intro h <;> omega
def Ms.px (M : Ms) (n : Nat) : Int := nq (M.X n) (M.det n)
def Ms.py (M : Ms) (n : Nat) : Int := nq (M.Y n) (M.det n)
def Ms.sE (M : Ms) (n : Nat) : Int := if M.chk n ≠ 0 then M.chk n else if M.det n = 0 then 14 else if pok (M.px n) (M.py n) = true then 0 else 2
def Ms.sV (M : Ms) (n : Nat) (x : Int) : Int := if M.sE n = 0 then x else 0
theorem Ms.sE_chk {M : Ms} {n : Nat} (h : M.chk n ≠ 0) : M.sE n = M.chk n := if_pos h
theorem Ms.sE_rank {M : Ms} {n : Nat} (h : M.chk n = 0) (g : M.det n = 0) : M.sE n = 14 := by unfold Ms.sE; rw [if_neg (by omega), if_pos g]
theorem Ms.sE_ok {M : Ms} {n : Nat} (h : M.chk n = 0) (g : M.det n ≠ 0) (k : pok (M.px n) (M.py n) = true) : M.sE n = 0 := by unfold Ms.sE; rw [if_neg (by omega), if_neg g, if_pos k]
theorem Ms.sE_rng {M : Ms} {n : Nat} (h : M.chk n = 0) (g : M.det n ≠ 0) (k : pok (M.px n) (M.py n) = false) : M.sE n = 2 := by unfold Ms.sE; rw [if_neg (by omega), if_neg g, k]; rfl
theorem Ms.sE_0 {M : Ms} {n : Nat} (h : M.sE n = 0) : M.chk n = 0 ∧ M.det n ≠ 0 ∧ pok (M.px n) (M.py n) = true := by
  unfold Ms.sE at h
  split at h
  · omega
  · split at h
    · omega
    · split at h
      · exact ⟨by omega, by assumption, by assumption⟩
      · omega
theorem Ms.sE_bd (M : Ms) (n : Nat) : 0 ≤ M.sE n ∧ M.sE n ≤ 14 := by
  have := M.chk_vals n
  unfold Ms.sE
  split
  · omega
  · split
    · omega
    · split <;> omega
/-- limits of residuals -/
theorem rs_bd {M : Ms} {i : Nat} (h : M.ok i = true) {x y : Int} (hp : pok x y = true) : (-512000000 ≤ M.a i * x ∧ M.a i * x ≤ 512000000) ∧ (-512000000 ≤ M.b i * y ∧ M.b i * y ≤ 512000000) ∧ (-5318967296 ≤ M.rs x y i ∧ M.rs x y i ≤ 5318967296) ∧ (0 ≤ M.rs x y i * M.rs x y i ∧ M.rs x y i * M.rs x y i ≤ 28291413095917551616) ∧ (0 ≤ M.rs x y i * M.rs x y i * M.u i ∧ M.rs x y i * M.rs x y i * M.u i ≤ 452662609534680825856) := by
  obtain ⟨_, _, a0, a1, b0, b1, _, z0, z1, _, _, u0, u1⟩ := mok_yes h
  obtain ⟨x0, x1, y0, y1⟩ := pokk hp
  have h1 := mulb (x := M.a i) (y := x) (p := 256) (q := 2000000) (by omega) a0 a1 x0 x1
  have h2 := mulb (x := M.b i) (y := y) (p := 256) (q := 2000000) (by omega) b0 b1 y0 y1
  have h3 : -5318967296 ≤ M.rs x y i ∧ M.rs x y i ≤ 5318967296 := by unfold Ms.rs; omega
  have h4 := mulb (p := 5318967296) (q := 5318967296) (by omega) h3.1 h3.2 h3.1 h3.2
  have h5 := sq_nn (M.rs x y i)
  have h6 := mulb (x := M.rs x y i * M.rs x y i) (y := M.u i) (p := 28291413095917551616) (q := 16) (by omega) (by omega) (by omega) (by omega) (by omega)
  have h7 := Int.mul_nonneg h5 (show 0 ≤ M.u i by omega)
  exact ⟨by omega, by omega, h3, by omega, by omega⟩
theorem rr_bd {M : Ms} {n : Nat} (hn : n ≤ 16) (h : M.all n = true) {x y : Int} (hp : pok x y = true) : 0 ≤ M.rr x y n ∧ M.rr x y n ≤ 7242601752554893213696 := by
  have g := sm_bd (lo := 0) (hi := 452662609534680825856) n (fun i hi => (rs_bd (Ms.all_at h hi) hp).2.2.2.2)
  refine ⟨?_, n16 hn (by omega) g.2⟩
  have := g.1; unfold Ms.rr; omega
/-- limits of the least residual -/
structure MN (M : Ms) (n : Nat) : Prop where
  s1 : 0 ≤ M.zz n * M.det n ∧ M.zz n * M.det n ≤ 1329227995784915872903807060280344576
  s2 : -2658455991569831745807614120560689152 ≤ M.X n * M.xz n ∧ M.X n * M.xz n ≤ 2658455991569831745807614120560689152
  s3 : -2658455991569831745807614120560689152 ≤ M.Y n * M.yz n ∧ M.Y n * M.yz n ≤ 2658455991569831745807614120560689152
theorem mn_of {M : Ms} {n : Nat} (hn : n ≤ 16) (h : M.all n = true) : MN M n := by
  have b := mb_of hn h
  have x := mx_of b
  have d := det_nn hn h
  have h1 := mulb (p := 4722366482869645213696) (q := 281474976710656) (by omega) (by have := b.zz; omega) b.zz.2 x.d1.1 x.d1.2
  have h0 := Int.mul_nonneg b.zz.1 d
  have h2 := mulb (p := 9444732965739290427392) (q := 281474976710656) (by omega) x.X.1 x.X.2 b.xz.1 b.xz.2
  have h3 := mulb (p := 9444732965739290427392) (q := 281474976710656) (by omega) x.Y.1 x.Y.2 b.yz.1 b.yz.2
  exact ⟨⟨h0, by omega⟩, by omega, by omega⟩
end Go.Proofs.Ytoegcfdlecbcjaa
