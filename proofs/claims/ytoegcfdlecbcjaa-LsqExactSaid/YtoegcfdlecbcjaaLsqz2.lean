/-
  Plain numbers of layer 42: measurements that hold exactly, shifted ones, other orders.
-/
import Derived.Test.YtoegcfdlecbcjaaLsqm
namespace Go.Proofs.Ytoegcfdlecbcjaa
set_option linter.unusedVariables false
set_option linter.unusedSimpArgs false
/-- a multiple of the divisor moves the nearest integer by the factor -/
theorem nq_shift (x d k : Int) (hd : 0 < d) : nq (x + d * k) d = nq x d + k := by
  unfold nq
  have e : 2 * (x + d * k) + d = (2 * x + d) + k * (2 * d) := by grind
  rw [e, Int.add_mul_ediv_right _ _ (by omega)]
theorem nq_exact (d k : Int) (hd : 0 < d) : nq (d * k) d = k := by
  have h := nq_shift 0 d k hd
  rw [Int.zero_add] at h
  rw [h]
  have : nq 0 d = 0 := by unfold nq; exact Int.ediv_eq_zero_of_lt (by omega) (by omega)
  omega
/-- the measurements hold exactly at a point -/
structure Hex (M : Ms) (x y : Int) (n : Nat) : Prop where
  at_ : ∀ i, i < n → M.z i = M.a i * x + M.b i * y
theorem Hex.le {M : Ms} {x y : Int} {n k : Nat} (h : Hex M x y n) (hk : k ≤ n) : Hex M x y k := ⟨fun i hi => h.at_ i (by omega)⟩
theorem Hex.xz {M : Ms} {x y : Int} : ∀ n, Hex M x y n → M.xz n = M.xx n * x + M.xy n * y
  | 0, _ => by simp [Ms.xz, Ms.xx, Ms.xy, sm]
  | n + 1, h => by
    have ih := Hex.xz n (h.le (by omega))
    have e := h.at_ n (by omega)
    simp only [Ms.xz, Ms.xx, Ms.xy, sm] at ih ⊢
    rw [ih, e]
    generalize M.a n = a; generalize M.b n = b; generalize M.u n = u
    grind
theorem Hex.yz {M : Ms} {x y : Int} : ∀ n, Hex M x y n → M.yz n = M.xy n * x + M.yy n * y
  | 0, _ => by simp [Ms.yz, Ms.yy, Ms.xy, sm]
  | n + 1, h => by
    have ih := Hex.yz n (h.le (by omega))
    have e := h.at_ n (by omega)
    simp only [Ms.yz, Ms.yy, Ms.xy, sm] at ih ⊢
    rw [ih, e]
    generalize M.a n = a; generalize M.b n = b; generalize M.u n = u
    grind
theorem Hex.zz {M : Ms} {x y : Int} : ∀ n, Hex M x y n → M.zz n = M.xz n * x + M.yz n * y
  | 0, _ => by simp [Ms.yz, Ms.xz, Ms.zz, sm]
  | n + 1, h => by
    have ih := Hex.zz n (h.le (by omega))
    have e := h.at_ n (by omega)
    simp only [Ms.yz, Ms.xz, Ms.zz, sm] at ih ⊢
    rw [ih, e]
    generalize M.a n = a; generalize M.b n = b; generalize M.u n = u
    grind
theorem Hex.rr {M : Ms} {x y : Int} : ∀ n, Hex M x y n → M.rr x y n = 0
  | 0, _ => by simp [Ms.rr, sm]
  | n + 1, h => by
    have ih := Hex.rr n (h.le (by omega))
    have e := h.at_ n (by omega)
    have r : M.rs x y n = 0 := by unfold Ms.rs; omega
    simp only [Ms.rr, sm] at ih ⊢
    rw [ih, r]
    simp
theorem Hex.X {M : Ms} {x y : Int} {n : Nat} (h : Hex M x y n) : M.X n = M.det n * x := by
  unfold Ms.X Ms.det; rw [h.xz, h.yz]; grind
theorem Hex.Y {M : Ms} {x y : Int} {n : Nat} (h : Hex M x y n) : M.Y n = M.det n * y := by
  unfold Ms.Y Ms.det; rw [h.xz, h.yz]; grind
theorem Hex.num {M : Ms} {x y : Int} {n : Nat} (h : Hex M x y n) : M.num n = 0 := by
  unfold Ms.num; rw [h.X, h.Y, h.zz]; grind
theorem Hex.px {M : Ms} {x y : Int} {n : Nat} (h : Hex M x y n) (hd : 0 < M.det n) : M.px n = x ∧ M.py n = y := by
  unfold Ms.px Ms.py; rw [h.X, h.Y]; exact ⟨nq_exact _ _ hd, nq_exact _ _ hd⟩
/-- the same measurements from a shifted place -/
structure Shf (M N : Ms) (x y : Int) (n : Nat) : Prop where
  a : ∀ i, i < n → N.a i = M.a i
  b : ∀ i, i < n → N.b i = M.b i
  u : ∀ i, i < n → N.u i = M.u i
  z : ∀ i, i < n → N.z i = M.z i + (M.a i * x + M.b i * y)
theorem Shf.le {M N : Ms} {x y : Int} {n k : Nat} (h : Shf M N x y n) (hk : k ≤ n) : Shf M N x y k :=
  ⟨fun i hi => h.a i (by omega), fun i hi => h.b i (by omega), fun i hi => h.u i (by omega), fun i hi => h.z i (by omega)⟩
theorem Shf.xx {M N : Ms} {x y : Int} {n : Nat} (h : Shf M N x y n) : N.xx n = M.xx n := sm_congr fun i hi => by rw [h.a i hi, h.u i hi]
theorem Shf.xy {M N : Ms} {x y : Int} {n : Nat} (h : Shf M N x y n) : N.xy n = M.xy n := sm_congr fun i hi => by rw [h.a i hi, h.b i hi, h.u i hi]
theorem Shf.yy {M N : Ms} {x y : Int} {n : Nat} (h : Shf M N x y n) : N.yy n = M.yy n := sm_congr fun i hi => by rw [h.b i hi, h.u i hi]
theorem Shf.xz {M N : Ms} {x y : Int} : ∀ n, Shf M N x y n → N.xz n = M.xz n + M.xx n * x + M.xy n * y
  | 0, _ => by simp [Ms.xz, Ms.xx, Ms.xy, sm]
  | n + 1, h => by
    have ih := Shf.xz n (h.le (by omega))
    have e1 := h.a n (by omega); have e2 := h.u n (by omega); have e3 := h.z n (by omega)
    simp only [Ms.xz, Ms.xx, Ms.xy, sm] at ih ⊢
    rw [ih, e1, e2, e3]
    generalize M.a n = a; generalize M.b n = b; generalize M.u n = u; generalize M.z n = z
    grind
theorem Shf.yz {M N : Ms} {x y : Int} : ∀ n, Shf M N x y n → N.yz n = M.yz n + M.xy n * x + M.yy n * y
  | 0, _ => by simp [Ms.yz, Ms.yy, Ms.xy, sm]
  | n + 1, h => by
    have ih := Shf.yz n (h.le (by omega))
    have e1 := h.b n (by omega); have e2 := h.u n (by omega); have e3 := h.z n (by omega)
    simp only [Ms.yz, Ms.yy, Ms.xy, sm] at ih ⊢
    rw [ih, e1, e2, e3]
    generalize M.a n = a; generalize M.b n = b; generalize M.u n = u; generalize M.z n = z
    grind
theorem Shf.det {M N : Ms} {x y : Int} {n : Nat} (h : Shf M N x y n) : N.det n = M.det n := by unfold Ms.det; rw [h.xx, h.xy, h.yy]
theorem Shf.X {M N : Ms} {x y : Int} {n : Nat} (h : Shf M N x y n) : N.X n = M.X n + M.det n * x := by
  unfold Ms.X Ms.det; rw [h.xz, h.yz, h.xy, h.yy]; grind
theorem Shf.Y {M N : Ms} {x y : Int} {n : Nat} (h : Shf M N x y n) : N.Y n = M.Y n + M.det n * y := by
  unfold Ms.Y Ms.det; rw [h.xz, h.yz, h.xy, h.xx]; grind
theorem Shf.px {M N : Ms} {x y : Int} {n : Nat} (h : Shf M N x y n) (hd : 0 < M.det n) : N.px n = M.px n + x ∧ N.py n = M.py n + y := by
  unfold Ms.px Ms.py; rw [h.X, h.Y, h.det]; exact ⟨nq_shift _ _ _ hd, nq_shift _ _ _ hd⟩
/-- sums in another order -/
theorem sm_cat (f : Nat → Int) (a b : Nat) : sm f (a + b) = sm f a + sm (fun i => f (a + i)) b := by
  induction b with
  | zero => simp [sm]
  | succ b ih => show sm f (a + b) + f (a + b) = _; rw [ih]; simp only [sm]; omega
theorem sm_first (f : Nat → Int) (n : Nat) : sm f (n + 1) = f 0 + sm (fun i => f (i + 1)) n := by
  have h := sm_cat f 1 n
  rw [Nat.add_comm] at h
  rw [h]
  have e : sm (fun i => f (1 + i)) n = sm (fun i => f (i + 1)) n := sm_congr fun i _ => by rw [Nat.add_comm]
  rw [e]
  simp [sm]
theorem sm_rev (f : Nat → Int) : ∀ n, sm (fun i => f (n - 1 - i)) n = sm f n
  | 0 => rfl
  | n + 1 => by
    rw [sm_first]
    have e : sm (fun i => f (n + 1 - 1 - (i + 1))) n = sm (fun i => f (n - 1 - i)) n := sm_congr fun i hi => by
      rw [show n + 1 - 1 - (i + 1) = n - 1 - i by omega]
    rw [e, sm_rev f n]
    show f (n + 1 - 1 - 0) + sm f n = sm f n + f n
    rw [show n + 1 - 1 - 0 = n by omega]
    omega
theorem sm_rot (f g : Nat → Int) (n k : Nat) (hk : k ≤ n) (h1 : ∀ j, j < n - k → g j = f (k + j)) (h2 : ∀ j, j < k → g (n - k + j) = f j) : sm g n = sm f n := by
  have e1 := sm_cat g (n - k) k
  have e2 := sm_cat f k (n - k)
  rw [show n - k + k = n by omega] at e1
  rw [show k + (n - k) = n by omega] at e2
  rw [e1, e2, sm_congr h1, sm_congr h2]
  omega
end Go.Proofs.Ytoegcfdlecbcjaa
