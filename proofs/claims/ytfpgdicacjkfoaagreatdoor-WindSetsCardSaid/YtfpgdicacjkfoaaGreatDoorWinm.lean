/-
  Plain numbers of layer 13: the ground speeds of a set of winds.
-/
import Derived.Test.YtfpgdicacjkfoaaGreatDoorWinn
namespace Go.Proofs.YtfpgdicacjkfoaaGreatDoor
set_option linter.unusedVariables false
set_option linter.unusedSimpArgs false

def sdB (lo hi : Int) : Bool := decide (lo ≤ hi) && wsm lo && wsm hi
def bxB (el eh nl nh : Int) : Bool := sdB el eh && sdB nl nh
def wnB (el eh nl nh x y : Int) : Bool := bxB el eh nl nh && decide (el ≤ x) && decide (x ≤ eh) && decide (nl ≤ y) && decide (y ≤ nh)
def mn4 (a b c d : Int) : Int := min (min (min a b) c) d
def mx4 (a b c d : Int) : Int := max (max (max a b) c) d
def eAl (c el eh nl nh : Int) : Int := mn4 (alo c el nl) (alo c el nh) (alo c eh nl) (alo c eh nh)
def eAh (c el eh nl nh : Int) : Int := mx4 (alo c el nl) (alo c el nh) (alo c eh nl) (alo c eh nh)
def eCl (c el eh nl nh : Int) : Int := mn4 (acr c el nl) (acr c el nh) (acr c eh nl) (acr c eh nh)
def eCh (c el eh nl nh : Int) : Int := mx4 (acr c el nl) (acr c el nh) (acr c eh nl) (acr c eh nh)
def gx1 (c0 c1 : Int) : Int := max (iabs c0) (iabs c1)
def gx0 (c0 c1 : Int) : Int := if 0 < c0 ∨ c1 < 0 then min (iabs c0) (iabs c1) else 0
def rtU (t x : Int) : Int := isq (t * 1024 * (t * 1024) - x * x)
def giE (c tl th el eh nl nh : Int) : Int := if bxB el eh nl nh = false ∨ tl < 1 ∨ 4000 < th ∨ th < tl then 1 else if tl * 1024 ≤ gx1 (eCl c el eh nl nh) (eCh c el eh nl nh) then 10 else if eAl c el eh nl nh + rtU tl (gx1 (eCl c el eh nl nh) (eCh c el eh nl nh)) < 1024 then 10 else 0
def giL (c tl th el eh nl nh : Int) : Int := if giE c tl th el eh nl nh = 0 then (eAl c el eh nl nh + rtU tl (gx1 (eCl c el eh nl nh) (eCh c el eh nl nh))) / 1024 else 0
def giH (c tl th el eh nl nh : Int) : Int := if giE c tl th el eh nl nh = 0 then (eAh c el eh nl nh + rtU th (gx0 (eCl c el eh nl nh) (eCh c el eh nl nh)) + 1023) / 1024 else 0
theorem sdB_yes {l h : Int} (e : sdB l h = true) : l ≤ h ∧ -400 ≤ l ∧ l ≤ 400 ∧ -400 ≤ h ∧ h ≤ 400 := by
  unfold sdB at e; simp at e
  have a := wsm_yes e.1.2; have b := wsm_yes e.2; omega
theorem bxB_yes {el eh nl nh : Int} (e : bxB el eh nl nh = true) : (el ≤ eh ∧ -400 ≤ el ∧ el ≤ 400 ∧ -400 ≤ eh ∧ eh ≤ 400) ∧ (nl ≤ nh ∧ -400 ≤ nl ∧ nl ≤ 400 ∧ -400 ≤ nh ∧ nh ≤ 400) := by
  unfold bxB at e; simp at e
  exact ⟨sdB_yes e.1, sdB_yes e.2⟩
theorem lin_end (s l h x : Int) (h0 : l ≤ x) (h1 : x ≤ h) : (l * s ≤ x * s ∧ x * s ≤ h * s) ∨ (h * s ≤ x * s ∧ x * s ≤ l * s) := by
  rcases Int.le_total 0 s with k | k
  · exact Or.inl ⟨Int.mul_le_mul_of_nonneg_right h0 k, Int.mul_le_mul_of_nonneg_right h1 k⟩
  · exact Or.inr ⟨Int.mul_le_mul_of_nonpos_right h1 k, Int.mul_le_mul_of_nonpos_right h0 k⟩
theorem unt_mono {a b : Int} (h : a ≤ b) : unt a ≤ unt b := by unfold unt; omega
theorem mn4_le (a b c d : Int) : mn4 a b c d ≤ a ∧ mn4 a b c d ≤ b ∧ mn4 a b c d ≤ c ∧ mn4 a b c d ≤ d := by unfold mn4; omega
theorem mx4_le (a b c d : Int) : a ≤ mx4 a b c d ∧ b ≤ mx4 a b c d ∧ c ≤ mx4 a b c d ∧ d ≤ mx4 a b c d := by unfold mx4; omega
theorem in_corners (c el eh nl nh x y : Int) (h0 : el ≤ x) (h1 : x ≤ eh) (h2 : nl ≤ y) (h3 : y ≤ nh) : (eAl c el eh nl nh ≤ alo c x y ∧ alo c x y ≤ eAh c el eh nl nh) ∧ (eCl c el eh nl nh ≤ acr c x y ∧ acr c x y ≤ eCh c el eh nl nh) := by
  have a := mn4_le (alo c el nl) (alo c el nh) (alo c eh nl) (alo c eh nh)
  have b := mx4_le (alo c el nl) (alo c el nh) (alo c eh nl) (alo c eh nh)
  have a' := mn4_le (acr c el nl) (acr c el nh) (acr c eh nl) (acr c eh nh)
  have b' := mx4_le (acr c el nl) (acr c el nh) (acr c eh nl) (acr c eh nh)
  have p := lin_end (sinV c) el eh x h0 h1
  have q := lin_end (cosV c) nl nh y h2 h3
  have p' := lin_end (cosV c) el eh x h0 h1
  have q' := lin_end (sinV c) nl nh y h2 h3
  have eA : eAl c el eh nl nh = mn4 (alo c el nl) (alo c el nh) (alo c eh nl) (alo c eh nh) := rfl
  have eB : eAh c el eh nl nh = mx4 (alo c el nl) (alo c el nh) (alo c eh nl) (alo c eh nh) := rfl
  have eC : eCl c el eh nl nh = mn4 (acr c el nl) (acr c el nh) (acr c eh nl) (acr c eh nh) := rfl
  have eD : eCh c el eh nl nh = mx4 (acr c el nl) (acr c el nh) (acr c eh nl) (acr c eh nh) := rfl
  rw [eA, eB, eC, eD]
  constructor
  · rcases p with p | p <;> rcases q with q | q
    · have u : alo c el nl ≤ alo c x y := unt_mono (by omega)
      have v : alo c x y ≤ alo c eh nh := unt_mono (by omega)
      omega
    · have u : alo c el nh ≤ alo c x y := unt_mono (by omega)
      have v : alo c x y ≤ alo c eh nl := unt_mono (by omega)
      omega
    · have u : alo c eh nl ≤ alo c x y := unt_mono (by omega)
      have v : alo c x y ≤ alo c el nh := unt_mono (by omega)
      omega
    · have u : alo c eh nh ≤ alo c x y := unt_mono (by omega)
      have v : alo c x y ≤ alo c el nl := unt_mono (by omega)
      omega
  · rcases p' with p | p <;> rcases q' with q | q
    · have u : acr c el nh ≤ acr c x y := unt_mono (by omega)
      have v : acr c x y ≤ acr c eh nl := unt_mono (by omega)
      omega
    · have u : acr c el nl ≤ acr c x y := unt_mono (by omega)
      have v : acr c x y ≤ acr c eh nh := unt_mono (by omega)
      omega
    · have u : acr c eh nh ≤ acr c x y := unt_mono (by omega)
      have v : acr c x y ≤ acr c el nl := unt_mono (by omega)
      omega
    · have u : acr c eh nl ≤ acr c x y := unt_mono (by omega)
      have v : acr c x y ≤ acr c el nh := unt_mono (by omega)
      omega
theorem rtU_mono {t u x z : Int} (t0 : 1 ≤ t) (h : t ≤ u) (u1 : u ≤ 4000) (z0 : 0 ≤ z) (hx : z ≤ x) (xt : x < t * 1024) : rtU t x ≤ rtU u z := by
  unfold rtU
  have a := sq_le (a := t * 1024) (b := u * 1024) (by omega) (by omega)
  have b := sq_le z0 hx
  have c := sq_le (a := x) (b := t * 1024) (by omega) (by omega)
  have d := sq_le (a := u * 1024) (b := 4096000) (by omega) (by omega)
  have e := Int.mul_nonneg z0 z0
  exact isq_mono (by omega) (by omega) (by omega)
theorem between_abs {c0 c1 a : Int} (h0 : c0 ≤ a) (h1 : a ≤ c1) : iabs a ≤ gx1 c0 c1 ∧ gx0 c0 c1 ≤ iabs a ∧ 0 ≤ gx0 c0 c1 := by
  unfold gx1 gx0 iabs
  refine ⟨?_, ?_, ?_⟩
  all_goals ((repeat' split) <;> omega)
theorem gi_ok {c tl th el eh nl nh : Int} (h : giE c tl th el eh nl nh = 0) : bxB el eh nl nh = true ∧ 1 ≤ tl ∧ th ≤ 4000 ∧ tl ≤ th ∧ gx1 (eCl c el eh nl nh) (eCh c el eh nl nh) < tl * 1024 ∧ 1024 ≤ eAl c el eh nl nh + rtU tl (gx1 (eCl c el eh nl nh) (eCh c el eh nl nh)) := by
  have h1 : ¬ (bxB el eh nl nh = false ∨ tl < 1 ∨ 4000 < th ∨ th < tl) := fun k => by unfold giE at h; rw [if_pos k] at h; omega
  have h2 : ¬ (tl * 1024 ≤ gx1 (eCl c el eh nl nh) (eCh c el eh nl nh)) := fun k => by unfold giE at h; rw [if_neg h1, if_pos k] at h; omega
  have h3 : ¬ (eAl c el eh nl nh + rtU tl (gx1 (eCl c el eh nl nh) (eCh c el eh nl nh)) < 1024) := fun k => by unfold giE at h; rw [if_neg h1, if_neg h2, if_pos k] at h; omega
  have hb : bxB el eh nl nh = true := by cases e : bxB el eh nl nh with | true => rfl | false => exact absurd (Or.inl e) h1
  exact ⟨hb, by omega, by omega, by omega, by omega, by omega⟩
/-- P13.7: every ground speed of the set lies in the interval -/
theorem gi_encloses {c tl th el eh nl nh t x y : Int} (h : giE c tl th el eh nl nh = 0) (t0 : tl ≤ t) (t1 : t ≤ th) (hw : wnB el eh nl nh x y = true) : gE c t x y = 0 ∧ 1 ≤ giL c tl th el eh nl nh ∧ giL c tl th el eh nl nh ≤ gG c t x y / 1024 ∧ (gG c t x y + 1023) / 1024 ≤ giH c tl th el eh nl nh := by
  obtain ⟨hb, a1, a2, a3, a4, a5⟩ := gi_ok h
  have eL : giL c tl th el eh nl nh = (eAl c el eh nl nh + rtU tl (gx1 (eCl c el eh nl nh) (eCh c el eh nl nh))) / 1024 := if_pos h
  have eH : giH c tl th el eh nl nh = (eAh c el eh nl nh + rtU th (gx0 (eCl c el eh nl nh) (eCh c el eh nl nh)) + 1023) / 1024 := if_pos h
  obtain ⟨b0, b1⟩ := bxB_yes hb
  unfold wnB at hw
  simp at hw
  obtain ⟨⟨⟨⟨_, x0⟩, x1⟩, y0⟩, y1⟩ := hw
  obtain ⟨⟨c0, c1⟩, ⟨d0, d1⟩⟩ := in_corners c el eh nl nh x y x0 x1 y0 y1
  obtain ⟨e0, e1, e2⟩ := between_abs d0 d1
  have wk : wok x y = true := wok_is (by omega) (by omega) (by omega) (by omega)
  have rU : rt c t x y = rtU t (iabs (acr c x y)) := by unfold rt rtU; rw [sq_iabs]
  have hn := iabs_nn (acr c x y)
  have m1 := rtU_mono (t := tl) (u := t) (x := gx1 (eCl c el eh nl nh) (eCh c el eh nl nh)) (z := iabs (acr c x y)) a1 t0 (by omega) hn.1 e0 a4
  have m2 := rtU_mono (t := t) (u := th) (x := iabs (acr c x y)) (z := gx0 (eCl c el eh nl nh) (eCh c el eh nl nh)) (by omega) t1 a2 e2 e1 (by omega)
  have g0 : gE c t x y = 0 := by
    unfold gE
    rw [if_neg (by rw [wk]; simp; omega), if_neg (by omega), if_neg (by rw [rU]; omega)]
  have eG : gG c t x y = alo c x y + rt c t x y := if_pos g0
  rw [eL, eH, eG, rU]
  exact ⟨g0, by omega, by omega, by omega⟩
end Go.Proofs.YtfpgdicacjkfoaaGreatDoor
