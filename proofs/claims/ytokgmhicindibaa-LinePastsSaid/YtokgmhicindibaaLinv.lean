/-
  Plain numbers of layer 11: the chapter's examples; the laws' numbers.
-/
import Derived.Test.YtokgmhicindibaaLinc
import Derived.Test.YtokgmhicindibaaLind
namespace Go.Proofs.Ytokgmhicindibaa
set_option linter.unusedVariables false
set_option linter.unusedSimpArgs false
def lesF (m n : Int) : Int := grtF (lesP m n) 25 0 16200000
theorem les_F (m n : Int) : les m n = lesF m n := (grtF_eq _ 25 _ _ (by decide)).symm
def at2QF (y x : Int) : Int := if iabs x < iabs y then 32400000 - lesF (iabs y) (iabs x) else lesF (iabs x) (iabs y)
theorem at2Q_F (y x : Int) : at2Q y x = at2QF y x := by unfold at2Q at2QF; rw [les_F, les_F]
def at2VF (y x : Int) : Int := if ¬ (smB y ∧ smB x) then 0 else if x = 0 ∧ y = 0 then 0 else if x < 0 ∧ y < 0 then 64800000 + at2QF y x else if x < 0 then 64800000 - at2QF y x else if y < 0 then nrm (-at2QF y x) else at2QF y x
theorem at2V_F (y x : Int) : at2V y x = at2VF y x := by unfold at2V at2VF; rw [at2Q_F]
theorem la1 : -len (crs (0 - 0) (10 - 0) (3 - 0) (4 - 0)) (dtp (0 - 0) (10 - 0) (0 - 0) (10 - 0)) = 3 := by decide +kernel
theorem la2 : len (dtp (0 - 0) (10 - 0) (3 - 0) (4 - 0)) (dtp (0 - 0) (10 - 0) (0 - 0) (10 - 0)) = 4 := by decide +kernel
theorem la3 : csE 0 0 10 0 = 0 := by decide +kernel
theorem la4 : csV 0 0 10 0 = 32400000 := by rw [csV_ok la3, at2V_F]; decide +kernel
theorem la5 : crs (10 - 0) (10 - 0) (10 - 0) (0 - 10) ≠ 0 := by decide
theorem la6 : mvX 0 0 (10 - 0) (10 - 0) (crs (0 - 0) (10 - 0) (10 - 0) (0 - 10)) (crs (10 - 0) (10 - 0) (10 - 0) (0 - 10)) = 5 ∧ mvY 0 0 (10 - 0) (10 - 0) (crs (0 - 0) (10 - 0) (10 - 0) (0 - 10)) (crs (10 - 0) (10 - 0) (10 - 0) (0 - 10)) = 5 ∧ mvE 0 0 (10 - 0) (10 - 0) (crs (0 - 0) (10 - 0) (10 - 0) (0 - 10)) (crs (10 - 0) (10 - 0) (10 - 0) (0 - 10)) = 0 := by decide +kernel
theorem la7 : mvX 0 0 (10 - 0) (0 - 0) (dtp (10 - 0) (0 - 0) (3 - 0) (4 - 0)) (dtp (10 - 0) (0 - 0) (10 - 0) (0 - 0)) = 3 ∧ mvY 0 0 (10 - 0) (0 - 0) (dtp (10 - 0) (0 - 0) (3 - 0) (4 - 0)) (dtp (10 - 0) (0 - 0) (10 - 0) (0 - 0)) = 0 ∧ mvE 0 0 (10 - 0) (0 - 0) (dtp (10 - 0) (0 - 0) (3 - 0) (4 - 0)) (dtp (10 - 0) (0 - 0) (10 - 0) (0 - 0)) = 0 := by decide +kernel
theorem la8 : mvX 0 0 (sinV 10800000) (cosV 10800000) 1000 1073741824 = 500 ∧ mvY 0 0 (sinV 10800000) (cosV 10800000) 1000 1073741824 = 866 ∧ mvE 0 0 (sinV 10800000) (cosV 10800000) 1000 1073741824 = 0 := by decide +kernel
theorem la9 : isq (dtp (3 - 0) (4 - 0) (3 - 0) (4 - 0)) = 5 := by decide +kernel
theorem la10 : -sgn (crs (0 - 0) (10 - 0) (3 - 0) (4 - 0)) = 1 := by decide
theorem la11 : -sgn (crs (0 - 0) (10 - 0) (-3 - 0) (4 - 0)) = -1 := by decide
theorem la12 : sgn (dtp (0 - 0) (10 - 0) (5 - 0) (11 - 10)) = 1 := by decide
theorem la13 : sgn (dtp (0 - 0) (10 - 0) (5 - 0) (9 - 10)) = -1 := by decide
theorem la14 : csE 0 0 0 10 = 0 ∧ csE 0 10 10 10 = 0 := by decide +kernel
theorem la15 : csV 0 0 0 10 = 0 := by rw [csV_ok la14.1, at2V_F]; decide +kernel
theorem la16 : csV 0 10 10 10 = 32400000 := by rw [csV_ok la14.2, at2V_F]; decide +kernel
theorem la17 : decide (0 < (1 - 0) * sinV (mid (csV 0 0 0 10) (csV 0 10 10 10)) + (10 - 10) * cosV (mid (csV 0 0 0 10) (csV 0 10 10 10))) = true := by rw [la15, la16]; decide +kernel
theorem la18 : decide (0 < (0 - 0) * sinV (mid (csV 0 0 0 10) (csV 0 10 10 10)) + (9 - 10) * cosV (mid (csV 0 0 0 10) (csV 0 10 10 10))) = false := by rw [la15, la16]; decide +kernel
/-! the laws -/
def ahT (aX aY bX bY pX pY : Int) : Int := if pokB aX aY = true ∧ pokB bX bY = true ∧ pokB pX pY = true then sgn (dtp (bX - aX) (bY - aY) (pX - bX) (pY - bY)) else 0
def dsT (aX aY bX bY : Int) : Int := if pokB aX aY = true ∧ pokB bX bY = true then isq (dtp (bX - aX) (bY - aY) (bX - aX) (bY - aY)) else 0
theorem ahT_bd (aX aY bX bY pX pY : Int) : -1 ≤ ahT aX aY bX bY pX pY ∧ ahT aX aY bX bY pX pY ≤ 1 := by
  unfold ahT; split
  · exact sgn_bd _
  · omega
theorem ahT_b (aX aY bX bY : Int) : ahT aX aY bX bY bX bY = 0 := by
  unfold ahT; split
  · rw [Int.sub_self, Int.sub_self]; unfold dtp; simp [sgn]
  · rfl
theorem ahT_a (aX aY bX bY : Int) (ha : pokB aX aY = true) (hb : pokB bX bY = true) (h : ¬ (aX = bX ∧ aY = bY)) : ahT aX aY bX bY aX aY = -1 := by
  unfold ahT
  rw [if_pos ⟨ha, hb, ha⟩]
  have e : dtp (bX - aX) (bY - aY) (aX - bX) (aY - bY) = -dtp (bX - aX) (bY - aY) (bX - aX) (bY - aY) := by unfold dtp; grind
  have p := dtp_pos (bX - aX) (bY - aY) (by omega)
  rw [e]
  unfold sgn
  rw [if_pos (by omega)]
theorem ahT_0 (aX aY bX bY pX pY : Int) (h : pokB aX aY = false ∨ pokB bX bY = false) : ahT aX aY bX bY pX pY = 0 := by
  unfold ahT; rw [if_neg]
  rcases h with h | h <;> simp [h]
theorem dsT_sym (aX aY bX bY : Int) : dsT bX bY aX aY = dsT aX aY bX bY := by
  have e : dtp (aX - bX) (aY - bY) (aX - bX) (aY - bY) = dtp (bX - aX) (bY - aY) (bX - aX) (bY - aY) := by unfold dtp; grind
  unfold dsT
  rw [e]
  by_cases h : pokB aX aY = true ∧ pokB bX bY = true
  · rw [if_pos h, if_pos ⟨h.2, h.1⟩]
  · rw [if_neg h, if_neg (fun g => h ⟨g.2, g.1⟩)]
theorem dsT_bd (aX aY bX bY : Int) : 0 ≤ dsT aX aY bX bY ∧ dsT aX aY bX bY ≤ 5656854 := by
  unfold dsT; split
  · rename_i h
    obtain ⟨a0, a1, a2, a3⟩ := pok_yes h.1
    obtain ⟨b0, b1, b2, b3⟩ := pok_yes h.2
    have n := dtp_nn (bX - aX) (bY - aY)
    have l := dtp_lim4 (bX - aX) (bY - aY) (bX - aX) (bY - aY) (by omega) (by omega) (by omega) (by omega) (by omega) (by omega) (by omega) (by omega)
    exact ⟨(isq_ok _ n (by omega)).1, isq_le _ _ n (by omega) (by omega) (by omega)⟩
  · omega
theorem dsT_0 (aX aY bX bY : Int) (h : pokB aX aY = false ∨ pokB bX bY = false) : dsT aX aY bX bY = 0 := by
  unfold dsT; rw [if_neg]
  rcases h with h | h <;> simp [h]
theorem dsT_tri (aX aY bX bY cX cY : Int) (ha : pokB aX aY = true) (hb : pokB bX bY = true) (hc : pokB cX cY = true) : dsT aX aY cX cY ≤ dsT aX aY bX bY + dsT bX bY cX cY + 1 := by
  obtain ⟨a0, a1, a2, a3⟩ := pok_yes ha
  obtain ⟨b0, b1, b2, b3⟩ := pok_yes hb
  obtain ⟨c0, c1, c2, c3⟩ := pok_yes hc
  unfold dsT
  rw [if_pos ⟨ha, hc⟩, if_pos ⟨ha, hb⟩, if_pos ⟨hb, hc⟩]
  have l1 := dtp_lim4 (bX - aX) (bY - aY) (bX - aX) (bY - aY) (by omega) (by omega) (by omega) (by omega) (by omega) (by omega) (by omega) (by omega)
  have l2 := dtp_lim4 (cX - bX) (cY - bY) (cX - bX) (cY - bY) (by omega) (by omega) (by omega) (by omega) (by omega) (by omega) (by omega) (by omega)
  have l3 := dtp_lim4 (cX - aX) (cY - aY) (cX - aX) (cY - aY) (by omega) (by omega) (by omega) (by omega) (by omega) (by omega) (by omega) (by omega)
  have e1 : bX - aX + (cX - bX) = cX - aX := by omega
  have e2 : bY - aY + (cY - bY) = cY - aY := by omega
  have t := isq_tri (bX - aX) (bY - aY) (cX - bX) (cY - bY) (by omega) (by omega) (by rw [e1, e2]; omega)
  rw [e1, e2] at t
  exact t
theorem cs_back (aX aY bX bY : Int) : csE bX bY aX aY = csE aX aY bX bY ∧ (csE aX aY bX bY = 0 → csV bX bY aX aY = trn (csV aX aY bX bY) 64800000) := by
  rcases csE_cases aX aY bX bY with ⟨h, ha, hb, hn⟩ | ⟨h, ha, h1, h2⟩ | ⟨h, hh⟩
  · have e : csE bX bY aX aY = 0 := csE_ok hb ha (by omega)
    refine ⟨by rw [h, e], fun _ => ?_⟩
    obtain ⟨a0, a1, a2, a3⟩ := pok_yes ha
    obtain ⟨b0, b1, b2, b3⟩ := pok_yes hb
    rw [csV_ok e, csV_ok h]
    have := (at2_back (bX - aX) (bY - aY) (by omega) (by omega) (by omega) (by omega) (by omega)).2.2.1
    rw [show -(bX - aX) = aX - bX by omega, show -(bY - aY) = aY - bY by omega] at this
    exact this
  · subst h1; subst h2
    exact ⟨rfl, fun g => by rw [h] at g; omega⟩
  · have e : csE bX bY aX aY = 1 := csE_bad (Or.symm hh)
    exact ⟨by rw [h, e], fun g => by rw [h] at g; omega⟩
theorem mv_cases (aX aY dX dY n d : Int) : (mvE aX aY dX dY n d = 0 ∧ mqe 2 dX n d = 0 ∧ mqe 2 dY n d = 0 ∧ pokB (mvX aX aY dX dY n d) (mvY aX aY dX dY n d) = true ∧ (-2000000 ≤ aX → aX ≤ 2000000 → -2000000 ≤ aY → aY ≤ 2000000 → mvX aX aY dX dY n d = aX + mqv 2 dX n d ∧ mvY aX aY dX dY n d = aY + mqv 2 dY n d)) ∨ (mvE aX aY dX dY n d = 2 ∧ mvX aX aY dX dY n d = 0 ∧ mvY aX aY dX dY n d = 0) := by
  by_cases h : mqe 2 dX n d ≠ 0 ∨ mqe 2 dY n d ≠ 0
  · have e : mvE aX aY dX dY n d = 2 := by unfold mvE; rw [if_pos h]
    exact Or.inr ⟨e, (mv_bad e).1, (mv_bad e).2⟩
  · cases hp : pokB (sat (aX + mqv 2 dX n d)) (sat (aY + mqv 2 dY n d))
    · have e : mvE aX aY dX dY n d = 2 := by unfold mvE; rw [if_neg h, hp]; rfl
      exact Or.inr ⟨e, (mv_bad e).1, (mv_bad e).2⟩
    · have e : mvE aX aY dX dY n d = 0 := by unfold mvE; rw [if_neg h, hp]; rfl
      refine Or.inl ⟨e, by omega, by omega, by rw [(mv_ok e).1, (mv_ok e).2]; exact hp, fun g0 g1 g2 g3 => ?_⟩
      rw [(mv_ok e).1, (mv_ok e).2]
      obtain ⟨p0, p1, p2, p3⟩ := pok_yes hp
      have s1 : sat (aX + mqv 2 dX n d) = aX + mqv 2 dX n d := by unfold sat at p0 p1 ⊢; (repeat' split) <;> (repeat' split at p0) <;> omega
      have s2 : sat (aY + mqv 2 dY n d) = aY + mqv 2 dY n d := by unfold sat at p2 p3 ⊢; (repeat' split) <;> (repeat' split at p2) <;> omega
      exact ⟨s1, s2⟩
theorem mqv_rnd (a b c : Int) (hc : c ≠ 0) (h : mqe 2 a b c = 0) : mqv 2 a b c = rnd 2 (a * b) c := by
  unfold mqe at h; unfold mqv
  rw [if_neg hc] at h ⊢
  split at h
  · rename_i g; rw [if_pos g]
  · omega
end Go.Proofs.Ytokgmhicindibaa
