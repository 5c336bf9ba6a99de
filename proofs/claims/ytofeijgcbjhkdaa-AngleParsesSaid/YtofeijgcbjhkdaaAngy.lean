/-
  Own contracts: strings read as positions; the law of layer 4 on strings read as angles.
-/
import Derived.Test.YtofeijgcbjhkdaaAngx
import Derived.WalkKit
import Derived.ProofKit
import Derived.OpenShut
import Derived.WalkLawsBesides
import Derived.WalkSpells
import Derived.Lib.Hide
import Derived.Deep.DeepCutAuto
import Derived.Deep.CutBlock
import Derived.Deep.QuietTactic
import Derived.BigQuiet
import Derived.Handy
import Derived.StillTailTactics
import Derived.IntWalk
import Derived.LoopN
import Derived.Deep.RegionHeld3
namespace Go.Proofs.Ytofeijgcbjhkdaa
open Go.ChangeShapes Go.WideShapes Go.ChangeAt Go.RowKit
set_option linter.unusedVariables false
set_option linter.unusedSimpArgs false
theorem er_ne {er : Int} (h : er = 2 ∨ er = 4) : (er == 0) = false ∧ (er != 0) = true := by
  rcases h with rfl | rfl <;> exact ⟨rfl, rfl⟩
theorem pp_size (s : ByteArray) (hm : s.size ≤ 9223372036854775807) (hz : s.size < 19 ∨ 19 < s.size) (w : World) : Calls Try.prog 34 #[.string s] w fun e w' => e = .returned (.tuple #[.agg #[.int .i64 0, .int .i64 0], .int .i64 4]) ∧ Kept w w' := by
  have z : (s.size == 19) = false := by simpa using (show ¬ s.size = 19 by omega)
  have z' : (s.size != 19) = true := by simpa using (show ¬ s.size = 19 by omega)
  go_enter Try.func34, Try.ntmps34
  go_wp2
  all_goals exact bodyPost_ret (v := .tuple #[.agg #[.int .i64 0, .int .i64 0], .int .i64 4]) (by first | (simp [results, Try.results34, go_sem]; done) | (simp (maxDischargeDepth := 7) [results, Try.results34, go_sem, *]; done)) rfl ⟨rfl, (by repeat (first | with_reducible exact Kept.refl _ | with_reducible assumption | with_reducible refine Kept.setCell ?_ (by first | (simp; done) | (simp; omega) | omega) _ | with_reducible refine Kept.alloc ?_ _ | with_reducible refine Kept.drewN ?_ _ | with_reducible refine Kept.drew ?_ | with_reducible refine Kept.trans ?_ (by with_reducible assumption) | with_reducible refine Kept.dr ?_ (by with_reducible assumption)))⟩
theorem pp_lat (s : ByteArray) (er : Int) (z : s.size = 19) (he : er = 2 ∨ er = 4) (h1 : ∀ w, Calls Try.prog 32 #[.string (s.extract 0 9)] w fun e w' => e = .returned (.tuple #[.int .i64 0, .int .i64 er]) ∧ w = w') (w : World) : Calls Try.prog 34 #[.string s] w fun e w' => e = .returned (.tuple #[.agg #[.int .i64 0, .int .i64 0], .int .i64 er]) ∧ Kept w w' := by
  obtain ⟨n1, n2⟩ := er_ne he
  have H1 := Lib.hid h1
  clear h1 he
  go_enter Try.func34, Try.ntmps34
  go_wp2_with (first | (go_at_call 32; refine (H1.out _).mono ?_; rintro e w' ⟨rfl, rfl⟩))
  all_goals exact bodyPost_ret (v := .tuple #[.agg #[.int .i64 0, .int .i64 0], .int .i64 er]) (by first | (simp [results, Try.results34, go_sem]; done) | (simp (maxDischargeDepth := 7) [results, Try.results34, go_sem, *]; done)) rfl ⟨rfl, (by repeat (first | with_reducible exact Kept.refl _ | with_reducible assumption | with_reducible refine Kept.setCell ?_ (by first | (simp; done) | (simp; omega) | omega) _ | with_reducible refine Kept.alloc ?_ _ | with_reducible refine Kept.drewN ?_ _ | with_reducible refine Kept.drew ?_ | with_reducible refine Kept.trans ?_ (by with_reducible assumption) | with_reducible refine Kept.dr ?_ (by with_reducible assumption)))⟩
theorem pp_lon (s : ByteArray) (a er : Int) (z : s.size = 19) (he : er = 2 ∨ er = 4) (h1 : ∀ w, Calls Try.prog 32 #[.string (s.extract 0 9)] w fun e w' => e = .returned (.tuple #[.int .i64 a, .int .i64 0]) ∧ w = w') (h2 : ∀ w, Calls Try.prog 33 #[.string (s.extract 9 19)] w fun e w' => e = .returned (.tuple #[.int .i64 0, .int .i64 er]) ∧ w = w') (w : World) : Calls Try.prog 34 #[.string s] w fun e w' => e = .returned (.tuple #[.agg #[.int .i64 0, .int .i64 0], .int .i64 er]) ∧ Kept w w' := by
  obtain ⟨n1, n2⟩ := er_ne he
  have H1 := Lib.hid h1
  have H2 := Lib.hid h2
  clear h1 h2 he
  go_enter Try.func34, Try.ntmps34
  go_wp2_with (first | (go_at_call 32; refine (H1.out _).mono ?_; rintro e w' ⟨rfl, rfl⟩) | (go_at_call 33; refine (H2.out _).mono ?_; rintro e w' ⟨rfl, rfl⟩))
  all_goals exact bodyPost_ret (v := .tuple #[.agg #[.int .i64 0, .int .i64 0], .int .i64 er]) (by first | (simp [results, Try.results34, go_sem]; done) | (simp (maxDischargeDepth := 7) [results, Try.results34, go_sem, *]; done)) rfl ⟨rfl, (by repeat (first | with_reducible exact Kept.refl _ | with_reducible assumption | with_reducible refine Kept.setCell ?_ (by first | (simp; done) | (simp; omega) | omega) _ | with_reducible refine Kept.alloc ?_ _ | with_reducible refine Kept.drewN ?_ _ | with_reducible refine Kept.drew ?_ | with_reducible refine Kept.trans ?_ (by with_reducible assumption) | with_reducible refine Kept.dr ?_ (by with_reducible assumption)))⟩
theorem pp_ok (s : ByteArray) (a b : Int) (z : s.size = 19) (h1 : ∀ w, Calls Try.prog 32 #[.string (s.extract 0 9)] w fun e w' => e = .returned (.tuple #[.int .i64 a, .int .i64 0]) ∧ w = w') (h2 : ∀ w, Calls Try.prog 33 #[.string (s.extract 9 19)] w fun e w' => e = .returned (.tuple #[.int .i64 b, .int .i64 0]) ∧ w = w') (w : World) : Calls Try.prog 34 #[.string s] w fun e w' => e = .returned (.tuple #[.agg #[.int .i64 a, .int .i64 b], .int .i64 0]) ∧ Kept w w' := by
  have H1 := Lib.hid h1
  have H2 := Lib.hid h2
  clear h1 h2
  go_enter Try.func34, Try.ntmps34
  go_wp2_with (first | (go_at_call 32; refine (H1.out _).mono ?_; rintro e w' ⟨rfl, rfl⟩) | (go_at_call 33; refine (H2.out _).mono ?_; rintro e w' ⟨rfl, rfl⟩))
  all_goals exact bodyPost_ret (v := .tuple #[.agg #[.int .i64 a, .int .i64 b], .int .i64 0]) (by first | (simp [results, Try.results34, go_sem]; done) | (simp (maxDischargeDepth := 7) [results, Try.results34, go_sem, *]; done)) rfl ⟨rfl, (by repeat (first | with_reducible exact Kept.refl _ | with_reducible assumption | with_reducible refine Kept.setCell ?_ (by first | (simp; done) | (simp; omega) | omega) _ | with_reducible refine Kept.alloc ?_ _ | with_reducible refine Kept.drewN ?_ _ | with_reducible refine Kept.drew ?_ | with_reducible refine Kept.trans ?_ (by with_reducible assumption) | with_reducible refine Kept.dr ?_ (by with_reducible assumption)))⟩
theorem rpp_size (s : ByteArray) (hm : s.size ≤ 9223372036854775807) (hz : s.size < 19 ∨ 19 < s.size) (w : World) : Calls Try.prog 37 #[.string s] w fun e w' => e = .returned (.tuple #[.agg #[.int .i64 0, .int .i64 0], .int .i64 4]) ∧ Kept w w' := by
  have z : (s.size == 19) = false := by simpa using (show ¬ s.size = 19 by omega)
  have z' : (s.size != 19) = true := by simpa using (show ¬ s.size = 19 by omega)
  go_enter Try.func37, Try.ntmps37
  go_wp2
  all_goals exact bodyPost_ret (v := .tuple #[.agg #[.int .i64 0, .int .i64 0], .int .i64 4]) (by first | (simp [results, Try.results37, go_sem]; done) | (simp (maxDischargeDepth := 7) [results, Try.results37, go_sem, *]; done)) rfl ⟨rfl, (by repeat (first | with_reducible exact Kept.refl _ | with_reducible assumption | with_reducible refine Kept.setCell ?_ (by first | (simp; done) | (simp; omega) | omega) _ | with_reducible refine Kept.alloc ?_ _ | with_reducible refine Kept.drewN ?_ _ | with_reducible refine Kept.drew ?_ | with_reducible refine Kept.trans ?_ (by with_reducible assumption) | with_reducible refine Kept.dr ?_ (by with_reducible assumption)))⟩
theorem rpp_lat (s : ByteArray) (er : Int) (z : s.size = 19) (he : er = 2 ∨ er = 4) (h1 : ∀ w, Calls Try.prog 35 #[.string (s.extract 0 9)] w fun e w' => e = .returned (.tuple #[.int .i64 0, .int .i64 er]) ∧ Dr w w') (w : World) : Calls Try.prog 37 #[.string s] w fun e w' => e = .returned (.tuple #[.agg #[.int .i64 0, .int .i64 0], .int .i64 er]) ∧ Kept w w' := by
  obtain ⟨n1, n2⟩ := er_ne he
  have H1 := Lib.hid h1
  clear h1 he
  go_enter Try.func37, Try.ntmps37
  go_wp2_with (first | (go_at_call 35; refine (H1.out _).mono ?_; rintro e w' ⟨rfl, nd, rfl⟩))
  all_goals exact bodyPost_ret (v := .tuple #[.agg #[.int .i64 0, .int .i64 0], .int .i64 er]) (by first | (simp [results, Try.results37, go_sem]; done) | (simp (maxDischargeDepth := 7) [results, Try.results37, go_sem, *]; done)) rfl ⟨rfl, (by repeat (first | with_reducible exact Kept.refl _ | with_reducible assumption | with_reducible refine Kept.setCell ?_ (by first | (simp; done) | (simp; omega) | omega) _ | with_reducible refine Kept.alloc ?_ _ | with_reducible refine Kept.drewN ?_ _ | with_reducible refine Kept.drew ?_ | with_reducible refine Kept.trans ?_ (by with_reducible assumption) | with_reducible refine Kept.dr ?_ (by with_reducible assumption)))⟩
theorem rpp_lon (s : ByteArray) (a er : Int) (z : s.size = 19) (he : er = 2 ∨ er = 4) (h1 : ∀ w, Calls Try.prog 35 #[.string (s.extract 0 9)] w fun e w' => e = .returned (.tuple #[.int .i64 a, .int .i64 0]) ∧ Dr w w') (h2 : ∀ w, Calls Try.prog 36 #[.string (s.extract 9 19)] w fun e w' => e = .returned (.tuple #[.int .i64 0, .int .i64 er]) ∧ Dr w w') (w : World) : Calls Try.prog 37 #[.string s] w fun e w' => e = .returned (.tuple #[.agg #[.int .i64 0, .int .i64 0], .int .i64 er]) ∧ Kept w w' := by
  obtain ⟨n1, n2⟩ := er_ne he
  have H1 := Lib.hid h1
  have H2 := Lib.hid h2
  clear h1 h2 he
  go_enter Try.func37, Try.ntmps37
  go_wp2_with (first | (go_at_call 35; refine (H1.out _).mono ?_; rintro e w' ⟨rfl, nd, rfl⟩) | (go_at_call 36; refine (H2.out _).mono ?_; rintro e w' ⟨rfl, nd, rfl⟩))
  all_goals exact bodyPost_ret (v := .tuple #[.agg #[.int .i64 0, .int .i64 0], .int .i64 er]) (by first | (simp [results, Try.results37, go_sem]; done) | (simp (maxDischargeDepth := 7) [results, Try.results37, go_sem, *]; done)) rfl ⟨rfl, (by repeat (first | with_reducible exact Kept.refl _ | with_reducible assumption | with_reducible refine Kept.setCell ?_ (by first | (simp; done) | (simp; omega) | omega) _ | with_reducible refine Kept.alloc ?_ _ | with_reducible refine Kept.drewN ?_ _ | with_reducible refine Kept.drew ?_ | with_reducible refine Kept.trans ?_ (by with_reducible assumption) | with_reducible refine Kept.dr ?_ (by with_reducible assumption)))⟩
theorem rpp_ok (s : ByteArray) (a b : Int) (z : s.size = 19) (h1 : ∀ w, Calls Try.prog 35 #[.string (s.extract 0 9)] w fun e w' => e = .returned (.tuple #[.int .i64 a, .int .i64 0]) ∧ Dr w w') (h2 : ∀ w, Calls Try.prog 36 #[.string (s.extract 9 19)] w fun e w' => e = .returned (.tuple #[.int .i64 b, .int .i64 0]) ∧ Dr w w') (w : World) : Calls Try.prog 37 #[.string s] w fun e w' => e = .returned (.tuple #[.agg #[.int .i64 a, .int .i64 b], .int .i64 0]) ∧ Kept w w' := by
  have H1 := Lib.hid h1
  have H2 := Lib.hid h2
  clear h1 h2
  go_enter Try.func37, Try.ntmps37
  go_wp2_with (first | (go_at_call 35; refine (H1.out _).mono ?_; rintro e w' ⟨rfl, nd, rfl⟩) | (go_at_call 36; refine (H2.out _).mono ?_; rintro e w' ⟨rfl, nd, rfl⟩))
  all_goals exact bodyPost_ret (v := .tuple #[.agg #[.int .i64 a, .int .i64 b], .int .i64 0]) (by first | (simp [results, Try.results37, go_sem]; done) | (simp (maxDischargeDepth := 7) [results, Try.results37, go_sem, *]; done)) rfl ⟨rfl, (by repeat (first | with_reducible exact Kept.refl _ | with_reducible assumption | with_reducible refine Kept.setCell ?_ (by first | (simp; done) | (simp; omega) | omega) _ | with_reducible refine Kept.alloc ?_ _ | with_reducible refine Kept.drewN ?_ _ | with_reducible refine Kept.drew ?_ | with_reducible refine Kept.trans ?_ (by with_reducible assumption) | with_reducible refine Kept.dr ?_ (by with_reducible assumption)))⟩
theorem pos_all (s : ByteArray) (z : s.size = 19) : (∃ a b : Int, -32400000 ≤ a ∧ a ≤ 32400000 ∧ -64800000 < b ∧ b ≤ 64800000 ∧ latS a ++ lonS b = s ∧ (∀ w, Calls Try.prog 34 #[.string s] w fun e w' => e = .returned (.tuple #[.agg #[.int .i64 a, .int .i64 b], .int .i64 0]) ∧ Kept w w') ∧ (∀ w, Calls Try.prog 37 #[.string s] w fun e w' => e = .returned (.tuple #[.agg #[.int .i64 a, .int .i64 b], .int .i64 0]) ∧ Kept w w')) ∨ (∃ er : Int, (er = 2 ∨ er = 4) ∧ (∀ w, Calls Try.prog 34 #[.string s] w fun e w' => e = .returned (.tuple #[.agg #[.int .i64 0, .int .i64 0], .int .i64 er]) ∧ Kept w w') ∧ (∀ w, Calls Try.prog 37 #[.string s] w fun e w' => e = .returned (.tuple #[.agg #[.int .i64 0, .int .i64 0], .int .i64 er]) ∧ Kept w w')) := by
  have t1 : (s.extract 0 9).size = 9 := by rw [ByteArray.size_extract]; omega
  have t2 : (s.extract 9 19).size = 10 := by rw [ByteArray.size_extract]; omega
  have join : s.extract 0 9 ++ s.extract 9 19 = s := by
    rw [ByteArray.extract_append_extract]
    have e : s.extract 0 s.size = s := by simp
    rw [z] at e
    simpa using e
  rcases parselat_all (s.extract 0 9) (by omega) with ⟨a, a0, a1, tx, p1, r1⟩ | ⟨er, he, p1, r1⟩
  · rcases parselon_all (s.extract 9 19) (by omega) with ⟨b, b0, b1, ty, p2, r2⟩ | ⟨er, he, p2, r2⟩
    · exact Or.inl ⟨a, b, a0, a1, b0, b1, by rw [tx, ty]; exact join, pp_ok s a b z p1 p2, rpp_ok s a b z r1 r2⟩
    · exact Or.inr ⟨er, he, pp_lon s a er z he p1 p2, rpp_lon s a er z he r1 r2⟩
  · exact Or.inr ⟨er, he, pp_lat s er z he p1, rpp_lat s er z he r1⟩
theorem dr_kept {P : Program} {q : FuncId} {vs : Array Value} {v : Value} (h : ∀ w, Calls P q vs w fun e w' => e = .returned v ∧ Dr w w') : ∀ w, Calls P q vs w fun e w' => e = .returned v ∧ Kept w w' :=
  fun w => (h w).mono fun _ _ ⟨he, hd⟩ => ⟨he, hd.kept⟩
set_option maxHeartbeats 4000000 in
theorem law_parses (s : ByteArray) (hm : s.size ≤ maxLen) (w : World) : Calls Try.prog 9 #[.string s] w fun e w' => e = .returned (.bool true) ∧ Kept w w' := by
  unfold maxLen at hm
  by_cases z9 : s.size = 9
  · obtain ⟨x1, x2⟩ := parselon_size s (by omega) (by omega)
    have H3 := Lib.hid (x1)
    have H4 := Lib.hid (dr_kept x2)
    clear x1 x2
    have H5 := Lib.hid (pp_size s (by omega) (by omega))
    have H6 := Lib.hid (rpp_size s (by omega) (by omega))
    rcases parselat_all s (by omega) with ⟨a, a0, a1, tx, p1, r1⟩ | ⟨er, he, p1, r1⟩
    · have HT : ∀ w, Calls Try.prog 27 #[.int .i64 a] w fun e w' => e = .returned (.tuple #[.string s, .int .i64 0]) ∧ Kept w w' := by
        intro w; rw [← tx]; exact lattext_ok a a0 a1 w
      have TT := Lib.hid HT
      clear HT tx
      have H1 := Lib.hid (p1)
      have H2 := Lib.hid (dr_kept r1)
      clear p1 r1 z9
      go_enter Try.func9, Try.ntmps9
      go_wp2_with fail
      refine (awake_w _).mono ?_
      rintro e w1 ⟨rfl, hk1⟩
      go_wp2_with fail
      refine (H1.out _).mono ?_
      rintro e w' ⟨rfl, rfl⟩
      go_wp2_with fail
      refine (H2.out _).mono ?_
      rintro e w3 ⟨rfl, hk3⟩
      go_wp2_with fail
      refine (TT.out _).mono ?_
      rintro e w4 ⟨rfl, hk4⟩
      go_wp2_with fail
      refine (H3.out _).mono ?_
      rintro e w' ⟨rfl, rfl⟩
      go_wp2_with fail
      refine (H4.out _).mono ?_
      rintro e w6 ⟨rfl, hk6⟩
      go_wp2_with fail
      refine (lontext_ok 0 (by decide) (by decide) _).mono ?_
      rintro e w7 ⟨rfl, hk7⟩
      go_wp2_with fail
      refine (H5.out _).mono ?_
      rintro e w8 ⟨rfl, hk8⟩
      go_wp2_with fail
      refine (H6.out _).mono ?_
      rintro e w9 ⟨rfl, hk9⟩
      refine kuse (b := w8.heap.size) hk9 (by first | (simp; done) | (simp; omega) | omega) ?_
      intro ha9_0 hb9_0
      have hz9_0 : w8.heap.size < w9.heap.size := by have := hk9.size; (try simp at this); omega
      go_wp2_with fail
      refine (postext_ok 0 0 (by decide) (by decide) (by decide) (by decide) _).mono ?_
      rintro e w10 ⟨rfl, hk10⟩
      refine kuse (b := w8.heap.size) hk10 (by first | (simp; done) | (simp; omega) | omega) ?_
      intro ha10_0 hb10_0
      have hz10_0 : w8.heap.size < w10.heap.size := by have := hk10.size; (try simp at this); omega
      refine kuse (b := w9.heap.size) hk10 (by first | (simp; done) | (simp; omega) | omega) ?_
      intro ha10_1 hb10_1
      have hz10_1 : w9.heap.size < w10.heap.size := by have := hk10.size; (try simp at this); omega
      go_wp2_with fail
      all_goals first | (go_ret; refine ⟨?_, (by repeat (first | with_reducible exact Kept.refl _ | with_reducible assumption | with_reducible refine Kept.setCell ?_ (by first | (simp; done) | (simp; omega) | omega) _ | with_reducible refine Kept.alloc ?_ _ | with_reducible refine Kept.drewN ?_ _ | with_reducible refine Kept.drew ?_ | with_reducible refine Kept.trans ?_ (by with_reducible assumption) | with_reducible refine Kept.dr ?_ (by with_reducible assumption)))⟩; first | rfl | (show Ending.returned (.bool (decide _)) = _; rw [decide_eq_true (by omega)]) | (show Ending.returned (.bool (decide _)) = _; rw [decide_eq_false (by omega)]) | (refine retb ?_; simp; done) | (refine retb ?_; simp; omega)) | (exfalso; omega)
    · obtain ⟨n1, n2⟩ := er_ne he
      clear he
      have H1 := Lib.hid (p1)
      have H2 := Lib.hid (dr_kept r1)
      clear p1 r1 z9
      go_enter Try.func9, Try.ntmps9
      go_wp2_with fail
      refine (awake_w _).mono ?_
      rintro e w1 ⟨rfl, hk1⟩
      go_wp2_with fail
      refine (H1.out _).mono ?_
      rintro e w' ⟨rfl, rfl⟩
      go_wp2_with fail
      refine (H2.out _).mono ?_
      rintro e w3 ⟨rfl, hk3⟩
      go_wp2_with fail
      refine (lattext_ok 0 (by decide) (by decide) _).mono ?_
      rintro e w4 ⟨rfl, hk4⟩
      go_wp2_with fail
      refine (H3.out _).mono ?_
      rintro e w' ⟨rfl, rfl⟩
      go_wp2_with fail
      refine (H4.out _).mono ?_
      rintro e w6 ⟨rfl, hk6⟩
      go_wp2_with fail
      refine (lontext_ok 0 (by decide) (by decide) _).mono ?_
      rintro e w7 ⟨rfl, hk7⟩
      go_wp2_with fail
      refine (H5.out _).mono ?_
      rintro e w8 ⟨rfl, hk8⟩
      go_wp2_with fail
      refine (H6.out _).mono ?_
      rintro e w9 ⟨rfl, hk9⟩
      refine kuse (b := w8.heap.size) hk9 (by first | (simp; done) | (simp; omega) | omega) ?_
      intro ha9_0 hb9_0
      have hz9_0 : w8.heap.size < w9.heap.size := by have := hk9.size; (try simp at this); omega
      go_wp2_with fail
      refine (postext_ok 0 0 (by decide) (by decide) (by decide) (by decide) _).mono ?_
      rintro e w10 ⟨rfl, hk10⟩
      refine kuse (b := w8.heap.size) hk10 (by first | (simp; done) | (simp; omega) | omega) ?_
      intro ha10_0 hb10_0
      have hz10_0 : w8.heap.size < w10.heap.size := by have := hk10.size; (try simp at this); omega
      refine kuse (b := w9.heap.size) hk10 (by first | (simp; done) | (simp; omega) | omega) ?_
      intro ha10_1 hb10_1
      have hz10_1 : w9.heap.size < w10.heap.size := by have := hk10.size; (try simp at this); omega
      go_wp2_with fail
      all_goals first | (go_ret; refine ⟨?_, (by repeat (first | with_reducible exact Kept.refl _ | with_reducible assumption | with_reducible refine Kept.setCell ?_ (by first | (simp; done) | (simp; omega) | omega) _ | with_reducible refine Kept.alloc ?_ _ | with_reducible refine Kept.drewN ?_ _ | with_reducible refine Kept.drew ?_ | with_reducible refine Kept.trans ?_ (by with_reducible assumption) | with_reducible refine Kept.dr ?_ (by with_reducible assumption)))⟩; first | rfl | (show Ending.returned (.bool (decide _)) = _; rw [decide_eq_true (by omega)]) | (show Ending.returned (.bool (decide _)) = _; rw [decide_eq_false (by omega)]) | (refine retb ?_; simp; done) | (refine retb ?_; simp; omega)) | (exfalso; omega)
  by_cases z10 : s.size = 10
  · obtain ⟨x1, x2⟩ := parselat_size s (by omega) (by omega)
    have H1 := Lib.hid (x1)
    have H2 := Lib.hid (dr_kept x2)
    clear x1 x2
    have H5 := Lib.hid (pp_size s (by omega) (by omega))
    have H6 := Lib.hid (rpp_size s (by omega) (by omega))
    rcases parselon_all s (by omega) with ⟨a, a0, a1, tx, p1, r1⟩ | ⟨er, he, p1, r1⟩
    · have HT : ∀ w, Calls Try.prog 28 #[.int .i64 a] w fun e w' => e = .returned (.tuple #[.string s, .int .i64 0]) ∧ Kept w w' := by
        intro w; rw [← tx]; exact lontext_ok a a0 a1 w
      have TT := Lib.hid HT
      clear HT tx
      have H3 := Lib.hid (p1)
      have H4 := Lib.hid (dr_kept r1)
      clear p1 r1 z9 z10
      go_enter Try.func9, Try.ntmps9
      go_wp2_with fail
      refine (awake_w _).mono ?_
      rintro e w1 ⟨rfl, hk1⟩
      go_wp2_with fail
      refine (H1.out _).mono ?_
      rintro e w' ⟨rfl, rfl⟩
      go_wp2_with fail
      refine (H2.out _).mono ?_
      rintro e w3 ⟨rfl, hk3⟩
      go_wp2_with fail
      refine (lattext_ok 0 (by decide) (by decide) _).mono ?_
      rintro e w4 ⟨rfl, hk4⟩
      go_wp2_with fail
      refine (H3.out _).mono ?_
      rintro e w' ⟨rfl, rfl⟩
      go_wp2_with fail
      refine (H4.out _).mono ?_
      rintro e w6 ⟨rfl, hk6⟩
      go_wp2_with fail
      refine (TT.out _).mono ?_
      rintro e w7 ⟨rfl, hk7⟩
      go_wp2_with fail
      refine (H5.out _).mono ?_
      rintro e w8 ⟨rfl, hk8⟩
      go_wp2_with fail
      refine (H6.out _).mono ?_
      rintro e w9 ⟨rfl, hk9⟩
      refine kuse (b := w8.heap.size) hk9 (by first | (simp; done) | (simp; omega) | omega) ?_
      intro ha9_0 hb9_0
      have hz9_0 : w8.heap.size < w9.heap.size := by have := hk9.size; (try simp at this); omega
      go_wp2_with fail
      refine (postext_ok 0 0 (by decide) (by decide) (by decide) (by decide) _).mono ?_
      rintro e w10 ⟨rfl, hk10⟩
      refine kuse (b := w8.heap.size) hk10 (by first | (simp; done) | (simp; omega) | omega) ?_
      intro ha10_0 hb10_0
      have hz10_0 : w8.heap.size < w10.heap.size := by have := hk10.size; (try simp at this); omega
      refine kuse (b := w9.heap.size) hk10 (by first | (simp; done) | (simp; omega) | omega) ?_
      intro ha10_1 hb10_1
      have hz10_1 : w9.heap.size < w10.heap.size := by have := hk10.size; (try simp at this); omega
      go_wp2_with fail
      all_goals first | (go_ret; refine ⟨?_, (by repeat (first | with_reducible exact Kept.refl _ | with_reducible assumption | with_reducible refine Kept.setCell ?_ (by first | (simp; done) | (simp; omega) | omega) _ | with_reducible refine Kept.alloc ?_ _ | with_reducible refine Kept.drewN ?_ _ | with_reducible refine Kept.drew ?_ | with_reducible refine Kept.trans ?_ (by with_reducible assumption) | with_reducible refine Kept.dr ?_ (by with_reducible assumption)))⟩; first | rfl | (show Ending.returned (.bool (decide _)) = _; rw [decide_eq_true (by omega)]) | (show Ending.returned (.bool (decide _)) = _; rw [decide_eq_false (by omega)]) | (refine retb ?_; simp; done) | (refine retb ?_; simp; omega)) | (exfalso; omega)
    · obtain ⟨n1, n2⟩ := er_ne he
      clear he
      have H3 := Lib.hid (p1)
      have H4 := Lib.hid (dr_kept r1)
      clear p1 r1 z9 z10
      go_enter Try.func9, Try.ntmps9
      go_wp2_with fail
      refine (awake_w _).mono ?_
      rintro e w1 ⟨rfl, hk1⟩
      go_wp2_with fail
      refine (H1.out _).mono ?_
      rintro e w' ⟨rfl, rfl⟩
      go_wp2_with fail
      refine (H2.out _).mono ?_
      rintro e w3 ⟨rfl, hk3⟩
      go_wp2_with fail
      refine (lattext_ok 0 (by decide) (by decide) _).mono ?_
      rintro e w4 ⟨rfl, hk4⟩
      go_wp2_with fail
      refine (H3.out _).mono ?_
      rintro e w' ⟨rfl, rfl⟩
      go_wp2_with fail
      refine (H4.out _).mono ?_
      rintro e w6 ⟨rfl, hk6⟩
      go_wp2_with fail
      refine (lontext_ok 0 (by decide) (by decide) _).mono ?_
      rintro e w7 ⟨rfl, hk7⟩
      go_wp2_with fail
      refine (H5.out _).mono ?_
      rintro e w8 ⟨rfl, hk8⟩
      go_wp2_with fail
      refine (H6.out _).mono ?_
      rintro e w9 ⟨rfl, hk9⟩
      refine kuse (b := w8.heap.size) hk9 (by first | (simp; done) | (simp; omega) | omega) ?_
      intro ha9_0 hb9_0
      have hz9_0 : w8.heap.size < w9.heap.size := by have := hk9.size; (try simp at this); omega
      go_wp2_with fail
      refine (postext_ok 0 0 (by decide) (by decide) (by decide) (by decide) _).mono ?_
      rintro e w10 ⟨rfl, hk10⟩
      refine kuse (b := w8.heap.size) hk10 (by first | (simp; done) | (simp; omega) | omega) ?_
      intro ha10_0 hb10_0
      have hz10_0 : w8.heap.size < w10.heap.size := by have := hk10.size; (try simp at this); omega
      refine kuse (b := w9.heap.size) hk10 (by first | (simp; done) | (simp; omega) | omega) ?_
      intro ha10_1 hb10_1
      have hz10_1 : w9.heap.size < w10.heap.size := by have := hk10.size; (try simp at this); omega
      go_wp2_with fail
      all_goals first | (go_ret; refine ⟨?_, (by repeat (first | with_reducible exact Kept.refl _ | with_reducible assumption | with_reducible refine Kept.setCell ?_ (by first | (simp; done) | (simp; omega) | omega) _ | with_reducible refine Kept.alloc ?_ _ | with_reducible refine Kept.drewN ?_ _ | with_reducible refine Kept.drew ?_ | with_reducible refine Kept.trans ?_ (by with_reducible assumption) | with_reducible refine Kept.dr ?_ (by with_reducible assumption)))⟩; first | rfl | (show Ending.returned (.bool (decide _)) = _; rw [decide_eq_true (by omega)]) | (show Ending.returned (.bool (decide _)) = _; rw [decide_eq_false (by omega)]) | (refine retb ?_; simp; done) | (refine retb ?_; simp; omega)) | (exfalso; omega)
  by_cases z19 : s.size = 19
  · obtain ⟨x1, x2⟩ := parselat_size s (by omega) (by omega)
    have H1 := Lib.hid (x1)
    have H2 := Lib.hid (dr_kept x2)
    clear x1 x2
    obtain ⟨x1, x2⟩ := parselon_size s (by omega) (by omega)
    have H3 := Lib.hid (x1)
    have H4 := Lib.hid (dr_kept x2)
    clear x1 x2
    rcases pos_all s z19 with ⟨a, b, a0, a1, b0, b1, tx, p1, r1⟩ | ⟨er, he, p1, r1⟩
    · have HT : ∀ w, Calls Try.prog 29 #[.agg #[.int .i64 a, .int .i64 b]] w fun e w' => e = .returned (.tuple #[.string s, .int .i64 0]) ∧ Kept w w' := by
        intro w; rw [← tx]; exact postext_ok a b a0 a1 b0 b1 w
      have TT := Lib.hid HT
      clear HT tx
      have H5 := Lib.hid (p1)
      have H6 := Lib.hid (r1)
      clear p1 r1 z9 z10 z19
      go_enter Try.func9, Try.ntmps9
      go_wp2_with fail
      refine (awake_w _).mono ?_
      rintro e w1 ⟨rfl, hk1⟩
      go_wp2_with fail
      refine (H1.out _).mono ?_
      rintro e w' ⟨rfl, rfl⟩
      go_wp2_with fail
      refine (H2.out _).mono ?_
      rintro e w3 ⟨rfl, hk3⟩
      go_wp2_with fail
      refine (lattext_ok 0 (by decide) (by decide) _).mono ?_
      rintro e w4 ⟨rfl, hk4⟩
      go_wp2_with fail
      refine (H3.out _).mono ?_
      rintro e w' ⟨rfl, rfl⟩
      go_wp2_with fail
      refine (H4.out _).mono ?_
      rintro e w6 ⟨rfl, hk6⟩
      go_wp2_with fail
      refine (lontext_ok 0 (by decide) (by decide) _).mono ?_
      rintro e w7 ⟨rfl, hk7⟩
      go_wp2_with fail
      refine (H5.out _).mono ?_
      rintro e w8 ⟨rfl, hk8⟩
      go_wp2_with fail
      refine (H6.out _).mono ?_
      rintro e w9 ⟨rfl, hk9⟩
      refine kuse (b := w8.heap.size) hk9 (by first | (simp; done) | (simp; omega) | omega) ?_
      intro ha9_0 hb9_0
      have hz9_0 : w8.heap.size < w9.heap.size := by have := hk9.size; (try simp at this); omega
      go_wp2_with fail
      refine (TT.out _).mono ?_
      rintro e w10 ⟨rfl, hk10⟩
      refine kuse (b := w8.heap.size) hk10 (by first | (simp; done) | (simp; omega) | omega) ?_
      intro ha10_0 hb10_0
      have hz10_0 : w8.heap.size < w10.heap.size := by have := hk10.size; (try simp at this); omega
      refine kuse (b := w9.heap.size) hk10 (by first | (simp; done) | (simp; omega) | omega) ?_
      intro ha10_1 hb10_1
      have hz10_1 : w9.heap.size < w10.heap.size := by have := hk10.size; (try simp at this); omega
      go_wp2_with fail
      all_goals first | (go_ret; refine ⟨?_, (by repeat (first | with_reducible exact Kept.refl _ | with_reducible assumption | with_reducible refine Kept.setCell ?_ (by first | (simp; done) | (simp; omega) | omega) _ | with_reducible refine Kept.alloc ?_ _ | with_reducible refine Kept.drewN ?_ _ | with_reducible refine Kept.drew ?_ | with_reducible refine Kept.trans ?_ (by with_reducible assumption) | with_reducible refine Kept.dr ?_ (by with_reducible assumption)))⟩; first | rfl | (show Ending.returned (.bool (decide _)) = _; rw [decide_eq_true (by omega)]) | (show Ending.returned (.bool (decide _)) = _; rw [decide_eq_false (by omega)]) | (refine retb ?_; simp; done) | (refine retb ?_; simp; omega)) | (exfalso; omega)
    · obtain ⟨n1, n2⟩ := er_ne he
      clear he
      have H5 := Lib.hid (p1)
      have H6 := Lib.hid (r1)
      clear p1 r1 z9 z10 z19
      go_enter Try.func9, Try.ntmps9
      go_wp2_with fail
      refine (awake_w _).mono ?_
      rintro e w1 ⟨rfl, hk1⟩
      go_wp2_with fail
      refine (H1.out _).mono ?_
      rintro e w' ⟨rfl, rfl⟩
      go_wp2_with fail
      refine (H2.out _).mono ?_
      rintro e w3 ⟨rfl, hk3⟩
      go_wp2_with fail
      refine (lattext_ok 0 (by decide) (by decide) _).mono ?_
      rintro e w4 ⟨rfl, hk4⟩
      go_wp2_with fail
      refine (H3.out _).mono ?_
      rintro e w' ⟨rfl, rfl⟩
      go_wp2_with fail
      refine (H4.out _).mono ?_
      rintro e w6 ⟨rfl, hk6⟩
      go_wp2_with fail
      refine (lontext_ok 0 (by decide) (by decide) _).mono ?_
      rintro e w7 ⟨rfl, hk7⟩
      go_wp2_with fail
      refine (H5.out _).mono ?_
      rintro e w8 ⟨rfl, hk8⟩
      go_wp2_with fail
      refine (H6.out _).mono ?_
      rintro e w9 ⟨rfl, hk9⟩
      refine kuse (b := w8.heap.size) hk9 (by first | (simp; done) | (simp; omega) | omega) ?_
      intro ha9_0 hb9_0
      have hz9_0 : w8.heap.size < w9.heap.size := by have := hk9.size; (try simp at this); omega
      go_wp2_with fail
      refine (postext_ok 0 0 (by decide) (by decide) (by decide) (by decide) _).mono ?_
      rintro e w10 ⟨rfl, hk10⟩
      refine kuse (b := w8.heap.size) hk10 (by first | (simp; done) | (simp; omega) | omega) ?_
      intro ha10_0 hb10_0
      have hz10_0 : w8.heap.size < w10.heap.size := by have := hk10.size; (try simp at this); omega
      refine kuse (b := w9.heap.size) hk10 (by first | (simp; done) | (simp; omega) | omega) ?_
      intro ha10_1 hb10_1
      have hz10_1 : w9.heap.size < w10.heap.size := by have := hk10.size; (try simp at this); omega
      go_wp2_with fail
      all_goals first | (go_ret; refine ⟨?_, (by repeat (first | with_reducible exact Kept.refl _ | with_reducible assumption | with_reducible refine Kept.setCell ?_ (by first | (simp; done) | (simp; omega) | omega) _ | with_reducible refine Kept.alloc ?_ _ | with_reducible refine Kept.drewN ?_ _ | with_reducible refine Kept.drew ?_ | with_reducible refine Kept.trans ?_ (by with_reducible assumption) | with_reducible refine Kept.dr ?_ (by with_reducible assumption)))⟩; first | rfl | (show Ending.returned (.bool (decide _)) = _; rw [decide_eq_true (by omega)]) | (show Ending.returned (.bool (decide _)) = _; rw [decide_eq_false (by omega)]) | (refine retb ?_; simp; done) | (refine retb ?_; simp; omega)) | (exfalso; omega)
  obtain ⟨x1, x2⟩ := parselat_size s (by omega) (by omega)
  have H1 := Lib.hid (x1)
  have H2 := Lib.hid (dr_kept x2)
  clear x1 x2
  obtain ⟨x1, x2⟩ := parselon_size s (by omega) (by omega)
  have H3 := Lib.hid (x1)
  have H4 := Lib.hid (dr_kept x2)
  clear x1 x2
  have H5 := Lib.hid (pp_size s (by omega) (by omega))
  have H6 := Lib.hid (rpp_size s (by omega) (by omega))
  clear z9 z10 z19
  go_enter Try.func9, Try.ntmps9
  go_wp2_with fail
  refine (awake_w _).mono ?_
  rintro e w1 ⟨rfl, hk1⟩
  go_wp2_with fail
  refine (H1.out _).mono ?_
  rintro e w' ⟨rfl, rfl⟩
  go_wp2_with fail
  refine (H2.out _).mono ?_
  rintro e w3 ⟨rfl, hk3⟩
  go_wp2_with fail
  refine (lattext_ok 0 (by decide) (by decide) _).mono ?_
  rintro e w4 ⟨rfl, hk4⟩
  go_wp2_with fail
  refine (H3.out _).mono ?_
  rintro e w' ⟨rfl, rfl⟩
  go_wp2_with fail
  refine (H4.out _).mono ?_
  rintro e w6 ⟨rfl, hk6⟩
  go_wp2_with fail
  refine (lontext_ok 0 (by decide) (by decide) _).mono ?_
  rintro e w7 ⟨rfl, hk7⟩
  go_wp2_with fail
  refine (H5.out _).mono ?_
  rintro e w8 ⟨rfl, hk8⟩
  go_wp2_with fail
  refine (H6.out _).mono ?_
  rintro e w9 ⟨rfl, hk9⟩
  refine kuse (b := w8.heap.size) hk9 (by first | (simp; done) | (simp; omega) | omega) ?_
  intro ha9_0 hb9_0
  have hz9_0 : w8.heap.size < w9.heap.size := by have := hk9.size; (try simp at this); omega
  go_wp2_with fail
  refine (postext_ok 0 0 (by decide) (by decide) (by decide) (by decide) _).mono ?_
  rintro e w10 ⟨rfl, hk10⟩
  refine kuse (b := w8.heap.size) hk10 (by first | (simp; done) | (simp; omega) | omega) ?_
  intro ha10_0 hb10_0
  have hz10_0 : w8.heap.size < w10.heap.size := by have := hk10.size; (try simp at this); omega
  refine kuse (b := w9.heap.size) hk10 (by first | (simp; done) | (simp; omega) | omega) ?_
  intro ha10_1 hb10_1
  have hz10_1 : w9.heap.size < w10.heap.size := by have := hk10.size; (try simp at this); omega
  go_wp2_with fail
  all_goals first | (go_ret; refine ⟨?_, (by repeat (first | with_reducible exact Kept.refl _ | with_reducible assumption | with_reducible refine Kept.setCell ?_ (by first | (simp; done) | (simp; omega) | omega) _ | with_reducible refine Kept.alloc ?_ _ | with_reducible refine Kept.drewN ?_ _ | with_reducible refine Kept.drew ?_ | with_reducible refine Kept.trans ?_ (by with_reducible assumption) | with_reducible refine Kept.dr ?_ (by with_reducible assumption)))⟩; first | rfl | (show Ending.returned (.bool (decide _)) = _; rw [decide_eq_true (by omega)]) | (show Ending.returned (.bool (decide _)) = _; rw [decide_eq_false (by omega)]) | (refine retb ?_; simp; done) | (refine retb ?_; simp; omega)) | (exfalso; omega)
end Go.Proofs.Ytofeijgcbjhkdaa
