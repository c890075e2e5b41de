/- What an erase, and a program, of any page of any device does, torn or not, is just what the document says. -/
import Derived.Test.YtdbohkbemjkcfaaPartE
import Derived.SizedLaws
import Derived.ProofKit
import Derived.OpenShut
import Derived.ShutString
import Derived.ChangeOld
import Derived.Below
namespace Go.Proofs.Ytdbohkbemjkcfaa
open Go.ChangeShapes Go.WideShapes Go.ChangeAt Go.RowKit
open Go.ChangeMaps (open_string shut_string)
set_option linter.unusedVariables false
set_option linter.unusedSimpArgs false
attribute [local irreducible] set5
theorem erase_len (F : Fl) (n : Int) : (eraseF F n).pages.length = F.pages.length ∧ (eraseF F n).wear.length = F.wear.length := by
  unfold eraseF
  split
  · exact ⟨rfl, rfl⟩
  · split
    · exact ⟨rfl, rfl⟩
    · split <;> simp
theorem prog_len (F : Fl) (n at_ : Int) (s : List UInt8) : (progF F n at_ s).pages.length = F.pages.length ∧ (progF F n at_ s).wear.length = F.wear.length := by
  unfold progF
  split
  · exact ⟨rfl, rfl⟩
  · split
    · exact ⟨rfl, rfl⟩
    · split
      · exact ⟨rfl, rfl⟩
      · split <;> simp
theorem same_self (F : Fl) : sameB F F = true := by simp [sameB]
set_option maxRecDepth 100000 in
set_option maxHeartbeats 4000000 in
theorem flashSteps_1 (F : Fl) (v : Value) (page at_ : Int) (s : List UInt8) (w : World) (hv : isFl F v w) (hfew : fewB F = false) :
    Calls Try.prog 3 #[v, .int .i64 page, .int .i64 at_, .string ⟨s.toArray⟩] w fun e w' => e = .returned (.bool true) ∧ Below w.heap.size w w' := by
  obtain ⟨vp, vw, rfl, hp, hq⟩ := hv
  have HF := Kept.mk hfew
  clear hfew
  obtain ⟨hB, Vf⟩ := var_box w F vp vw hp hq
  clear hp hq
  go_enter Try.func3, Try.ntmps3
  go_wp2_with fail
  ((with_reducible refine (works_any _).mono ?_); rintro e W1 ⟨rfl, hb1⟩)
  replace hB := Kept.mk (hB.out.trans ((hb1).mono hB.out.size))
  replace Vf := Kept.mk (Vf.out.keep (hb1))
  clear hb1
  obtain ⟨vpf, vwf, flf, kf0, kf1, kf2, kf3, kf4⟩ := Vf.out.open_
  go_wp2_with fail
  ((with_reducible refine (few_any F _ _ flf).mono ?_); rintro e W2 ⟨rfl, hb1⟩)
  clear kf0 kf1 kf2 kf3 kf4 flf
  replace hB := Kept.mk (hB.out.trans ((hb1).mono hB.out.size))
  replace Vf := Kept.mk (Vf.out.keep (hb1))
  clear hb1
  rw [HF.out]
  go_wp2
  go_ret
  exact ⟨rfl, hB.out⟩
set_option maxRecDepth 100000 in
set_option maxHeartbeats 4000000 in
theorem flashSteps_2 (F : Fl) (v : Value) (page at_ : Int) (s : List UInt8) (w : World) (hv : isFl F v w) (hfew : fewB F = true) (ht : 400 < s.length) :
    Calls Try.prog 3 #[v, .int .i64 page, .int .i64 at_, .string ⟨s.toArray⟩] w fun e w' => e = .returned (.bool true) ∧ Below w.heap.size w w' := by
  obtain ⟨vp, vw, rfl, hp, hq⟩ := hv
  have HF := Kept.mk hfew
  clear hfew
  have hsz : (⟨s.toArray⟩ : ByteArray).size = s.length := size_mk s
  have c1 : decide (400 < (s.length : Int)) = true := by simp; omega
  obtain ⟨hB, Vf⟩ := var_box w F vp vw hp hq
  clear hp hq
  go_enter Try.func3, Try.ntmps3
  go_wp2_with fail
  ((with_reducible refine (works_any _).mono ?_); rintro e W1 ⟨rfl, hb1⟩)
  replace hB := Kept.mk (hB.out.trans ((hb1).mono hB.out.size))
  replace Vf := Kept.mk (Vf.out.keep (hb1))
  clear hb1
  obtain ⟨vpf, vwf, flf, kf0, kf1, kf2, kf3, kf4⟩ := Vf.out.open_
  go_wp2_with fail
  ((with_reducible refine (few_any F _ _ flf).mono ?_); rintro e W2 ⟨rfl, hb1⟩)
  clear kf0 kf1 kf2 kf3 kf4 flf
  replace hB := Kept.mk (hB.out.trans ((hb1).mono hB.out.size))
  replace Vf := Kept.mk (Vf.out.keep (hb1))
  clear hb1
  rw [HF.out]
  go_wp2
  go_ret
  exact ⟨rfl, hB.out⟩
set_option maxRecDepth 100000 in
set_option maxHeartbeats 4000000 in
theorem flashSteps_3 (F : Fl) (v : Value) (page at_ : Int) (s : List UInt8) (w : World) (hv : isFl F v w) (hfew : fewB F = true) (ht : s.length ≤ 400) (hff : FewF F) (hfz : F.fuse ≤ 9223372036854775807) :
    Calls Try.prog 3 #[v, .int .i64 page, .int .i64 at_, .string ⟨s.toArray⟩] w fun e w' => e = .returned (.bool true) ∧ Below w.heap.size w w' := by
  obtain ⟨vp, vw, rfl, hp, hq⟩ := hv
  have HF := Kept.mk hfew
  obtain ⟨hn1, hn2⟩ := few_facts hfew
  clear hfew
  have hsz : (⟨s.toArray⟩ : ByteArray).size = s.length := size_mk s
  have c1 : decide (400 < (s.length : Int)) = false := by simp; omega
  have HFF := Kept.mk hff
  clear hff
  obtain ⟨lx1, lx2⟩ := erase_len F page
  obtain ⟨ly1, ly2⟩ := prog_len F page at_ s
  obtain ⟨x, hx⟩ : ∃ x, eraseE F page = x := ⟨_, rfl⟩
  obtain ⟨X, hX⟩ : ∃ X, eraseF F page = X := ⟨_, rfl⟩
  obtain ⟨y, hy⟩ : ∃ y, progE F page at_ s = y := ⟨_, rfl⟩
  obtain ⟨Y, hY⟩ : ∃ Y, progF F page at_ s = Y := ⟨_, rfl⟩
  rw [hX] at lx1 lx2
  rw [hY] at ly1 ly2
  have HE := Kept.mk hx
  have HG := Kept.mk hX
  have HE2 := Kept.mk hy
  have HG2 := Kept.mk hY
  have HS := Kept.mk (same_self X)
  have HS2 := Kept.mk (same_self Y)
  clear hx hX hy hY
  obtain ⟨hB, Vf⟩ := var_box w F vp vw hp hq
  clear hp hq
  go_enter Try.func3, Try.ntmps3
  go_wp2_with fail
  ((with_reducible refine (works_any _).mono ?_); rintro e W1 ⟨rfl, hb1⟩)
  replace hB := Kept.mk (hB.out.trans ((hb1).mono hB.out.size))
  replace Vf := Kept.mk (Vf.out.keep (hb1))
  clear hb1
  obtain ⟨vpf, vwf, flf, kf0, kf1, kf2, kf3, kf4⟩ := Vf.out.open_
  go_wp2_with fail
  ((with_reducible refine (few_any F _ _ flf).mono ?_); rintro e W2 ⟨rfl, hb1⟩)
  clear kf0 kf1 kf2 kf3 kf4 flf
  replace hB := Kept.mk (hB.out.trans ((hb1).mono hB.out.size))
  replace Vf := Kept.mk (Vf.out.keep (hb1))
  clear hb1
  obtain ⟨vpf, vwf, flf, kf0, kf1, kf2, kf3, kf4⟩ := Vf.out.open_
  rw [HF.out]
  go_wp2_with fail
  ((with_reducible refine (erase_any F page _ _ flf (by omega) (by omega) hfz).mono ?_); rintro e U ⟨v', rfl, hf', hb1⟩)
  rewrite [HE.out]
  rw [HG.out] at hf'
  obtain ⟨vp', vw', rfl, hp', hq'⟩ := hf'.fl
  have o1 := hp'.one
  have o2 := hq'.one
  obtain ⟨K1, K2, K3, K4⟩ := var_new U X vp' vw' hp' hq'
  clear hp' hq' hf'
  clear kf0 kf1 kf2 kf3 kf4 flf
  replace hB := Kept.mk (hB.out.trans ((hb1).mono hB.out.size))
  replace Vf := Kept.mk (Vf.out.keep (hb1))
  clear hb1
  go_wp2_with (refine wpList_store5 rfl (.tmp 11) (.tmp 38) rfl U.heap.size vp' vw' (.int .i64 X.fuse) (strC X.torn) (.bool X.dead) rfl rfl K1.out K2.out o1 o2 rfl rfl rfl ?_; replace hB := Kept.mk (hB.out.trans ((K3.out).mono hB.out.size)); replace Vf := Kept.mk (Vf.out.keep (K3.out)); have Va := K4; clear K1 K2 K3 K4 o1 o2; generalize set5 (U.alloc (.cells #[.slice none 0 0, .slice none 0 0, .int .i64 0, .string ⟨#[]⟩, .bool false] 25)) U.heap.size vp' vw' (.int .i64 X.fuse) (strC X.torn) (.bool X.dead) = W3 at *; generalize U.heap.size = ga at *; obtain ⟨vpf, vwf, flf, kf0, kf1, kf2, kf3, kf4⟩ := Vf.out.open_)
  ((with_reducible refine (rerase_any F page _ _ flf HFF.out hfz).mono ?_); rintro e U ⟨v', rfl, hf', hb1⟩)
  rewrite [HE.out]
  rw [HG.out] at hf'
  obtain ⟨vp', vw', rfl, hp', hq'⟩ := hf'
  have o1 := hp'.one
  have o2 := hq'.one
  obtain ⟨K1, K2, K3, K4⟩ := var_new U X vp' vw' hp' hq'
  clear hp' hq'
  clear kf0 kf1 kf2 kf3 kf4 flf
  replace hB := Kept.mk (hB.out.trans ((hb1).mono hB.out.size))
  replace Vf := Kept.mk (Vf.out.keep (hb1))
  replace Va := Kept.mk (Va.out.keep (hb1))
  clear hb1
  go_wp2_with (refine wpList_store5 rfl (.tmp 13) (.tmp 44) rfl U.heap.size vp' vw' (.int .i64 X.fuse) (strC X.torn) (.bool X.dead) rfl rfl K1.out K2.out o1 o2 rfl rfl rfl ?_; replace hB := Kept.mk (hB.out.trans ((K3.out).mono hB.out.size)); replace Vf := Kept.mk (Vf.out.keep (K3.out)); replace Va := Kept.mk (Va.out.keep (K3.out)); have Vb := K4; clear K1 K2 K3 K4 o1 o2; generalize set5 (U.alloc (.cells #[.slice none 0 0, .slice none 0 0, .int .i64 0, .string ⟨#[]⟩, .bool false] 25)) U.heap.size vp' vw' (.int .i64 X.fuse) (strC X.torn) (.bool X.dead) = W4 at *; generalize U.heap.size = gb at *; obtain ⟨vpf, vwf, flf, kf0, kf1, kf2, kf3, kf4⟩ := Vf.out.open_)
  ((with_reducible refine (program_any F page at_ s _ _ flf (by omega) (by omega) (by omega) hfz).mono ?_); rintro e U ⟨v', rfl, hf', hb1⟩)
  rewrite [HE2.out]
  rw [HG2.out] at hf'
  obtain ⟨vp', vw', rfl, hp', hq'⟩ := hf'.fl
  have o1 := hp'.one
  have o2 := hq'.one
  obtain ⟨K1, K2, K3, K4⟩ := var_new U Y vp' vw' hp' hq'
  clear hp' hq' hf'
  clear kf0 kf1 kf2 kf3 kf4 flf
  replace hB := Kept.mk (hB.out.trans ((hb1).mono hB.out.size))
  replace Vf := Kept.mk (Vf.out.keep (hb1))
  replace Va := Kept.mk (Va.out.keep (hb1))
  replace Vb := Kept.mk (Vb.out.keep (hb1))
  clear hb1
  go_wp2_with (refine wpList_store5 rfl (.tmp 15) (.tmp 52) rfl U.heap.size vp' vw' (.int .i64 Y.fuse) (strC Y.torn) (.bool Y.dead) rfl rfl K1.out K2.out o1 o2 rfl rfl rfl ?_; replace hB := Kept.mk (hB.out.trans ((K3.out).mono hB.out.size)); replace Vf := Kept.mk (Vf.out.keep (K3.out)); replace Va := Kept.mk (Va.out.keep (K3.out)); replace Vb := Kept.mk (Vb.out.keep (K3.out)); have Vc := K4; clear K1 K2 K3 K4 o1 o2; generalize set5 (U.alloc (.cells #[.slice none 0 0, .slice none 0 0, .int .i64 0, .string ⟨#[]⟩, .bool false] 25)) U.heap.size vp' vw' (.int .i64 Y.fuse) (strC Y.torn) (.bool Y.dead) = W5 at *; generalize U.heap.size = gc at *; obtain ⟨vpf, vwf, flf, kf0, kf1, kf2, kf3, kf4⟩ := Vf.out.open_)
  ((with_reducible refine (rprog_any F page at_ s _ _ flf HFF.out (by omega) hfz).mono ?_); rintro e U ⟨v', rfl, hf', hb1⟩)
  rewrite [HE2.out]
  rw [HG2.out] at hf'
  obtain ⟨vp', vw', rfl, hp', hq'⟩ := hf'
  have o1 := hp'.one
  have o2 := hq'.one
  obtain ⟨K1, K2, K3, K4⟩ := var_new U Y vp' vw' hp' hq'
  clear hp' hq'
  clear kf0 kf1 kf2 kf3 kf4 flf
  replace hB := Kept.mk (hB.out.trans ((hb1).mono hB.out.size))
  replace Vf := Kept.mk (Vf.out.keep (hb1))
  replace Va := Kept.mk (Va.out.keep (hb1))
  replace Vb := Kept.mk (Vb.out.keep (hb1))
  replace Vc := Kept.mk (Vc.out.keep (hb1))
  clear hb1
  go_wp2_with (refine wpList_store5 rfl (.tmp 17) (.tmp 60) rfl U.heap.size vp' vw' (.int .i64 Y.fuse) (strC Y.torn) (.bool Y.dead) rfl rfl K1.out K2.out o1 o2 rfl rfl rfl ?_; replace hB := Kept.mk (hB.out.trans ((K3.out).mono hB.out.size)); replace Vf := Kept.mk (Vf.out.keep (K3.out)); replace Va := Kept.mk (Va.out.keep (K3.out)); replace Vb := Kept.mk (Vb.out.keep (K3.out)); replace Vc := Kept.mk (Vc.out.keep (K3.out)); have Vd := K4; clear K1 K2 K3 K4 o1 o2; generalize set5 (U.alloc (.cells #[.slice none 0 0, .slice none 0 0, .int .i64 0, .string ⟨#[]⟩, .bool false] 25)) U.heap.size vp' vw' (.int .i64 Y.fuse) (strC Y.torn) (.bool Y.dead) = W6 at *; generalize U.heap.size = gd at *; obtain ⟨vpa, vwa, fla, ka0, ka1, ka2, ka3, ka4⟩ := Va.out.open_; obtain ⟨vpb, vwb, flb, kb0, kb1, kb2, kb3, kb4⟩ := Vb.out.open_)
  ((with_reducible refine (rfsame_any X X _ _ _ fla flb (by omega) (by omega) (by omega) (by omega)).mono ?_); rintro e W7 ⟨rfl, hb1⟩)
  clear ka0 ka1 ka2 ka3 ka4 fla
  clear kb0 kb1 kb2 kb3 kb4 flb
  replace hB := Kept.mk (hB.out.trans ((hb1).mono hB.out.size))
  replace Vf := Kept.mk (Vf.out.keep (hb1))
  replace Va := Kept.mk (Va.out.keep (hb1))
  replace Vb := Kept.mk (Vb.out.keep (hb1))
  replace Vc := Kept.mk (Vc.out.keep (hb1))
  replace Vd := Kept.mk (Vd.out.keep (hb1))
  clear hb1
  obtain ⟨vpc, vwc, flc, kc0, kc1, kc2, kc3, kc4⟩ := Vc.out.open_
  obtain ⟨vpd, vwd, fld, kd0, kd1, kd2, kd3, kd4⟩ := Vd.out.open_
  rw [HS.out]
  go_wp2_with fail
  ((with_reducible refine (rfsame_any Y Y _ _ _ flc fld (by omega) (by omega) (by omega) (by omega)).mono ?_); rintro e W8 ⟨rfl, hb1⟩)
  clear kc0 kc1 kc2 kc3 kc4 flc
  clear kd0 kd1 kd2 kd3 kd4 fld
  replace hB := Kept.mk (hB.out.trans ((hb1).mono hB.out.size))
  replace Vf := Kept.mk (Vf.out.keep (hb1))
  replace Va := Kept.mk (Va.out.keep (hb1))
  replace Vb := Kept.mk (Vb.out.keep (hb1))
  replace Vc := Kept.mk (Vc.out.keep (hb1))
  replace Vd := Kept.mk (Vd.out.keep (hb1))
  clear hb1
  rw [HS2.out]
  go_wp2
  go_ret
  exact ⟨rfl, hB.out⟩

theorem flashSteps_walk (F0 : Fl) (v0 : Value) (a1 a2 : Int) (a3 : ByteArray) (c0 : Came F0) (w1 : (Lit.int .i64 a1).wf = true) (w2 : (Lit.int .i64 a2).wf = true) (w3 : a3.size ≤ maxLen) (w : World) (hv : isFl F0 v0 w) :
    Calls Try.prog 3 #[v0, .int .i64 a1, .int .i64 a2, .string a3] w fun e w' => e = .returned (.bool true) ∧ Below w.heap.size w w' := by
  rw [str_eta a3]
  generalize a3.data.toList = s
  cases hfew : fewB F0 with
  | false => exact flashSteps_1 F0 v0 a1 a2 s w hv hfew
  | true =>
    by_cases ht : 400 < s.length
    · exact flashSteps_2 F0 v0 a1 a2 s w hv hfew ht
    · obtain ⟨q1, q2⟩ := few_facts hfew
      refine flashSteps_3 F0 v0 a1 a2 s w hv hfew (by omega) ⟨by omega, by omega, ?_, fun p hp => ?_⟩ (wf_i64 c0.fuse).2
      · have := c0.torn; unfold maxLen at this; omega
      · have := c0.pages p hp; unfold maxLen at this; omega

set_option maxRecDepth 100000 in
theorem flashSteps_lifted (os : Os) (started : os.Started) (H : Type) (enc : TypeId × Value → H) :
    ReturnsInHanded {} Try.checked os 3 .any (Rows.flashStepsSpec.pre6 enc Try.prog Try.f3 Rows.flashStepsRow.domain false) (Rows.flashStepsSpec.post enc Try.prog Try.f3 false true false false) := by
  refine returnsInHanded_of_change (C := Try.checked) (by kernel_rfl : ownKnob Try.prog.godebug = none) started (by kernel_rfl) Try.func3
    (ChangeSpec.witness6 (enc := enc) (C := Try.checked) false ⟨#[], #[.agg #[.slice none 0 0, .slice none 0 0, .int .i64 0, .string ByteArray.empty, .bool false], .int .i64 0, .int .i64 0, .string ByteArray.empty], []⟩ 8 (by kernel_rfl) (by kernel_rfl) (by kernel_rfl) (by kernel_rfl)) ?_
  intro W base args ds gs before hval0 hW hcnd _
  have hval : ∀ (j : Nat) t v, Try.f3.params[j]? = some t → args[j]? = some v → Value.okWide Try.prog W .any base t v := hval0
  have hW' := hW
  obtain ⟨p, q, hA0, hV, rfl, hfz, hnd⟩ := hW
  have hA : DataW.TrodAll enc Try.prog W 0 (fun _ => true) true Try.f3.params.toList args.toList ds p := hA0
  rw [Try.params3] at hA hval
  obtain ⟨v0, vs0, d0, ds0, p0, q0, hargs, rfl, rfl, h0, r0⟩ := trodAll_cons hA
  obtain ⟨v1, vs1, d1, ds1, p1, q1, rfl, rfl, rfl, h1, r1⟩ := trodAll_cons r0
  obtain ⟨v2, vs2, d2, ds2, p2, q2, rfl, rfl, rfl, h2, r2⟩ := trodAll_cons r1
  obtain ⟨v3, vs3, d3, ds3, p3, q3, rfl, rfl, rfl, h3, r3⟩ := trodAll_cons r2
  obtain ⟨rfl, rfl, rfl⟩ := trodAll_nil r3
  obtain rfl : args = #[v0, v1, v2, v3] := by cases args; simp_all
  obtain ⟨rfl, rfl⟩ := trodVars_none hV
  obtain ⟨F0, fl0, w0, z0⟩ := open_flash (hval 0 25 v0 rfl rfl) h0
  have lt0 : ∀ x ∈ p0, x.block < W.heap.size := fun x hx => by obtain ⟨fuel, hf⟩ := h0; exact DataW.trod_lt fuel _ _ _ hf x hx
  obtain ⟨a1, rfl, rfl, rfl, w1⟩ := open_int Try.underlying3 (hval 1 3 v1 rfl rfl) h1
  obtain ⟨a2, rfl, rfl, rfl, w2⟩ := open_int Try.underlying3 (hval 2 3 v2 rfl rfl) h2
  obtain ⟨a3, rfl, rfl, rfl, w3⟩ := open_string Try.underlying9 (hval 3 9 v3 rfl rfl) h3
  clear hA0 hval0
  simp only [List.append_nil] at hW'
  refine (flashSteps_walk F0 v0 a1 a2 a3 w0 w1 w2 w3 W fl0).mono fun e W' ⟨he, bel⟩ => ?_
  subst he
  exact ⟨_, rfl, _, _, _, [], _, [], hW', trodAll_mk1 (shut_bool Try.underlying4 _), (trodAll_cons_mk (Below.trod (by kernel_rfl) (by kernel_rfl) (of_decide_eq_true (by kernel_rfl)) h0 bel lt0) (trodAll_cons_mk (shut_int Try.underlying3 w1) (trodAll_cons_mk (shut_int Try.underlying3 w2) (trodAll_cons_mk (shut_string Try.underlying9 w3) trodAll_mk0)))), rfl, bel.frame _, fun h => by cases h⟩
/-- THE STATEMENT. -/
theorem flashSteps_proved : Rows.FlashStepsSaid :=
  OpenClaim.holds_of_wide 3 Try.f3 rfl rfl rfl rfl rfl rfl rfl ⟨rfl, rfl, rfl, rfl, rfl⟩ rfl rfl rfl rfl rfl (by kernel_rfl) Try.func3 (by kernel_rfl)
    (of_decide_eq_true (by kernel_rfl)) (by unfold Func.isWrapper; first | (rw [if_pos (by decide +kernel)]; kernel_rfl) | (rw [if_neg (by decide +kernel)]; exact ⟨rfl, rfl⟩))
    (fun os started H enc _ => flashSteps_lifted os started H enc)
#print axioms flashSteps_proved
end Go.Proofs.Ytdbohkbemjkcfaa
