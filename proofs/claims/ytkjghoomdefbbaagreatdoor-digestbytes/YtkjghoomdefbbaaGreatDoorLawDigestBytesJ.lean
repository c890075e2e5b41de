/- Any sums as bytes, and the sums of any bytes, are just what the document says; what is put is got again, and nothing else is (digest.Put, Get). -/
import Derived.Test.YtkjghoomdefbbaaGreatDoorPartG
import Derived.SizedLaws
import Derived.ProofKit
import Derived.OpenShut
import Derived.ShutString
import Derived.ChangeOld
import Derived.Below
namespace Go.Proofs.YtkjghoomdefbbaaGreatDoor
open Go.RowKit
open Go.ChangeShapes Go.WideShapes Go.ChangeAt Go.RowKit
open Go.ChangeMaps (open_string shut_string)
set_option linter.unusedVariables false
set_option linter.unusedSimpArgs false
attribute [local irreducible] setN

set_option maxRecDepth 100000 in
set_option maxHeartbeats 4000000 in
theorem digestBytes_walk (a0_0 a0_1 a0_2 a0_3 : Int) (a1 : ByteArray) (w0_0 : (Lit.int .i64 a0_0).wf = true) (w0_1 : (Lit.int .i64 a0_1).wf = true) (w0_2 : (Lit.int .i64 a0_2).wf = true) (w0_3 : (Lit.int .i64 a0_3).wf = true) (w1 : a1.size ≤ maxLen) (w : World) :
    Calls Tryz.prog 4 #[.agg #[.int .i64 a0_0, .int .i64 a0_1, .int .i64 a0_2, .int .i64 a0_3], .string a1] w fun e w' => e = .returned (.bool true) ∧ Below w.heap.size w w' := by
  rw [str_eta a1]
  generalize a1.data.toList = s
  have hB := Kept.mk ((Below.refl w.heap.size w).alloc (Nat.le_refl _) (.cells #[.int .i64 a0_0, .int .i64 a0_1, .int .i64 a0_2, .int .i64 a0_3] 26))
  have Vl := Kept.mk (Blk.new w 26 [.int .i64 a0_0, .int .i64 a0_1, .int .i64 a0_2, .int .i64 a0_3] w.heap.size rfl)
  have hle : ∀ x ∈ [a0_0, a0_1, a0_2, a0_3], x ≤ 9223372036854775807 := by
    intro x hx
    simp only [List.mem_cons, List.not_mem_nil, or_false] at hx
    rcases hx with rfl | rfl | rfl | rfl
    · exact le_of_wf w0_0
    · exact le_of_wf w0_1
    · exact le_of_wf w0_2
    · exact le_of_wf w0_3
  go_enter Tryz.func4, Tryz.ntmps4
  go_wp2_with fail
  generalize (w.alloc (.cells #[.int .i64 a0_0, .int .i64 a0_1, .int .i64 a0_2, .int .i64 a0_3] 26)) = W0 at *
  ((with_reducible refine (dgworks_any _).mono ?_); rintro e W1 ⟨rfl, hb1⟩)
  replace hB := Kept.mk (hB.out.trans ((hb1).mono hB.out.size))
  replace Vl := Kept.mk (Vl.out.keep (hb1))
  clear hb1
  by_cases h0 : 100 < s.length
  · skip
    have c0 : decide (100 < (s.length : Int)) = true := by simp; omega
    go_wp2
    all_goals go_ret
    all_goals exact ⟨rfl, hB.out⟩
  · skip
    have c0 : decide (100 < (s.length : Int)) = false := by simp; omega
    have g0 : s.length ≤ 1000000000 := by omega
    obtain ⟨t, ht⟩ : ∃ t, putQ [a0_0, a0_1, a0_2, a0_3] = t := ⟨_, rfl⟩
    obtain ⟨e, he⟩ : ∃ e, putQE [a0_0, a0_1, a0_2, a0_3] = e := ⟨_, rfl⟩
    obtain ⟨p0, p1, p2, p3, hp⟩ := getQ_four s
    obtain ⟨g, hg⟩ : ∃ g, getQE s = g := ⟨_, rfl⟩
    have htl : t.length ≤ 1000000000 := by have := putQ_len a0_0 a0_1 a0_2 a0_3; rw [ht] at this; omega
    obtain ⟨q0, q1, q2, q3, hq⟩ := getQ_four t
    obtain ⟨i, hi⟩ : ∃ i, getQE t = i := ⟨_, rfl⟩
    obtain ⟨u, hu⟩ : ∃ u, putQ [p0, p1, p2, p3] = u := ⟨_, rfl⟩
    obtain ⟨j, hj⟩ : ∃ j, putQE [p0, p1, p2, p3] = j := ⟨_, rfl⟩
    have hple : ∀ x ∈ [p0, p1, p2, p3], x ≤ 9223372036854775807 := fun x hx => by have := four_le x (by rw [hp]; exact hx); omega
    have F1 := Kept.mk (show e = 0 → i = 0 ∧ [q0, q1, q2, q3] = [a0_0, a0_1, a0_2, a0_3] by intro h; rw [← he] at h; obtain ⟨h1, h2⟩ := put_back h; rw [ht] at h1 h2; exact ⟨hi.symm.trans h1, hq.symm.trans h2⟩)
    have F2 := Kept.mk (show g = 0 → j = 0 ∧ u = s by intro h; rw [← hg] at h; obtain ⟨h1, h2⟩ := get_back h; rw [hp] at h1 h2; exact ⟨hj.symm.trans h1, hu.symm.trans h2⟩)
    have Ht := Kept.mk ht
    have He := Kept.mk he
    have Hp := Kept.mk hp
    have Hg := Kept.mk hg
    have Hq := Kept.mk hq
    have Hi := Kept.mk hi
    have Hu := Kept.mk hu
    have Hj := Kept.mk hj
    clear ht he hp hg hq hi hu hj
    have kl0 := Vl.out.cells.2 0 _ rfl
    have kl1 := Vl.out.cells.2 1 _ rfl
    have kl2 := Vl.out.cells.2 2 _ rfl
    have kl3 := Vl.out.cells.2 3 _ rfl
    go_wp2_with fail
    ((with_reducible refine (gd_put a0_0 a0_1 a0_2 a0_3 t e _ hle Ht.out He.out).mono ?_); rintro e W2 ⟨rfl, hb1⟩)
    clear kl0 kl1 kl2 kl3
    replace hB := Kept.mk (hB.out.trans ((hb1).mono hB.out.size))
    replace Vl := Kept.mk (Vl.out.keep (hb1))
    clear hb1
    have kl0 := Vl.out.cells.2 0 _ rfl
    have kl1 := Vl.out.cells.2 1 _ rfl
    have kl2 := Vl.out.cells.2 2 _ rfl
    have kl3 := Vl.out.cells.2 3 _ rfl
    go_wp2_with fail
    ((with_reducible refine (gd_rput a0_0 a0_1 a0_2 a0_3 t e _ hle Ht.out He.out).mono ?_); rintro e W3 ⟨rfl, hb1⟩)
    clear kl0 kl1 kl2 kl3
    replace hB := Kept.mk (hB.out.trans ((hb1).mono hB.out.size))
    replace Vl := Kept.mk (Vl.out.keep (hb1))
    clear hb1
    go_wp2_with fail
    ((with_reducible refine (gd_get s p0 p1 p2 p3 g _ g0 Hp.out Hg.out).mono ?_); rintro e U ⟨rfl, hb1⟩)
    obtain ⟨K1, K2, K3, K4, K5⟩ := snew U (p0) (p1) (p2) (p3) U.heap.size rfl
    replace hB := Kept.mk (hB.out.trans ((hb1).mono hB.out.size))
    replace Vl := Kept.mk (Vl.out.keep (hb1))
    clear hb1
    go_wp2_with (have hz0 := K1; refine wpList_storeN 26 rfl (.tmp 10) (.tmp 38) rfl U.heap.size [.int .i64 p0, .int .i64 p1, .int .i64 p2, .int .i64 p3] size_a4 rfl rfl K1.out rfl K2.out K5.out ?_; replace hB := Kept.mk (hB.out.trans ((K3.out).mono hB.out.size)); replace Vl := Kept.mk (Vl.out.keep (K3.out)); have Vm := Kept.mk K4.out; clear hz0 K1 K2 K3 K4 K5; generalize setN (U.alloc (.cells #[.int .i64 0, .int .i64 0, .int .i64 0, .int .i64 0] 26)) U.heap.size 0 [.int .i64 p0, .int .i64 p1, .int .i64 p2, .int .i64 p3] = W4 at *; generalize U.heap.size = gm at *)
    ((with_reducible refine (gd_rget s p0 p1 p2 p3 g _ g0 Hp.out Hg.out).mono ?_); rintro e U ⟨rfl, hb1⟩)
    obtain ⟨K1, K2, K3, K4, K5⟩ := snew U (p0) (p1) (p2) (p3) U.heap.size rfl
    replace hB := Kept.mk (hB.out.trans ((hb1).mono hB.out.size))
    replace Vl := Kept.mk (Vl.out.keep (hb1))
    replace Vm := Kept.mk (Vm.out.keep (hb1))
    clear hb1
    go_wp2_with (have hz0 := K1; refine wpList_storeN 26 rfl (.tmp 12) (.tmp 43) rfl U.heap.size [.int .i64 p0, .int .i64 p1, .int .i64 p2, .int .i64 p3] size_a4 rfl rfl K1.out rfl K2.out K5.out ?_; replace hB := Kept.mk (hB.out.trans ((K3.out).mono hB.out.size)); replace Vl := Kept.mk (Vl.out.keep (K3.out)); replace Vm := Kept.mk (Vm.out.keep (K3.out)); have Vn := Kept.mk K4.out; clear hz0 K1 K2 K3 K4 K5; generalize setN (U.alloc (.cells #[.int .i64 0, .int .i64 0, .int .i64 0, .int .i64 0] 26)) U.heap.size 0 [.int .i64 p0, .int .i64 p1, .int .i64 p2, .int .i64 p3] = W5 at *; generalize U.heap.size = gn at *)
    ((with_reducible refine (gd_get t q0 q1 q2 q3 i _ htl Hq.out Hi.out).mono ?_); rintro e U ⟨rfl, hb1⟩)
    obtain ⟨K1, K2, K3, K4, K5⟩ := snew U (q0) (q1) (q2) (q3) U.heap.size rfl
    replace hB := Kept.mk (hB.out.trans ((hb1).mono hB.out.size))
    replace Vl := Kept.mk (Vl.out.keep (hb1))
    replace Vm := Kept.mk (Vm.out.keep (hb1))
    replace Vn := Kept.mk (Vn.out.keep (hb1))
    clear hb1
    go_wp2_with (have hz0 := K1; refine wpList_storeN 26 rfl (.tmp 14) (.tmp 48) rfl U.heap.size [.int .i64 q0, .int .i64 q1, .int .i64 q2, .int .i64 q3] size_a4 rfl rfl K1.out rfl K2.out K5.out ?_; replace hB := Kept.mk (hB.out.trans ((K3.out).mono hB.out.size)); replace Vl := Kept.mk (Vl.out.keep (K3.out)); replace Vm := Kept.mk (Vm.out.keep (K3.out)); replace Vn := Kept.mk (Vn.out.keep (K3.out)); have Vb := Kept.mk K4.out; clear hz0 K1 K2 K3 K4 K5; generalize setN (U.alloc (.cells #[.int .i64 0, .int .i64 0, .int .i64 0, .int .i64 0] 26)) U.heap.size 0 [.int .i64 q0, .int .i64 q1, .int .i64 q2, .int .i64 q3] = W6 at *; generalize U.heap.size = gb at *; have km0 := Vm.out.cells.2 0 _ rfl; have km1 := Vm.out.cells.2 1 _ rfl; have km2 := Vm.out.cells.2 2 _ rfl; have km3 := Vm.out.cells.2 3 _ rfl)
    ((with_reducible refine (gd_put p0 p1 p2 p3 u j _ hple Hu.out Hj.out).mono ?_); rintro e W7 ⟨rfl, hb1⟩)
    clear km0 km1 km2 km3
    replace hB := Kept.mk (hB.out.trans ((hb1).mono hB.out.size))
    replace Vl := Kept.mk (Vl.out.keep (hb1))
    replace Vm := Kept.mk (Vm.out.keep (hb1))
    replace Vn := Kept.mk (Vn.out.keep (hb1))
    replace Vb := Kept.mk (Vb.out.keep (hb1))
    clear hb1
    have kl0 := Vl.out.cells.2 0 _ rfl
    have kl1 := Vl.out.cells.2 1 _ rfl
    have kl2 := Vl.out.cells.2 2 _ rfl
    have kl3 := Vl.out.cells.2 3 _ rfl
    have km0 := Vm.out.cells.2 0 _ rfl
    have km1 := Vm.out.cells.2 1 _ rfl
    have km2 := Vm.out.cells.2 2 _ rfl
    have km3 := Vm.out.cells.2 3 _ rfl
    have kn0 := Vn.out.cells.2 0 _ rfl
    have kn1 := Vn.out.cells.2 1 _ rfl
    have kn2 := Vn.out.cells.2 2 _ rfl
    have kn3 := Vn.out.cells.2 3 _ rfl
    have kb0 := Vb.out.cells.2 0 _ rfl
    have kb1 := Vb.out.cells.2 1 _ rfl
    have kb2 := Vb.out.cells.2 2 _ rfl
    have kb3 := Vb.out.cells.2 3 _ rfl
    have eqm := eq_i4 p0 p1 p2 p3
    have eql := eq_i4 a0_0 a0_1 a0_2 a0_3
    clear hple hle htl g0 c0 h0
    by_cases he0 : e = 0
    · skip
      by_cases hg0 : g = 0
      · skip
        subst he0
        obtain ⟨i0, iq⟩ := F1.out rfl
        injection iq with x0 iq
        injection iq with x1 iq
        injection iq with x2 iq
        injection iq with x3 iq
        subst i0 x0 x1 x2 x3
        subst hg0
        obtain ⟨j0, us⟩ := F2.out rfl
        subst j0 us
        clear F1 F2 Ht He Hp Hg Hq Hi Hu Hj
        go_wp2
        all_goals go_ret
        all_goals exact ⟨rfl, hB.out⟩
      · skip
        subst he0
        obtain ⟨i0, iq⟩ := F1.out rfl
        injection iq with x0 iq
        injection iq with x1 iq
        injection iq with x2 iq
        injection iq with x3 iq
        subst i0 x0 x1 x2 x3
        clear F1 F2 Ht He Hp Hg Hq Hi Hu Hj
        go_wp2
        all_goals go_ret
        all_goals exact ⟨rfl, hB.out⟩
    · skip
      by_cases hg0 : g = 0
      · skip
        subst hg0
        obtain ⟨j0, us⟩ := F2.out rfl
        subst j0 us
        clear F1 F2 Ht He Hp Hg Hq Hi Hu Hj
        go_wp2
        all_goals go_ret
        all_goals exact ⟨rfl, hB.out⟩
      · skip
        clear F1 F2 Ht He Hp Hg Hq Hi Hu Hj
        go_wp2
        all_goals go_ret
        all_goals exact ⟨rfl, hB.out⟩
set_option maxRecDepth 100000 in
theorem digestBytes_lifted (os : Os) (started : os.Started) (H : Type) (enc : TypeId × Value → H) :
    ReturnsInHanded {} Tryz.checked os 4 .any (Rows.digestBytesSpec.pre6 enc Tryz.prog Tryz.f4 Rows.digestBytesRow.domain false) (Rows.digestBytesSpec.post enc Tryz.prog Tryz.f4 false true false false) := by
  refine returnsInHanded_of_change (C := Tryz.checked) (by kernel_rfl : ownKnob Tryz.prog.godebug = none) started (by kernel_rfl) Tryz.func4
    (ChangeSpec.witness6 (enc := enc) (C := Tryz.checked) false ⟨#[], #[.agg #[.int .i64 0, .int .i64 0, .int .i64 0, .int .i64 0], .string ByteArray.empty], []⟩ 8 (by kernel_rfl) (by kernel_rfl) (by kernel_rfl) (by kernel_rfl)) ?_
  intro W base args ds gs before hval0 hW hcnd _
  have hval : ∀ (j : Nat) t v, Tryz.f4.params[j]? = some t → args[j]? = some v → Value.okWide Tryz.prog W .any base t v := hval0
  have hW' := hW
  obtain ⟨p, q, hA0, hV, rfl, hfz, hnd⟩ := hW
  have hA : DataW.TrodAll enc Tryz.prog W 0 (fun _ => true) true Tryz.f4.params.toList args.toList ds p := hA0
  rw [Tryz.params4] at hA hval
  obtain ⟨v0, vs0, d0, ds0, p0, q0, hargs, rfl, rfl, h0, r0⟩ := trodAll_cons hA
  obtain ⟨v1, vs1, d1, ds1, p1, q1, rfl, rfl, rfl, h1, r1⟩ := trodAll_cons r0
  obtain ⟨rfl, rfl, rfl⟩ := trodAll_nil r1
  obtain rfl : args = #[v0, v1] := by cases args; simp_all
  obtain ⟨rfl, rfl⟩ := trodVars_none hV
  obtain ⟨a0_0, a0_1, a0_2, a0_3, rfl, rfl, rfl, w0_0, w0_1, w0_2, w0_3⟩ := open_i4 Tryz.underlying26 Tryz.underlying3 (by kernel_rfl) (by kernel_rfl) (hval 0 26 v0 rfl rfl) h0
  obtain ⟨a1, rfl, rfl, rfl, w1⟩ := open_string Tryz.underlying9 (hval 1 9 v1 rfl rfl) h1
  clear hA0 hval0
  simp only [List.append_nil] at hW'
  refine (digestBytes_walk a0_0 a0_1 a0_2 a0_3 a1 w0_0 w0_1 w0_2 w0_3 w1 W).mono fun e W' ⟨he, bel⟩ => ?_
  subst he
  exact ⟨_, rfl, _, _, _, [], _, [], hW', trodAll_mk1 (shut_bool Tryz.underlying4 _), (trodAll_cons_mk (shut_i4 Tryz.underlying26 Tryz.underlying3 (by kernel_rfl) (by kernel_rfl) w0_0 w0_1 w0_2 w0_3) (trodAll_cons_mk (shut_string Tryz.underlying9 w1) trodAll_mk0)), rfl, bel.frame _, fun h => by cases h⟩
/-- THE STATEMENT. -/
theorem digestBytes_proved : Rows.DigestBytesSaid :=
  OpenClaim.holds_of_wide 4 Tryz.f4 rfl rfl rfl rfl rfl rfl rfl ⟨rfl, rfl, rfl, rfl, rfl⟩ rfl rfl rfl rfl rfl (by kernel_rfl) Tryz.func4 (by kernel_rfl)
    (of_decide_eq_true (by kernel_rfl)) (by unfold Func.isWrapper; first | (rw [if_pos (by decide +kernel)]; kernel_rfl) | (rw [if_neg (by decide +kernel)]; exact ⟨rfl, rfl⟩))
    (fun os started H enc _ => digestBytes_lifted os started H enc)
#print axioms digestBytes_proved
end Go.Proofs.YtkjghoomdefbbaaGreatDoor
