/- How many records any page has room for, the bytes of any place, all payloads, how many places are bad, and which is next, are just what the document says (page.Room, Slot, Records, Bad, Next). -/
import Derived.Test.YtipiioggdalkoaaGreatDoorPartE
import Derived.SizedLaws
import Derived.ProofKit
import Derived.OpenShut
import Derived.ShutString
import Derived.ChangeOld
import Derived.Below
namespace Go.Proofs.YtipiioggdalkoaaGreatDoor
open Go.ChangeShapes Go.WideShapes Go.ChangeAt Go.RowKit
open Go.ChangeMaps (open_string shut_string)
set_option linter.unusedVariables false
set_option linter.unusedSimpArgs false
set_option maxRecDepth 100000 in
set_option maxHeartbeats 4000000 in
theorem pageTells_1 (s : List UInt8) (n i : Int) (w : World) (hs : 1000 < s.length) :
    Calls Tryz.prog 3 #[.string ⟨s.toArray⟩, .int .i64 n, .int .i64 i] w fun e w' => e = .returned (.bool true) ∧ Below w.heap.size w w' := by
  have hsz : (⟨s.toArray⟩ : ByteArray).size = s.length := size_mk s
  have c1 : decide (1000 < (s.length : Int)) = true := by simp; omega
  go_enter Tryz.func3, Tryz.ntmps3
  go_wp2_with fail
  ((with_reducible refine (works_any _).mono ?_); rintro e W1 ⟨rfl, hB⟩)
  go_wp2
  go_ret
  exact ⟨rfl, hB⟩
set_option maxRecDepth 100000 in
set_option maxHeartbeats 4000000 in
theorem pageTells_2 (s : List UInt8) (n i : Int) (w : World) (hs : s.length ≤ 1000) :
    Calls Tryz.prog 3 #[.string ⟨s.toArray⟩, .int .i64 n, .int .i64 i] w fun e w' => e = .returned (.bool true) ∧ Below w.heap.size w w' := by
  have hsz : (⟨s.toArray⟩ : ByteArray).size = s.length := size_mk s
  have c1 : decide (1000 < (s.length : Int)) = false := by simp; omega
  have hz : szN n ≤ 2056 ∨ roomN s n = 0 := by
    by_cases h : roomN s n = 0
    · exact .inr h
    · left
      have h1 := roomN_le s n
      have h2 : 1 * szN n ≤ roomN s n * szN n := Nat.mul_le_mul_right _ (by omega)
      omega
  have HROOM := Kept.mk (fun W : World => room_any s n W (by omega))
  have HNEXT := Kept.mk (fun W : World => next_any s n W (by omega) hz)
  have HBAD := Kept.mk (fun W : World => bad_any s n W (by omega) hz)
  have HREC := Kept.mk (fun W : World => records_any s n W (by omega) hz)
  have HSL := Kept.mk (fun W : World => slot_any s n i W (by omega))
  have RROOM := Kept.mk (fun W : World => refRoom_any s n W (by omega))
  have RNEXT := Kept.mk (fun W : World => refNext_any s n W hs)
  have RBAD := Kept.mk (fun W : World => refBad_any s n W hs)
  have RREC := Kept.mk (fun W : World => refRecords_any s n W hs)
  have RSL := Kept.mk (fun W : World => refSlot_any s n i W (by omega))
  have hrn : (recordsL s n).length ≤ 1000 := Nat.le_trans (recsOf_len _ _ _) (by rw [List.length_range]; exact Nat.le_trans (roomN_len s n) hs)
  clear hz
  generalize roomN s n = rm at *
  generalize nextN s n = nx at *
  generalize badN s n = bd at *
  generalize slotI s n i = sl at *
  generalize recordsL s n = rl at *
  have q1 : ((rm : Int) == (rm : Int)) = true := by simp
  have q2 : ((nx : Int) == (nx : Int)) = true := by simp
  have q3 : ((bd : Int) == (bd : Int)) = true := by simp
  have q4 : (sl == sl) = true := by simp
  go_enter Tryz.func3, Tryz.ntmps3
  go_wp2_with fail
  ((with_reducible refine (works_any _).mono ?_); rintro e W1 ⟨rfl, hB⟩)
  go_wp2_with fail
  ((with_reducible refine (RROOM.out _).mono ?_); rintro e w' ⟨rfl, rfl⟩)
  go_wp2_with fail
  ((with_reducible refine (RSL.out _).mono ?_); rintro e w' ⟨rfl, rfl⟩)
  go_wp2_with fail
  ((with_reducible refine (HREC.out _).mono ?_); rintro e W2 ⟨v1, rfl, hv1, hb⟩)
  replace hB := hB.trans (hb.mono hB.size)
  clear hb
  have HV1 := Kept.mk hv1
  clear hv1
  go_wp2_with fail
  ((with_reducible refine (RREC.out _).mono ?_); rintro e W3 ⟨v2, rfl, hv2, hb⟩)
  replace hB := hB.trans (hb.mono hB.size)
  replace HV1 := Kept.mk (stable_cells _ _ _ _ HV1.out hb)
  have HV2 := Kept.mk hv2
  clear hb hv2
  go_wp2_with fail
  ((with_reducible refine (refTexts_any rl rl v1 v2 _ HV1.out HV2.out (by omega) (by omega)).mono ?_); rintro e W4 ⟨rfl, hb⟩)
  rewrite [show decide (rl = rl) = true from decide_eq_true rfl]
  replace hB := hB.trans (hb.mono hB.size)
  clear hb
  go_wp2_with fail
  ((with_reducible refine (RBAD.out _).mono ?_); rintro e W5 ⟨rfl, hb⟩)
  replace hB := hB.trans (hb.mono hB.size)
  clear hb
  go_wp2_with fail
  ((with_reducible refine (RNEXT.out _).mono ?_); rintro e W6 ⟨rfl, hb⟩)
  replace hB := hB.trans (hb.mono hB.size)
  clear hb
  go_wp2_with fail
  ((with_reducible refine (HROOM.out _).mono ?_); rintro e w' ⟨rfl, rfl⟩)
  go_wp2_with fail
  ((with_reducible refine (HSL.out _).mono ?_); rintro e w' ⟨rfl, rfl⟩)
  go_wp2_with fail
  ((with_reducible refine (HBAD.out _).mono ?_); rintro e W7 ⟨rfl, hb⟩)
  replace hB := hB.trans (hb.mono hB.size)
  clear hb
  go_wp2_with fail
  ((with_reducible refine (HNEXT.out _).mono ?_); rintro e W8 ⟨rfl, hb⟩)
  replace hB := hB.trans (hb.mono hB.size)
  clear hb
  go_wp2
  go_ret
  exact ⟨rfl, hB⟩

theorem pageTells_walk (a0 : ByteArray) (a1 a2 : Int) (w0 : a0.size ≤ maxLen) (w1 : (Lit.int .i64 a1).wf = true) (w2 : (Lit.int .i64 a2).wf = true) (w : World) :
    Calls Tryz.prog 3 #[.string a0, .int .i64 a1, .int .i64 a2] w fun e w' => e = .returned (.bool true) ∧ Below w.heap.size w w' := by
  rw [str_eta a0]
  generalize a0.data.toList = s
  by_cases hs : 1000 < s.length
  · exact pageTells_1 s a1 a2 w hs
  · exact pageTells_2 s a1 a2 w (by omega)

set_option maxRecDepth 100000 in
theorem pageTells_lifted (os : Os) (started : os.Started) (H : Type) (enc : TypeId × Value → H) :
    ReturnsInHanded {} Tryz.checked os 3 .any (Rows.pageTellsSpec.pre6 enc Tryz.prog Tryz.f3 Rows.pageTellsRow.domain false) (Rows.pageTellsSpec.post enc Tryz.prog Tryz.f3 false true false false) := by
  refine returnsInHanded_of_change (C := Tryz.checked) (by kernel_rfl : ownKnob Tryz.prog.godebug = none) started (by kernel_rfl) Tryz.func3
    (ChangeSpec.witness6 (enc := enc) (C := Tryz.checked) false ⟨#[], #[.string ByteArray.empty, .int .i64 0, .int .i64 0], []⟩ 8 (by kernel_rfl) (by kernel_rfl) (by kernel_rfl) (by kernel_rfl)) ?_
  intro W base args ds gs before hval0 hW hcnd _
  have hval : ∀ (j : Nat) t v, Tryz.f3.params[j]? = some t → args[j]? = some v → Value.okWide Tryz.prog W .any base t v := hval0
  have hW' := hW
  obtain ⟨p, q, hA0, hV, rfl, hfz, hnd⟩ := hW
  have hA : DataW.TrodAll enc Tryz.prog W 0 (fun _ => true) true Tryz.f3.params.toList args.toList ds p := hA0
  rw [Tryz.params3] at hA hval
  obtain ⟨v0, vs0, d0, ds0, p0, q0, hargs, rfl, rfl, h0, r0⟩ := trodAll_cons hA
  obtain ⟨v1, vs1, d1, ds1, p1, q1, rfl, rfl, rfl, h1, r1⟩ := trodAll_cons r0
  obtain ⟨v2, vs2, d2, ds2, p2, q2, rfl, rfl, rfl, h2, r2⟩ := trodAll_cons r1
  obtain ⟨rfl, rfl, rfl⟩ := trodAll_nil r2
  obtain rfl : args = #[v0, v1, v2] := by cases args; simp_all
  obtain ⟨rfl, rfl⟩ := trodVars_none hV
  obtain ⟨a0, rfl, rfl, rfl, w0⟩ := open_string Tryz.underlying9 (hval 0 9 v0 rfl rfl) h0
  obtain ⟨a1, rfl, rfl, rfl, w1⟩ := open_int Tryz.underlying3 (hval 1 3 v1 rfl rfl) h1
  obtain ⟨a2, rfl, rfl, rfl, w2⟩ := open_int Tryz.underlying3 (hval 2 3 v2 rfl rfl) h2
  clear hA0 hval0
  simp only [List.append_nil] at hW'
  refine (pageTells_walk a0 a1 a2 w0 w1 w2 W).mono fun e W' ⟨he, bel⟩ => ?_
  subst he
  exact ⟨_, rfl, _, _, _, [], _, [], hW', trodAll_mk1 (shut_bool Tryz.underlying4 _), (trodAll_cons_mk (shut_string Tryz.underlying9 w0) (trodAll_cons_mk (shut_int Tryz.underlying3 w1) (trodAll_cons_mk (shut_int Tryz.underlying3 w2) trodAll_mk0))), rfl, bel.frame _, fun h => by cases h⟩
/-- THE STATEMENT. -/
theorem pageTells_proved : Rows.PageTellsSaid :=
  OpenClaim.holds_of_wide 3 Tryz.f3 rfl rfl rfl rfl rfl rfl rfl ⟨rfl, rfl, rfl, rfl, rfl⟩ rfl rfl rfl rfl rfl (by kernel_rfl) Tryz.func3 (by kernel_rfl)
    (of_decide_eq_true (by kernel_rfl)) (by unfold Func.isWrapper; first | (rw [if_pos (by decide +kernel)]; kernel_rfl) | (rw [if_neg (by decide +kernel)]; exact ⟨rfl, rfl⟩))
    (fun os started H enc _ => pageTells_lifted os started H enc)
#print axioms pageTells_proved
end Go.Proofs.YtipiioggdalkoaaGreatDoor
