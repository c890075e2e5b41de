/- Of all places those are records, bad, or clear; from Next on they are clear; and the one ahead of it is not (page.Room, Slot, Next, Bad, Records). -/
import Derived.Test.YtipiioggdalkoaaGreatDoorPartE
import Derived.SizedLaws
import Derived.ProofKit
import Derived.OpenShut
import Derived.ShutString
import Derived.ChangeOld
import Derived.Below
namespace Go.Proofs.YtipiioggdalkoaaGreatDoor
open Go.ChangeShapes Go.WideShapes Go.ChangeAt Go.RowKit
open Go.ChangeMaps (open_string shut_string)
set_option linter.unusedVariables false
set_option linter.unusedSimpArgs false
set_option maxRecDepth 100000 in
set_option maxHeartbeats 4000000 in
theorem pageCounts_1 (s : List UInt8) (n : Int) (w : World) (hs : 1000 < s.length) :
    Calls Tryz.prog 7 #[.string ⟨s.toArray⟩, .int .i64 n] w fun e w' => e = .returned (.bool true) ∧ Below w.heap.size w w' := by
  have hsz : (⟨s.toArray⟩ : ByteArray).size = s.length := size_mk s
  have c1 : decide (1000 < (s.length : Int)) = true := by simp; omega
  go_enter Tryz.func7, Tryz.ntmps7
  go_wp2_with fail
  ((with_reducible refine (works_any _).mono ?_); rintro e W1 ⟨rfl, hB⟩)
  go_wp2
  go_ret
  exact ⟨rfl, hB⟩
set_option maxRecDepth 100000 in
set_option maxHeartbeats 4000000 in
theorem pageCounts_2 (s : List UInt8) (n : Int) (w : World) (hs : s.length ≤ 1000) :
    Calls Tryz.prog 7 #[.string ⟨s.toArray⟩, .int .i64 n] w fun e w' => e = .returned (.bool true) ∧ Below w.heap.size w w' := by
  have hsz : (⟨s.toArray⟩ : ByteArray).size = s.length := size_mk s
  have c1 : decide (1000 < (s.length : Int)) = false := by simp; omega
  have hrl := roomN_len s n
  have hz : szN n ≤ 2056 ∨ roomN s n = 0 := by
    by_cases h : roomN s n = 0
    · exact .inr h
    · left
      have h1 := roomN_le s n
      have h2 : 1 * szN n ≤ roomN s n * szN n := Nat.mul_le_mul_right _ (by omega)
      omega
  have HZ := Kept.mk hz
  have hnx := nextN_le s n
  have HROOM := Kept.mk (fun W : World => room_any s n W (by omega))
  have HNEXT := Kept.mk (fun W : World => next_any s n W (by omega) hz)
  have HBAD := Kept.mk (fun W : World => bad_any s n W (by omega) hz)
  have HREC := Kept.mk (fun W : World => records_any s n W (by omega) hz)
  have HSL := Kept.mk (fun (j : Nat) (hj : j < roomN s n) (W : World) => slot_yes s n j W (by omega) hj)
  have HLEN := Kept.mk (fun (j : Nat) (hj : j < roomN s n) => slotL_len hj)
  have HSZ := Kept.mk (fun W : World => size_any n W)
  have HSE := Kept.mk (szN_eq n)
  have HC1 := Kept.mk (fun (j : Nat) (h1 : nextN s n ≤ j) (h2 : j < roomN s n) => next_clear s n h1 h2)
  have HC2 := Kept.mk (next_before s n)
  have HTS := Kept.mk (fun r => tcnt_succ (fun i => clearL (slotL s n i)) r)
  have HTL := Kept.mk (fun r => tcnt_le (fun i => clearL (slotL s n i)) (List.range r))
  have H3 := Kept.mk (show tcnt (fun i => clearL (slotL s n i)) (List.range (roomN s n)) + badN s n + (recordsL s n).length = roomN s n from three_kinds s n (roomN s n))
  clear hz
  generalize szN n = z at *
  generalize nextN s n = nx at *
  generalize hr : roomN s n = r at *
  clear hr
  go_enter Tryz.func7, Tryz.ntmps7
  go_wp2_with fail
  ((with_reducible refine (works_any _).mono ?_); rintro e W1 ⟨rfl, hB⟩)
  go_wp2_with fail
  ((with_reducible refine (HROOM.out _).mono ?_); rintro e w' ⟨rfl, rfl⟩)
  go_wp2_with fail
  ((with_reducible refine (HNEXT.out _).mono ?_); rintro e W2 ⟨rfl, hb⟩)
  replace hB := hB.trans (hb.mono hB.size)
  clear hb
  have d1 : decide ((nx : Int) < 0) = false := by simp
  have d2 : decide ((r : Int) < (nx : Int)) = false := by simp; omega
  have d3 : decide ((r : Int) < 0) = false := by simp
  have d2' : decide (r < nx) = false := by simp; omega
  go_wp2_with fail
  go_loopw [8, 9] (fun c i wr => ∃ j : Nat, j ≤ r ∧ i = .int .i64 (j : Int) ∧ c = .int .i64 (tcnt (fun i => clearL (slotL s n i)) (List.range j) : Int) ∧ Below w.heap.size w wr) (fun _ i _ => r - (intOf i).toNat)
  case atStart => exact ⟨0, Nat.zero_le _, rfl, rfl, hB⟩
  case round =>
    clear hB
    obtain ⟨j, hj, rfl, rfl, hB⟩ := hrel
    by_cases hlt : j < r
    · have e1 : decide ((j : Int) < (r : Int)) = true := by simpa using hlt
      have hll := HLEN.out j hlt
      have HLL := Kept.mk hll
      have hst : (⟨(slotL s n j).toArray⟩ : ByteArray).size = z := by rw [size_mk, hll]
      have hzz : z ≤ 2056 := by
        rcases HZ.out with h | h
        · exact h
        · omega
      have HCL := Kept.mk (fun W : World => clear_l (slotL s n j) W (by omega))
      have HS1 := Kept.mk (HSL.out j hlt)
      have HT := Kept.mk (HTS.out j)
      have htl := HTL.out j
      rw [List.length_range] at htl
      have hne : ((z : Int) != (z : Int)) = false := by simp
      clear hll
      by_cases h1 : nx ≤ j
      · have e2 : decide ((nx : Int) ≤ (j : Int)) = true := by simpa using h1
        have e2' : decide (nx ≤ j) = true := by simpa using h1
        have e3 : ((j : Int) == (nx : Int) - 1) = false := by simp; omega
        have HCV := Kept.mk (HC1.out j h1 hlt)
        have HN := Kept.mk (show tcnt (fun i => clearL (slotL s n i)) (List.range (j + 1)) = tcnt (fun i => clearL (slotL s n i)) (List.range j) + 1 by rw [HT.out, HCV.out]; rfl)
        generalize tcnt (fun i => clearL (slotL s n i)) (List.range j) = c at *
        go_wp2_with fail
        ((with_reducible refine (HS1.out _).mono ?_); rintro e w' ⟨rfl, rfl⟩)
        go_wp2_with fail
        ((with_reducible refine (HSZ.out _).mono ?_); rintro e w' ⟨rfl, rfl⟩)
        rewrite [HSE.out]
        go_wp2_with fail
        ((with_reducible refine (HCL.out _).mono ?_); rintro e W9 ⟨rfl, hb⟩)
        rewrite [HCV.out]
        replace hB := hB.trans (hb.mono hB.size)
        clear hb
        go_wp2_with fail
        ((with_reducible refine (HCL.out _).mono ?_); rintro e W9 ⟨rfl, hb⟩)
        rewrite [HCV.out]
        replace hB := hB.trans (hb.mono hB.size)
        clear hb
        go_wp2_with fail
        go_roundw
        case rel => exact ⟨j + 1, by omega, by go_num, by rw [HN.out]; go_num, hB⟩
        case measure => simp [intOf]; omega
      · have e2 : decide ((nx : Int) ≤ (j : Int)) = false := by simp; omega
        have e2' : decide (nx ≤ j) = false := by simp; omega
        by_cases h2 : j + 1 = nx
        · have e3 : ((j : Int) == (nx : Int) - 1) = true := by simp; omega
          have HCV := Kept.mk (show clearL (slotL s n j) = false by have := HC2.out (by omega); rwa [show nx - 1 = j by omega] at this)
          have HN := Kept.mk (show tcnt (fun i => clearL (slotL s n i)) (List.range (j + 1)) = tcnt (fun i => clearL (slotL s n i)) (List.range j) by rw [HT.out, HCV.out]; rfl)
          have h2a : j + 1 ≤ nx := by omega
          have h2b : nx ≤ j + 1 := by omega
          clear h2
          generalize tcnt (fun i => clearL (slotL s n i)) (List.range j) = c at *
          go_wp2_with fail
          ((with_reducible refine (HS1.out _).mono ?_); rintro e w' ⟨rfl, rfl⟩)
          go_wp2_with fail
          ((with_reducible refine (HSZ.out _).mono ?_); rintro e w' ⟨rfl, rfl⟩)
          rewrite [HSE.out]
          go_wp2_with fail
          ((with_reducible refine (HCL.out _).mono ?_); rintro e W9 ⟨rfl, hb⟩)
          rewrite [HCV.out]
          replace hB := hB.trans (hb.mono hB.size)
          clear hb
          go_wp2_with fail
          ((with_reducible refine (HCL.out _).mono ?_); rintro e W9 ⟨rfl, hb⟩)
          rewrite [HCV.out]
          replace hB := hB.trans (hb.mono hB.size)
          clear hb
          go_wp2_with fail
          go_roundw
          case rel => exact ⟨j + 1, by omega, by go_num, by rw [HN.out], hB⟩
          case measure => simp [intOf]; omega
        · have e3 : ((j : Int) == (nx : Int) - 1) = false := by simp; omega
          cases hcv : clearL (slotL s n j) with
          | true =>
            have HCV := Kept.mk hcv
            have HN := Kept.mk (show tcnt (fun i => clearL (slotL s n i)) (List.range (j + 1)) = tcnt (fun i => clearL (slotL s n i)) (List.range j) + 1 by rw [HT.out, HCV.out]; rfl)
            clear hcv
            generalize tcnt (fun i => clearL (slotL s n i)) (List.range j) = c at *
            go_wp2_with fail
            ((with_reducible refine (HS1.out _).mono ?_); rintro e w' ⟨rfl, rfl⟩)
            go_wp2_with fail
            ((with_reducible refine (HSZ.out _).mono ?_); rintro e w' ⟨rfl, rfl⟩)
            rewrite [HSE.out]
            go_wp2_with fail
            ((with_reducible refine (HCL.out _).mono ?_); rintro e W9 ⟨rfl, hb⟩)
            rewrite [HCV.out]
            replace hB := hB.trans (hb.mono hB.size)
            clear hb
            go_wp2_with fail
            go_roundw
            case rel => exact ⟨j + 1, by omega, by go_num, by rw [HN.out]; go_num, hB⟩
            case measure => simp [intOf]; omega
          | false =>
            have HCV := Kept.mk hcv
            have HN := Kept.mk (show tcnt (fun i => clearL (slotL s n i)) (List.range (j + 1)) = tcnt (fun i => clearL (slotL s n i)) (List.range j) by rw [HT.out, HCV.out]; rfl)
            clear hcv
            generalize tcnt (fun i => clearL (slotL s n i)) (List.range j) = c at *
            go_wp2_with fail
            ((with_reducible refine (HS1.out _).mono ?_); rintro e w' ⟨rfl, rfl⟩)
            go_wp2_with fail
            ((with_reducible refine (HSZ.out _).mono ?_); rintro e w' ⟨rfl, rfl⟩)
            rewrite [HSE.out]
            go_wp2_with fail
            ((with_reducible refine (HCL.out _).mono ?_); rintro e W9 ⟨rfl, hb⟩)
            rewrite [HCV.out]
            replace hB := hB.trans (hb.mono hB.size)
            clear hb
            go_wp2_with fail
            go_roundw
            case rel => exact ⟨j + 1, by omega, by go_num, by rw [HN.out], hB⟩
            case measure => simp [intOf]; omega
    · have e1 : decide ((j : Int) < (r : Int)) = false := by simp; omega
      obtain rfl : j = r := by omega
      generalize tcnt (fun i => clearL (slotL s n i)) (List.range j) = c at *
      generalize badN s n = bd at *
      generalize recordsL s n = rl at *
      have h3 := H3.out
      go_wp2_with fail
      ((with_reducible refine (HBAD.out _).mono ?_); rintro e W5 ⟨rfl, hb⟩)
      replace hB := hB.trans (hb.mono hB.size)
      clear hb
      go_wp2_with fail
      ((with_reducible refine (HREC.out _).mono ?_); rintro e W6 ⟨v, rfl, hv, hb⟩)
      replace hB := hB.trans (hb.mono hB.size)
      obtain ⟨a, cap, rfl⟩ := hv.len
      rw [List.length_map]
      clear hb hv
      generalize rl.length = m at *
      have hsum : ((c : Int) + (bd : Int) + (m : Int) == (j : Int)) = true := by simp; omega
      have b1 : c ≤ 1000 := by omega
      have b2 : bd ≤ 1000 := by omega
      have b3 : m ≤ 1000 := by omega
      clear h3 H3
      go_wp2
      go_ret
      exact ⟨rfl, hB⟩

theorem pageCounts_walk (a0 : ByteArray) (a1 : Int) (w0 : a0.size ≤ maxLen) (w1 : (Lit.int .i64 a1).wf = true) (w : World) :
    Calls Tryz.prog 7 #[.string a0, .int .i64 a1] w fun e w' => e = .returned (.bool true) ∧ Below w.heap.size w w' := by
  rw [str_eta a0]
  generalize a0.data.toList = s
  by_cases hs : 1000 < s.length
  · exact pageCounts_1 s a1 w hs
  · exact pageCounts_2 s a1 w (by omega)

set_option maxRecDepth 100000 in
theorem pageCounts_lifted (os : Os) (started : os.Started) (H : Type) (enc : TypeId × Value → H) :
    ReturnsInHanded {} Tryz.checked os 7 .any (Rows.pageCountsSpec.pre6 enc Tryz.prog Tryz.f7 Rows.pageCountsRow.domain false) (Rows.pageCountsSpec.post enc Tryz.prog Tryz.f7 false true false false) := by
  refine returnsInHanded_of_change (C := Tryz.checked) (by kernel_rfl : ownKnob Tryz.prog.godebug = none) started (by kernel_rfl) Tryz.func7
    (ChangeSpec.witness6 (enc := enc) (C := Tryz.checked) false ⟨#[], #[.string ByteArray.empty, .int .i64 0], []⟩ 8 (by kernel_rfl) (by kernel_rfl) (by kernel_rfl) (by kernel_rfl)) ?_
  intro W base args ds gs before hval0 hW hcnd _
  have hval : ∀ (j : Nat) t v, Tryz.f7.params[j]? = some t → args[j]? = some v → Value.okWide Tryz.prog W .any base t v := hval0
  have hW' := hW
  obtain ⟨p, q, hA0, hV, rfl, hfz, hnd⟩ := hW
  have hA : DataW.TrodAll enc Tryz.prog W 0 (fun _ => true) true Tryz.f7.params.toList args.toList ds p := hA0
  rw [Tryz.params7] at hA hval
  obtain ⟨v0, vs0, d0, ds0, p0, q0, hargs, rfl, rfl, h0, r0⟩ := trodAll_cons hA
  obtain ⟨v1, vs1, d1, ds1, p1, q1, rfl, rfl, rfl, h1, r1⟩ := trodAll_cons r0
  obtain ⟨rfl, rfl, rfl⟩ := trodAll_nil r1
  obtain rfl : args = #[v0, v1] := by cases args; simp_all
  obtain ⟨rfl, rfl⟩ := trodVars_none hV
  obtain ⟨a0, rfl, rfl, rfl, w0⟩ := open_string Tryz.underlying9 (hval 0 9 v0 rfl rfl) h0
  obtain ⟨a1, rfl, rfl, rfl, w1⟩ := open_int Tryz.underlying3 (hval 1 3 v1 rfl rfl) h1
  clear hA0 hval0
  simp only [List.append_nil] at hW'
  refine (pageCounts_walk a0 a1 w0 w1 W).mono fun e W' ⟨he, bel⟩ => ?_
  subst he
  exact ⟨_, rfl, _, _, _, [], _, [], hW', trodAll_mk1 (shut_bool Tryz.underlying4 _), (trodAll_cons_mk (shut_string Tryz.underlying9 w0) (trodAll_cons_mk (shut_int Tryz.underlying3 w1) trodAll_mk0)), rfl, bel.frame _, fun h => by cases h⟩
/-- THE STATEMENT. -/
theorem pageCounts_proved : Rows.PageCountsSaid :=
  OpenClaim.holds_of_wide 7 Tryz.f7 rfl rfl rfl rfl rfl rfl rfl ⟨rfl, rfl, rfl, rfl, rfl⟩ rfl rfl rfl rfl rfl (by kernel_rfl) Tryz.func7 (by kernel_rfl)
    (of_decide_eq_true (by kernel_rfl)) (by unfold Func.isWrapper; first | (rw [if_pos (by decide +kernel)]; kernel_rfl) | (rw [if_neg (by decide +kernel)]; exact ⟨rfl, rfl⟩))
    (fun os started H enc _ => pageCounts_lifted os started H enc)
#print axioms pageCounts_proved
end Go.Proofs.YtipiioggdalkoaaGreatDoor
