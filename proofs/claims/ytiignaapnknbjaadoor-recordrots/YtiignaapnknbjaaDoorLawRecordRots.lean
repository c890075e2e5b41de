/- A record of which bits were turned in 4 bytes that stand next to each other is none (record.Make, Read). -/
import Derived.Test.YtiignaapnknbjaaDoorRecWorks
import Derived.Test.YtiignaapnknbjaaDoorRecTurn
import Derived.Test.YtiignaapnknbjaaDoorFour
import Derived.ProofKit
import Derived.OpenShut
import Derived.ShutString
import Derived.ChangeOld
import Derived.Below
namespace Go.Proofs.YtiignaapnknbjaaDoor
open Go.ChangeShapes Go.WideShapes Go.ChangeAt Go.RowKit
open Go.ChangeMaps (open_string shut_string)
set_option linter.unusedVariables false

set_option maxRecDepth 100000 in
set_option maxHeartbeats 2000000 in
theorem recordRots_1 (a : List UInt8) (n : Nat) (b0 b1 b2 b3 : UInt8) (w : World) (h : 200 < a.length) :
    Calls Tryd.prog 7 #[.string ⟨a.toArray⟩, .int .u16 (n : Int), .agg #[.int .u8 (b0.toNat : Int), .int .u8 (b1.toNat : Int), .int .u8 (b2.toNat : Int), .int .u8 (b3.toNat : Int)]] w fun e w' => e = .returned (.bool true) ∧ Below w.heap.size w w' := by
  have c1 : decide (200 < (a.length : Int)) = true := by simp; omega
  go_enter Tryd.func7, Tryd.ntmps7
  go_wp2_with fail
  refine (works_any _).mono ?_; rintro e w1 ⟨rfl, hB⟩
  have hB0 : Below w.heap.size w (w.alloc (.cells #[.int .u8 (b0.toNat : Int), .int .u8 (b1.toNat : Int), .int .u8 (b2.toNat : Int), .int .u8 (b3.toNat : Int)] 34)) := (Below.refl _ _).alloc (Nat.le_refl _) _
  go_wp2
  go_ret
  exact ⟨rfl, hB0.trans (hB.mono hB0.size)⟩

set_option maxRecDepth 100000 in
set_option maxHeartbeats 2000000 in
theorem recordRots_2 (a : List UInt8) (n : Nat) (b0 b1 b2 b3 : UInt8) (w : World) (h : a.length ≤ 200) (hn : n < 65536) :
    Calls Tryd.prog 7 #[.string ⟨a.toArray⟩, .int .u16 (n : Int), .agg #[.int .u8 (b0.toNat : Int), .int .u8 (b1.toNat : Int), .int .u8 (b2.toNat : Int), .int .u8 (b3.toNat : Int)]] w fun e w' => e = .returned (.bool true) ∧ Below w.heap.size w w' := by
  have c1 : decide (200 < (a.length : Int)) = false := by simp; omega
  go_enter Tryd.func7, Tryd.ntmps7
  go_wp2_with fail
  refine (works_any _).mono ?_; rintro e w1 ⟨rfl, hB⟩
  have hB0 : Below w.heap.size w (w.alloc (.cells #[.int .u8 (b0.toNat : Int), .int .u8 (b1.toNat : Int), .int .u8 (b2.toNat : Int), .int .u8 (b3.toNat : Int)] 34)) := (Below.refl _ _).alloc (Nat.le_refl _) _
  go_wp2_with fail
  ((with_reducible refine (make_any a _ (by omega)).mono ?_); rintro e w2 ⟨rfl, hb2⟩)
  replace hB := hB.trans (hb2.mono hB.size); clear hb2
  have hlen := length_recL a
  have hkk : ∃ k : Nat, k = n % (2 * a.length + 5) := ⟨_, rfl⟩
  obtain ⟨k, hkd⟩ := hkk
  have hkl : k ≤ 2 * a.length + 4 := by have := Nat.mod_lt n (y := 2 * a.length + 5) (by omega); omega
  have hki : (n : Int) % (2 * ((a.length : Int) + 4) - 3) = (k : Int) := by rw [hkd, show (2 * ((a.length : Int) + 4) - 3) = ((2 * a.length + 5 : Nat) : Int) by omega]; simp
  have hg : w.heap.size < w2.heap.size := by have := hB.size; simp at this; omega
  have hcl : ∀ j v, (#[.int .u8 (b0.toNat : Int), .int .u8 (b1.toNat : Int), .int .u8 (b2.toNat : Int), .int .u8 (b3.toNat : Int)] : Array Value)[j]? = some v → w2.cell? ⟨w.heap.size, j, none⟩ = some v := by
    intro j v hv
    rw [hB.cell (p := ⟨w.heap.size, j, none⟩) (by simp), World.cell?_alloc_new]
    exact hv
  have hrow : w2.heap[w.heap.size]? = some (.cells #[.int .u8 (b0.toNat : Int), .int .u8 (b1.toNat : Int), .int .u8 (b2.toNat : Int), .int .u8 (b3.toNat : Int)] 34 (0, 0)) := by
    rw [hB.block w.heap.size (by simp)]
    exact alloc_get w _
  have HQ := Lib.hid hrow
  have HC := Lib.hid hcl
  clear hrow hcl
  have HK := Lib.hid hki
  clear hki
  go_wp2_with fail
  refine rots_region _ _ _ rfl (recL a) k w.heap.size b0 b1 b2 b3 (by omega) (by omega) rfl (congrArg (Value.int .i64) HK.out) rfl hg (HC.out 0 _ rfl) (HC.out 1 _ rfl) (HC.out 2 _ rfl) (HC.out 3 _ rfl) ?_
  intro act w3 hdf hsz hkeep hn10 hb3
  have hk5 : act.tmps.getD 5 undef = (.pointer (some ⟨w.heap.size, 0, none⟩)) := (hkeep 5 (by kernel_rfl)).trans rfl
  have hk7 : act.tmps.getD 7 undef = (.bool true) := (hkeep 7 (by kernel_rfl)).trans rfl
  have hk8 : act.tmps.getD 8 undef = (.string ⟨(recL a).toArray⟩) := (hkeep 8 (by kernel_rfl)).trans rfl
  obtain ⟨tm, df⟩ := act
  obtain rfl : df = [] := hdf
  clear hkeep
  obtain ⟨f, rfl, hk5, hk7, hk8, hn10⟩ : ∃ f : Nat → Value, tm = ((List.range 67).map f).toArray ∧ f 5 = (.pointer (some ⟨w.heap.size, 0, none⟩)) ∧ f 7 = (.bool true) ∧ f 8 = (.string ⟨(recL a).toArray⟩) ∧ f 10 = (.string ⟨(pairL (· ^^^ ·) (recL a) (List.replicate k 0 ++ [b0, b1, b2, b3])).toArray⟩) := ⟨fun i => tm.getD i undef, arr_eta tm hsz, hk5, hk7, hk8, hn10⟩
  rewrite [show ((List.range 67).map f).toArray = #[f 0, f 1, f 2, f 3, f 4, f 5, f 6, f 7, f 8, f 9, f 10, f 11, f 12, f 13, f 14, f 15, f 16, f 17, f 18, f 19, f 20, f 21, f 22, f 23, f 24, f 25, f 26, f 27, f 28, f 29, f 30, f 31, f 32, f 33, f 34, f 35, f 36, f 37, f 38, f 39, f 40, f 41, f 42, f 43, f 44, f 45, f 46, f 47, f 48, f 49, f 50, f 51, f 52, f 53, f 54, f 55, f 56, f 57, f 58, f 59, f 60, f 61, f 62, f 63, f 64, f 65, f 66] from rfl]
  rewrite [hk5, hk7, hk8, hn10]
  clear hsz hk5 hk7 hk8 hn10
  have hB2 := hB.trans (hb3.mono hB.size)
  have hg3 : w.heap.size < w3.heap.size := Nat.lt_of_lt_of_le hg hb3.size
  have HC3 := Lib.hid (show ∀ j v, (#[.int .u8 (b0.toNat : Int), .int .u8 (b1.toNat : Int), .int .u8 (b2.toNat : Int), .int .u8 (b3.toNat : Int)] : Array Value)[j]? = some v → w3.cell? ⟨w.heap.size, j, none⟩ = some v from
    fun j v hv => (hb3.cell (p := ⟨w.heap.size, j, none⟩) hg).trans (HC.out j v hv))
  clear hB hb3 HQ HC
  have hX := length_pairL (· ^^^ ·) (recL a) (List.replicate k 0 ++ [b0, b1, b2, b3])
  have hsame := same_iff (recL a) [b0, b1, b2, b3] k rfl (by omega)
  have hrots := rots_iff a [b0, b1, b2, b3] k rfl (by omega)
  have hfour := fun z hz => eql_four (P := Tryd.prog) 34 5 (b0.toNat : Int) (b1.toNat : Int) (b2.toNat : Int) (b3.toNat : Int) 0 0 0 0 z Tryd.underlying34 Tryd.underlying5 (by kernel_rfl) hz
  by_cases hz : getN [b0, b1, b2, b3] = 0
  · rw [hsame.2 hz]
    have hf := hfour true (by simp [getN] at hz; simp; omega)
    have HE := Lib.hid (readE_rec a)
    clear hfour hrots hsame hX hz
    go_wp2_with fail
    (with_reducible refine (read_any (recL a) _ (by omega)).mono ?_); rintro e w4 ⟨rfl, hb4⟩
    rw [HE.out]
    have k0 : w4.cell? ⟨w.heap.size, 0, none⟩ = some (.int .u8 (b0.toNat : Int)) := (hb4.cell (p := ⟨w.heap.size, 0, none⟩) hg3).trans (HC3.out 0 _ rfl)
    have k1 : w4.cell? ⟨w.heap.size, 1, none⟩ = some (.int .u8 (b1.toNat : Int)) := (hb4.cell (p := ⟨w.heap.size, 1, none⟩) hg3).trans (HC3.out 1 _ rfl)
    have k2 : w4.cell? ⟨w.heap.size, 2, none⟩ = some (.int .u8 (b2.toNat : Int)) := (hb4.cell (p := ⟨w.heap.size, 2, none⟩) hg3).trans (HC3.out 2 _ rfl)
    have k3 : w4.cell? ⟨w.heap.size, 3, none⟩ = some (.int .u8 (b3.toNat : Int)) := (hb4.cell (p := ⟨w.heap.size, 3, none⟩) hg3).trans (HC3.out 3 _ rfl)
    replace hB2 := hB2.trans (hb4.mono hB2.size); clear hb4 HC3
    go_wp2
    go_ret
    exact ⟨rfl, hB0.trans (hB2.mono hB0.size)⟩
  · have hf := hfour false (by simp [getN] at hz; simp; omega)
    have hne : ¬ pairL (· ^^^ ·) (recL a) (List.replicate k 0 ++ [b0, b1, b2, b3]) = recL a := fun e => hz (hsame.1 e)
    have HE := Lib.hid (show readE (pairL (· ^^^ ·) (recL a) (List.replicate k 0 ++ [b0, b1, b2, b3])) = 2 by
      rcases readE_cases (pairL (· ^^^ ·) (recL a) (List.replicate k 0 ++ [b0, b1, b2, b3])) with ⟨h3, _⟩ | ⟨h3, _⟩
      · exact absurd (hrots.1 h3) hz
      · exact h3)
    clear hfour hrots hsame hz
    generalize pairL (· ^^^ ·) (recL a) (List.replicate k 0 ++ [b0, b1, b2, b3]) = x at *
    generalize recL a = y at *
    have hbe : (x == y) = false := by simpa using hne
    clear hne
    go_wp2_with fail
    (with_reducible refine (read_any x _ (by omega)).mono ?_); rintro e w4 ⟨rfl, hb4⟩
    rw [HE.out]
    have k0 : w4.cell? ⟨w.heap.size, 0, none⟩ = some (.int .u8 (b0.toNat : Int)) := (hb4.cell (p := ⟨w.heap.size, 0, none⟩) hg3).trans (HC3.out 0 _ rfl)
    have k1 : w4.cell? ⟨w.heap.size, 1, none⟩ = some (.int .u8 (b1.toNat : Int)) := (hb4.cell (p := ⟨w.heap.size, 1, none⟩) hg3).trans (HC3.out 1 _ rfl)
    have k2 : w4.cell? ⟨w.heap.size, 2, none⟩ = some (.int .u8 (b2.toNat : Int)) := (hb4.cell (p := ⟨w.heap.size, 2, none⟩) hg3).trans (HC3.out 2 _ rfl)
    have k3 : w4.cell? ⟨w.heap.size, 3, none⟩ = some (.int .u8 (b3.toNat : Int)) := (hb4.cell (p := ⟨w.heap.size, 3, none⟩) hg3).trans (HC3.out 3 _ rfl)
    replace hB2 := hB2.trans (hb4.mono hB2.size); clear hb4 HC3
    go_wp2
    go_ret
    exact ⟨rfl, hB0.trans (hB2.mono hB0.size)⟩

theorem recordRots_walk (a0 : ByteArray) (a1 x0 x1 x2 x3 : Int) (w0 : a0.size ≤ maxLen) (w1 : (Lit.int .u16 a1).wf = true) (u0 : (Lit.int .u8 x0).wf = true) (u1 : (Lit.int .u8 x1).wf = true) (u2 : (Lit.int .u8 x2).wf = true) (u3 : (Lit.int .u8 x3).wf = true) (w : World) :
    Calls Tryd.prog 7 #[.string a0, .int .u16 a1, .agg #[.int .u8 x0, .int .u8 x1, .int .u8 x2, .int .u8 x3]] w fun e w' => e = .returned (.bool true) ∧ Below w.heap.size w w' := by
  obtain ⟨n, rfl, hn⟩ : ∃ n : Nat, a1 = (n : Int) ∧ n < 65536 := by
    unfold Lit.wf at w1
    rw [Bool.and_eq_true] at w1
    have h0 : (0 : Int) ≤ a1 := of_decide_eq_true w1.1
    have h1 : a1 ≤ 65535 := of_decide_eq_true w1.2
    obtain ⟨n, rfl⟩ := Int.eq_ofNat_of_zero_le h0
    exact ⟨n, rfl, by omega⟩
  obtain ⟨b0, rfl⟩ := byte_of u0
  obtain ⟨b1, rfl⟩ := byte_of u1
  obtain ⟨b2, rfl⟩ := byte_of u2
  obtain ⟨b3, rfl⟩ := byte_of u3
  rw [str_eta a0]
  generalize a0.data.toList = a
  by_cases h : 200 < a.length
  · exact recordRots_1 a n b0 b1 b2 b3 w h
  · exact recordRots_2 a n b0 b1 b2 b3 w (by omega) hn

set_option maxRecDepth 100000 in
theorem recordRots_lifted (os : Os) (started : os.Started) (H : Type) (enc : TypeId × Value → H) :
    ReturnsInHanded {} Tryd.checked os 7 .any (Rows.recordRotsSpec.pre6 enc Tryd.prog Tryd.f7 Rows.recordRotsRow.domain false) (Rows.recordRotsSpec.post enc Tryd.prog Tryd.f7 false true false false) := by
  refine returnsInHanded_of_change (C := Tryd.checked) (by kernel_rfl : ownKnob Tryd.prog.godebug = none) started (by kernel_rfl) Tryd.func7
    (ChangeSpec.witness6 (enc := enc) (C := Tryd.checked) false ⟨#[], #[.string ByteArray.empty, .int .u16 0, .agg #[.int .u8 0, .int .u8 0, .int .u8 0, .int .u8 0]], []⟩ 8 (by kernel_rfl) (by kernel_rfl) (by kernel_rfl) (by kernel_rfl)) ?_
  intro W base args ds gs before hval0 hW hcnd _
  have hval : ∀ (j : Nat) t v, Tryd.f7.params[j]? = some t → args[j]? = some v → Value.okWide Tryd.prog W .any base t v := hval0
  have hW' := hW
  obtain ⟨p, q, hA0, hV, rfl, hfz, hnd⟩ := hW
  have hA : DataW.TrodAll enc Tryd.prog W 0 (fun _ => true) true Tryd.f7.params.toList args.toList ds p := hA0
  rw [Tryd.params7] at hA hval
  obtain ⟨v0, vs0, d0, ds0, p0, q0, hargs, rfl, rfl, h0, r0⟩ := trodAll_cons hA
  obtain ⟨v1, vs1, d1, ds1, p1, q1, rfl, rfl, rfl, h1, r1⟩ := trodAll_cons r0
  obtain ⟨v2, vs2, d2, ds2, p2, q2, rfl, rfl, rfl, h2, r2⟩ := trodAll_cons r1
  obtain ⟨rfl, rfl, rfl⟩ := trodAll_nil r2
  obtain rfl : args = #[v0, v1, v2] := by cases args; simp_all
  obtain ⟨rfl, rfl⟩ := trodVars_none hV
  obtain ⟨a0, rfl, rfl, rfl, w0⟩ := open_string Tryd.underlying9 (hval 0 9 v0 rfl rfl) h0
  obtain ⟨a1, rfl, rfl, rfl, w1⟩ := open_int Tryd.underlying33 (hval 1 33 v1 rfl rfl) h1
  obtain ⟨a2_0, a2_1, a2_2, a2_3, rfl, rfl, rfl, w2_0, w2_1, w2_2, w2_3⟩ := open_four Tryd.underlying34 Tryd.underlying5 (by kernel_rfl) (by kernel_rfl) (hval 2 34 v2 rfl rfl) h2
  clear hA0 hval0
  simp only [List.append_nil] at hW'
  refine (recordRots_walk a0 a1 a2_0 a2_1 a2_2 a2_3 w0 w1 w2_0 w2_1 w2_2 w2_3 W).mono fun e W' ⟨he, bel⟩ => ?_
  subst he
  exact ⟨_, rfl, _, _, _, [], [], [], hW', trodAll_mk1 (shut_bool Tryd.underlying4 _), (trodAll_cons_mk (shut_string Tryd.underlying9 w0) (trodAll_cons_mk (shut_int Tryd.underlying33 w1) (trodAll_cons_mk (shut_four Tryd.underlying34 Tryd.underlying5 (by kernel_rfl) (by kernel_rfl) w2_0 w2_1 w2_2 w2_3) trodAll_mk0))), rfl, bel.frame _, fun h => by cases h⟩
/-- THE STATEMENT. -/
theorem recordRots_proved : Rows.RecordRotsSaid :=
  OpenClaim.holds_of_wide 7 Tryd.f7 rfl rfl rfl rfl rfl rfl rfl ⟨rfl, rfl, rfl, rfl, rfl⟩ rfl rfl rfl rfl rfl (by kernel_rfl) Tryd.func7 (by kernel_rfl)
    (of_decide_eq_true (by kernel_rfl)) (by unfold Func.isWrapper; first | (rw [if_pos (by decide +kernel)]; kernel_rfl) | (rw [if_neg (by decide +kernel)]; exact ⟨rfl, rfl⟩))
    (fun os started H enc _ => recordRots_lifted os started H enc)
#print axioms recordRots_proved
end Go.Proofs.YtiignaapnknbjaaDoor
