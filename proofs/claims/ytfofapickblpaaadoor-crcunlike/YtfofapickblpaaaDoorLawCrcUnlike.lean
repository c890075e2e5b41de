/- Two texts that differ in bytes that are at most 3 behind each other alone have other sums (crc.Sum). -/
import Derived.Test.YtfofapickblpaaaDoorCrcWorks
import Derived.Test.YtfofapickblpaaaDoorCrcTurn
import Derived.Test.YtfofapickblpaaaDoorFour
import Derived.ProofKit
import Derived.OpenShut
import Derived.ShutString
import Derived.ChangeOld
import Derived.Below
namespace Go.Proofs.YtfofapickblpaaaDoor
open Go.ChangeShapes Go.WideShapes Go.ChangeAt Go.RowKit
open Go.ChangeMaps (open_string shut_string)
set_option linter.unusedVariables false

set_option maxRecDepth 100000 in
set_option maxHeartbeats 2000000 in
theorem crcUnlike_1 (a : List UInt8) (n : Nat) (b0 b1 b2 b3 : UInt8) (w : World) (h : 200 < a.length) :
    Calls Tryd.prog 8 #[.string ⟨a.toArray⟩, .int .u8 (n : Int), .agg #[.int .u8 (b0.toNat : Int), .int .u8 (b1.toNat : Int), .int .u8 (b2.toNat : Int), .int .u8 (b3.toNat : Int)]] w fun e w' => e = .returned (.bool true) ∧ Below w.heap.size w w' := by
  have c1 : decide (200 < (a.length : Int)) = true := by simp; omega
  go_enter Tryd.func8, Tryd.ntmps8
  go_wp2_with fail
  refine (works_any _).mono ?_; rintro e w2 ⟨rfl, hB⟩
  have hB0 : Below w.heap.size w (w.alloc (.cells #[.int .u8 (b0.toNat : Int), .int .u8 (b1.toNat : Int), .int .u8 (b2.toNat : Int), .int .u8 (b3.toNat : Int)] 32)) := (Below.refl _ _).alloc (Nat.le_refl _) _
  go_wp2
  go_ret
  exact ⟨rfl, hB0.trans (hB.mono hB0.size)⟩

set_option maxRecDepth 100000 in
set_option maxHeartbeats 2000000 in
theorem crcUnlike_2 (a : List UInt8) (n : Nat) (b0 b1 b2 b3 : UInt8) (w : World) (h : a.length < 4) :
    Calls Tryd.prog 8 #[.string ⟨a.toArray⟩, .int .u8 (n : Int), .agg #[.int .u8 (b0.toNat : Int), .int .u8 (b1.toNat : Int), .int .u8 (b2.toNat : Int), .int .u8 (b3.toNat : Int)]] w fun e w' => e = .returned (.bool true) ∧ Below w.heap.size w w' := by
  have c1 : decide (200 < (a.length : Int)) = false := by simp; omega
  have c2 : decide ((a.length : Int) < 4) = true := by simp; omega
  go_enter Tryd.func8, Tryd.ntmps8
  go_wp2_with fail
  refine (works_any _).mono ?_; rintro e w2 ⟨rfl, hB⟩
  have hB0 : Below w.heap.size w (w.alloc (.cells #[.int .u8 (b0.toNat : Int), .int .u8 (b1.toNat : Int), .int .u8 (b2.toNat : Int), .int .u8 (b3.toNat : Int)] 32)) := (Below.refl _ _).alloc (Nat.le_refl _) _
  go_wp2
  go_ret
  exact ⟨rfl, hB0.trans (hB.mono hB0.size)⟩

set_option maxRecDepth 100000 in
set_option maxHeartbeats 2000000 in
theorem crcUnlike_3 (a : List UInt8) (n : Nat) (b0 b1 b2 b3 : UInt8) (w : World) (h : a.length ≤ 200) (h4 : 4 ≤ a.length) (hn : n < 256) :
    Calls Tryd.prog 8 #[.string ⟨a.toArray⟩, .int .u8 (n : Int), .agg #[.int .u8 (b0.toNat : Int), .int .u8 (b1.toNat : Int), .int .u8 (b2.toNat : Int), .int .u8 (b3.toNat : Int)]] w fun e w' => e = .returned (.bool true) ∧ Below w.heap.size w w' := by
  have c1 : decide (200 < (a.length : Int)) = false := by simp; omega
  have c2 : decide ((a.length : Int) < 4) = false := by simp; omega
  go_enter Tryd.func8, Tryd.ntmps8
  go_wp2_with fail
  refine (works_any _).mono ?_; rintro e w2 ⟨rfl, hB⟩
  have hB0 : Below w.heap.size w (w.alloc (.cells #[.int .u8 (b0.toNat : Int), .int .u8 (b1.toNat : Int), .int .u8 (b2.toNat : Int), .int .u8 (b3.toNat : Int)] 32)) := (Below.refl _ _).alloc (Nat.le_refl _) _
  obtain ⟨k, hkd⟩ : ∃ k : Nat, k = n % (a.length - 3) := ⟨_, rfl⟩
  have hkl : k + 4 ≤ a.length := by have := Nat.mod_lt n (y := a.length - 3) (by omega); omega
  have hki : (n : Int) % ((a.length : Int) - 3) = (k : Int) := by rw [hkd, Int.natCast_emod, Int.natCast_sub (by omega)]; rfl
  have hg : w.heap.size < w2.heap.size := by have := hB.size; simp at this; omega
  have hcl : ∀ j v, (#[.int .u8 (b0.toNat : Int), .int .u8 (b1.toNat : Int), .int .u8 (b2.toNat : Int), .int .u8 (b3.toNat : Int)] : Array Value)[j]? = some v → w2.cell? ⟨w.heap.size, j, none⟩ = some v := by
    intro j v hv
    rw [hB.cell (p := ⟨w.heap.size, j, none⟩) (by simp), World.cell?_alloc_new]
    exact hv
  have hrow : w2.heap[w.heap.size]? = some (.cells #[.int .u8 (b0.toNat : Int), .int .u8 (b1.toNat : Int), .int .u8 (b2.toNat : Int), .int .u8 (b3.toNat : Int)] 32 (0, 0)) := by
    rw [hB.block w.heap.size (by simp)]
    exact alloc_get w _
  have HQ := Lib.hid hrow
  have HC := Lib.hid hcl
  have HK := Lib.hid hki
  clear hrow hcl hki
  go_wp2_with fail
  refine unlike_region _ _ _ rfl a k w.heap.size b0 b1 b2 b3 (by omega) (by omega) rfl (congrArg (Value.int .i64) HK.out) rfl hg (HC.out 0 _ rfl) (HC.out 1 _ rfl) (HC.out 2 _ rfl) (HC.out 3 _ rfl) ?_
  intro act w3 hdf hsz hkeep hn9 hb3
  have hk0 : act.tmps.getD 0 undef = (.string ⟨a.toArray⟩) := (hkeep 0 (by kernel_rfl)).trans rfl
  have hk5 : act.tmps.getD 5 undef = (.pointer (some ⟨w.heap.size, 0, none⟩)) := (hkeep 5 (by kernel_rfl)).trans rfl
  have hk7 : act.tmps.getD 7 undef = (.bool true) := (hkeep 7 (by kernel_rfl)).trans rfl
  obtain ⟨tm, df⟩ := act
  obtain rfl : df = [] := hdf
  clear hkeep
  obtain ⟨f, rfl, hk0, hk5, hk7, hn9⟩ : ∃ f : Nat → Value, tm = ((List.range 56).map f).toArray ∧ f 0 = (.string ⟨a.toArray⟩) ∧ f 5 = (.pointer (some ⟨w.heap.size, 0, none⟩)) ∧ f 7 = (.bool true) ∧ f 9 = (.string ⟨(pairL (· ^^^ ·) a (List.replicate k 0 ++ [b0, b1, b2, b3])).toArray⟩) := ⟨fun i => tm.getD i undef, arr_eta tm hsz, hk0, hk5, hk7, hn9⟩
  rw [show ((List.range 56).map f).toArray = #[f 0, f 1, f 2, f 3, f 4, f 5, f 6, f 7, f 8, f 9, f 10, f 11, f 12, f 13, f 14, f 15, f 16, f 17, f 18, f 19, f 20, f 21, f 22, f 23, f 24, f 25, f 26, f 27, f 28, f 29, f 30, f 31, f 32, f 33, f 34, f 35, f 36, f 37, f 38, f 39, f 40, f 41, f 42, f 43, f 44, f 45, f 46, f 47, f 48, f 49, f 50, f 51, f 52, f 53, f 54, f 55] from rfl]
  rw [hk0, hk5, hk7, hn9]
  clear hsz hk0 hk5 hk7 hn9
  have hB2 := hB.trans (hb3.mono hB.size)
  have hX := length_pairL (· ^^^ ·) a (List.replicate k 0 ++ [b0, b1, b2, b3])
  have hturn := turned 4294967295 a [b0, b1, b2, b3] k rfl (by omega) (by omega)
  have hsum := @sum_inj a (pairL (· ^^^ ·) a (List.replicate k 0 ++ [b0, b1, b2, b3]))
  generalize pairL (· ^^^ ·) a (List.replicate k 0 ++ [b0, b1, b2, b3]) = x at *
  obtain ⟨z, hz⟩ : ∃ z : Bool, z = decide (getN [b0, b1, b2, b3] = 0) := ⟨_, rfl⟩
  have hz1 : ((sumN a : Int) == (sumN x : Int)) = z := by
    rw [hz, Bool.eq_iff_iff, beq_iff_eq, decide_eq_true_iff, ← hturn]
    constructor
    · intro e; exact (hsum.1 (by omega)).symm
    · intro e; rw [hsum.2 e.symm]
  have hz2 : ((b0.toNat : Int) == 0 && (b1.toNat : Int) == 0 && (b2.toNat : Int) == 0 && (b3.toNat : Int) == 0) = z := by
    rw [hz, Bool.eq_iff_iff, decide_eq_true_iff]
    simp [getN]
    omega
  have HR := Lib.hid (show w3.heap[w.heap.size]? = _ from (hb3.block w.heap.size hg).trans HQ.out)
  have HZ1 := Lib.hid hz1
  have HZ2 := Lib.hid hz2
  clear hz1 hz2 hturn hsum hz HQ HC HK
  go_wp2_with fail
  refine last_region _ _ _ rfl a x w.heap.size b0 b1 b2 b3 z (by omega) (by omega) rfl rfl rfl rfl HR.out HZ1.out HZ2.out ?_
  intro act w5 hd h6 hb5
  have hB3 := hB2.trans (hb5.mono hB2.size)
  go_wp2
  refine bodyPost_ret (results_tmp rfl act.tmps Tryd.prog w5) hd ⟨?_, hB0.trans (hB3.mono hB0.size)⟩
  rw [h6]

theorem crcUnlike_walk (a0 : ByteArray) (a1 x0 x1 x2 x3 : Int) (w0 : a0.size ≤ maxLen) (w1 : (Lit.int .u8 a1).wf = true) (u0 : (Lit.int .u8 x0).wf = true) (u1 : (Lit.int .u8 x1).wf = true) (u2 : (Lit.int .u8 x2).wf = true) (u3 : (Lit.int .u8 x3).wf = true) (w : World) :
    Calls Tryd.prog 8 #[.string a0, .int .u8 a1, .agg #[.int .u8 x0, .int .u8 x1, .int .u8 x2, .int .u8 x3]] w fun e w' => e = .returned (.bool true) ∧ Below w.heap.size w w' := by
  obtain ⟨n, rfl⟩ := byte_of w1
  obtain ⟨b0, rfl⟩ := byte_of u0
  obtain ⟨b1, rfl⟩ := byte_of u1
  obtain ⟨b2, rfl⟩ := byte_of u2
  obtain ⟨b3, rfl⟩ := byte_of u3
  rw [str_eta a0]
  generalize a0.data.toList = a
  by_cases h : 200 < a.length
  · exact crcUnlike_1 a n.toNat b0 b1 b2 b3 w h
  · by_cases h4 : a.length < 4
    · exact crcUnlike_2 a n.toNat b0 b1 b2 b3 w h4
    · exact crcUnlike_3 a n.toNat b0 b1 b2 b3 w (by omega) (by omega) n.toNat_lt

set_option maxRecDepth 100000 in
theorem crcUnlike_lifted (os : Os) (started : os.Started) (H : Type) (enc : TypeId × Value → H) :
    ReturnsInHanded {} Tryd.checked os 8 .any (Rows.crcUnlikeSpec.pre6 enc Tryd.prog Tryd.f8 Rows.crcUnlikeRow.domain false) (Rows.crcUnlikeSpec.post enc Tryd.prog Tryd.f8 false true false false) := by
  refine returnsInHanded_of_change (C := Tryd.checked) (by kernel_rfl : ownKnob Tryd.prog.godebug = none) started (by kernel_rfl) Tryd.func8
    (ChangeSpec.witness6 (enc := enc) (C := Tryd.checked) false ⟨#[], #[.string ByteArray.empty, .int .u8 0, .agg #[.int .u8 0, .int .u8 0, .int .u8 0, .int .u8 0]], []⟩ 8 (by kernel_rfl) (by kernel_rfl) (by kernel_rfl) (by kernel_rfl)) ?_
  intro W base args ds gs before hval0 hW hcnd _
  have hval : ∀ (j : Nat) t v, Tryd.f8.params[j]? = some t → args[j]? = some v → Value.okWide Tryd.prog W .any base t v := hval0
  have hW' := hW
  obtain ⟨p, q, hA0, hV, rfl, hfz, hnd⟩ := hW
  have hA : DataW.TrodAll enc Tryd.prog W 0 (fun _ => true) true Tryd.f8.params.toList args.toList ds p := hA0
  rw [Tryd.params8] at hA hval
  obtain ⟨v0, vs0, d0, ds0, p0, q0, hargs, rfl, rfl, h0, r0⟩ := trodAll_cons hA
  obtain ⟨v1, vs1, d1, ds1, p1, q1, rfl, rfl, rfl, h1, r1⟩ := trodAll_cons r0
  obtain ⟨v2, vs2, d2, ds2, p2, q2, rfl, rfl, rfl, h2, r2⟩ := trodAll_cons r1
  obtain ⟨rfl, rfl, rfl⟩ := trodAll_nil r2
  obtain rfl : args = #[v0, v1, v2] := by cases args; simp_all
  obtain ⟨rfl, rfl⟩ := trodVars_none hV
  obtain ⟨a0, rfl, rfl, rfl, w0⟩ := open_string Tryd.underlying9 (hval 0 9 v0 rfl rfl) h0
  obtain ⟨a1, rfl, rfl, rfl, w1⟩ := open_int Tryd.underlying5 (hval 1 5 v1 rfl rfl) h1
  obtain ⟨a2_0, a2_1, a2_2, a2_3, rfl, rfl, rfl, w2_0, w2_1, w2_2, w2_3⟩ := open_four Tryd.underlying32 Tryd.underlying5 (by kernel_rfl) (by kernel_rfl) (hval 2 32 v2 rfl rfl) h2
  clear hA0 hval0
  simp only [List.append_nil] at hW'
  refine (crcUnlike_walk a0 a1 a2_0 a2_1 a2_2 a2_3 w0 w1 w2_0 w2_1 w2_2 w2_3 W).mono fun e W' ⟨he, bel⟩ => ?_
  subst he
  exact ⟨_, rfl, _, _, _, [], [], [], hW', trodAll_mk1 (shut_bool Tryd.underlying4 _), (trodAll_cons_mk (shut_string Tryd.underlying9 w0) (trodAll_cons_mk (shut_int Tryd.underlying5 w1) (trodAll_cons_mk (shut_four Tryd.underlying32 Tryd.underlying5 (by kernel_rfl) (by kernel_rfl) w2_0 w2_1 w2_2 w2_3) trodAll_mk0))), rfl, bel.frame _, fun h => by cases h⟩
/-- THE STATEMENT. -/
theorem crcUnlike_proved : Rows.CrcUnlikeSaid :=
  OpenClaim.holds_of_wide 8 Tryd.f8 rfl rfl rfl rfl rfl rfl rfl ⟨rfl, rfl, rfl, rfl, rfl⟩ rfl rfl rfl rfl rfl (by kernel_rfl) Tryd.func8 (by kernel_rfl)
    (of_decide_eq_true (by kernel_rfl)) (by unfold Func.isWrapper; first | (rw [if_pos (by decide +kernel)]; kernel_rfl) | (rw [if_neg (by decide +kernel)]; exact ⟨rfl, rfl⟩))
    (fun os started H enc _ => crcUnlike_lifted os started H enc)
#print axioms crcUnlike_proved
end Go.Proofs.YtfofapickblpaaaDoor
