/- Contracts of package flash's steps: erasing and programming. -/
import Derived.Test.YtipiioggdalkoaaGreatDoorFlStep
import Derived.Test.YtipiioggdalkoaaGreatDoorFlowMore
namespace Go.Proofs.YtipiioggdalkoaaGreatDoor
open Go.RowKit
set_option linter.unusedVariables false
set_option linter.unusedSimpArgs false

theorem eFits_any (n : Int) (w : World) : Calls Tryz.prog 166 #[.agg #[], .int .i64 n] w fun e w' => e = .returned (.bool true) ∧ Below w.heap.size w w' := by
  go_enter Tryz.func166, Tryz.ntmps166
  go_wp2
  go_ret
  exact ⟨rfl, (Below.refl _ _).alloc (Nat.le_refl _) _⟩
set_option maxHeartbeats 400000 in
theorem ePage_any (was : List UInt8) (w : World) (h : was.length ≤ 100000) : Calls Tryz.prog 167 #[.agg #[], .string ⟨was.toArray⟩] w fun e w' => e = .returned (.string ⟨(List.replicate was.length 255).toArray⟩) ∧ Below w.heap.size w w' := by
  have hsz : (⟨was.toArray⟩ : ByteArray).size = was.length := size_mk was
  have H := Lib.hid (show onesL (was.length : Int) = List.replicate was.length 255 by unfold onesL; rw [if_pos (by omega), Int.toNat_natCast])
  go_enter Tryz.func167, Tryz.ntmps167
  go_wp2_with fail
  refine (ones_any _ _).mono ?_
  rintro e w' ⟨rfl, hb⟩
  rw [H.out]
  go_wp2
  go_ret
  exact ⟨rfl, ((Below.refl w.heap.size w).alloc (Nat.le_refl _) _).trans (hb.mono (by simp))⟩
def wornN (n : Int) : Int := if n + 1 ≤ 2147483647 then n + 1 else 2147483647
set_option maxHeartbeats 400000 in
theorem eWear_any (n : Int) (w : World) (h0 : 0 ≤ n) (h1 : n ≤ 2147483647) : Calls Tryz.prog 168 #[.agg #[], .int .i64 n] w fun e w' => e = .returned (.int .i64 (wornN n)) ∧ Below w.heap.size w w' := by
  have hmin : ∀ (ts : Array TypeId) (t : TypeId) (W : World), (Builtin.min_ ts t #[.int .i64 (n + 1), .int .i64 2147483647]).run Tryz.prog W = .ok (.int .i64 (wornN n)) W := by
    intro ts t W
    rw [run_min_int2]
    unfold wornN
    congr 2
    split <;> split <;> omega
  go_enter Tryz.func168, Tryz.ntmps168
  go_wp2
  go_ret
  exact ⟨rfl, (Below.refl _ _).alloc (Nat.le_refl _) _⟩
theorem pWear_any (v : Value) (n : Int) (w : World) (at_ : Int) (s : List UInt8) : Calls Tryz.prog 171 #[.agg #[.int .i64 at_, .string ⟨s.toArray⟩], .int .i64 n] w fun e w' => e = .returned (.int .i64 n) ∧ Below w.heap.size w w' := by
  go_enter Tryz.func171, Tryz.ntmps171
  go_wp2
  go_ret
  exact ⟨rfl, (Below.refl _ _).alloc (Nat.le_refl _) _⟩
set_option maxHeartbeats 400000 in
theorem pFits_any (at_ : Int) (s : List UInt8) (n : Int) (w : World) (hs : s.length ≤ 1000000000) (h2 : -1000000000000 ≤ n) (h3 : n ≤ 1000000000000) :
    Calls Tryz.prog 169 #[.agg #[.int .i64 at_, .string ⟨s.toArray⟩], .int .i64 n] w fun e w' => e = .returned (.bool (decide (0 ≤ at_) && decide (at_ ≤ n - s.length))) ∧ Below w.heap.size w w' := by
  go_enter Tryz.func169, Tryz.ntmps169
  go_wp2_with fail
  refine (stands_any s at_ n _ hs h2 h3).mono ?_
  rintro e w' ⟨rfl, rfl⟩
  obtain ⟨z, hz⟩ : ∃ z, z = (decide (0 ≤ at_) && decide (at_ ≤ n - (s.length : Int))) := ⟨_, rfl⟩
  rw [← hz]
  have HZ := Lib.hid hz
  clear hz
  go_wp2
  go_ret
  exact ⟨by rw [← HZ.out]; rfl, (Below.refl _ _).alloc (Nat.le_refl _) _⟩

theorem field_pr (g k : Nat) (hk : k < 2) (w : World) : (Instr.fieldAt 77 (.pointer (some ⟨g, 0, none⟩)) k).run Tryz.prog w = .ok (.pointer (some ⟨g, k, none⟩)) w := by
  have h : k = 0 ∨ k = 1 := by omega
  rcases h with rfl | rfl <;> simp [Instr.fieldAt, run_underlying Tryz.underlying77, Instr.sureAddr, fieldPlace, Addr.add]
/-- A page that was programmed. -/
def progL (was : List UInt8) (k : Nat) (s : List UInt8) : List UInt8 := was.take k ++ pairL (· &&& ·) (was.drop k) s
theorem length_progL (was : List UInt8) (k : Nat) (s : List UInt8) : (progL was k s).length = was.length := by
  unfold progL
  rw [List.length_append, length_pairL, ← List.length_append, List.take_append_drop]
theorem call_and (t d : List UInt8) (ht : t.length ≤ 1000000000) (hd : d.length ≤ 1000000000) (w : World) :
    Calls Tryz.prog 95 #[.string ⟨t.toArray⟩, .string ⟨d.toArray⟩] w fun e w' => ∃ v, e = .returned v ∧ isVal (.string ⟨(pairL (· &&& ·) t d).toArray⟩) v w' ∧ Below w.heap.size w w' :=
  (and_l t d w ht hd).mono (by rintro e w' ⟨rfl, hb⟩; exact ⟨_, rfl, rfl, hb⟩)
noncomputable def ppOps : Array Oper := regionOf Tryz.f170 1
set_option maxRecDepth 100000 in
set_option maxHeartbeats 1000000 in
theorem pPage_region (Q : Exit → Act → World → Prop) (a0 : Act) (w0 : World) (hsz : a0.tmps.size = 17) (was s : List UInt8) (k g : Nat) (hk : k ≤ was.length) (h1 : was.length ≤ 1000000) (h2 : s.length ≤ 1000000)
    (e1 : a0.tmps.getD 1 undef = .string ⟨was.toArray⟩) (e2 : a0.tmps.getD 2 undef = .pointer (some ⟨g, 0, none⟩)) (hg : g < w0.heap.size) (c0 : w0.cell? ⟨g, 0, none⟩ = some (.int .i64 (k : Int))) (c1 : w0.cell? ⟨g, 1, none⟩ = some (.string ⟨s.toArray⟩))
    (hQ : ∀ (a : Act) (w : World), a.defers = a0.defers → a.tmps.getD 4 undef = .string ⟨(progL was k s).toArray⟩ → Below w0.heap.size w0 w → Q .normal a w) :
    (Code.region 1 ppOps true).wp Tryz.prog Q a0 w0 := by
  have hdl : (was.drop k).length ≤ 1000000000 := by rw [List.length_drop]; omega
  refine wp_region_flow mixed (by rw [hsz]; kernel_rfl) ?_
  rw [show ppOps.size = 13 by kernel_rfl]
  refine ⟨isVal (.string ⟨was.toArray⟩), step_move (.tmp 1) (by kernel_rfl) (wanted_none (by kernel_rfl)) (stable_val _) (knows_old 1 (.string ⟨was.toArray⟩) (by kernel_rfl) e1), ?_⟩
  refine ⟨isVal (.pointer (some ⟨g, 0, none⟩)), step_field 77 (.tmp 2) 0 ⟨g, 0, none⟩ ⟨g, 0, none⟩ (by kernel_rfl) (wanted_none (by kernel_rfl)) (knows_old 2 (.pointer (some ⟨g, 0, none⟩)) (by kernel_rfl) e2) (field_pr g 0 (by omega)), ?_⟩
  refine ⟨isVal (.int .i64 (k : Int)), step_read 3 (.tmp 6) ⟨g, 0, none⟩ (.int .i64 (k : Int)) (by kernel_rfl) (wanted_none (by kernel_rfl)) (knows_new (V := isVal (.pointer (some ⟨g, 0, none⟩))) 6 1 (by kernel_rfl) (by kernel_rfl) (by kernel_rfl)) c0 hg agg_int, ?_⟩
  refine ⟨isVal (.string ⟨(was.take k).toArray⟩), step_head 9 (.tmp 5) (.tmp 7) was k (by kernel_rfl) (wanted_none (by kernel_rfl)) (knows_new (V := isVal (.string ⟨was.toArray⟩)) 5 0 (by kernel_rfl) (by kernel_rfl) (by kernel_rfl)) (knows_new (V := isVal (.int .i64 (k : Int))) 7 2 (by kernel_rfl) (by kernel_rfl) (by kernel_rfl)) (head_str was k hk), ?_⟩
  refine ⟨isVal (.string ⟨was.toArray⟩), step_move (.tmp 1) (by kernel_rfl) (wanted_none (by kernel_rfl)) (stable_val _) (knows_old 1 (.string ⟨was.toArray⟩) (by kernel_rfl) e1), ?_⟩
  refine ⟨isVal (.pointer (some ⟨g, 0, none⟩)), step_field 77 (.tmp 2) 0 ⟨g, 0, none⟩ ⟨g, 0, none⟩ (by kernel_rfl) (wanted_none (by kernel_rfl)) (knows_old 2 (.pointer (some ⟨g, 0, none⟩)) (by kernel_rfl) e2) (field_pr g 0 (by omega)), ?_⟩
  refine ⟨isVal (.int .i64 (k : Int)), step_read 3 (.tmp 10) ⟨g, 0, none⟩ (.int .i64 (k : Int)) (by kernel_rfl) (wanted_none (by kernel_rfl)) (knows_new (V := isVal (.pointer (some ⟨g, 0, none⟩))) 10 5 (by kernel_rfl) (by kernel_rfl) (by kernel_rfl)) c0 hg agg_int, ?_⟩
  refine ⟨isVal (.string ⟨(was.drop k).toArray⟩), step_rest 9 (.tmp 9) (.tmp 11) was k (by kernel_rfl) (wanted_none (by kernel_rfl)) (knows_new (V := isVal (.string ⟨was.toArray⟩)) 9 4 (by kernel_rfl) (by kernel_rfl) (by kernel_rfl)) (knows_new (V := isVal (.int .i64 (k : Int))) 11 6 (by kernel_rfl) (by kernel_rfl) (by kernel_rfl)) (rest_str was k hk), ?_⟩
  refine ⟨isVal (.pointer (some ⟨g, 1, none⟩)), step_field 77 (.tmp 2) 1 ⟨g, 0, none⟩ ⟨g, 1, none⟩ (by kernel_rfl) (wanted_none (by kernel_rfl)) (knows_old 2 (.pointer (some ⟨g, 0, none⟩)) (by kernel_rfl) e2) (field_pr g 1 (by omega)), ?_⟩
  refine ⟨isVal (.string ⟨s.toArray⟩), step_read 9 (.tmp 13) ⟨g, 1, none⟩ (.string ⟨s.toArray⟩) (by kernel_rfl) (wanted_none (by kernel_rfl)) (knows_new (V := isVal (.pointer (some ⟨g, 1, none⟩))) 13 8 (by kernel_rfl) (by kernel_rfl) (by kernel_rfl)) c1 hg agg_str, ?_⟩
  refine ⟨isVal (.string ⟨(pairL (· &&& ·) (was.drop k) s).toArray⟩), step_call 95 #[.tmp 12, .tmp 14] #[9, 9] #[.string ⟨(was.drop k).toArray⟩, .string ⟨s.toArray⟩] (by kernel_rfl) (wanted_none (by kernel_rfl)) (stable_val _) (args2 (.tmp 12) (.tmp 14) (.string ⟨(was.drop k).toArray⟩) (.string ⟨s.toArray⟩) (knows_new (V := isVal (.string ⟨(was.drop k).toArray⟩)) 12 7 (by kernel_rfl) (by kernel_rfl) (by kernel_rfl)) (knows_new (V := isVal (.string ⟨s.toArray⟩)) 14 9 (by kernel_rfl) (by kernel_rfl) (by kernel_rfl))) (enters_of Tryz.func95 (by kernel_rfl) rfl) (by intro w hb; exact call_and (was.drop k) s hdl (by omega) w), ?_⟩
  refine ⟨isVal (.string ⟨(was.take k ++ pairL (· &&& ·) (was.drop k) s).toArray⟩), step_bin .add 9 9 (.tmp 8) (.tmp 15) (.string ⟨(was.take k).toArray⟩) (.string ⟨(pairL (· &&& ·) (was.drop k) s).toArray⟩) (.string ⟨(was.take k ++ pairL (· &&& ·) (was.drop k) s).toArray⟩) (by kernel_rfl) (wanted_none (by kernel_rfl)) (knows_new (V := isVal (.string ⟨(was.take k).toArray⟩)) 8 3 (by kernel_rfl) (by kernel_rfl) (by kernel_rfl)) (knows_new (V := isVal (.string ⟨(pairL (· &&& ·) (was.drop k) s).toArray⟩)) 15 10 (by kernel_rfl) (by kernel_rfl) (by kernel_rfl)) (fun _ => rfl) (fun W => run_string_add_lists W (was.take k) (pairL (· &&& ·) (was.drop k) s) (by rw [List.length_take]; omega) (by rw [length_pairL, List.length_drop]; omega)), ?_⟩
  refine ⟨isVal (.string ⟨(was.take k ++ pairL (· &&& ·) (was.drop k) s).toArray⟩), step_assign (.tmp 16) (by kernel_rfl) (wanted_none (by kernel_rfl)) (stable_val _) (knows_new (V := isVal (.string ⟨(was.take k ++ pairL (· &&& ·) (was.drop k) s).toArray⟩)) 16 11 (by kernel_rfl) (by kernel_rfl) (by kernel_rfl)), ?_⟩
  intro a w hkp hb hd
  exact hQ a w hkp.1 (fdone_of (hd 12 (by rw [show ppOps.size = 13 by kernel_rfl]; decide)) (t := 4) (V := isVal (.string ⟨(was.take k ++ pairL (· &&& ·) (was.drop k) s).toArray⟩)) (by kernel_rfl) (by kernel_rfl)) hb
set_option maxHeartbeats 400000 in
theorem pPage_any (k : Nat) (s was : List UInt8) (w : World) (hk : k ≤ was.length) (h1 : was.length ≤ 1000000) (h2 : s.length ≤ 1000000) :
    Calls Tryz.prog 170 #[.agg #[.int .i64 (k : Int), .string ⟨s.toArray⟩], .string ⟨was.toArray⟩] w fun e w' => e = .returned (.string ⟨(progL was k s).toArray⟩) ∧ Below w.heap.size w w' := by
  go_enter Tryz.func170, Tryz.ntmps170
  go_wp2_with fail
  refine pPage_region _ _ _ rfl was s k w.heap.size hk h1 h2 rfl rfl (by simp) (by rw [World.cell?_alloc_new]; rfl) (by rw [World.cell?_alloc_new]; rfl) ?_
  intro a w5 hd h4 hb5
  have hB := ((Below.refl w.heap.size w).alloc (Nat.le_refl _) _).trans (hb5.mono (by simp))
  go_wp2
  refine bodyPost_ret (results_tmp rfl a.tmps Tryz.prog w5) hd ⟨?_, hB⟩
  rw [h4]
end Go.Proofs.YtipiioggdalkoaaGreatDoor
