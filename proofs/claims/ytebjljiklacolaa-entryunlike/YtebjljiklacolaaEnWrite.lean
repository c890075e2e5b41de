/- Contracts of the writer: a register, a row, a counter, flags. -/
import Derived.Test.YtebjljiklacolaaEnFlow
import Derived.Test.YtebjljiklacolaaVaKinds3
namespace Go.Proofs.Ytebjljiklacolaa
open Go.RowKit
set_option linter.unusedVariables false
set_option linter.unusedSimpArgs false
attribute [local irreducible] setN

theorem putS_nat (n : Int) (wd : Nat) (h0 : 0 ≤ n) (h1 : 1 ≤ wd) (h7 : wd ≤ 7) (hn : n.toNat < 256 ^ wd) : putS n (wd : Int) = putL n.toNat wd := by
  unfold putS okPut
  rw [if_pos, Int.toNat_natCast]
  simp only [isWidthB, Bool.and_eq_true, decide_eq_true_eq, Int.toNat_natCast]
  refine ⟨⟨⟨by omega, by omega⟩, h0⟩, ?_⟩
  have := Int.ofNat_lt.2 hn
  rw [Int.toNat_of_nonneg h0] at this
  simpa using this
theorem number_z (g : Nat) (t : List UInt8) (n : Int) (wd : Nat) (w : World) (h : At w g (txt t)) (ht : t.length ≤ 900) (h0 : 0 ≤ n) (hm : n ≤ 9223372036854775807) (h1 : 1 ≤ wd) (h7 : wd ≤ 7) (hn : n.toNat < 256 ^ wd) :
    Calls Try.prog 18 #[ptr g, .int .i64 n, .int .i64 (wd : Int)] w fun e w' => e = .returned unitV ∧ Wr g (txt (t ++ putL n.toNat wd)) w w' := by
  have e := putS_nat n wd h0 h1 h7 hn
  have := number_any g t n wd w h (by omega) hm (by rw [e, length_putL]; omega)
  rwa [e] at this
def bitI (b : Bool) : Int := (bitN b : Int)
set_option maxHeartbeats 400000 in
theorem digit_any (b : Bool) (w : World) : Calls Try.prog 40 #[.bool b] w fun e w' => e = .returned (.int .i64 (bitI b)) ∧ w = w' := by
  cases b with
  | true =>
    go_enter Try.func40, Try.ntmps40
    go_wp2
    go_ret
    exact ⟨rfl, rfl⟩
  | false =>
    go_enter Try.func40, Try.ntmps40
    go_wp2
    go_ret
    exact ⟨rfl, rfl⟩
theorem call_digit (b : Bool) (w : World) : Calls Try.prog 40 #[.bool b] w fun e w' => ∃ x, e = .returned x ∧ isVal (.int .i64 (bitI b)) x w' ∧ Below w.heap.size w w' :=
  (digit_any b w).mono (by rintro e w' ⟨rfl, rfl⟩; exact ⟨_, rfl, rfl, Below.refl _ _⟩)
noncomputable def wr1Ops : Array Oper := regionOf Try.f29 1
set_option maxRecDepth 100000 in
set_option maxHeartbeats 2000000 in
theorem wr1_region (Q : Exit → Act → World → Prop) (a0 : Act) (w0 : World) (hsz : a0.tmps.size = 36) (A : Va) (g b : Nat) (vp vm : Value) (e0 : a0.tmps.getD 0 undef = .pointer (some ⟨g, 0, none⟩)) (e3 : a0.tmps.getD 3 undef = .pointer (some ⟨b, 0, none⟩)) (hc : CellsN w0 b [.int .i64 A.kind, .int .i64 A.time, .int .i64 A.node, .bool A.dead, .string ⟨A.text.toArray⟩, vp, vm, .int .u64 (A.flags.toNat : Int)])
    (hC : ∀ (y : Nat → Value) (w : World), Below w0.heap.size w0 w → Calls Try.prog 18 #[.pointer (some ⟨g, 0, none⟩), .int .i64 A.time, .int .i64 4] w fun e w' => ∃ v, e = .returned v ∧ Q .normal { tmps := ([4, 5, 6, 7, 8, 9].foldl (fun t s => t.setIfInBounds s (y s)) a0.tmps).setIfInBounds 9 v, defers := a0.defers } w') :
    (Code.region 1 wr1Ops true).wp Try.prog Q a0 w0 := by
  refine wp_region_cov 5 mixed (by rw [hsz]; kernel_rfl) (by kernel_rfl) ?_
  rw [show wr1Ops.size - 5 = 1 by kernel_rfl]
  refine ⟨isVal (.pointer (some ⟨g, 0, none⟩)), step_move (.tmp 0) (by kernel_rfl) (wanted_none (by kernel_rfl)) (stable_val _) (knows_old 0 (.pointer (some ⟨g, 0, none⟩)) (by kernel_rfl) e0), ?_⟩
  refine ⟨isVal (.pointer (some ⟨g, 0, none⟩)), step_nilP (.tmp 4) ⟨g, 0, none⟩ (by kernel_rfl) (wanted_none (by kernel_rfl)) (knows_new (V := isVal (.pointer (some ⟨g, 0, none⟩))) 4 0 (by kernel_rfl) (by kernel_rfl) (by kernel_rfl)), ?_⟩
  refine ⟨isVal (.pointer (some ⟨g, 0, none⟩)), step_field 48 (.tmp 5) 0 ⟨g, 0, none⟩ ⟨g, 0, none⟩ (by kernel_rfl) (wanted_none (by kernel_rfl)) (knows_new (V := isVal (.pointer (some ⟨g, 0, none⟩))) 5 1 (by kernel_rfl) (by kernel_rfl) (by kernel_rfl)) (field_wr g 0 (by omega)), ?_⟩
  refine ⟨isVal (.pointer (some ⟨b, 1, none⟩)), step_field 25 (.tmp 3) 1 ⟨b, 0, none⟩ ⟨b, 1, none⟩ (by kernel_rfl) (wanted_none (by kernel_rfl)) (knows_old 3 (.pointer (some ⟨b, 0, none⟩)) (by kernel_rfl) e3) (field_va b 1 (by omega)), ?_⟩
  refine ⟨isVal (.int .i64 A.time), step_read 3 (.tmp 7) ⟨b, 1, none⟩ (.int .i64 A.time) (by kernel_rfl) (wanted_none (by kernel_rfl)) (knows_new (V := isVal (.pointer (some ⟨b, 1, none⟩))) 7 3 (by kernel_rfl) (by kernel_rfl) (by kernel_rfl)) (hc.2 1 _ rfl) hc.1 agg_int, ?_⟩
  intro a w hkp hb hd
  have d6 : a.eval (.tmp 6) = _ := fdone_of (hd 2 (by decide)) (t := 6) (V := isVal (.pointer (some ⟨g, 0, none⟩))) (by kernel_rfl) (by kernel_rfl)
  have d8 : a.eval (.tmp 8) = _ := fdone_of (hd 4 (by decide)) (t := 8) (V := isVal (.int .i64 A.time)) (by kernel_rfl) (by kernel_rfl)
  refine tail_call 18 #[.tmp 6, .tmp 8, .const (.int .i64 4)] #[46, 3, 3] #[.pointer (some ⟨g, 0, none⟩), .int .i64 A.time, .int .i64 4] 9 (by kernel_rfl) (by kernel_rfl) (by simp only [List.map_toArray, List.map_cons, List.map_nil, d6, d8]; try rfl) (enters_of Try.func18 (by kernel_rfl) rfl) ?_
  obtain ⟨y, ey⟩ := kept_ex hkp [some 4, some 5, some 6, some 7, some 8, some 9] [4, 5, 6, 7, 8, 9] (by kernel_rfl) (by decide)
  refine (hC y w hb).mono ?_
  rintro e w' ⟨v, rfl, hq⟩
  exact ⟨v, rfl, put_kept ey hq⟩
noncomputable def wr2Ops : Array Oper := regionOf Try.f29 2
set_option maxRecDepth 100000 in
set_option maxHeartbeats 2000000 in
theorem wr2_region (Q : Exit → Act → World → Prop) (a0 : Act) (w0 : World) (hsz : a0.tmps.size = 36) (A : Va) (g b : Nat) (vp vm : Value) (e0 : a0.tmps.getD 0 undef = .pointer (some ⟨g, 0, none⟩)) (e3 : a0.tmps.getD 3 undef = .pointer (some ⟨b, 0, none⟩)) (hc : CellsN w0 b [.int .i64 A.kind, .int .i64 A.time, .int .i64 A.node, .bool A.dead, .string ⟨A.text.toArray⟩, vp, vm, .int .u64 (A.flags.toNat : Int)])
    (hC : ∀ (y : Nat → Value) (w : World), Below w0.heap.size w0 w → Calls Try.prog 18 #[.pointer (some ⟨g, 0, none⟩), .int .i64 A.node, .int .i64 1] w fun e w' => ∃ v, e = .returned v ∧ Q .normal { tmps := ([10, 11, 12, 13, 14, 15].foldl (fun t s => t.setIfInBounds s (y s)) a0.tmps).setIfInBounds 15 v, defers := a0.defers } w') :
    (Code.region 2 wr2Ops true).wp Try.prog Q a0 w0 := by
  refine wp_region_cov 5 mixed (by rw [hsz]; kernel_rfl) (by kernel_rfl) ?_
  rw [show wr2Ops.size - 5 = 1 by kernel_rfl]
  refine ⟨isVal (.pointer (some ⟨g, 0, none⟩)), step_move (.tmp 0) (by kernel_rfl) (wanted_none (by kernel_rfl)) (stable_val _) (knows_old 0 (.pointer (some ⟨g, 0, none⟩)) (by kernel_rfl) e0), ?_⟩
  refine ⟨isVal (.pointer (some ⟨g, 0, none⟩)), step_nilP (.tmp 10) ⟨g, 0, none⟩ (by kernel_rfl) (wanted_none (by kernel_rfl)) (knows_new (V := isVal (.pointer (some ⟨g, 0, none⟩))) 10 0 (by kernel_rfl) (by kernel_rfl) (by kernel_rfl)), ?_⟩
  refine ⟨isVal (.pointer (some ⟨g, 0, none⟩)), step_field 48 (.tmp 11) 0 ⟨g, 0, none⟩ ⟨g, 0, none⟩ (by kernel_rfl) (wanted_none (by kernel_rfl)) (knows_new (V := isVal (.pointer (some ⟨g, 0, none⟩))) 11 1 (by kernel_rfl) (by kernel_rfl) (by kernel_rfl)) (field_wr g 0 (by omega)), ?_⟩
  refine ⟨isVal (.pointer (some ⟨b, 2, none⟩)), step_field 25 (.tmp 3) 2 ⟨b, 0, none⟩ ⟨b, 2, none⟩ (by kernel_rfl) (wanted_none (by kernel_rfl)) (knows_old 3 (.pointer (some ⟨b, 0, none⟩)) (by kernel_rfl) e3) (field_va b 2 (by omega)), ?_⟩
  refine ⟨isVal (.int .i64 A.node), step_read 3 (.tmp 13) ⟨b, 2, none⟩ (.int .i64 A.node) (by kernel_rfl) (wanted_none (by kernel_rfl)) (knows_new (V := isVal (.pointer (some ⟨b, 2, none⟩))) 13 3 (by kernel_rfl) (by kernel_rfl) (by kernel_rfl)) (hc.2 2 _ rfl) hc.1 agg_int, ?_⟩
  intro a w hkp hb hd
  have d12 : a.eval (.tmp 12) = _ := fdone_of (hd 2 (by decide)) (t := 12) (V := isVal (.pointer (some ⟨g, 0, none⟩))) (by kernel_rfl) (by kernel_rfl)
  have d14 : a.eval (.tmp 14) = _ := fdone_of (hd 4 (by decide)) (t := 14) (V := isVal (.int .i64 A.node)) (by kernel_rfl) (by kernel_rfl)
  refine tail_call 18 #[.tmp 12, .tmp 14, .const (.int .i64 1)] #[46, 3, 3] #[.pointer (some ⟨g, 0, none⟩), .int .i64 A.node, .int .i64 1] 15 (by kernel_rfl) (by kernel_rfl) (by simp only [List.map_toArray, List.map_cons, List.map_nil, d12, d14]; try rfl) (enters_of Try.func18 (by kernel_rfl) rfl) ?_
  obtain ⟨y, ey⟩ := kept_ex hkp [some 10, some 11, some 12, some 13, some 14, some 15] [10, 11, 12, 13, 14, 15] (by kernel_rfl) (by decide)
  refine (hC y w hb).mono ?_
  rintro e w' ⟨v, rfl, hq⟩
  exact ⟨v, rfl, put_kept ey hq⟩
noncomputable def wr3Ops : Array Oper := regionOf Try.f29 3
set_option maxRecDepth 100000 in
set_option maxHeartbeats 2000000 in
theorem wr3_region (Q : Exit → Act → World → Prop) (a0 : Act) (w0 : World) (hsz : a0.tmps.size = 36) (A : Va) (g b : Nat) (vp vm : Value) (e0 : a0.tmps.getD 0 undef = .pointer (some ⟨g, 0, none⟩)) (e3 : a0.tmps.getD 3 undef = .pointer (some ⟨b, 0, none⟩)) (hc : CellsN w0 b [.int .i64 A.kind, .int .i64 A.time, .int .i64 A.node, .bool A.dead, .string ⟨A.text.toArray⟩, vp, vm, .int .u64 (A.flags.toNat : Int)])
    (hC : ∀ (y : Nat → Value) (w : World), Below w0.heap.size w0 w → Calls Try.prog 18 #[.pointer (some ⟨g, 0, none⟩), .int .i64 (bitI A.dead), .int .i64 1] w fun e w' => ∃ v, e = .returned v ∧ Q .normal { tmps := ([16, 17, 18, 19, 20, 21, 22].foldl (fun t s => t.setIfInBounds s (y s)) a0.tmps).setIfInBounds 22 v, defers := a0.defers } w') :
    (Code.region 3 wr3Ops true).wp Try.prog Q a0 w0 := by
  refine wp_region_cov 6 mixed (by rw [hsz]; kernel_rfl) (by kernel_rfl) ?_
  rw [show wr3Ops.size - 6 = 1 by kernel_rfl]
  refine ⟨isVal (.pointer (some ⟨g, 0, none⟩)), step_move (.tmp 0) (by kernel_rfl) (wanted_none (by kernel_rfl)) (stable_val _) (knows_old 0 (.pointer (some ⟨g, 0, none⟩)) (by kernel_rfl) e0), ?_⟩
  refine ⟨isVal (.pointer (some ⟨g, 0, none⟩)), step_nilP (.tmp 16) ⟨g, 0, none⟩ (by kernel_rfl) (wanted_none (by kernel_rfl)) (knows_new (V := isVal (.pointer (some ⟨g, 0, none⟩))) 16 0 (by kernel_rfl) (by kernel_rfl) (by kernel_rfl)), ?_⟩
  refine ⟨isVal (.pointer (some ⟨g, 0, none⟩)), step_field 48 (.tmp 17) 0 ⟨g, 0, none⟩ ⟨g, 0, none⟩ (by kernel_rfl) (wanted_none (by kernel_rfl)) (knows_new (V := isVal (.pointer (some ⟨g, 0, none⟩))) 17 1 (by kernel_rfl) (by kernel_rfl) (by kernel_rfl)) (field_wr g 0 (by omega)), ?_⟩
  refine ⟨isVal (.pointer (some ⟨b, 3, none⟩)), step_field 25 (.tmp 3) 3 ⟨b, 0, none⟩ ⟨b, 3, none⟩ (by kernel_rfl) (wanted_none (by kernel_rfl)) (knows_old 3 (.pointer (some ⟨b, 0, none⟩)) (by kernel_rfl) e3) (field_va b 3 (by omega)), ?_⟩
  refine ⟨isVal (.bool A.dead), step_read 4 (.tmp 19) ⟨b, 3, none⟩ (.bool A.dead) (by kernel_rfl) (wanted_none (by kernel_rfl)) (knows_new (V := isVal (.pointer (some ⟨b, 3, none⟩))) 19 3 (by kernel_rfl) (by kernel_rfl) (by kernel_rfl)) (hc.2 3 _ rfl) hc.1 agg_bool, ?_⟩
  refine ⟨isVal (.int .i64 (bitI A.dead)), step_call 40 #[.tmp 20] #[4] #[.bool A.dead] (by kernel_rfl) (wanted_none (by kernel_rfl)) (stable_val _) (args1 (.tmp 20) (.bool A.dead) (knows_new (V := isVal (.bool A.dead)) 20 4 (by kernel_rfl) (by kernel_rfl) (by kernel_rfl))) (enters_of Try.func40 (by kernel_rfl) rfl) (by intro w hb; exact call_digit A.dead w), ?_⟩
  intro a w hkp hb hd
  have d18 : a.eval (.tmp 18) = _ := fdone_of (hd 2 (by decide)) (t := 18) (V := isVal (.pointer (some ⟨g, 0, none⟩))) (by kernel_rfl) (by kernel_rfl)
  have d21 : a.eval (.tmp 21) = _ := fdone_of (hd 5 (by decide)) (t := 21) (V := isVal (.int .i64 (bitI A.dead))) (by kernel_rfl) (by kernel_rfl)
  refine tail_call 18 #[.tmp 18, .tmp 21, .const (.int .i64 1)] #[46, 3, 3] #[.pointer (some ⟨g, 0, none⟩), .int .i64 (bitI A.dead), .int .i64 1] 22 (by kernel_rfl) (by kernel_rfl) (by simp only [List.map_toArray, List.map_cons, List.map_nil, d18, d21]; try rfl) (enters_of Try.func18 (by kernel_rfl) rfl) ?_
  obtain ⟨y, ey⟩ := kept_ex hkp [some 16, some 17, some 18, some 19, some 20, some 21, some 22] [16, 17, 18, 19, 20, 21, 22] (by kernel_rfl) (by decide)
  refine (hC y w hb).mono ?_
  rintro e w' ⟨v, rfl, hq⟩
  exact ⟨v, rfl, put_kept ey hq⟩
noncomputable def wr4Ops : Array Oper := regionOf Try.f29 4
set_option maxRecDepth 100000 in
set_option maxHeartbeats 2000000 in
theorem wr4_region (Q : Exit → Act → World → Prop) (a0 : Act) (w0 : World) (hsz : a0.tmps.size = 36) (A : Va) (g b : Nat) (vp vm : Value) (e0 : a0.tmps.getD 0 undef = .pointer (some ⟨g, 0, none⟩)) (e3 : a0.tmps.getD 3 undef = .pointer (some ⟨b, 0, none⟩)) (hc : CellsN w0 b [.int .i64 A.kind, .int .i64 A.time, .int .i64 A.node, .bool A.dead, .string ⟨A.text.toArray⟩, vp, vm, .int .u64 (A.flags.toNat : Int)])
    (hC : ∀ (y : Nat → Value) (w : World), Below w0.heap.size w0 w → Calls Try.prog 18 #[.pointer (some ⟨g, 0, none⟩), .int .i64 (A.text.length : Int), .int .i64 1] w fun e w' => ∃ v, e = .returned v ∧ Q .normal { tmps := ([23, 24, 25, 26, 27, 28, 29].foldl (fun t s => t.setIfInBounds s (y s)) a0.tmps).setIfInBounds 29 v, defers := a0.defers } w') :
    (Code.region 4 wr4Ops true).wp Try.prog Q a0 w0 := by
  refine wp_region_cov 6 mixed (by rw [hsz]; kernel_rfl) (by kernel_rfl) ?_
  rw [show wr4Ops.size - 6 = 1 by kernel_rfl]
  refine ⟨isVal (.pointer (some ⟨g, 0, none⟩)), step_move (.tmp 0) (by kernel_rfl) (wanted_none (by kernel_rfl)) (stable_val _) (knows_old 0 (.pointer (some ⟨g, 0, none⟩)) (by kernel_rfl) e0), ?_⟩
  refine ⟨isVal (.pointer (some ⟨g, 0, none⟩)), step_nilP (.tmp 23) ⟨g, 0, none⟩ (by kernel_rfl) (wanted_none (by kernel_rfl)) (knows_new (V := isVal (.pointer (some ⟨g, 0, none⟩))) 23 0 (by kernel_rfl) (by kernel_rfl) (by kernel_rfl)), ?_⟩
  refine ⟨isVal (.pointer (some ⟨g, 0, none⟩)), step_field 48 (.tmp 24) 0 ⟨g, 0, none⟩ ⟨g, 0, none⟩ (by kernel_rfl) (wanted_none (by kernel_rfl)) (knows_new (V := isVal (.pointer (some ⟨g, 0, none⟩))) 24 1 (by kernel_rfl) (by kernel_rfl) (by kernel_rfl)) (field_wr g 0 (by omega)), ?_⟩
  refine ⟨isVal (.pointer (some ⟨b, 4, none⟩)), step_field 25 (.tmp 3) 4 ⟨b, 0, none⟩ ⟨b, 4, none⟩ (by kernel_rfl) (wanted_none (by kernel_rfl)) (knows_old 3 (.pointer (some ⟨b, 0, none⟩)) (by kernel_rfl) e3) (field_va b 4 (by omega)), ?_⟩
  refine ⟨isVal (.string ⟨A.text.toArray⟩), step_read 9 (.tmp 26) ⟨b, 4, none⟩ (.string ⟨A.text.toArray⟩) (by kernel_rfl) (wanted_none (by kernel_rfl)) (knows_new (V := isVal (.pointer (some ⟨b, 4, none⟩))) 26 3 (by kernel_rfl) (by kernel_rfl) (by kernel_rfl)) (hc.2 4 _ rfl) hc.1 agg_str, ?_⟩
  refine ⟨isVal (.int .i64 (A.text.length : Int)), step_len 9 (.tmp 27) (.string ⟨A.text.toArray⟩) (.int .i64 (A.text.length : Int)) (by kernel_rfl) (wanted_none (by kernel_rfl)) (knows_new (V := isVal (.string ⟨A.text.toArray⟩)) 27 4 (by kernel_rfl) (by kernel_rfl) (by kernel_rfl)) (len_str A.text), ?_⟩
  intro a w hkp hb hd
  have d25 : a.eval (.tmp 25) = _ := fdone_of (hd 2 (by decide)) (t := 25) (V := isVal (.pointer (some ⟨g, 0, none⟩))) (by kernel_rfl) (by kernel_rfl)
  have d28 : a.eval (.tmp 28) = _ := fdone_of (hd 5 (by decide)) (t := 28) (V := isVal (.int .i64 (A.text.length : Int))) (by kernel_rfl) (by kernel_rfl)
  refine tail_call 18 #[.tmp 25, .tmp 28, .const (.int .i64 1)] #[46, 3, 3] #[.pointer (some ⟨g, 0, none⟩), .int .i64 (A.text.length : Int), .int .i64 1] 29 (by kernel_rfl) (by kernel_rfl) (by simp only [List.map_toArray, List.map_cons, List.map_nil, d25, d28]; try rfl) (enters_of Try.func18 (by kernel_rfl) rfl) ?_
  obtain ⟨y, ey⟩ := kept_ex hkp [some 23, some 24, some 25, some 26, some 27, some 28, some 29] [23, 24, 25, 26, 27, 28, 29] (by kernel_rfl) (by decide)
  refine (hC y w hb).mono ?_
  rintro e w' ⟨v, rfl, hq⟩
  exact ⟨v, rfl, put_kept ey hq⟩
noncomputable def wr5Ops : Array Oper := regionOf Try.f29 5
set_option maxRecDepth 100000 in
set_option maxHeartbeats 2000000 in
theorem wr5_region (Q : Exit → Act → World → Prop) (a0 : Act) (w0 : World) (hsz : a0.tmps.size = 36) (A : Va) (g b : Nat) (vp vm : Value) (e0 : a0.tmps.getD 0 undef = .pointer (some ⟨g, 0, none⟩)) (e3 : a0.tmps.getD 3 undef = .pointer (some ⟨b, 0, none⟩)) (hc : CellsN w0 b [.int .i64 A.kind, .int .i64 A.time, .int .i64 A.node, .bool A.dead, .string ⟨A.text.toArray⟩, vp, vm, .int .u64 (A.flags.toNat : Int)])
    (hC : ∀ (y : Nat → Value) (w : World), Below w0.heap.size w0 w → Calls Try.prog 19 #[.pointer (some ⟨g, 0, none⟩), .string ⟨A.text.toArray⟩] w fun e w' => ∃ v, e = .returned v ∧ Q .normal { tmps := ([30, 31, 32, 33, 34, 35].foldl (fun t s => t.setIfInBounds s (y s)) a0.tmps).setIfInBounds 35 v, defers := a0.defers } w') :
    (Code.region 5 wr5Ops true).wp Try.prog Q a0 w0 := by
  refine wp_region_cov 5 mixed (by rw [hsz]; kernel_rfl) (by kernel_rfl) ?_
  rw [show wr5Ops.size - 5 = 1 by kernel_rfl]
  refine ⟨isVal (.pointer (some ⟨g, 0, none⟩)), step_move (.tmp 0) (by kernel_rfl) (wanted_none (by kernel_rfl)) (stable_val _) (knows_old 0 (.pointer (some ⟨g, 0, none⟩)) (by kernel_rfl) e0), ?_⟩
  refine ⟨isVal (.pointer (some ⟨g, 0, none⟩)), step_nilP (.tmp 30) ⟨g, 0, none⟩ (by kernel_rfl) (wanted_none (by kernel_rfl)) (knows_new (V := isVal (.pointer (some ⟨g, 0, none⟩))) 30 0 (by kernel_rfl) (by kernel_rfl) (by kernel_rfl)), ?_⟩
  refine ⟨isVal (.pointer (some ⟨g, 0, none⟩)), step_field 48 (.tmp 31) 0 ⟨g, 0, none⟩ ⟨g, 0, none⟩ (by kernel_rfl) (wanted_none (by kernel_rfl)) (knows_new (V := isVal (.pointer (some ⟨g, 0, none⟩))) 31 1 (by kernel_rfl) (by kernel_rfl) (by kernel_rfl)) (field_wr g 0 (by omega)), ?_⟩
  refine ⟨isVal (.pointer (some ⟨b, 4, none⟩)), step_field 25 (.tmp 3) 4 ⟨b, 0, none⟩ ⟨b, 4, none⟩ (by kernel_rfl) (wanted_none (by kernel_rfl)) (knows_old 3 (.pointer (some ⟨b, 0, none⟩)) (by kernel_rfl) e3) (field_va b 4 (by omega)), ?_⟩
  refine ⟨isVal (.string ⟨A.text.toArray⟩), step_read 9 (.tmp 33) ⟨b, 4, none⟩ (.string ⟨A.text.toArray⟩) (by kernel_rfl) (wanted_none (by kernel_rfl)) (knows_new (V := isVal (.pointer (some ⟨b, 4, none⟩))) 33 3 (by kernel_rfl) (by kernel_rfl) (by kernel_rfl)) (hc.2 4 _ rfl) hc.1 agg_str, ?_⟩
  intro a w hkp hb hd
  have d32 : a.eval (.tmp 32) = _ := fdone_of (hd 2 (by decide)) (t := 32) (V := isVal (.pointer (some ⟨g, 0, none⟩))) (by kernel_rfl) (by kernel_rfl)
  have d34 : a.eval (.tmp 34) = _ := fdone_of (hd 4 (by decide)) (t := 34) (V := isVal (.string ⟨A.text.toArray⟩)) (by kernel_rfl) (by kernel_rfl)
  refine tail_call 19 #[.tmp 32, .tmp 34] #[46, 9] #[.pointer (some ⟨g, 0, none⟩), .string ⟨A.text.toArray⟩] 35 (by kernel_rfl) (by kernel_rfl) (by simp only [List.map_toArray, List.map_cons, List.map_nil, d32, d34]; try rfl) (enters_of Try.func19 (by kernel_rfl) rfl) ?_
  obtain ⟨y, ey⟩ := kept_ex hkp [some 30, some 31, some 32, some 33, some 34, some 35] [30, 31, 32, 33, 34, 35] (by kernel_rfl) (by decide)
  refine (hC y w hb).mono ?_
  rintro e w' ⟨v, rfl, hq⟩
  exact ⟨v, rfl, put_kept ey hq⟩
set_option maxRecDepth 100000 in
set_option maxHeartbeats 4000000 in
theorem wreg_any (A : Va) (g : Nat) (t : List UInt8) (v : Value) (w : World) (hv : isVa A v w) (h : At w g (txt t)) (ht : t.length ≤ 500) (hk : A.kind = 1) (hI : inReg A = true) :
    Calls Try.prog 29 #[ptr g, v] w fun e w' => e = .returned unitV ∧ Wr g (txt (t ++ dataL A)) w w' := by
  have HD := Kept.mk (data_reg hk)
  simp only [inReg, Bool.and_eq_true, decide_eq_true_eq] at hI
  obtain ⟨⟨⟨⟨t0, t1⟩, ⟨n0, n1⟩⟩, x8⟩, -⟩ := hI
  have hb2 : bitN A.dead ≤ 1 := by unfold bitN; split <;> omega
  have l1 := length_putL 4 A.time.toNat
  have l2 := length_putL 1 A.node.toNat
  have l3 := length_putL 1 (bitI A.dead).toNat
  have l4 := length_putL 1 (A.text.length : Int).toNat
  clear hk
  obtain ⟨vp, vm, rfl, hp, hm⟩ := hv
  have hg := h.lt
  have HW := Kept.mk ((Wr.refl h).alloc (.cells #[.int .i64 A.kind, .int .i64 A.time, .int .i64 A.node, .bool A.dead, .string ⟨A.text.toArray⟩, vp, vm, .int .u64 (A.flags.toNat : Int)] 25))
  have HV := Kept.mk (Blk.new w 25 [.int .i64 A.kind, .int .i64 A.time, .int .i64 A.node, .bool A.dead, .string ⟨A.text.toArray⟩, vp, vm, .int .u64 (A.flags.toNat : Int)] w.heap.size rfl)
  go_enter Try.func29, Try.ntmps29
  go_wp2_with fail
  generalize w.alloc (.cells #[.int .i64 A.kind, .int .i64 A.time, .int .i64 A.node, .bool A.dead, .string ⟨A.text.toArray⟩, vp, vm, .int .u64 (A.flags.toNat : Int)] 25) = W0 at *
  refine wr1_region _ _ _ rfl A g w.heap.size vp vm rfl rfl HV.out.cells ?_
  intro y9 W9 hb9
  replace HW := Kept.mk (HW.out.then_ hb9)
  replace HV := Kept.mk (HV.out.keep hb9)
  clear hb9
  refine (number_z g (t) A.time 4 W9 HW.out.at_ (by first | omega | (simp only [List.length_append]; omega)) (by omega) (by omega) (by omega) (by omega) (by show _ < 4294967296; omega)).mono ?_
  rintro e W1 ⟨rfl, hw⟩
  replace HW := Kept.mk (HW.out.trans hw)
  replace HV := Kept.mk (HV.out.wr hw (by omega))
  clear hw
  refine ⟨_, rfl, ?_⟩
  simp only [List.foldl_cons, List.foldl_nil]
  generalize y9 4 = z4
  generalize y9 5 = z5
  generalize y9 6 = z6
  generalize y9 7 = z7
  generalize y9 8 = z8
  generalize y9 9 = z9
  simp only [List.setIfInBounds_toArray, List.set_cons_succ, List.set_cons_zero]
  clear y9
  go_wp2_with fail
  refine wr2_region _ _ _ rfl A g w.heap.size vp vm rfl rfl HV.out.cells ?_
  intro y9 W9 hb9
  replace HW := Kept.mk (HW.out.then_ hb9)
  replace HV := Kept.mk (HV.out.keep hb9)
  clear hb9
  refine (number_z g (t ++ putL A.time.toNat 4) A.node 1 W9 HW.out.at_ (by first | omega | (simp only [List.length_append]; omega)) (by omega) (by omega) (by omega) (by omega) (by show _ < 256; omega)).mono ?_
  rintro e W2 ⟨rfl, hw⟩
  replace HW := Kept.mk (HW.out.trans hw)
  replace HV := Kept.mk (HV.out.wr hw (by omega))
  clear hw
  refine ⟨_, rfl, ?_⟩
  simp only [List.foldl_cons, List.foldl_nil]
  generalize y9 10 = z10
  generalize y9 11 = z11
  generalize y9 12 = z12
  generalize y9 13 = z13
  generalize y9 14 = z14
  generalize y9 15 = z15
  simp only [List.setIfInBounds_toArray, List.set_cons_succ, List.set_cons_zero]
  clear y9
  go_wp2_with fail
  refine wr3_region _ _ _ rfl A g w.heap.size vp vm rfl rfl HV.out.cells ?_
  intro y9 W9 hb9
  replace HW := Kept.mk (HW.out.then_ hb9)
  replace HV := Kept.mk (HV.out.keep hb9)
  clear hb9
  refine (number_z g ((t ++ putL A.time.toNat 4) ++ putL A.node.toNat 1) (bitI A.dead) 1 W9 HW.out.at_ (by first | omega | (simp only [List.length_append]; omega)) (by unfold bitI; omega) (by unfold bitI; omega) (by omega) (by omega) (by show (bitN A.dead) < 256; omega)).mono ?_
  rintro e W3 ⟨rfl, hw⟩
  replace HW := Kept.mk (HW.out.trans hw)
  replace HV := Kept.mk (HV.out.wr hw (by omega))
  clear hw
  refine ⟨_, rfl, ?_⟩
  simp only [List.foldl_cons, List.foldl_nil]
  generalize y9 16 = z16
  generalize y9 17 = z17
  generalize y9 18 = z18
  generalize y9 19 = z19
  generalize y9 20 = z20
  generalize y9 21 = z21
  generalize y9 22 = z22
  simp only [List.setIfInBounds_toArray, List.set_cons_succ, List.set_cons_zero]
  clear y9
  go_wp2_with fail
  refine wr4_region _ _ _ rfl A g w.heap.size vp vm rfl rfl HV.out.cells ?_
  intro y9 W9 hb9
  replace HW := Kept.mk (HW.out.then_ hb9)
  replace HV := Kept.mk (HV.out.keep hb9)
  clear hb9
  refine (number_z g (((t ++ putL A.time.toNat 4) ++ putL A.node.toNat 1) ++ putL (bitI A.dead).toNat 1) (A.text.length : Int) 1 W9 HW.out.at_ (by first | omega | (simp only [List.length_append]; omega)) (by omega) (by omega) (by omega) (by omega) (by show _ < 256; omega)).mono ?_
  rintro e W4 ⟨rfl, hw⟩
  replace HW := Kept.mk (HW.out.trans hw)
  replace HV := Kept.mk (HV.out.wr hw (by omega))
  clear hw
  refine ⟨_, rfl, ?_⟩
  simp only [List.foldl_cons, List.foldl_nil]
  generalize y9 23 = z23
  generalize y9 24 = z24
  generalize y9 25 = z25
  generalize y9 26 = z26
  generalize y9 27 = z27
  generalize y9 28 = z28
  generalize y9 29 = z29
  simp only [List.setIfInBounds_toArray, List.set_cons_succ, List.set_cons_zero]
  clear y9
  go_wp2_with fail
  refine wr5_region _ _ _ rfl A g w.heap.size vp vm rfl rfl HV.out.cells ?_
  intro y9 W9 hb9
  replace HW := Kept.mk (HW.out.then_ hb9)
  replace HV := Kept.mk (HV.out.keep hb9)
  clear hb9
  refine (add_any g ((((t ++ putL A.time.toNat 4) ++ putL A.node.toNat 1) ++ putL (bitI A.dead).toNat 1) ++ putL (A.text.length : Int).toNat 1) A.text W9 HW.out.at_ (by simp only [List.length_append]; omega) (by omega)).mono ?_
  rintro e W5 ⟨rfl, hw⟩
  replace HW := Kept.mk (HW.out.trans hw)
  replace HV := Kept.mk (HV.out.wr hw (by omega))
  clear hw
  refine ⟨_, rfl, ?_⟩
  simp only [List.foldl_cons, List.foldl_nil]
  generalize y9 30 = z30
  generalize y9 31 = z31
  generalize y9 32 = z32
  generalize y9 33 = z33
  generalize y9 34 = z34
  generalize y9 35 = z35
  simp only [List.setIfInBounds_toArray, List.set_cons_succ, List.set_cons_zero]
  clear y9
  go_wp2
  go_end0
  refine ⟨rfl, ?_⟩
  have := HW.out
  rw [HD.out]
  simpa only [List.append_assoc, bitI, Int.toNat_natCast] using this
theorem nums_app : ∀ (a b : List Int), numsL (a ++ b) = numsL a ++ numsL b
  | [], b => rfl
  | x :: r, b => by rw [List.cons_append, numsL, nums_app r b, numsL, List.append_assoc]
theorem nums_take (l : List Int) (k : Nat) (h : k < l.length) : numsL (l.take (k + 1)) = numsL (l.take k) ++ putL l[k].toNat 2 := by
  rw [List.take_succ_eq_append_getElem h, nums_app, numsL, numsL, List.append_nil]
set_option maxRecDepth 100000 in
set_option maxHeartbeats 4000000 in
theorem wrow_any (l : List Int) (g : Nat) (t : List UInt8) (v : Value) (w : World) (hv : isCells (l.map intC) v w) (hne : blk v ≠ some g) (h : At w g (txt t)) (ht : t.length ≤ 500) (hl : l.length ≤ 40) (hn : l.all okNum = true) :
    Calls Try.prog 41 #[ptr g, v] w fun e w' => e = .returned unitV ∧ Wr g (txt (t ++ numsL l)) w w' := by
  obtain ⟨a, cap, hva⟩ := hv.len
  rw [List.length_map] at hva
  subst hva
  have HV := Kept.mk hv
  have HN := Kept.mk hn
  have HG := Kept.mk hne
  have HW := Kept.mk (Wr.refl h)
  have hg := h.lt
  clear hv hn hne
  go_enter Try.func41, Try.ntmps41
  go_wp2
  go_loopw [8] (fun i wr => ∃ k : Nat, k ≤ l.length ∧ i = .int .i64 (k : Int) ∧ Kept (Wr g (txt (t ++ numsL (l.take k))) w wr)) (fun i _ => l.length - (intOf i).toNat)
  case atStart => exact ⟨0, Nat.zero_le _, rfl, ⟨by rw [List.take_zero, numsL, List.append_nil]; exact HW.out⟩⟩
  case round =>
    clear HW
    obtain ⟨k, hk, rfl, HW⟩ := hrel
    by_cases hlt : k < l.length
    · have HV1 := HV.out.wr HW.out HG.out
      obtain ⟨b, off, cap', hs, hb, hc⟩ := HV1.some_ (by rw [List.length_map]; omega)
      rw [List.length_map] at hs
      injection hs with h1 h2 h3
      subst h1 h3
      have hcell := hc k _ (get_map intC l k hlt)
      have hx2 : okNum l[k] = true := List.all_eq_true.1 HN.out _ (List.getElem_mem hlt)
      unfold okNum at hx2
      simp only [Bool.and_eq_true, decide_eq_true_eq] at hx2
      have HS := Kept.mk (nums_take l k hlt)
      obtain ⟨x, hx⟩ : ∃ x, x = l[k] := ⟨_, rfl⟩
      rw [← hx] at hcell HS hx2
      unfold intC at hcell
      clear hc hx HV1
      obtain ⟨b3, b4⟩ := hx2
      have hlen := length_nums (l.take k)
      have hlk : (l.take k).length ≤ 40 := by rw [List.length_take]; omega
      have d1 : decide ((k : Int) < (l.length : Int)) = true := by simpa using hlt
      go_wp2_with fail
      refine (number_z g (t ++ numsL (l.take k)) x 2 _ HW.out.at_ (by rw [List.length_append]; omega) b3 (by omega) (by omega) (by omega) (by show _ < 65536; omega)).mono ?_
      rintro e w2 ⟨rfl, hw⟩
      replace HW := Kept.mk (HW.out.trans hw)
      clear hw
      go_wp2
      go_roundw
      case rel => exact ⟨k + 1, by omega, by go_num, ⟨by rw [HS.out, ← List.append_assoc]; exact HW.out⟩⟩
      case measure => simp [intOf]; omega
    · have d1 : decide ((k : Int) < (l.length : Int)) = false := by simpa using hlt
      go_wp2
      go_end0
      refine ⟨rfl, ?_⟩
      have := HW.out
      rwa [List.take_of_length_le (by omega)] at this
set_option maxRecDepth 100000 in
set_option maxHeartbeats 4000000 in
theorem wcount_any (A : Va) (g : Nat) (t : List UInt8) (vp vm : Value) (w : World) (hp : isCells (A.plus.map intC) vp w) (hm : isCells (A.minus.map intC) vm w) (np : blk vp ≠ some g) (nm : blk vm ≠ some g) (h : At w g (txt t)) (ht : t.length ≤ 300) (hk : A.kind = 2) (hI : inCount A = true) :
    Calls Try.prog 30 #[ptr g, .agg #[.int .i64 A.kind, .int .i64 A.time, .int .i64 A.node, .bool A.dead, .string ⟨A.text.toArray⟩, vp, vm, .int .u64 (A.flags.toNat : Int)]] w fun e w' => e = .returned unitV ∧ Wr g (txt (t ++ dataL A)) w w' := by
  have HD := Kept.mk (data_count hk)
  simp only [inCount, okRow, Bool.and_eq_true, decide_eq_true_eq] at hI
  obtain ⟨⟨l1, a1⟩, ⟨l2, a2⟩⟩ := hI
  have hlen := length_nums A.plus
  clear hk
  have hg := h.lt
  have HW := Kept.mk ((Wr.refl h).alloc (.cells #[.int .i64 A.kind, .int .i64 A.time, .int .i64 A.node, .bool A.dead, .string ⟨A.text.toArray⟩, vp, vm, .int .u64 (A.flags.toNat : Int)] 25))
  have HV := Kept.mk (Blk.new w 25 [.int .i64 A.kind, .int .i64 A.time, .int .i64 A.node, .bool A.dead, .string ⟨A.text.toArray⟩, vp, vm, .int .u64 (A.flags.toNat : Int)] w.heap.size rfl)
  have HP := Kept.mk (stable_cells _ _ _ _ hp (lit_below w (.cells #[.int .i64 A.kind, .int .i64 A.time, .int .i64 A.node, .bool A.dead, .string ⟨A.text.toArray⟩, vp, vm, .int .u64 (A.flags.toNat : Int)] 25)))
  have HM := Kept.mk (stable_cells _ _ _ _ hm (lit_below w (.cells #[.int .i64 A.kind, .int .i64 A.time, .int .i64 A.node, .bool A.dead, .string ⟨A.text.toArray⟩, vp, vm, .int .u64 (A.flags.toNat : Int)] 25)))
  have NP := Kept.mk np
  have NM := Kept.mk nm
  clear hp hm np nm
  have kv5 := HV.out.cells.2 5 _ rfl
  go_enter Try.func30, Try.ntmps30
  go_wp2_with fail
  clear kv5
  generalize w.alloc (.cells #[.int .i64 A.kind, .int .i64 A.time, .int .i64 A.node, .bool A.dead, .string ⟨A.text.toArray⟩, vp, vm, .int .u64 (A.flags.toNat : Int)] 25) = W0 at *
  refine (wrow_any A.plus g t vp W0 HP.out NP.out HW.out.at_ (by omega) (by omega) a1).mono ?_
  rintro e W1 ⟨rfl, hw⟩
  replace HM := Kept.mk (HM.out.wr hw NM.out)
  replace HV := Kept.mk (HV.out.wr hw (by omega))
  replace HW := Kept.mk (HW.out.trans hw)
  clear hw HP
  have kv6 := HV.out.cells.2 6 _ rfl
  go_wp2_with fail
  clear kv6
  refine (wrow_any A.minus g (t ++ numsL A.plus) vm W1 HM.out NM.out HW.out.at_ (by rw [List.length_append]; omega) (by omega) a2).mono ?_
  rintro e W2 ⟨rfl, hw⟩
  replace HW := Kept.mk (HW.out.trans hw)
  clear hw HM HV
  go_wp2
  go_end0
  refine ⟨rfl, ?_⟩
  rw [HD.out, ← List.append_assoc]
  exact HW.out
theorem and_low (F : Nat) (h : F < 18446744073709551616) (t : TypeId) (w : World) : (binOp .and t (.int .u64 (F : Int)) (.int .u64 4294967295)).run Try.prog w = .ok (.int .u64 ((F % 4294967296 : Nat) : Int)) w := by
  have e : bits .and .u64 (F : Int) ((4294967295 : Nat) : Int) = ((F &&& 4294967295 : Nat) : Int) := u64_and_nat _ _ h (by omega)
  have e2 : F &&& 4294967295 = F % 4294967296 := Nat.and_two_pow_sub_one_eq_mod F 32
  rw [e2] at e
  simp [go_sem]
  exact e
theorem shr_half (F : Nat) (h : F < 18446744073709551616) (w : World) : (binOp .shr 23 (.int .u64 (F : Int)) (.int .u64 32)).run Try.prog w = .ok (.int .u64 ((F / 4294967296 : Nat) : Int)) w := by
  simp [go_sem]
theorem conv_int (F : Nat) (h : F < 4294967296) (w : World) : (convert 23 3 (.int .u64 (F : Int))).run Try.prog w = .ok (.int .i64 (F : Int)) w := by
  simp [convert, run_underlying Try.underlying23, run_underlying Try.underlying3, go_sem]
  exact IntWalk.i64_in _ (by omega)
noncomputable def wf1Ops : Array Oper := regionOf Try.f31 1
set_option maxRecDepth 100000 in
set_option maxHeartbeats 2000000 in
theorem wf1_region (Q : Exit → Act → World → Prop) (a0 : Act) (w0 : World) (hsz : a0.tmps.size = 20) (A : Va) (g b : Nat) (vp vm : Value) (e0 : a0.tmps.getD 0 undef = .pointer (some ⟨g, 0, none⟩)) (e3 : a0.tmps.getD 3 undef = .pointer (some ⟨b, 0, none⟩)) (hc : CellsN w0 b [.int .i64 A.kind, .int .i64 A.time, .int .i64 A.node, .bool A.dead, .string ⟨A.text.toArray⟩, vp, vm, .int .u64 (A.flags.toNat : Int)])
    (hC : ∀ (y : Nat → Value) (w : World), Below w0.heap.size w0 w → Calls Try.prog 18 #[.pointer (some ⟨g, 0, none⟩), .int .i64 ((A.flags.toNat % 4294967296 : Nat) : Int), .int .i64 4] w fun e w' => ∃ v, e = .returned v ∧ Q .normal { tmps := ([4, 5, 6, 7, 8, 9, 10, 11].foldl (fun t s => t.setIfInBounds s (y s)) a0.tmps).setIfInBounds 11 v, defers := a0.defers } w') :
    (Code.region 1 wf1Ops true).wp Try.prog Q a0 w0 := by
  refine wp_region_cov 7 mixed (by rw [hsz]; kernel_rfl) (by kernel_rfl) ?_
  rw [show wf1Ops.size - 7 = 1 by kernel_rfl]
  refine ⟨isVal (.pointer (some ⟨g, 0, none⟩)), step_move (.tmp 0) (by kernel_rfl) (wanted_none (by kernel_rfl)) (stable_val _) (knows_old 0 (.pointer (some ⟨g, 0, none⟩)) (by kernel_rfl) e0), ?_⟩
  refine ⟨isVal (.pointer (some ⟨g, 0, none⟩)), step_nilP (.tmp 4) ⟨g, 0, none⟩ (by kernel_rfl) (wanted_none (by kernel_rfl)) (knows_new (V := isVal (.pointer (some ⟨g, 0, none⟩))) 4 0 (by kernel_rfl) (by kernel_rfl) (by kernel_rfl)), ?_⟩
  refine ⟨isVal (.pointer (some ⟨g, 0, none⟩)), step_field 48 (.tmp 5) 0 ⟨g, 0, none⟩ ⟨g, 0, none⟩ (by kernel_rfl) (wanted_none (by kernel_rfl)) (knows_new (V := isVal (.pointer (some ⟨g, 0, none⟩))) 5 1 (by kernel_rfl) (by kernel_rfl) (by kernel_rfl)) (field_wr g 0 (by omega)), ?_⟩
  refine ⟨isVal (.pointer (some ⟨b, 7, none⟩)), step_field 25 (.tmp 3) 7 ⟨b, 0, none⟩ ⟨b, 7, none⟩ (by kernel_rfl) (wanted_none (by kernel_rfl)) (knows_old 3 (.pointer (some ⟨b, 0, none⟩)) (by kernel_rfl) e3) (field_va b 7 (by omega)), ?_⟩
  refine ⟨isVal (.int .u64 (A.flags.toNat : Int)), step_read 23 (.tmp 7) ⟨b, 7, none⟩ (.int .u64 (A.flags.toNat : Int)) (by kernel_rfl) (wanted_none (by kernel_rfl)) (knows_new (V := isVal (.pointer (some ⟨b, 7, none⟩))) 7 3 (by kernel_rfl) (by kernel_rfl) (by kernel_rfl)) (hc.2 7 _ rfl) hc.1 agg_u64, ?_⟩
  refine ⟨isVal (.int .u64 ((A.flags.toNat % 4294967296 : Nat) : Int)), step_bin .and 23 23 (.tmp 8) (.const (.int .u64 4294967295)) (.int .u64 (A.flags.toNat : Int)) (.int .u64 4294967295) (.int .u64 ((A.flags.toNat % 4294967296 : Nat) : Int)) (by kernel_rfl) (wanted_none (by kernel_rfl)) (knows_new (V := isVal (.int .u64 (A.flags.toNat : Int))) 8 4 (by kernel_rfl) (by kernel_rfl) (by kernel_rfl)) (knows_const _) (fun _ => rfl) (and_low _ A.flags.toNat_lt _), ?_⟩
  refine ⟨isVal (.int .i64 ((A.flags.toNat % 4294967296 : Nat) : Int)), step_conv 23 3 (.tmp 9) (.int .u64 ((A.flags.toNat % 4294967296 : Nat) : Int)) (.int .i64 ((A.flags.toNat % 4294967296 : Nat) : Int)) (by kernel_rfl) (wanted_none (by kernel_rfl)) (knows_new (V := isVal (.int .u64 ((A.flags.toNat % 4294967296 : Nat) : Int))) 9 5 (by kernel_rfl) (by kernel_rfl) (by kernel_rfl)) (conv_int _ (Nat.mod_lt _ (by omega))), ?_⟩
  intro a w hkp hb hd
  have d6 : a.eval (.tmp 6) = _ := fdone_of (hd 2 (by decide)) (t := 6) (V := isVal (.pointer (some ⟨g, 0, none⟩))) (by kernel_rfl) (by kernel_rfl)
  have d10 : a.eval (.tmp 10) = _ := fdone_of (hd 6 (by decide)) (t := 10) (V := isVal (.int .i64 ((A.flags.toNat % 4294967296 : Nat) : Int))) (by kernel_rfl) (by kernel_rfl)
  refine tail_call 18 #[.tmp 6, .tmp 10, .const (.int .i64 4)] #[46, 3, 3] #[.pointer (some ⟨g, 0, none⟩), .int .i64 ((A.flags.toNat % 4294967296 : Nat) : Int), .int .i64 4] 11 (by kernel_rfl) (by kernel_rfl) (by simp only [List.map_toArray, List.map_cons, List.map_nil, d6, d10]; try rfl) (enters_of Try.func18 (by kernel_rfl) rfl) ?_
  obtain ⟨y, ey⟩ := kept_ex hkp [some 4, some 5, some 6, some 7, some 8, some 9, some 10, some 11] [4, 5, 6, 7, 8, 9, 10, 11] (by kernel_rfl) (by decide)
  refine (hC y w hb).mono ?_
  rintro e w' ⟨v, rfl, hq⟩
  exact ⟨v, rfl, put_kept ey hq⟩
noncomputable def wf2Ops : Array Oper := regionOf Try.f31 2
set_option maxRecDepth 100000 in
set_option maxHeartbeats 2000000 in
theorem wf2_region (Q : Exit → Act → World → Prop) (a0 : Act) (w0 : World) (hsz : a0.tmps.size = 20) (A : Va) (g b : Nat) (vp vm : Value) (e0 : a0.tmps.getD 0 undef = .pointer (some ⟨g, 0, none⟩)) (e3 : a0.tmps.getD 3 undef = .pointer (some ⟨b, 0, none⟩)) (hc : CellsN w0 b [.int .i64 A.kind, .int .i64 A.time, .int .i64 A.node, .bool A.dead, .string ⟨A.text.toArray⟩, vp, vm, .int .u64 (A.flags.toNat : Int)])
    (hC : ∀ (y : Nat → Value) (w : World), Below w0.heap.size w0 w → Calls Try.prog 18 #[.pointer (some ⟨g, 0, none⟩), .int .i64 ((A.flags.toNat / 4294967296 : Nat) : Int), .int .i64 4] w fun e w' => ∃ v, e = .returned v ∧ Q .normal { tmps := ([12, 13, 14, 15, 16, 17, 18, 19].foldl (fun t s => t.setIfInBounds s (y s)) a0.tmps).setIfInBounds 19 v, defers := a0.defers } w') :
    (Code.region 2 wf2Ops true).wp Try.prog Q a0 w0 := by
  refine wp_region_cov 7 mixed (by rw [hsz]; kernel_rfl) (by kernel_rfl) ?_
  rw [show wf2Ops.size - 7 = 1 by kernel_rfl]
  refine ⟨isVal (.pointer (some ⟨g, 0, none⟩)), step_move (.tmp 0) (by kernel_rfl) (wanted_none (by kernel_rfl)) (stable_val _) (knows_old 0 (.pointer (some ⟨g, 0, none⟩)) (by kernel_rfl) e0), ?_⟩
  refine ⟨isVal (.pointer (some ⟨g, 0, none⟩)), step_nilP (.tmp 12) ⟨g, 0, none⟩ (by kernel_rfl) (wanted_none (by kernel_rfl)) (knows_new (V := isVal (.pointer (some ⟨g, 0, none⟩))) 12 0 (by kernel_rfl) (by kernel_rfl) (by kernel_rfl)), ?_⟩
  refine ⟨isVal (.pointer (some ⟨g, 0, none⟩)), step_field 48 (.tmp 13) 0 ⟨g, 0, none⟩ ⟨g, 0, none⟩ (by kernel_rfl) (wanted_none (by kernel_rfl)) (knows_new (V := isVal (.pointer (some ⟨g, 0, none⟩))) 13 1 (by kernel_rfl) (by kernel_rfl) (by kernel_rfl)) (field_wr g 0 (by omega)), ?_⟩
  refine ⟨isVal (.pointer (some ⟨b, 7, none⟩)), step_field 25 (.tmp 3) 7 ⟨b, 0, none⟩ ⟨b, 7, none⟩ (by kernel_rfl) (wanted_none (by kernel_rfl)) (knows_old 3 (.pointer (some ⟨b, 0, none⟩)) (by kernel_rfl) e3) (field_va b 7 (by omega)), ?_⟩
  refine ⟨isVal (.int .u64 (A.flags.toNat : Int)), step_read 23 (.tmp 15) ⟨b, 7, none⟩ (.int .u64 (A.flags.toNat : Int)) (by kernel_rfl) (wanted_none (by kernel_rfl)) (knows_new (V := isVal (.pointer (some ⟨b, 7, none⟩))) 15 3 (by kernel_rfl) (by kernel_rfl) (by kernel_rfl)) (hc.2 7 _ rfl) hc.1 agg_u64, ?_⟩
  refine ⟨isVal (.int .u64 ((A.flags.toNat / 4294967296 : Nat) : Int)), step_bin .shr 23 80 (.tmp 16) (.const (.int .u64 32)) (.int .u64 (A.flags.toNat : Int)) (.int .u64 32) (.int .u64 ((A.flags.toNat / 4294967296 : Nat) : Int)) (by kernel_rfl) (wanted_none (by kernel_rfl)) (knows_new (V := isVal (.int .u64 (A.flags.toNat : Int))) 16 4 (by kernel_rfl) (by kernel_rfl) (by kernel_rfl)) (knows_const _) (fun _ => rfl) (shr_half _ A.flags.toNat_lt), ?_⟩
  refine ⟨isVal (.int .i64 ((A.flags.toNat / 4294967296 : Nat) : Int)), step_conv 23 3 (.tmp 17) (.int .u64 ((A.flags.toNat / 4294967296 : Nat) : Int)) (.int .i64 ((A.flags.toNat / 4294967296 : Nat) : Int)) (by kernel_rfl) (wanted_none (by kernel_rfl)) (knows_new (V := isVal (.int .u64 ((A.flags.toNat / 4294967296 : Nat) : Int))) 17 5 (by kernel_rfl) (by kernel_rfl) (by kernel_rfl)) (conv_int _ (by have := A.flags.toNat_lt; omega)), ?_⟩
  intro a w hkp hb hd
  have d14 : a.eval (.tmp 14) = _ := fdone_of (hd 2 (by decide)) (t := 14) (V := isVal (.pointer (some ⟨g, 0, none⟩))) (by kernel_rfl) (by kernel_rfl)
  have d18 : a.eval (.tmp 18) = _ := fdone_of (hd 6 (by decide)) (t := 18) (V := isVal (.int .i64 ((A.flags.toNat / 4294967296 : Nat) : Int))) (by kernel_rfl) (by kernel_rfl)
  refine tail_call 18 #[.tmp 14, .tmp 18, .const (.int .i64 4)] #[46, 3, 3] #[.pointer (some ⟨g, 0, none⟩), .int .i64 ((A.flags.toNat / 4294967296 : Nat) : Int), .int .i64 4] 19 (by kernel_rfl) (by kernel_rfl) (by simp only [List.map_toArray, List.map_cons, List.map_nil, d14, d18]; try rfl) (enters_of Try.func18 (by kernel_rfl) rfl) ?_
  obtain ⟨y, ey⟩ := kept_ex hkp [some 12, some 13, some 14, some 15, some 16, some 17, some 18, some 19] [12, 13, 14, 15, 16, 17, 18, 19] (by kernel_rfl) (by decide)
  refine (hC y w hb).mono ?_
  rintro e w' ⟨v, rfl, hq⟩
  exact ⟨v, rfl, put_kept ey hq⟩
set_option maxRecDepth 100000 in
set_option maxHeartbeats 4000000 in
theorem wflags_any (A : Va) (g : Nat) (t : List UInt8) (v : Value) (w : World) (hv : isVa A v w) (h : At w g (txt t)) (ht : t.length ≤ 500) (hk : A.kind = 3) :
    Calls Try.prog 31 #[ptr g, v] w fun e w' => e = .returned unitV ∧ Wr g (txt (t ++ dataL A)) w w' := by
  have HD := Kept.mk (data_flags hk)
  have hF := A.flags.toNat_lt
  have l1 := length_putL 4 ((A.flags.toNat % 4294967296 : Nat) : Int).toNat
  clear hk
  obtain ⟨vp, vm, rfl, hp, hm⟩ := hv
  have hg := h.lt
  have HW := Kept.mk ((Wr.refl h).alloc (.cells #[.int .i64 A.kind, .int .i64 A.time, .int .i64 A.node, .bool A.dead, .string ⟨A.text.toArray⟩, vp, vm, .int .u64 (A.flags.toNat : Int)] 25))
  have HV := Kept.mk (Blk.new w 25 [.int .i64 A.kind, .int .i64 A.time, .int .i64 A.node, .bool A.dead, .string ⟨A.text.toArray⟩, vp, vm, .int .u64 (A.flags.toNat : Int)] w.heap.size rfl)
  go_enter Try.func31, Try.ntmps31
  go_wp2_with fail
  generalize w.alloc (.cells #[.int .i64 A.kind, .int .i64 A.time, .int .i64 A.node, .bool A.dead, .string ⟨A.text.toArray⟩, vp, vm, .int .u64 (A.flags.toNat : Int)] 25) = W0 at *
  refine wf1_region _ _ _ rfl A g w.heap.size vp vm rfl rfl HV.out.cells ?_
  intro y9 W9 hb9
  replace HW := Kept.mk (HW.out.then_ hb9)
  replace HV := Kept.mk (HV.out.keep hb9)
  clear hb9
  refine (number_z g (t) ((A.flags.toNat % 4294967296 : Nat) : Int) 4 W9 HW.out.at_ (by first | omega | (simp only [List.length_append]; omega)) (by omega) (by omega) (by omega) (by omega) (by show _ < 4294967296; omega)).mono ?_
  rintro e W1 ⟨rfl, hw⟩
  replace HW := Kept.mk (HW.out.trans hw)
  replace HV := Kept.mk (HV.out.wr hw (by omega))
  clear hw
  refine ⟨_, rfl, ?_⟩
  simp only [List.foldl_cons, List.foldl_nil]
  generalize y9 4 = z4
  generalize y9 5 = z5
  generalize y9 6 = z6
  generalize y9 7 = z7
  generalize y9 8 = z8
  generalize y9 9 = z9
  generalize y9 10 = z10
  generalize y9 11 = z11
  simp only [List.setIfInBounds_toArray, List.set_cons_succ, List.set_cons_zero]
  clear y9
  go_wp2_with fail
  refine wf2_region _ _ _ rfl A g w.heap.size vp vm rfl rfl HV.out.cells ?_
  intro y9 W9 hb9
  replace HW := Kept.mk (HW.out.then_ hb9)
  replace HV := Kept.mk (HV.out.keep hb9)
  clear hb9
  refine (number_z g (t ++ putL ((A.flags.toNat % 4294967296 : Nat) : Int).toNat 4) ((A.flags.toNat / 4294967296 : Nat) : Int) 4 W9 HW.out.at_ (by first | omega | (simp only [List.length_append]; omega)) (by omega) (by omega) (by omega) (by omega) (by show _ < 4294967296; omega)).mono ?_
  rintro e W2 ⟨rfl, hw⟩
  replace HW := Kept.mk (HW.out.trans hw)
  replace HV := Kept.mk (HV.out.wr hw (by omega))
  clear hw
  refine ⟨_, rfl, ?_⟩
  simp only [List.foldl_cons, List.foldl_nil]
  generalize y9 12 = z12
  generalize y9 13 = z13
  generalize y9 14 = z14
  generalize y9 15 = z15
  generalize y9 16 = z16
  generalize y9 17 = z17
  generalize y9 18 = z18
  generalize y9 19 = z19
  simp only [List.setIfInBounds_toArray, List.set_cons_succ, List.set_cons_zero]
  clear y9
  go_wp2
  go_end0
  refine ⟨rfl, ?_⟩
  have := HW.out
  rw [HD.out]
  simpa only [List.append_assoc, Int.toNat_natCast] using this
end Go.Proofs.Ytebjljiklacolaa
