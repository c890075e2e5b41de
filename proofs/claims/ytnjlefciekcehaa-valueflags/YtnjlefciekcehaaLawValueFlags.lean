/- Flags that come together are those that one has; counters that do are none less than either, place by place (value.Join). -/
import Derived.Test.YtnjlefciekcehaaVaWorks
import Derived.Test.YtnjlefciekcehaaVaOpen
import Derived.Test.YtnjlefciekcehaaFlowMax
import Derived.SizedLaws
import Derived.ProofKit
import Derived.OpenShut
import Derived.ShutString
import Derived.ChangeOld
import Derived.Below
namespace Go.Proofs.Ytnjlefciekcehaa
open Go.RowKit
open Go.ChangeShapes Go.WideShapes Go.ChangeAt Go.RowKit
open Go.ChangeMaps (open_string shut_string)
set_option linter.unusedVariables false
set_option linter.unusedSimpArgs false
attribute [local irreducible] setN

def flV (X : UInt64) : Va := ⟨3, 0, 0, false, [], [], [], X⟩
theorem u64_of {a : Int} (h : (Lit.int .u64 a).wf = true) : ∃ X : UInt64, a = (X.toNat : Int) := by
  have b := wf_u64 h
  refine ⟨UInt64.ofNat a.toNat, ?_⟩
  rw [UInt64.toNat_ofNat_of_lt' (by show a.toNat < 18446744073709551616; omega)]
  omega
theorem c_fl (X Y : UInt64) (w : World) : Calls Try.prog 13 #[.agg #[.int .i64 3, .int .i64 0, .int .i64 0, .bool false, .string ⟨#[]⟩, .slice none 0 0, .slice none 0 0, .int .u64 (X.toNat : Int)], .agg #[.int .i64 3, .int .i64 0, .int .i64 0, .bool false, .string ⟨#[]⟩, .slice none 0 0, .slice none 0 0, .int .u64 (Y.toNat : Int)]] w
    fun e w' => ∃ v', e = .returned (.tuple #[v', .int .i64 0]) ∧ isVaN w.heap.size (flV (X ||| Y)) v' w' ∧ Below w.heap.size w w' := by
  have h := vjoin_any (flV X) (flV Y) _ _ w (nil_va (flV X) rfl rfl w) (nil_va (flV Y) rfl rfl w) ⟨Nat.zero_le _, Nat.zero_le _, Nat.zero_le _⟩ ⟨Nat.zero_le _, Nat.zero_le _, Nat.zero_le _⟩
  have o1 : ∀ Z, okV (flV Z) = true := fun Z => flags_ok rfl rfl
  have e : joinE (flV X) (flV Y) = 0 := joinE_zero.2 ⟨o1 X, o1 Y, rfl⟩
  rwa [e, joinF_ok e, joinV_flags rfl] at h
theorem eight {l : List Int} {v : Value} {w : World} (h : isCells (l.map intC) v w) (hl : l.length = 8) : ∃ b off cap, v = .slice (some ⟨b, off, none⟩) 8 cap ∧ b < w.heap.size ∧ ∀ (j : Nat) (x : Value), (l.map intC)[j]? = some x → w.cell? ⟨b, off + j, none⟩ = some x := by
  obtain ⟨b, off, cap, e, h1, h2⟩ := h.some_ (by rw [List.length_map]; omega)
  rw [List.length_map, hl] at e
  exact ⟨b, off, cap, e, h1, h2⟩
theorem get_i (l : List Int) (k : Nat) (h : k < l.length) : (l.map intC)[k]? = some (.int .i64 (l.getD k 0)) := by
  rw [get_map intC l k h]
  simp [intC, List.getD_eq_getElem?_getD, h]
theorem count_rows {A B : Va} (he : joinE A B = 0) (k : A.kind = 2) : A.plus.length = 8 ∧ A.minus.length = 8 ∧ B.plus.length = 8 ∧ B.minus.length = 8 ∧
    ((joinF A B).plus.length = 8 ∧ (joinF A B).minus.length = 8 ∧ (∀ j, j < 8 → ((joinF A B).plus.map intC)[j]? = some (.int .i64 (maxI (A.plus.getD j 0) (B.plus.getD j 0)))) ∧ (∀ j, j < 8 → ((joinF A B).minus.map intC)[j]? = some (.int .i64 (maxI (A.minus.getD j 0) (B.minus.getD j 0))))) := by
  obtain ⟨hA, hB, hk⟩ := joinE_zero.1 he
  have kA := kindN_two (show kindN A = 2 by have := kindN_ok hA; omega)
  have kB := kindN_two (show kindN B = 2 by have := kindN_ok hB; omega)
  have a1 := okRow_len kA.2.2.1
  have a2 := okRow_len kA.2.2.2
  have b1 := okRow_len kB.2.2.1
  have b2 := okRow_len kB.2.2.2
  rw [joinF_ok he, joinV_count k]
  have z1 := zip_range 8 A.plus B.plus a1 b1
  have z2 := zip_range 8 A.minus B.minus a2 b2
  have g1 : (joinCount A B).plus = (List.range 8).map (fun j => maxI (A.plus.getD j 0) (B.plus.getD j 0)) := z1.symm
  have g2 : (joinCount A B).minus = (List.range 8).map (fun j => maxI (A.minus.getD j 0) (B.minus.getD j 0)) := z2.symm
  rw [g1, g2]
  refine ⟨a1, a2, b1, b2, by simp, by simp, fun j hj => ?_, fun j hj => ?_⟩
  · rw [List.getElem?_map, List.getElem?_map, List.getElem?_range hj]; rfl
  · rw [List.getElem?_map, List.getElem?_map, List.getElem?_range hj]; rfl
noncomputable def vflagsOps : Array Oper := regionOf Try.f9 18
set_option maxRecDepth 100000 in
set_option maxHeartbeats 2000000 in
theorem vflags_region (Q : Exit → Act → World → Prop) (a0 : Act) (w0 : World) (hsz : a0.tmps.size = 111) (k : Nat) (hk : k < 8) (x1 y1 x2 y2 : Int) (ga gb gc : Nat) (bap oap cap : Nat) (bam oam cam : Nat) (bbp obp cbp : Nat) (bbm obm cbm : Nat) (bcp ocp ccp : Nat) (bcm ocm ccm : Nat) (e13 : a0.tmps.getD 13 undef = .pointer (some ⟨gc, 0, none⟩)) (e6 : a0.tmps.getD 6 undef = .pointer (some ⟨ga, 0, none⟩)) (e7 : a0.tmps.getD 7 undef = .pointer (some ⟨gb, 0, none⟩)) (e15 : a0.tmps.getD 15 undef = .int .i64 (k : Int)) (la : ga < w0.heap.size) (hap : w0.cell? ⟨ga, 5, none⟩ = some (.slice (some ⟨bap, oap, none⟩) 8 cap)) (lap : bap < w0.heap.size) (rap : w0.cell? ⟨bap, oap + k, none⟩ = some (.int .i64 x1)) (ham : w0.cell? ⟨ga, 6, none⟩ = some (.slice (some ⟨bam, oam, none⟩) 8 cam)) (lam : bam < w0.heap.size) (ram : w0.cell? ⟨bam, oam + k, none⟩ = some (.int .i64 x2)) (lb : gb < w0.heap.size) (hbp : w0.cell? ⟨gb, 5, none⟩ = some (.slice (some ⟨bbp, obp, none⟩) 8 cbp)) (lbp : bbp < w0.heap.size) (rbp : w0.cell? ⟨bbp, obp + k, none⟩ = some (.int .i64 y1)) (hbm : w0.cell? ⟨gb, 6, none⟩ = some (.slice (some ⟨bbm, obm, none⟩) 8 cbm)) (lbm : bbm < w0.heap.size) (rbm : w0.cell? ⟨bbm, obm + k, none⟩ = some (.int .i64 y2)) (lc : gc < w0.heap.size) (hcp : w0.cell? ⟨gc, 5, none⟩ = some (.slice (some ⟨bcp, ocp, none⟩) 8 ccp)) (lcp : bcp < w0.heap.size) (rcp : w0.cell? ⟨bcp, ocp + k, none⟩ = some (.int .i64 (maxI x1 y1))) (hcm : w0.cell? ⟨gc, 6, none⟩ = some (.slice (some ⟨bcm, ocm, none⟩) 8 ccm)) (lcm : bcm < w0.heap.size) (rcm : w0.cell? ⟨bcm, ocm + k, none⟩ = some (.int .i64 (maxI x2 y2)))
    (hQ : ∀ (g : Nat → Value) (w : World), g 109 = .bool false → Below w0.heap.size w0 w → Q .normal { tmps := [74, 75, 76, 77, 78, 79, 80, 81, 82, 83, 84, 85, 86, 87, 88, 89, 90, 91, 92, 93, 94, 95, 96, 97, 98, 99, 100, 101, 102, 103, 104, 105, 106, 107, 108, 109].foldl (fun t s => t.setIfInBounds s (g s)) a0.tmps, defers := a0.defers } w) :
    (Code.region 18 vflagsOps true).wp Try.prog Q a0 w0 := by
  refine wp_region_flow mixed (by rw [hsz]; kernel_rfl) ?_
  rw [show vflagsOps.size = 36 by kernel_rfl]
  refine ⟨isVal (.pointer (some ⟨gc, 5, none⟩)), step_field 25 (.tmp 13) 5 ⟨gc, 0, none⟩ ⟨gc, 5, none⟩ (by kernel_rfl) (wanted_none (by kernel_rfl)) (knows_old 13 (.pointer (some ⟨gc, 0, none⟩)) (by kernel_rfl) e13) (field_va gc 5 (by omega)), ?_⟩
  refine ⟨isVal (.slice (some ⟨bcp, ocp, none⟩) 8 ccp), step_read 22 (.tmp 74) ⟨gc, 5, none⟩ (.slice (some ⟨bcp, ocp, none⟩) 8 ccp) (by kernel_rfl) (wanted_none (by kernel_rfl)) (knows_new (V := isVal (.pointer (some ⟨gc, 5, none⟩))) 74 0 (by kernel_rfl) (by kernel_rfl) (by kernel_rfl)) hcp lc agg_ints, ?_⟩
  refine ⟨isVal (.int .i64 (k : Int)), step_move (.tmp 15) (by kernel_rfl) (wanted_none (by kernel_rfl)) (stable_val _) (knows_old 15 (.int .i64 (k : Int)) (by kernel_rfl) e15), ?_⟩
  refine ⟨isVal (.pointer (some ⟨bcp, ocp + k, none⟩)), step_place 22 3 (.tmp 75) (.tmp 76) bcp ocp 8 ccp k (by kernel_rfl) (wanted_none (by kernel_rfl)) (knows_new (V := isVal (.slice (some ⟨bcp, ocp, none⟩) 8 ccp)) 75 1 (by kernel_rfl) (by kernel_rfl) (by kernel_rfl)) (knows_new (V := isVal (.int .i64 (k : Int))) 76 2 (by kernel_rfl) (by kernel_rfl) (by kernel_rfl)) Try.underlying22 (by kernel_rfl) hk, ?_⟩
  refine ⟨isVal (.int .i64 (maxI x1 y1)), step_read 3 (.tmp 77) ⟨bcp, ocp + k, none⟩ (.int .i64 (maxI x1 y1)) (by kernel_rfl) (wanted_none (by kernel_rfl)) (knows_new (V := isVal (.pointer (some ⟨bcp, ocp + k, none⟩))) 77 3 (by kernel_rfl) (by kernel_rfl) (by kernel_rfl)) rcp lcp agg_int, ?_⟩
  refine ⟨isVal (.pointer (some ⟨ga, 5, none⟩)), step_field 25 (.tmp 6) 5 ⟨ga, 0, none⟩ ⟨ga, 5, none⟩ (by kernel_rfl) (wanted_none (by kernel_rfl)) (knows_old 6 (.pointer (some ⟨ga, 0, none⟩)) (by kernel_rfl) e6) (field_va ga 5 (by omega)), ?_⟩
  refine ⟨isVal (.slice (some ⟨bap, oap, none⟩) 8 cap), step_read 22 (.tmp 79) ⟨ga, 5, none⟩ (.slice (some ⟨bap, oap, none⟩) 8 cap) (by kernel_rfl) (wanted_none (by kernel_rfl)) (knows_new (V := isVal (.pointer (some ⟨ga, 5, none⟩))) 79 5 (by kernel_rfl) (by kernel_rfl) (by kernel_rfl)) hap la agg_ints, ?_⟩
  refine ⟨isVal (.int .i64 (k : Int)), step_move (.tmp 15) (by kernel_rfl) (wanted_none (by kernel_rfl)) (stable_val _) (knows_old 15 (.int .i64 (k : Int)) (by kernel_rfl) e15), ?_⟩
  refine ⟨isVal (.pointer (some ⟨bap, oap + k, none⟩)), step_place 22 3 (.tmp 80) (.tmp 81) bap oap 8 cap k (by kernel_rfl) (wanted_none (by kernel_rfl)) (knows_new (V := isVal (.slice (some ⟨bap, oap, none⟩) 8 cap)) 80 6 (by kernel_rfl) (by kernel_rfl) (by kernel_rfl)) (knows_new (V := isVal (.int .i64 (k : Int))) 81 7 (by kernel_rfl) (by kernel_rfl) (by kernel_rfl)) Try.underlying22 (by kernel_rfl) hk, ?_⟩
  refine ⟨isVal (.int .i64 x1), step_read 3 (.tmp 82) ⟨bap, oap + k, none⟩ (.int .i64 x1) (by kernel_rfl) (wanted_none (by kernel_rfl)) (knows_new (V := isVal (.pointer (some ⟨bap, oap + k, none⟩))) 82 8 (by kernel_rfl) (by kernel_rfl) (by kernel_rfl)) rap lap agg_int, ?_⟩
  refine ⟨isVal (.pointer (some ⟨gb, 5, none⟩)), step_field 25 (.tmp 7) 5 ⟨gb, 0, none⟩ ⟨gb, 5, none⟩ (by kernel_rfl) (wanted_none (by kernel_rfl)) (knows_old 7 (.pointer (some ⟨gb, 0, none⟩)) (by kernel_rfl) e7) (field_va gb 5 (by omega)), ?_⟩
  refine ⟨isVal (.slice (some ⟨bbp, obp, none⟩) 8 cbp), step_read 22 (.tmp 84) ⟨gb, 5, none⟩ (.slice (some ⟨bbp, obp, none⟩) 8 cbp) (by kernel_rfl) (wanted_none (by kernel_rfl)) (knows_new (V := isVal (.pointer (some ⟨gb, 5, none⟩))) 84 10 (by kernel_rfl) (by kernel_rfl) (by kernel_rfl)) hbp lb agg_ints, ?_⟩
  refine ⟨isVal (.int .i64 (k : Int)), step_move (.tmp 15) (by kernel_rfl) (wanted_none (by kernel_rfl)) (stable_val _) (knows_old 15 (.int .i64 (k : Int)) (by kernel_rfl) e15), ?_⟩
  refine ⟨isVal (.pointer (some ⟨bbp, obp + k, none⟩)), step_place 22 3 (.tmp 85) (.tmp 86) bbp obp 8 cbp k (by kernel_rfl) (wanted_none (by kernel_rfl)) (knows_new (V := isVal (.slice (some ⟨bbp, obp, none⟩) 8 cbp)) 85 11 (by kernel_rfl) (by kernel_rfl) (by kernel_rfl)) (knows_new (V := isVal (.int .i64 (k : Int))) 86 12 (by kernel_rfl) (by kernel_rfl) (by kernel_rfl)) Try.underlying22 (by kernel_rfl) hk, ?_⟩
  refine ⟨isVal (.int .i64 y1), step_read 3 (.tmp 87) ⟨bbp, obp + k, none⟩ (.int .i64 y1) (by kernel_rfl) (wanted_none (by kernel_rfl)) (knows_new (V := isVal (.pointer (some ⟨bbp, obp + k, none⟩))) 87 13 (by kernel_rfl) (by kernel_rfl) (by kernel_rfl)) rbp lbp agg_int, ?_⟩
  refine ⟨isVal (.int .i64 (maxI x1 y1)), step_max .i64 3 3 (.tmp 83) (.tmp 88) x1 y1 (maxI x1 y1) (by kernel_rfl) (wanted_none (by kernel_rfl)) (knows_new (V := isVal (.int .i64 x1)) 83 9 (by kernel_rfl) (by kernel_rfl) (by kernel_rfl)) (knows_new (V := isVal (.int .i64 y1)) 88 14 (by kernel_rfl) (by kernel_rfl) (by kernel_rfl)) rfl, ?_⟩
  refine ⟨isVal (.bool false), step_bin .neq 3 3 (.tmp 78) (.tmp 89) (.int .i64 (maxI x1 y1)) (.int .i64 (maxI x1 y1)) (.bool false) (by kernel_rfl) (wanted_none (by kernel_rfl)) (knows_new (V := isVal (.int .i64 (maxI x1 y1))) 78 4 (by kernel_rfl) (by kernel_rfl) (by kernel_rfl)) (knows_new (V := isVal (.int .i64 (maxI x1 y1))) 89 15 (by kernel_rfl) (by kernel_rfl) (by kernel_rfl)) (fun _ => rfl) (neq_int _ _ _ _ _ (by simp)), ?_⟩
  refine ⟨isVal (.bool false), step_move (.tmp 90) (by kernel_rfl) (wanted_none (by kernel_rfl)) (stable_val _) (knows_new (V := isVal (.bool false)) 90 16 (by kernel_rfl) (by kernel_rfl) (by kernel_rfl)), ?_⟩
  refine ⟨isVal (.pointer (some ⟨gc, 6, none⟩)), step_field 25 (.tmp 13) 6 ⟨gc, 0, none⟩ ⟨gc, 6, none⟩ (by kernel_rfl) (wanted_some 17 91 false (by kernel_rfl) (by kernel_rfl) (by kernel_rfl) (by kernel_rfl)) (knows_old 13 (.pointer (some ⟨gc, 0, none⟩)) (by kernel_rfl) e13) (field_va gc 6 (by omega)), ?_⟩
  refine ⟨isVal (.slice (some ⟨bcm, ocm, none⟩) 8 ccm), step_read 22 (.tmp 92) ⟨gc, 6, none⟩ (.slice (some ⟨bcm, ocm, none⟩) 8 ccm) (by kernel_rfl) (wanted_some 17 91 false (by kernel_rfl) (by kernel_rfl) (by kernel_rfl) (by kernel_rfl)) (knows_new (V := isVal (.pointer (some ⟨gc, 6, none⟩))) 92 18 (by kernel_rfl) (by kernel_rfl) (by kernel_rfl)) hcm lc agg_ints, ?_⟩
  refine ⟨isVal (.int .i64 (k : Int)), step_move (.tmp 15) (by kernel_rfl) (wanted_some 17 91 false (by kernel_rfl) (by kernel_rfl) (by kernel_rfl) (by kernel_rfl)) (stable_val _) (knows_old 15 (.int .i64 (k : Int)) (by kernel_rfl) e15), ?_⟩
  refine ⟨isVal (.pointer (some ⟨bcm, ocm + k, none⟩)), step_place 22 3 (.tmp 93) (.tmp 94) bcm ocm 8 ccm k (by kernel_rfl) (wanted_some 17 91 false (by kernel_rfl) (by kernel_rfl) (by kernel_rfl) (by kernel_rfl)) (knows_new (V := isVal (.slice (some ⟨bcm, ocm, none⟩) 8 ccm)) 93 19 (by kernel_rfl) (by kernel_rfl) (by kernel_rfl)) (knows_new (V := isVal (.int .i64 (k : Int))) 94 20 (by kernel_rfl) (by kernel_rfl) (by kernel_rfl)) Try.underlying22 (by kernel_rfl) hk, ?_⟩
  refine ⟨isVal (.int .i64 (maxI x2 y2)), step_read 3 (.tmp 95) ⟨bcm, ocm + k, none⟩ (.int .i64 (maxI x2 y2)) (by kernel_rfl) (wanted_some 17 91 false (by kernel_rfl) (by kernel_rfl) (by kernel_rfl) (by kernel_rfl)) (knows_new (V := isVal (.pointer (some ⟨bcm, ocm + k, none⟩))) 95 21 (by kernel_rfl) (by kernel_rfl) (by kernel_rfl)) rcm lcm agg_int, ?_⟩
  refine ⟨isVal (.pointer (some ⟨ga, 6, none⟩)), step_field 25 (.tmp 6) 6 ⟨ga, 0, none⟩ ⟨ga, 6, none⟩ (by kernel_rfl) (wanted_some 17 91 false (by kernel_rfl) (by kernel_rfl) (by kernel_rfl) (by kernel_rfl)) (knows_old 6 (.pointer (some ⟨ga, 0, none⟩)) (by kernel_rfl) e6) (field_va ga 6 (by omega)), ?_⟩
  refine ⟨isVal (.slice (some ⟨bam, oam, none⟩) 8 cam), step_read 22 (.tmp 97) ⟨ga, 6, none⟩ (.slice (some ⟨bam, oam, none⟩) 8 cam) (by kernel_rfl) (wanted_some 17 91 false (by kernel_rfl) (by kernel_rfl) (by kernel_rfl) (by kernel_rfl)) (knows_new (V := isVal (.pointer (some ⟨ga, 6, none⟩))) 97 23 (by kernel_rfl) (by kernel_rfl) (by kernel_rfl)) ham la agg_ints, ?_⟩
  refine ⟨isVal (.int .i64 (k : Int)), step_move (.tmp 15) (by kernel_rfl) (wanted_some 17 91 false (by kernel_rfl) (by kernel_rfl) (by kernel_rfl) (by kernel_rfl)) (stable_val _) (knows_old 15 (.int .i64 (k : Int)) (by kernel_rfl) e15), ?_⟩
  refine ⟨isVal (.pointer (some ⟨bam, oam + k, none⟩)), step_place 22 3 (.tmp 98) (.tmp 99) bam oam 8 cam k (by kernel_rfl) (wanted_some 17 91 false (by kernel_rfl) (by kernel_rfl) (by kernel_rfl) (by kernel_rfl)) (knows_new (V := isVal (.slice (some ⟨bam, oam, none⟩) 8 cam)) 98 24 (by kernel_rfl) (by kernel_rfl) (by kernel_rfl)) (knows_new (V := isVal (.int .i64 (k : Int))) 99 25 (by kernel_rfl) (by kernel_rfl) (by kernel_rfl)) Try.underlying22 (by kernel_rfl) hk, ?_⟩
  refine ⟨isVal (.int .i64 x2), step_read 3 (.tmp 100) ⟨bam, oam + k, none⟩ (.int .i64 x2) (by kernel_rfl) (wanted_some 17 91 false (by kernel_rfl) (by kernel_rfl) (by kernel_rfl) (by kernel_rfl)) (knows_new (V := isVal (.pointer (some ⟨bam, oam + k, none⟩))) 100 26 (by kernel_rfl) (by kernel_rfl) (by kernel_rfl)) ram lam agg_int, ?_⟩
  refine ⟨isVal (.pointer (some ⟨gb, 6, none⟩)), step_field 25 (.tmp 7) 6 ⟨gb, 0, none⟩ ⟨gb, 6, none⟩ (by kernel_rfl) (wanted_some 17 91 false (by kernel_rfl) (by kernel_rfl) (by kernel_rfl) (by kernel_rfl)) (knows_old 7 (.pointer (some ⟨gb, 0, none⟩)) (by kernel_rfl) e7) (field_va gb 6 (by omega)), ?_⟩
  refine ⟨isVal (.slice (some ⟨bbm, obm, none⟩) 8 cbm), step_read 22 (.tmp 102) ⟨gb, 6, none⟩ (.slice (some ⟨bbm, obm, none⟩) 8 cbm) (by kernel_rfl) (wanted_some 17 91 false (by kernel_rfl) (by kernel_rfl) (by kernel_rfl) (by kernel_rfl)) (knows_new (V := isVal (.pointer (some ⟨gb, 6, none⟩))) 102 28 (by kernel_rfl) (by kernel_rfl) (by kernel_rfl)) hbm lb agg_ints, ?_⟩
  refine ⟨isVal (.int .i64 (k : Int)), step_move (.tmp 15) (by kernel_rfl) (wanted_some 17 91 false (by kernel_rfl) (by kernel_rfl) (by kernel_rfl) (by kernel_rfl)) (stable_val _) (knows_old 15 (.int .i64 (k : Int)) (by kernel_rfl) e15), ?_⟩
  refine ⟨isVal (.pointer (some ⟨bbm, obm + k, none⟩)), step_place 22 3 (.tmp 103) (.tmp 104) bbm obm 8 cbm k (by kernel_rfl) (wanted_some 17 91 false (by kernel_rfl) (by kernel_rfl) (by kernel_rfl) (by kernel_rfl)) (knows_new (V := isVal (.slice (some ⟨bbm, obm, none⟩) 8 cbm)) 103 29 (by kernel_rfl) (by kernel_rfl) (by kernel_rfl)) (knows_new (V := isVal (.int .i64 (k : Int))) 104 30 (by kernel_rfl) (by kernel_rfl) (by kernel_rfl)) Try.underlying22 (by kernel_rfl) hk, ?_⟩
  refine ⟨isVal (.int .i64 y2), step_read 3 (.tmp 105) ⟨bbm, obm + k, none⟩ (.int .i64 y2) (by kernel_rfl) (wanted_some 17 91 false (by kernel_rfl) (by kernel_rfl) (by kernel_rfl) (by kernel_rfl)) (knows_new (V := isVal (.pointer (some ⟨bbm, obm + k, none⟩))) 105 31 (by kernel_rfl) (by kernel_rfl) (by kernel_rfl)) rbm lbm agg_int, ?_⟩
  refine ⟨isVal (.int .i64 (maxI x2 y2)), step_max .i64 3 3 (.tmp 101) (.tmp 106) x2 y2 (maxI x2 y2) (by kernel_rfl) (wanted_some 17 91 false (by kernel_rfl) (by kernel_rfl) (by kernel_rfl) (by kernel_rfl)) (knows_new (V := isVal (.int .i64 x2)) 101 27 (by kernel_rfl) (by kernel_rfl) (by kernel_rfl)) (knows_new (V := isVal (.int .i64 y2)) 106 32 (by kernel_rfl) (by kernel_rfl) (by kernel_rfl)) rfl, ?_⟩
  refine ⟨isVal (.bool false), step_bin .neq 3 3 (.tmp 96) (.tmp 107) (.int .i64 (maxI x2 y2)) (.int .i64 (maxI x2 y2)) (.bool false) (by kernel_rfl) (wanted_some 17 91 false (by kernel_rfl) (by kernel_rfl) (by kernel_rfl) (by kernel_rfl)) (knows_new (V := isVal (.int .i64 (maxI x2 y2))) 96 22 (by kernel_rfl) (by kernel_rfl) (by kernel_rfl)) (knows_new (V := isVal (.int .i64 (maxI x2 y2))) 107 33 (by kernel_rfl) (by kernel_rfl) (by kernel_rfl)) (fun _ => rfl) (neq_int _ _ _ _ _ (by simp)), ?_⟩
  refine ⟨isVal (.bool false), step_pick (.tmp 91) (.const (.bool true)) (.tmp 108) false (by kernel_rfl) (wanted_none (by kernel_rfl)) (stable_val _) (knows_new (V := isVal (.bool false)) 91 17 (by kernel_rfl) (by kernel_rfl) (by kernel_rfl)) (knows_new (V := isVal (.bool false)) 108 34 (by kernel_rfl) (by kernel_rfl) (by kernel_rfl)), ?_⟩
  intro a w hkp hb hd
  rw [kept_of hkp [some 74, some 75, some 76, some 77, some 78, some 79, some 80, some 81, some 82, some 83, some 84, some 85, some 86, some 87, some 88, some 89, some 90, some 91, some 92, some 93, some 94, some 95, some 96, some 97, some 98, some 99, some 100, some 101, some 102, some 103, some 104, some 105, some 106, some 107, some 108, some 109] [74, 75, 76, 77, 78, 79, 80, 81, 82, 83, 84, 85, 86, 87, 88, 89, 90, 91, 92, 93, 94, 95, 96, 97, 98, 99, 100, 101, 102, 103, 104, 105, 106, 107, 108, 109] (by kernel_rfl) (by decide)]
  have d109 := fdone_of (hd 35 (by rw [show vflagsOps.size = 36 by kernel_rfl]; decide)) (t := 109) (V := isVal (.bool false)) (by kernel_rfl) (by kernel_rfl)
  exact hQ (fun s => a.tmps.getD s undef) w d109 hb
set_option maxRecDepth 100000 in
set_option maxHeartbeats 4000000 in
theorem valueFlags_walk (a0 a1 : Int) (F2 : Va) (v2 : Value) (F3 : Va) (v3 : Value) (w0 : (Lit.int .u64 a0).wf = true) (w1 : (Lit.int .u64 a1).wf = true) (w2 : CameV F2) (w3 : CameV F3) (w : World) (fl2 : isVa F2 v2 w) (fl3 : isVa F3 v3 w) :
    Calls Try.prog 9 #[.int .u64 a0, .int .u64 a1, v2, v3] w fun e w' => e = .returned (.bool true) ∧ Below w.heap.size w w' := by
  obtain ⟨X, rfl⟩ := u64_of w0
  obtain ⟨Y, rfl⟩ := u64_of w1
  obtain ⟨pa, ma, rfl, hpa, hma⟩ := fl2
  obtain ⟨pb, mb, rfl, hpb, hmb⟩ := fl3
  obtain ⟨hB, Va⟩ := vbox w F2 pa ma hpa hma (w.heap.size) (by simp)
  obtain ⟨hBn, Vb⟩ := vbox (w.alloc (.cells #[.int .i64 F2.kind, .int .i64 F2.time, .int .i64 F2.node, .bool F2.dead, .string ⟨F2.text.toArray⟩, pa, ma, .int .u64 (F2.flags.toNat : Int)] 25)) F3 pb mb (stable_cells _ _ _ _ hpb hB.out) (stable_cells _ _ _ _ hmb hB.out) (w.heap.size + 1) (by simp)
  replace Va := Kept.mk (Va.out.keep hBn.out)
  replace hB := Kept.mk (hB.out.trans (hBn.out.mono hB.out.size))
  clear hBn
  clear hpa hma hpb hmb
  go_enter Try.func9, Try.ntmps9
  go_wp2_with fail
  generalize ((w.alloc (.cells #[.int .i64 F2.kind, .int .i64 F2.time, .int .i64 F2.node, .bool F2.dead, .string ⟨F2.text.toArray⟩, pa, ma, .int .u64 (F2.flags.toNat : Int)] 25)).alloc (.cells #[.int .i64 F3.kind, .int .i64 F3.time, .int .i64 F3.node, .bool F3.dead, .string ⟨F3.text.toArray⟩, pb, mb, .int .u64 (F3.flags.toNat : Int)] 25)) = W0 at *
  ((with_reducible refine (vworks_any _).mono ?_); rintro e W1 ⟨rfl, hb1⟩)
  replace hB := Kept.mk (hB.out.trans ((hb1).mono hB.out.size))
  replace Va := Kept.mk (Va.out.keep (hb1))
  replace Vb := Kept.mk (Vb.out.keep (hb1))
  clear hb1
  obtain ⟨qa, ra, xa, -, -, ka0, ka1, ka2, ka3, ka4, ka5, ka6, ka7⟩ := Va.out.open_
  have Xa := Kept.mk xa
  clear xa
  go_wp2_with fail
  ((with_reducible refine (vfew_any F2 _ _ Xa.out).mono ?_); rintro e W2 ⟨rfl, hb1⟩)
  clear Xa ka0 ka1 ka2 ka3 ka4 ka5 ka6 ka7
  replace hB := Kept.mk (hB.out.trans ((hb1).mono hB.out.size))
  replace Va := Kept.mk (Va.out.keep (hb1))
  replace Vb := Kept.mk (Vb.out.keep (hb1))
  clear hb1
  cases fa : fewV F2 with
  | false =>
    go_wp2
    go_ret
    exact ⟨rfl, hB.out⟩
  | true =>
    have FFa := Kept.mk (few_fit fa)
    clear fa
    obtain ⟨qb, rb, xb, -, -, kb0, kb1, kb2, kb3, kb4, kb5, kb6, kb7⟩ := Vb.out.open_
    have Xb := Kept.mk xb
    clear xb
    go_wp2_with fail
    ((with_reducible refine (vfew_any F3 _ _ Xb.out).mono ?_); rintro e W3 ⟨rfl, hb1⟩)
    clear Xb kb0 kb1 kb2 kb3 kb4 kb5 kb6 kb7
    replace hB := Kept.mk (hB.out.trans ((hb1).mono hB.out.size))
    replace Va := Kept.mk (Va.out.keep (hb1))
    replace Vb := Kept.mk (Vb.out.keep (hb1))
    clear hb1
    cases fb : fewV F3 with
    | false =>
      go_wp2
      go_ret
      exact ⟨rfl, hB.out⟩
    | true =>
      have FFb := Kept.mk (few_fit fb)
      clear fb
      go_wp2_with fail
      ((with_reducible refine (c_fl X Y _).mono ?_); rintro e U ⟨v', rfl, ⟨p', m', rfl, hp', hm', _, _⟩, hb1⟩)
      obtain ⟨K1, K2, K3, K4, K5⟩ := vnew U (flV (X ||| Y)) p' m' hp' hm' U.heap.size rfl
      clear hp' hm'
      replace hB := Kept.mk (hB.out.trans ((hb1).mono hB.out.size))
      replace Va := Kept.mk (Va.out.keep (hb1))
      replace Vb := Kept.mk (Vb.out.keep (hb1))
      clear hb1
      go_wp2_with (have hz0 := K1; refine wpList_storeN 25 rfl (.tmp 11) (.tmp 34) rfl U.heap.size [.int .i64 (flV (X ||| Y)).kind, .int .i64 (flV (X ||| Y)).time, .int .i64 (flV (X ||| Y)).node, .bool (flV (X ||| Y)).dead, .string ⟨(flV (X ||| Y)).text.toArray⟩, p', m', .int .u64 ((flV (X ||| Y)).flags.toNat : Int)] size_va rfl rfl K1.out rfl K2.out K5.out ?_; replace hB := Kept.mk (hB.out.trans ((K3.out).mono hB.out.size)); replace Va := Kept.mk (Va.out.keep (K3.out)); replace Vb := Kept.mk (Vb.out.keep (K3.out)); have Vf := Kept.mk K4.out.var; clear hz0 K1 K2 K3 K4 K5; generalize setN (U.alloc (.cells #[.int .i64 0, .int .i64 0, .int .i64 0, .bool false, .string ⟨#[]⟩, .slice none 0 0, .slice none 0 0, .int .u64 0] 25)) U.heap.size 0 [.int .i64 (flV (X ||| Y)).kind, .int .i64 (flV (X ||| Y)).time, .int .i64 (flV (X ||| Y)).node, .bool (flV (X ||| Y)).dead, .string ⟨(flV (X ||| Y)).text.toArray⟩, p', m', .int .u64 ((flV (X ||| Y)).flags.toNat : Int)] = W4 at *; generalize U.heap.size = gf at *; obtain ⟨qf, rf, xf, -, -, kf0, kf1, kf2, kf3, kf4, kf5, kf6, kf7⟩ := Vf.out.open_; have Xf := Kept.mk xf; clear xf; obtain ⟨qa, ra, xa, -, -, ka0, ka1, ka2, ka3, ka4, ka5, ka6, ka7⟩ := Va.out.open_; have Xa := Kept.mk xa; clear xa; obtain ⟨qb, rb, xb, -, -, kb0, kb1, kb2, kb3, kb4, kb5, kb6, kb7⟩ := Vb.out.open_; have Xb := Kept.mk xb; clear xb; have e7 : (flV (X ||| Y)).flags.toNat = X.toNat ||| Y.toNat := (by rw [← UInt64.toNat_or]; rfl); have hor : bits .or .u64 (X.toNat : Int) (Y.toNat : Int) = ((X.toNat ||| Y.toNat : Nat) : Int) := u64_or_nat _ _ X.toNat_lt Y.toNat_lt)
      try clear e7
      try clear hor
      by_cases he : joinE F2 F3 = 0
      case neg =>
        ((with_reducible refine (vjoin_any F2 F3 _ _ _ Xa.out Xb.out FFa.out FFb.out).mono ?_); rintro e U ⟨v', rfl, ⟨p', m', rfl, hp', hm', _, _⟩, hb1⟩)
        obtain ⟨K1, K2, K3, K4, K5⟩ := vnew U (joinF F2 F3) p' m' hp' hm' U.heap.size rfl
        clear hp' hm'
        clear Xf kf0 kf1 kf2 kf3 kf4 kf5 kf6 kf7
        clear Xa ka0 ka1 ka2 ka3 ka4 ka5 ka6 ka7
        clear Xb kb0 kb1 kb2 kb3 kb4 kb5 kb6 kb7
        replace hB := Kept.mk (hB.out.trans ((hb1).mono hB.out.size))
        replace Va := Kept.mk (Va.out.keep (hb1))
        replace Vb := Kept.mk (Vb.out.keep (hb1))
        replace Vf := Kept.mk (Vf.out.keep (hb1))
        clear hb1
        go_wp2_with (have hz0 := K1; refine wpList_storeN 25 rfl (.tmp 13) (.tmp 50) rfl U.heap.size [.int .i64 (joinF F2 F3).kind, .int .i64 (joinF F2 F3).time, .int .i64 (joinF F2 F3).node, .bool (joinF F2 F3).dead, .string ⟨(joinF F2 F3).text.toArray⟩, p', m', .int .u64 ((joinF F2 F3).flags.toNat : Int)] size_va rfl rfl K1.out rfl K2.out K5.out ?_; replace hB := Kept.mk (hB.out.trans ((K3.out).mono hB.out.size)); replace Va := Kept.mk (Va.out.keep (K3.out)); replace Vb := Kept.mk (Vb.out.keep (K3.out)); replace Vf := Kept.mk (Vf.out.keep (K3.out)); have Vc := Kept.mk K4.out.var; clear hz0 K1 K2 K3 K4 K5; generalize setN (U.alloc (.cells #[.int .i64 0, .int .i64 0, .int .i64 0, .bool false, .string ⟨#[]⟩, .slice none 0 0, .slice none 0 0, .int .u64 0] 25)) U.heap.size 0 [.int .i64 (joinF F2 F3).kind, .int .i64 (joinF F2 F3).time, .int .i64 (joinF F2 F3).node, .bool (joinF F2 F3).dead, .string ⟨(joinF F2 F3).text.toArray⟩, p', m', .int .u64 ((joinF F2 F3).flags.toNat : Int)] = W5 at *; generalize U.heap.size = gc at *; obtain ⟨qa, ra, xa, -, -, ka0, ka1, ka2, ka3, ka4, ka5, ka6, ka7⟩ := Va.out.open_; have Xa := Kept.mk xa; clear xa)
        all_goals go_ret
        all_goals exact ⟨rfl, hB.out⟩
      have HE := Kept.mk he
      by_cases k2 : F2.kind = 2
      case neg =>
        ((with_reducible refine (vjoin_any F2 F3 _ _ _ Xa.out Xb.out FFa.out FFb.out).mono ?_); rintro e U ⟨v', rfl, ⟨p', m', rfl, hp', hm', _, _⟩, hb1⟩)
        obtain ⟨K1, K2, K3, K4, K5⟩ := vnew U (joinF F2 F3) p' m' hp' hm' U.heap.size rfl
        clear hp' hm'
        clear Xf kf0 kf1 kf2 kf3 kf4 kf5 kf6 kf7
        clear Xa ka0 ka1 ka2 ka3 ka4 ka5 ka6 ka7
        clear Xb kb0 kb1 kb2 kb3 kb4 kb5 kb6 kb7
        replace hB := Kept.mk (hB.out.trans ((hb1).mono hB.out.size))
        replace Va := Kept.mk (Va.out.keep (hb1))
        replace Vb := Kept.mk (Vb.out.keep (hb1))
        replace Vf := Kept.mk (Vf.out.keep (hb1))
        clear hb1
        go_wp2_with (have hz0 := K1; refine wpList_storeN 25 rfl (.tmp 13) (.tmp 50) rfl U.heap.size [.int .i64 (joinF F2 F3).kind, .int .i64 (joinF F2 F3).time, .int .i64 (joinF F2 F3).node, .bool (joinF F2 F3).dead, .string ⟨(joinF F2 F3).text.toArray⟩, p', m', .int .u64 ((joinF F2 F3).flags.toNat : Int)] size_va rfl rfl K1.out rfl K2.out K5.out ?_; replace hB := Kept.mk (hB.out.trans ((K3.out).mono hB.out.size)); replace Va := Kept.mk (Va.out.keep (K3.out)); replace Vb := Kept.mk (Vb.out.keep (K3.out)); replace Vf := Kept.mk (Vf.out.keep (K3.out)); have Vc := Kept.mk K4.out.var; clear hz0 K1 K2 K3 K4 K5; generalize setN (U.alloc (.cells #[.int .i64 0, .int .i64 0, .int .i64 0, .bool false, .string ⟨#[]⟩, .slice none 0 0, .slice none 0 0, .int .u64 0] 25)) U.heap.size 0 [.int .i64 (joinF F2 F3).kind, .int .i64 (joinF F2 F3).time, .int .i64 (joinF F2 F3).node, .bool (joinF F2 F3).dead, .string ⟨(joinF F2 F3).text.toArray⟩, p', m', .int .u64 ((joinF F2 F3).flags.toNat : Int)] = W5 at *; generalize U.heap.size = gc at *; obtain ⟨qa, ra, xa, -, -, ka0, ka1, ka2, ka3, ka4, ka5, ka6, ka7⟩ := Va.out.open_; have Xa := Kept.mk xa; clear xa)
        all_goals go_ret
        all_goals exact ⟨rfl, hB.out⟩
      have K2 := Kept.mk k2
      clear k2
      have kk : (F2.kind == 2) = true := by simpa using K2.out
      have kk2 : (F2.kind != 2) = false := by simpa using K2.out
      obtain ⟨n1, n2, n3, n4, n5⟩ := count_rows HE.out K2.out
      have HJ := Kept.mk n5
      clear n5
      ((with_reducible refine (vjoin_any F2 F3 _ _ _ Xa.out Xb.out FFa.out FFb.out).mono ?_); rintro e U ⟨v', rfl, ⟨p', m', rfl, hp', hm', _, _⟩, hb1⟩)
      obtain ⟨Q1, Q2, Q3, Q4, Q5⟩ := vnew U (joinF F2 F3) p' m' hp' hm' U.heap.size rfl
      clear hp' hm'
      clear Xf kf0 kf1 kf2 kf3 kf4 kf5 kf6 kf7
      clear Xa ka0 ka1 ka2 ka3 ka4 ka5 ka6 ka7
      clear Xb kb0 kb1 kb2 kb3 kb4 kb5 kb6 kb7
      replace hB := Kept.mk (hB.out.trans ((hb1).mono hB.out.size))
      replace Va := Kept.mk (Va.out.keep (hb1))
      replace Vb := Kept.mk (Vb.out.keep (hb1))
      replace Vf := Kept.mk (Vf.out.keep (hb1))
      clear hb1
      replace hB := Kept.mk (hB.out.trans ((Q3.out).mono hB.out.size))
      replace Va := Kept.mk (Va.out.keep (Q3.out))
      replace Vb := Kept.mk (Vb.out.keep (Q3.out))
      replace Vf := Kept.mk (Vf.out.keep (Q3.out))
      obtain ⟨HCc, hpc, hmc⟩ := Q4.out
      obtain ⟨pa2, ma2, HCa, hpa, hma⟩ := Va.out
      obtain ⟨pb2, mb2, HCb, hpb, hmb⟩ := Vb.out
      obtain ⟨bap, oap, cap, qap, lap, tap⟩ := eight hpa n1
      subst qap
      obtain ⟨bam, oam, cam, qam, lam, tam⟩ := eight hma n2
      subst qam
      obtain ⟨bbp, obp, cbp, qbp, lbp, tbp⟩ := eight hpb n3
      subst qbp
      obtain ⟨bbm, obm, cbm, qbm, lbm, tbm⟩ := eight hmb n4
      subst qbm
      obtain ⟨bcp, ocp, ccp, qcp, lcp, tcp⟩ := eight hpc HJ.out.1
      subst qcp
      obtain ⟨bcm, ocm, ccm, qcm, lcm, tcm⟩ := eight hmc HJ.out.2.1
      subst qcm
      have la := HCa.1
      have ea0 := HCa.2 0 _ rfl
      have hap := HCa.2 5 _ rfl
      have ham := HCa.2 6 _ rfl
      have lb := HCb.1
      have eb0 := HCb.2 0 _ rfl
      have hbp := HCb.2 5 _ rfl
      have hbm := HCb.2 6 _ rfl
      have lc := HCc.1
      have ec0 := HCc.2 0 _ rfl
      have hcp := HCc.2 5 _ rfl
      have hcm := HCc.2 6 _ rfl
      have Tap := Kept.mk tap
      have Tam := Kept.mk tam
      have Tbp := Kept.mk tbp
      have Tbm := Kept.mk tbm
      have Tcp := Kept.mk tcp
      have Tcm := Kept.mk tcm
      have S1 := Kept.mk (show Ones _ from Q5.out)
      have hcA := Kept.mk HCa
      have hcB := Kept.mk HCb
      have hcC := Kept.mk HCc
      clear HCa HCb HCc hpa hma hpb hmb hpc hmc Q4 Va Vb Vf tap tam tbp tbm tcp tcm
      go_wp2_with (refine wpList_storeN 25 rfl (.tmp 13) (.tmp 50) rfl U.heap.size [.int .i64 (joinF F2 F3).kind, .int .i64 (joinF F2 F3).time, .int .i64 (joinF F2 F3).node, .bool (joinF F2 F3).dead, .string ⟨(joinF F2 F3).text.toArray⟩, .slice (some ⟨bcp, ocp, none⟩) 8 ccp, .slice (some ⟨bcm, ocm, none⟩) 8 ccm, .int .u64 ((joinF F2 F3).flags.toNat : Int)] size_va rfl rfl Q1.out rfl Q2.out S1.out ?_; clear Q1 Q2 Q3 S1 Q5; generalize setN (U.alloc (.cells #[.int .i64 0, .int .i64 0, .int .i64 0, .bool false, .string ⟨#[]⟩, .slice none 0 0, .slice none 0 0, .int .u64 0] 25)) U.heap.size 0 [.int .i64 (joinF F2 F3).kind, .int .i64 (joinF F2 F3).time, .int .i64 (joinF F2 F3).node, .bool (joinF F2 F3).dead, .string ⟨(joinF F2 F3).text.toArray⟩, .slice (some ⟨bcp, ocp, none⟩) 8 ccp, .slice (some ⟨bcm, ocm, none⟩) 8 ccm, .int .u64 ((joinF F2 F3).flags.toNat : Int)] = W9 at *; generalize U.heap.size = gc at *)
      have HL := Kept.mk hcA.out.1
      go_loopw [15] (fun i wr => ∃ k : Nat, k ≤ 8 ∧ i = .int .i64 (k : Int) ∧ Kept (Below W9.heap.size W9 wr)) (fun i _ => 8 - (intOf i).toNat)
      case atStart => exact ⟨0, by omega, rfl, ⟨Below.refl _ _⟩⟩
      case round =>
        obtain ⟨k, hk, rfl, HB9⟩ := hrel
        by_cases hlt : k < 8
        · have d1 : decide ((k : Int) < 8) = true := by simp; omega
          have x1d := Kept.mk (show k < F2.plus.length by omega)
          have x2d := Kept.mk (show k < F2.minus.length by omega)
          have y1d := Kept.mk (show k < F3.plus.length by omega)
          have y2d := Kept.mk (show k < F3.minus.length by omega)
          have rap := Kept.mk ((HB9.out.cell (p := ⟨bap, oap + k, none⟩) lap).trans (Tap.out k _ (get_i F2.plus k x1d.out)))
          have hap9 := Kept.mk ((HB9.out.cell (p := ⟨w.heap.size, 5, none⟩) la).trans hap)
          have ram := Kept.mk ((HB9.out.cell (p := ⟨bam, oam + k, none⟩) lam).trans (Tam.out k _ (get_i F2.minus k x2d.out)))
          have ham9 := Kept.mk ((HB9.out.cell (p := ⟨w.heap.size, 6, none⟩) la).trans ham)
          have rbp := Kept.mk ((HB9.out.cell (p := ⟨bbp, obp + k, none⟩) lbp).trans (Tbp.out k _ (get_i F3.plus k y1d.out)))
          have hbp9 := Kept.mk ((HB9.out.cell (p := ⟨w.heap.size + 1, 5, none⟩) lb).trans hbp)
          have rbm := Kept.mk ((HB9.out.cell (p := ⟨bbm, obm + k, none⟩) lbm).trans (Tbm.out k _ (get_i F3.minus k y2d.out)))
          have hbm9 := Kept.mk ((HB9.out.cell (p := ⟨w.heap.size + 1, 6, none⟩) lb).trans hbm)
          have rcp := Kept.mk ((HB9.out.cell (p := ⟨bcp, ocp + k, none⟩) lcp).trans (Tcp.out k _ (HJ.out.2.2.1 k hlt)))
          have hcp9 := Kept.mk ((HB9.out.cell (p := ⟨gc, 5, none⟩) lc).trans hcp)
          have rcm := Kept.mk ((HB9.out.cell (p := ⟨bcm, ocm + k, none⟩) lcm).trans (Tcm.out k _ (HJ.out.2.2.2 k hlt)))
          have hcm9 := Kept.mk ((HB9.out.cell (p := ⟨gc, 6, none⟩) lc).trans hcm)
          go_wp2_with fail
          refine vflags_region _ _ _ rfl k hlt _ _ _ _ w.heap.size (w.heap.size + 1) gc _ _ _ _ _ _ _ _ _ _ _ _ _ _ _ _ _ _ rfl rfl rfl rfl (Nat.lt_of_lt_of_le la HB9.out.size) hap9.out (Nat.lt_of_lt_of_le lap HB9.out.size) rap.out ham9.out (Nat.lt_of_lt_of_le lam HB9.out.size) ram.out (Nat.lt_of_lt_of_le lb HB9.out.size) hbp9.out (Nat.lt_of_lt_of_le lbp HB9.out.size) rbp.out hbm9.out (Nat.lt_of_lt_of_le lbm HB9.out.size) rbm.out (Nat.lt_of_lt_of_le lc HB9.out.size) hcp9.out (Nat.lt_of_lt_of_le lcp HB9.out.size) rcp.out hcm9.out (Nat.lt_of_lt_of_le lcm HB9.out.size) rcm.out ?_
          intro f9 W9 d109 hb9
          simp only [List.foldl_cons, List.foldl_nil, d109]
          generalize f9 74 = y74
          generalize f9 75 = y75
          generalize f9 76 = y76
          generalize f9 77 = y77
          generalize f9 78 = y78
          generalize f9 79 = y79
          generalize f9 80 = y80
          generalize f9 81 = y81
          generalize f9 82 = y82
          generalize f9 83 = y83
          generalize f9 84 = y84
          generalize f9 85 = y85
          generalize f9 86 = y86
          generalize f9 87 = y87
          generalize f9 88 = y88
          generalize f9 89 = y89
          generalize f9 90 = y90
          generalize f9 91 = y91
          generalize f9 92 = y92
          generalize f9 93 = y93
          generalize f9 94 = y94
          generalize f9 95 = y95
          generalize f9 96 = y96
          generalize f9 97 = y97
          generalize f9 98 = y98
          generalize f9 99 = y99
          generalize f9 100 = y100
          generalize f9 101 = y101
          generalize f9 102 = y102
          generalize f9 103 = y103
          generalize f9 104 = y104
          generalize f9 105 = y105
          generalize f9 106 = y106
          generalize f9 107 = y107
          generalize f9 108 = y108
          clear d109
          simp only [List.setIfInBounds_toArray, List.set_cons_succ, List.set_cons_zero]
          replace HB9 := Kept.mk (HB9.out.trans (hb9.mono HB9.out.size))
          clear hb9 rap hap9 ram ham9 rbp hbp9 rbm hbm9 rcp hcp9 rcm hcm9
          go_wp2
          go_roundw
          case rel => exact ⟨k + 1, by omega, by go_num, HB9⟩
          case measure => simp [intOf]; omega
        · have d1 : decide ((k : Int) < 8) = false := by simp; omega
          have hB9 := hB.out.trans (HB9.out.mono hB.out.size)
          go_wp2
          go_ret
          exact ⟨rfl, hB9⟩
set_option maxRecDepth 100000 in
theorem valueFlags_lifted (os : Os) (started : os.Started) (H : Type) (enc : TypeId × Value → H) :
    ReturnsInHanded {} Try.checked os 9 .any (Rows.valueFlagsSpec.pre6 enc Try.prog Try.f9 Rows.valueFlagsRow.domain false) (Rows.valueFlagsSpec.post enc Try.prog Try.f9 false true false false) := by
  refine returnsInHanded_of_change (C := Try.checked) (by kernel_rfl : ownKnob Try.prog.godebug = none) started (by kernel_rfl) Try.func9
    (ChangeSpec.witness6 (enc := enc) (C := Try.checked) false ⟨#[], #[.int .u64 0, .int .u64 0, .agg #[.int .i64 0, .int .i64 0, .int .i64 0, .bool false, .string ByteArray.empty, .slice none 0 0, .slice none 0 0, .int .u64 0], .agg #[.int .i64 0, .int .i64 0, .int .i64 0, .bool false, .string ByteArray.empty, .slice none 0 0, .slice none 0 0, .int .u64 0]], []⟩ 8 (by kernel_rfl) (by kernel_rfl) (by kernel_rfl) (by kernel_rfl)) ?_
  intro W base args ds gs before hval0 hW hcnd _
  have hval : ∀ (j : Nat) t v, Try.f9.params[j]? = some t → args[j]? = some v → Value.okWide Try.prog W .any base t v := hval0
  have hW' := hW
  obtain ⟨p, q, hA0, hV, rfl, hfz, hnd⟩ := hW
  have hA : DataW.TrodAll enc Try.prog W 0 (fun _ => true) true Try.f9.params.toList args.toList ds p := hA0
  rw [Try.params9] at hA hval
  obtain ⟨v0, vs0, d0, ds0, p0, q0, hargs, rfl, rfl, h0, r0⟩ := trodAll_cons hA
  obtain ⟨v1, vs1, d1, ds1, p1, q1, rfl, rfl, rfl, h1, r1⟩ := trodAll_cons r0
  obtain ⟨v2, vs2, d2, ds2, p2, q2, rfl, rfl, rfl, h2, r2⟩ := trodAll_cons r1
  obtain ⟨v3, vs3, d3, ds3, p3, q3, rfl, rfl, rfl, h3, r3⟩ := trodAll_cons r2
  obtain ⟨rfl, rfl, rfl⟩ := trodAll_nil r3
  obtain rfl : args = #[v0, v1, v2, v3] := by cases args; simp_all
  obtain ⟨rfl, rfl⟩ := trodVars_none hV
  obtain ⟨a0, rfl, rfl, rfl, w0⟩ := open_int Try.underlying23 (hval 0 23 v0 rfl rfl) h0
  obtain ⟨a1, rfl, rfl, rfl, w1⟩ := open_int Try.underlying23 (hval 1 23 v1 rfl rfl) h1
  obtain ⟨F2, fl2, w2⟩ := open_va (hval 2 25 v2 rfl rfl) h2
  have lt2 : ∀ x ∈ p2, x.block < W.heap.size := fun x hx => by obtain ⟨fuel, hf⟩ := h2; exact DataW.trod_lt fuel _ _ _ hf x hx
  obtain ⟨F3, fl3, w3⟩ := open_va (hval 3 25 v3 rfl rfl) h3
  have lt3 : ∀ x ∈ p3, x.block < W.heap.size := fun x hx => by obtain ⟨fuel, hf⟩ := h3; exact DataW.trod_lt fuel _ _ _ hf x hx
  clear hA0 hval0
  simp only [List.append_nil] at hW'
  refine (valueFlags_walk a0 a1 F2 v2 F3 v3 w0 w1 w2 w3 W fl2 fl3).mono fun e W' ⟨he, bel⟩ => ?_
  subst he
  exact ⟨_, rfl, _, _, _, [], _, [], hW', trodAll_mk1 (shut_bool Try.underlying4 _), (trodAll_cons_mk (shut_int Try.underlying23 w0) (trodAll_cons_mk (shut_int Try.underlying23 w1) (trodAll_cons_mk (Below.trod (by kernel_rfl) (by kernel_rfl) (of_decide_eq_true (by kernel_rfl)) h2 bel lt2) (trodAll_cons_mk (Below.trod (by kernel_rfl) (by kernel_rfl) (of_decide_eq_true (by kernel_rfl)) h3 bel lt3) trodAll_mk0)))), rfl, bel.frame _, fun h => by cases h⟩
/-- THE STATEMENT. -/
theorem valueFlags_proved : Rows.ValueFlagsSaid :=
  OpenClaim.holds_of_wide 9 Try.f9 rfl rfl rfl rfl rfl rfl rfl ⟨rfl, rfl, rfl, rfl, rfl⟩ rfl rfl rfl rfl rfl (by kernel_rfl) Try.func9 (by kernel_rfl)
    (of_decide_eq_true (by kernel_rfl)) (by unfold Func.isWrapper; first | (rw [if_pos (by decide +kernel)]; kernel_rfl) | (rw [if_neg (by decide +kernel)]; exact ⟨rfl, rfl⟩))
    (fun os started H enc _ => valueFlags_lifted os started H enc)
#print axioms valueFlags_proved
end Go.Proofs.Ytnjlefciekcehaa
