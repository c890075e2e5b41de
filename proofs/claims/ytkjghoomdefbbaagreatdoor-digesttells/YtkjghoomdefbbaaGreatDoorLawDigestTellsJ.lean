/- The bucket of any name, the sums of any arena, where any sums differ, and the slots of any buckets, are just what the document says (digest.Bucket, Sums, Differ, In). -/
import Derived.Test.YtkjghoomdefbbaaGreatDoorPartH
import Derived.SizedLaws
import Derived.ProofKit
import Derived.OpenShut
import Derived.ShutString
import Derived.ChangeOld
import Derived.Below
set_option maxRecDepth 100000
set_option maxHeartbeats 8000000
namespace Go.Proofs.YtkjghoomdefbbaaGreatDoor
open Go.RowKit
open Go.ChangeShapes Go.WideShapes Go.ChangeAt Go.RowKit
open Go.ChangeMaps (open_string shut_string)
attribute [local irreducible] setN
theorem zns {f : FuncId} {vs : Array Value} {w : World} {r : Value} (h : Calls Tryz.prog f vs w fun e w' => e = .returned r ∧ Below w.heap.size w w') : Calls Tryz.prog f vs w fun e w' => ∃ x, e = .returned x ∧ isVal r x w' ∧ Below w.heap.size w w' := h.mono (by rintro e w' ⟨rfl, hb⟩; exact ⟨_, rfl, rfl, hb⟩)
theorem zoq (l : List En) (v u : Value) (w : World) (hv : isEns l v w) (hu : isEns l u w) (hl : l.length ≤ 1000) (fl : ∀ e ∈ l, FitE e) : Calls Tryz.prog 14 #[v, u] w fun e w' => e = .returned (.bool true) ∧ Below w.heap.size w w' := by
  have h := zvw l l v u w hv hu hl hl fl fl
  rwa [show decide (l = l) = true by simp] at h
theorem zgu1 (A : Ar) (m n : Int) (L : List En) (v : Value) (w : World) (hv : isAr A v w) (hF : FitA A) (hL : inA A m n = L) : Calls Tryz.prog 15 #[v, .int .i64 m, .int .i64 n] w fun e w' => ∃ x, e = .returned x ∧ isEns L x w' ∧ Below w.heap.size w w' := by subst hL; exact zde1 A m n v w hv hF
theorem zfl1 {A : Ar} (hF : FitA A) (m n : Int) : (inA A m n).length ≤ 1000 ∧ ∀ e ∈ inA A m n, FitE e := by
  have h1 := hF.slots
  have h2 := hF.ents
  unfold inA
  split
  · unfold inL
    refine ⟨?_, fun e he => h2 e (List.mem_filter.1 (List.mem_of_mem_take he)).1⟩
    have := List.length_filter_le (askB m) A.slots
    rw [List.length_take]; omega
  · exact ⟨by decide, fun e he => by cases he⟩
theorem zgk1 (A : Ar) (m n : Int) (L : List En) (v : Value) (w : World) (hv : isAr A v w) (hF : FitA A) (hL : inA A m n = L) : Calls Tryz.prog 16 #[v, .int .i64 m, .int .i64 n] w fun e w' => ∃ x, e = .returned x ∧ isEns L x w' ∧ Below w.heap.size w w' := by subst hL; exact zxg A m n v w hv hF
noncomputable def dtl1Ops : Array Oper := zat Tryz.f3 10
theorem zsb (Q : Exit → Act → World → Prop) (a0 : Act) (w0 : World) (hsz : a0.tmps.size = 75) (ga : Nat) (A : Ar) (vs vi : Value) (HA : CellsN w0 ga [.int .i64 A.cap, vs, vi]) (XA : isAr A (.agg #[.int .i64 A.cap, vs, vi]) w0) (hF : FitA A) (e7 : a0.tmps.getD 7 undef = .pointer (some ⟨ga, 0, none⟩)) (L : List En) (mk mo : Int) (hL : inA A mk mo = L) (hLn : L.length ≤ 1000) (fL : ∀ e ∈ L, FitE e) (e5 : a0.tmps.getD 5 undef = .int .i64 mk) (e6 : a0.tmps.getD 6 undef = .int .i64 mo)
    (hQ : ∀ (g : Nat → Value) (w : World), g 20 = .bool true → Below w0.heap.size w0 w → Q .normal { tmps := [42, 43, 44, 45, 46, 47, 48, 49, 50, 20].foldl (fun t s => t.setIfInBounds s (g s)) a0.tmps, defers := a0.defers } w) :
    (Code.region 10 dtl1Ops true).wp Tryz.prog Q a0 w0 := by
  refine zam mixed (by rw [hsz]; kernel_rfl) ?_
  rw [show dtl1Ops.size = 10 by kernel_rfl]
  refine ⟨isVal (.agg #[.int .i64 A.cap, vs, vi]), zax 25 (.tmp 7) (ga) [.int .i64 A.cap, vs, vi] (by kernel_rfl) (zaa (by kernel_rfl)) (zaf 7 (.pointer (some ⟨ga, 0, none⟩)) (by kernel_rfl) e7) zcs zfn (HA), ?_⟩
  refine ⟨isVal (.int .i64 mk), zag (.tmp 5) (by kernel_rfl) (zaa (by kernel_rfl)) (zad _) (zaf 5 (.int .i64 mk) (by kernel_rfl) e5), ?_⟩
  refine ⟨isVal (.int .i64 mo), zag (.tmp 6) (by kernel_rfl) (zaa (by kernel_rfl)) (zad _) (zaf 6 (.int .i64 mo) (by kernel_rfl) e6), ?_⟩
  refine ⟨(isEns L), zap 15 #[.tmp 42, .tmp 43, .tmp 44] #[25, 3, 3] #[.agg #[.int .i64 A.cap, vs, vi], .int .i64 mk, .int .i64 mo] (by kernel_rfl) (zaa (by kernel_rfl)) (zby _) (args3 (.tmp 42) (.tmp 43) (.tmp 44) (.agg #[.int .i64 A.cap, vs, vi]) (.int .i64 mk) (.int .i64 mo) (zab (V := isVal (.agg #[.int .i64 A.cap, vs, vi])) 42 0 (by kernel_rfl) (by kernel_rfl) (by kernel_rfl)) (zab (V := isVal (.int .i64 mk)) 43 1 (by kernel_rfl) (by kernel_rfl) (by kernel_rfl)) (zab (V := isVal (.int .i64 mo)) 44 2 (by kernel_rfl) (by kernel_rfl) (by kernel_rfl))) (enters_of Tryz.func15 (by kernel_rfl) rfl) (by intro w' hb; exact zgu1 A mk mo L _ w' (zbu _ _ _ _ XA hb) hF hL), ?_⟩
  refine ⟨isVal (.agg #[.int .i64 A.cap, vs, vi]), zax 25 (.tmp 7) (ga) [.int .i64 A.cap, vs, vi] (by kernel_rfl) (zaa (by kernel_rfl)) (zaf 7 (.pointer (some ⟨ga, 0, none⟩)) (by kernel_rfl) e7) zcs zfn (HA), ?_⟩
  refine ⟨isVal (.int .i64 mk), zag (.tmp 5) (by kernel_rfl) (zaa (by kernel_rfl)) (zad _) (zaf 5 (.int .i64 mk) (by kernel_rfl) e5), ?_⟩
  refine ⟨isVal (.int .i64 mo), zag (.tmp 6) (by kernel_rfl) (zaa (by kernel_rfl)) (zad _) (zaf 6 (.int .i64 mo) (by kernel_rfl) e6), ?_⟩
  refine ⟨(isEns L), zap 16 #[.tmp 46, .tmp 47, .tmp 48] #[25, 3, 3] #[.agg #[.int .i64 A.cap, vs, vi], .int .i64 mk, .int .i64 mo] (by kernel_rfl) (zaa (by kernel_rfl)) (zby _) (args3 (.tmp 46) (.tmp 47) (.tmp 48) (.agg #[.int .i64 A.cap, vs, vi]) (.int .i64 mk) (.int .i64 mo) (zab (V := isVal (.agg #[.int .i64 A.cap, vs, vi])) 46 4 (by kernel_rfl) (by kernel_rfl) (by kernel_rfl)) (zab (V := isVal (.int .i64 mk)) 47 5 (by kernel_rfl) (by kernel_rfl) (by kernel_rfl)) (zab (V := isVal (.int .i64 mo)) 48 6 (by kernel_rfl) (by kernel_rfl) (by kernel_rfl))) (enters_of Tryz.func16 (by kernel_rfl) rfl) (by intro w' hb; exact zgk1 A mk mo L _ w' (zbu _ _ _ _ XA hb) hF hL), ?_⟩
  refine ⟨isVal (.bool true), zeh 14 #[.tmp 45, .tmp 49] #[22, 22] (by kernel_rfl) (zaa (by kernel_rfl)) (zad _) (enters_of Tryz.func14 (by kernel_rfl) rfl) (fun vs w => ∃ u v, vs = #[u, v] ∧ isEns L u w ∧ isEns L v w) (pre2 (zab (V := (isEns L)) 45 3 (by kernel_rfl) (by kernel_rfl) (by kernel_rfl)) (zab (V := (isEns L)) 49 7 (by kernel_rfl) (by kernel_rfl) (by kernel_rfl))) (fun vs w' hb hp => by obtain ⟨u, v, rfl, h1, h2⟩ := hp; exact zns (zoq L _ _ w' h1 h2 hLn fL)), ?_⟩
  refine ⟨isVal (.bool true), zau (.tmp 50) (by kernel_rfl) (zaa (by kernel_rfl)) (zad _) (zab (V := isVal (.bool true)) 50 8 (by kernel_rfl) (by kernel_rfl) (by kernel_rfl)), ?_⟩
  intro a w hkp hb hd
  rw [zbg hkp [some 42, some 43, some 44, some 45, some 46, some 47, some 48, some 49, some 50, some 20] [42, 43, 44, 45, 46, 47, 48, 49, 50, 20] (by kernel_rfl) (by decide)]
  have d20 := zal (hd 9 (by rw [show dtl1Ops.size = 10 by kernel_rfl]; decide)) (t := 20) (V := isVal (.bool true)) (by kernel_rfl) (by kernel_rfl)
  exact hQ (fun s => a.tmps.getD s undef) w d20 hb
noncomputable def dtl2Ops : Array Oper := zat Tryz.f3 11
theorem zqn (Q : Exit → Act → World → Prop) (a0 : Act) (w0 : World) (hsz : a0.tmps.size = 75) (ga gs gx gy bk mm : Nat) (K : List UInt8) (kd s0 s1 s2 s3 x0 x1 x2 x3 y0 y1 y2 y3 : Int) (A : Ar) (vs vi : Value) (HA : CellsN w0 ga [.int .i64 A.cap, vs, vi]) (XA : isAr A (.agg #[.int .i64 A.cap, vs, vi]) w0) (hF : FitA A) (e7 : a0.tmps.getD 7 undef = .pointer (some ⟨ga, 0, none⟩)) (HS : CellsN w0 gs [.int .i64 s0, .int .i64 s1, .int .i64 s2, .int .i64 s3]) (HX : CellsN w0 gx [.int .i64 x0, .int .i64 x1, .int .i64 x2, .int .i64 x3]) (HY : CellsN w0 gy [.int .i64 y0, .int .i64 y1, .int .i64 y2, .int .i64 y3]) (hK : K.length ≤ 1000) (hbk : zcz kd K = bk) (hs4 : sumsV A = .agg #[.int .i64 s0, .int .i64 s1, .int .i64 s2, .int .i64 s3]) (hmm : dmk x0 x1 x2 x3 y0 y1 y2 y3 4 = mm) (e15 : a0.tmps.getD 15 undef = .bool true) (e1 : a0.tmps.getD 1 undef = .int .i64 kd) (e2 : a0.tmps.getD 2 undef = .string ⟨K.toArray⟩) (e17 : a0.tmps.getD 17 undef = .int .i64 (bk : Int)) (e18 : a0.tmps.getD 18 undef = .pointer (some ⟨gs, 0, none⟩)) (e10 : a0.tmps.getD 10 undef = .pointer (some ⟨gx, 0, none⟩)) (e11 : a0.tmps.getD 11 undef = .pointer (some ⟨gy, 0, none⟩)) (e19 : a0.tmps.getD 19 undef = .int .i64 (mm : Int)) (e20 : a0.tmps.getD 20 undef = .bool true)
    (hQ : ∀ (g : Nat → Value) (w : World), g 14 = .bool true → Below w0.heap.size w0 w → Q .normal { tmps := [51, 52, 53, 54, 55, 56, 57, 58, 59, 60, 61, 62, 63, 64, 65, 66, 67, 68, 69, 70, 71, 72, 73, 74, 14].foldl (fun t s => t.setIfInBounds s (g s)) a0.tmps, defers := a0.defers } w) :
    (Code.region 11 dtl2Ops true).wp Tryz.prog Q a0 w0 := by
  refine zam mixed (by rw [hsz]; kernel_rfl) ?_
  rw [show dtl2Ops.size = 25 by kernel_rfl]
  refine ⟨isVal (.bool true), zag (.tmp 15) (by kernel_rfl) (zaa (by kernel_rfl)) (zad _) (zaf 15 (.bool true) (by kernel_rfl) e15), ?_⟩
  refine ⟨isVal (.bool true), zag (.tmp 51) (by kernel_rfl) (zaa (by kernel_rfl)) (zad _) (zab (V := isVal (.bool true)) 51 0 (by kernel_rfl) (by kernel_rfl) (by kernel_rfl)), ?_⟩
  refine ⟨isVal (.int .i64 kd), zag (.tmp 1) (by kernel_rfl) (zae 1 52 true (by kernel_rfl) (by kernel_rfl) (by kernel_rfl) (by kernel_rfl)) (zad _) (zaf 1 (.int .i64 kd) (by kernel_rfl) e1), ?_⟩
  refine ⟨isVal (.string ⟨K.toArray⟩), zag (.tmp 2) (by kernel_rfl) (zae 1 52 true (by kernel_rfl) (by kernel_rfl) (by kernel_rfl) (by kernel_rfl)) (zad _) (zaf 2 (.string ⟨K.toArray⟩) (by kernel_rfl) e2), ?_⟩
  refine ⟨isVal (.int .i64 (bk : Int)), zap 17 #[.tmp 53, .tmp 54] #[3, 9] #[.int .i64 kd, .string ⟨K.toArray⟩] (by kernel_rfl) (zae 1 52 true (by kernel_rfl) (by kernel_rfl) (by kernel_rfl) (by kernel_rfl)) (zad _) (args2 (.tmp 53) (.tmp 54) (.int .i64 kd) (.string ⟨K.toArray⟩) (zab (V := isVal (.int .i64 kd)) 53 2 (by kernel_rfl) (by kernel_rfl) (by kernel_rfl)) (zab (V := isVal (.string ⟨K.toArray⟩)) 54 3 (by kernel_rfl) (by kernel_rfl) (by kernel_rfl))) (enters_of Tryz.func17 (by kernel_rfl) rfl) (by intro w' hb; exact zns (zzz kd K bk w' hK hbk)), ?_⟩
  refine ⟨isVal (.int .i64 (bk : Int)), zag (.tmp 17) (by kernel_rfl) (zae 1 52 true (by kernel_rfl) (by kernel_rfl) (by kernel_rfl) (by kernel_rfl)) (zad _) (zaf 17 (.int .i64 (bk : Int)) (by kernel_rfl) e17), ?_⟩
  refine ⟨isVal (.bool true), zas .eql 3 3 (.tmp 55) (.tmp 56) (.int .i64 (bk : Int)) (.int .i64 (bk : Int)) (.bool true) (by kernel_rfl) (zae 1 52 true (by kernel_rfl) (by kernel_rfl) (by kernel_rfl) (by kernel_rfl)) (zab (V := isVal (.int .i64 (bk : Int))) 55 4 (by kernel_rfl) (by kernel_rfl) (by kernel_rfl)) (zab (V := isVal (.int .i64 (bk : Int))) 56 5 (by kernel_rfl) (by kernel_rfl) (by kernel_rfl)) (fun _ => rfl) (zin _ _ (by omega)), ?_⟩
  refine ⟨isVal (.bool true), zaq (.tmp 52) (.tmp 57) (.const (.bool false)) true (by kernel_rfl) (zaa (by kernel_rfl)) (zad _) (zab (V := isVal (.bool true)) 52 1 (by kernel_rfl) (by kernel_rfl) (by kernel_rfl)) (zab (V := isVal (.bool true)) 57 6 (by kernel_rfl) (by kernel_rfl) (by kernel_rfl)), ?_⟩
  refine ⟨isVal (.bool true), zag (.tmp 58) (by kernel_rfl) (zaa (by kernel_rfl)) (zad _) (zab (V := isVal (.bool true)) 58 7 (by kernel_rfl) (by kernel_rfl) (by kernel_rfl)), ?_⟩
  refine ⟨isVal (.agg #[.int .i64 A.cap, vs, vi]), zax 25 (.tmp 7) (ga) [.int .i64 A.cap, vs, vi] (by kernel_rfl) (zae 8 59 true (by kernel_rfl) (by kernel_rfl) (by kernel_rfl) (by kernel_rfl)) (zaf 7 (.pointer (some ⟨ga, 0, none⟩)) (by kernel_rfl) e7) zcs zfn (HA), ?_⟩
  refine ⟨isVal (.agg #[.int .i64 s0, .int .i64 s1, .int .i64 s2, .int .i64 s3]), zap 18 #[.tmp 60] #[25] #[.agg #[.int .i64 A.cap, vs, vi]] (by kernel_rfl) (zae 8 59 true (by kernel_rfl) (by kernel_rfl) (by kernel_rfl) (by kernel_rfl)) (zad _) (args1 (.tmp 60) (.agg #[.int .i64 A.cap, vs, vi]) (zab (V := isVal (.agg #[.int .i64 A.cap, vs, vi])) 60 9 (by kernel_rfl) (by kernel_rfl) (by kernel_rfl))) (enters_of Tryz.func18 (by kernel_rfl) rfl) (by intro w' hb; exact zns (zdw1 A s0 s1 s2 s3 _ w' (zbu _ _ _ _ XA hb) hF hs4)), ?_⟩
  refine ⟨isVal (.agg #[.int .i64 s0, .int .i64 s1, .int .i64 s2, .int .i64 s3]), zax 26 (.tmp 18) (gs) [.int .i64 s0, .int .i64 s1, .int .i64 s2, .int .i64 s3] (by kernel_rfl) (zae 8 59 true (by kernel_rfl) (by kernel_rfl) (by kernel_rfl) (by kernel_rfl)) (zaf 18 (.pointer (some ⟨gs, 0, none⟩)) (by kernel_rfl) e18) zch zgo (HS), ?_⟩
  refine ⟨isVal (.bool true), zas .eql 26 26 (.tmp 61) (.tmp 62) (.agg #[.int .i64 s0, .int .i64 s1, .int .i64 s2, .int .i64 s3]) (.agg #[.int .i64 s0, .int .i64 s1, .int .i64 s2, .int .i64 s3]) (.bool true) (by kernel_rfl) (zae 8 59 true (by kernel_rfl) (by kernel_rfl) (by kernel_rfl) (by kernel_rfl)) (zab (V := isVal (.agg #[.int .i64 s0, .int .i64 s1, .int .i64 s2, .int .i64 s3])) 61 10 (by kernel_rfl) (by kernel_rfl) (by kernel_rfl)) (zab (V := isVal (.agg #[.int .i64 s0, .int .i64 s1, .int .i64 s2, .int .i64 s3])) 62 11 (by kernel_rfl) (by kernel_rfl) (by kernel_rfl)) (fun _ => rfl) (zgv1 s0 s1 s2 s3), ?_⟩
  refine ⟨isVal (.bool true), zaq (.tmp 59) (.tmp 63) (.const (.bool false)) true (by kernel_rfl) (zaa (by kernel_rfl)) (zad _) (zab (V := isVal (.bool true)) 59 8 (by kernel_rfl) (by kernel_rfl) (by kernel_rfl)) (zab (V := isVal (.bool true)) 63 12 (by kernel_rfl) (by kernel_rfl) (by kernel_rfl)), ?_⟩
  refine ⟨isVal (.bool true), zag (.tmp 64) (by kernel_rfl) (zaa (by kernel_rfl)) (zad _) (zab (V := isVal (.bool true)) 64 13 (by kernel_rfl) (by kernel_rfl) (by kernel_rfl)), ?_⟩
  refine ⟨isVal (.agg #[.int .i64 x0, .int .i64 x1, .int .i64 x2, .int .i64 x3]), zax 26 (.tmp 10) (gx) [.int .i64 x0, .int .i64 x1, .int .i64 x2, .int .i64 x3] (by kernel_rfl) (zae 14 65 true (by kernel_rfl) (by kernel_rfl) (by kernel_rfl) (by kernel_rfl)) (zaf 10 (.pointer (some ⟨gx, 0, none⟩)) (by kernel_rfl) e10) zch zgo (HX), ?_⟩
  refine ⟨isVal (.agg #[.int .i64 y0, .int .i64 y1, .int .i64 y2, .int .i64 y3]), zax 26 (.tmp 11) (gy) [.int .i64 y0, .int .i64 y1, .int .i64 y2, .int .i64 y3] (by kernel_rfl) (zae 14 65 true (by kernel_rfl) (by kernel_rfl) (by kernel_rfl) (by kernel_rfl)) (zaf 11 (.pointer (some ⟨gy, 0, none⟩)) (by kernel_rfl) e11) zch zgo (HY), ?_⟩
  refine ⟨isVal (.int .i64 (mm : Int)), zap 19 #[.tmp 66, .tmp 67] #[26, 26] #[.agg #[.int .i64 x0, .int .i64 x1, .int .i64 x2, .int .i64 x3], .agg #[.int .i64 y0, .int .i64 y1, .int .i64 y2, .int .i64 y3]] (by kernel_rfl) (zae 14 65 true (by kernel_rfl) (by kernel_rfl) (by kernel_rfl) (by kernel_rfl)) (zad _) (args2 (.tmp 66) (.tmp 67) (.agg #[.int .i64 x0, .int .i64 x1, .int .i64 x2, .int .i64 x3]) (.agg #[.int .i64 y0, .int .i64 y1, .int .i64 y2, .int .i64 y3]) (zab (V := isVal (.agg #[.int .i64 x0, .int .i64 x1, .int .i64 x2, .int .i64 x3])) 66 15 (by kernel_rfl) (by kernel_rfl) (by kernel_rfl)) (zab (V := isVal (.agg #[.int .i64 y0, .int .i64 y1, .int .i64 y2, .int .i64 y3])) 67 16 (by kernel_rfl) (by kernel_rfl) (by kernel_rfl))) (enters_of Tryz.func19 (by kernel_rfl) rfl) (by intro w' hb; exact zns (zyp x0 x1 x2 x3 y0 y1 y2 y3 mm w' hmm)), ?_⟩
  refine ⟨isVal (.int .i64 (mm : Int)), zag (.tmp 19) (by kernel_rfl) (zae 14 65 true (by kernel_rfl) (by kernel_rfl) (by kernel_rfl) (by kernel_rfl)) (zad _) (zaf 19 (.int .i64 (mm : Int)) (by kernel_rfl) e19), ?_⟩
  refine ⟨isVal (.bool true), zas .eql 3 3 (.tmp 68) (.tmp 69) (.int .i64 (mm : Int)) (.int .i64 (mm : Int)) (.bool true) (by kernel_rfl) (zae 14 65 true (by kernel_rfl) (by kernel_rfl) (by kernel_rfl) (by kernel_rfl)) (zab (V := isVal (.int .i64 (mm : Int))) 68 17 (by kernel_rfl) (by kernel_rfl) (by kernel_rfl)) (zab (V := isVal (.int .i64 (mm : Int))) 69 18 (by kernel_rfl) (by kernel_rfl) (by kernel_rfl)) (fun _ => rfl) (zin _ _ (by omega)), ?_⟩
  refine ⟨isVal (.bool true), zaq (.tmp 65) (.tmp 70) (.const (.bool false)) true (by kernel_rfl) (zaa (by kernel_rfl)) (zad _) (zab (V := isVal (.bool true)) 65 14 (by kernel_rfl) (by kernel_rfl) (by kernel_rfl)) (zab (V := isVal (.bool true)) 70 19 (by kernel_rfl) (by kernel_rfl) (by kernel_rfl)), ?_⟩
  refine ⟨isVal (.bool true), zag (.tmp 71) (by kernel_rfl) (zaa (by kernel_rfl)) (zad _) (zab (V := isVal (.bool true)) 71 20 (by kernel_rfl) (by kernel_rfl) (by kernel_rfl)), ?_⟩
  refine ⟨isVal (.bool true), zag (.tmp 20) (by kernel_rfl) (zae 21 72 true (by kernel_rfl) (by kernel_rfl) (by kernel_rfl) (by kernel_rfl)) (zad _) (zaf 20 (.bool true) (by kernel_rfl) e20), ?_⟩
  refine ⟨isVal (.bool true), zaq (.tmp 72) (.tmp 73) (.const (.bool false)) true (by kernel_rfl) (zaa (by kernel_rfl)) (zad _) (zab (V := isVal (.bool true)) 72 21 (by kernel_rfl) (by kernel_rfl) (by kernel_rfl)) (zab (V := isVal (.bool true)) 73 22 (by kernel_rfl) (by kernel_rfl) (by kernel_rfl)), ?_⟩
  refine ⟨isVal (.bool true), zau (.tmp 74) (by kernel_rfl) (zaa (by kernel_rfl)) (zad _) (zab (V := isVal (.bool true)) 74 23 (by kernel_rfl) (by kernel_rfl) (by kernel_rfl)), ?_⟩
  intro a w hkp hb hd
  rw [zbg hkp [some 51, some 52, some 53, some 54, some 55, some 56, some 57, some 58, some 59, some 60, some 61, some 62, some 63, some 64, some 65, some 66, some 67, some 68, some 69, some 70, some 71, some 72, some 73, some 74, some 14] [51, 52, 53, 54, 55, 56, 57, 58, 59, 60, 61, 62, 63, 64, 65, 66, 67, 68, 69, 70, 71, 72, 73, 74, 14] (by kernel_rfl) (by decide)]
  have d14 := zal (hd 24 (by rw [show dtl2Ops.size = 25 by kernel_rfl]; decide)) (t := 14) (V := isVal (.bool true)) (by kernel_rfl) (by kernel_rfl)
  exact hQ (fun s => a.tmps.getD s undef) w d14 hb
theorem zjd (F0 : Ar) (v0 : Value) (a1 : Int) (a2 : ByteArray) (a3_0 a3_1 a3_2 a3_3 a4_0 a4_1 a4_2 a4_3 a5 a6 : Int) (w0 : CameA F0) (w1 : (Lit.int .i64 a1).wf = true) (w2 : a2.size ≤ maxLen) (w3_0 : (Lit.int .i64 a3_0).wf = true) (w3_1 : (Lit.int .i64 a3_1).wf = true) (w3_2 : (Lit.int .i64 a3_2).wf = true) (w3_3 : (Lit.int .i64 a3_3).wf = true) (w4_0 : (Lit.int .i64 a4_0).wf = true) (w4_1 : (Lit.int .i64 a4_1).wf = true) (w4_2 : (Lit.int .i64 a4_2).wf = true) (w4_3 : (Lit.int .i64 a4_3).wf = true) (w5 : (Lit.int .i64 a5).wf = true) (w6 : (Lit.int .i64 a6).wf = true) (w : World) (fl0 : isAr F0 v0 w) :
    Calls Tryz.prog 3 #[v0, .int .i64 a1, .string a2, .agg #[.int .i64 a3_0, .int .i64 a3_1, .int .i64 a3_2, .int .i64 a3_3], .agg #[.int .i64 a4_0, .int .i64 a4_1, .int .i64 a4_2, .int .i64 a4_3], .int .i64 a5, .int .i64 a6] w fun e w' => e = .returned (.bool true) ∧ Below w.heap.size w w' := by
  rw [zqm a2]
  generalize a2.data.toList = K
  obtain ⟨pa, ma, rfl, hpa, hma⟩ := fl0
  obtain ⟨hB, Va⟩ := abox w F0 pa ma hpa hma (w.heap.size) (by simp)
  clear hpa hma
  have hBn := Kept.mk (zar (w.alloc (.cells #[.int .i64 F0.cap, pa, ma] 25)) (.cells #[.int .i64 a3_0, .int .i64 a3_1, .int .i64 a3_2, .int .i64 a3_3] 26))
  have Vx := Kept.mk (Blk.new (w.alloc (.cells #[.int .i64 F0.cap, pa, ma] 25)) 26 [.int .i64 a3_0, .int .i64 a3_1, .int .i64 a3_2, .int .i64 a3_3] (w.heap.size + 1) (by simp))
  replace Va := Kept.mk (Va.out.keep hBn.out)
  replace hB := Kept.mk (hB.out.trans (hBn.out.mono hB.out.size))
  clear hBn
  have hBn := Kept.mk (zar ((w.alloc (.cells #[.int .i64 F0.cap, pa, ma] 25)).alloc (.cells #[.int .i64 a3_0, .int .i64 a3_1, .int .i64 a3_2, .int .i64 a3_3] 26)) (.cells #[.int .i64 a4_0, .int .i64 a4_1, .int .i64 a4_2, .int .i64 a4_3] 26))
  have Vy := Kept.mk (Blk.new ((w.alloc (.cells #[.int .i64 F0.cap, pa, ma] 25)).alloc (.cells #[.int .i64 a3_0, .int .i64 a3_1, .int .i64 a3_2, .int .i64 a3_3] 26)) 26 [.int .i64 a4_0, .int .i64 a4_1, .int .i64 a4_2, .int .i64 a4_3] (w.heap.size + 2) (by simp))
  replace Va := Kept.mk (Va.out.keep hBn.out)
  replace Vx := Kept.mk (Vx.out.keep hBn.out)
  replace hB := Kept.mk (hB.out.trans (hBn.out.mono hB.out.size))
  clear hBn
  go_enter Tryz.func3, Tryz.ntmps3
  go_wp2_with fail
  generalize (((w.alloc (.cells #[.int .i64 F0.cap, pa, ma] 25)).alloc (.cells #[.int .i64 a3_0, .int .i64 a3_1, .int .i64 a3_2, .int .i64 a3_3] 26)).alloc (.cells #[.int .i64 a4_0, .int .i64 a4_1, .int .i64 a4_2, .int .i64 a4_3] 26)) = W0 at *
  ((with_reducible refine (zqs _).mono ?_); rintro e W1 ⟨rfl, hb1⟩)
  replace hB := Kept.mk (hB.out.trans ((hb1).mono hB.out.size))
  replace Va := Kept.mk (Va.out.keep (hb1))
  replace Vx := Kept.mk (Vx.out.keep (hb1))
  replace Vy := Kept.mk (Vy.out.keep (hb1))
  clear hb1
  obtain ⟨qa, ra, xa, sa, ia, ka0, ka1, ka2⟩ := Va.out.open_
  have Xa := Kept.mk xa
  have Sa := Kept.mk sa
  have Ia := Kept.mk ia
  clear xa sa ia
  go_wp2_with fail
  ((with_reducible refine (zao1 F0 _ _ Xa.out (CameA.keys w0) w0.slots w0.index).mono ?_); rintro e W2 ⟨rfl, hb1⟩)
  clear Xa Sa Ia ka0 ka1 ka2
  replace hB := Kept.mk (hB.out.trans ((hb1).mono hB.out.size))
  replace Va := Kept.mk (Va.out.keep (hb1))
  replace Vx := Kept.mk (Vx.out.keep (hb1))
  replace Vy := Kept.mk (Vy.out.keep (hb1))
  clear hb1
  cases fa : fewA F0 with
  | false =>
    go_wp2
    all_goals go_ret
    all_goals exact ⟨rfl, hB.out⟩
  | true =>
    have FFa := Kept.mk (zbg1 fa)
    have KFa := Kept.mk fa
    clear fa
    by_cases h0 : 100 < K.length
    · skip
      have c0 : decide (100 < (K.length : Int)) = true := by simp; omega
      go_wp2
      all_goals go_ret
      all_goals exact ⟨rfl, hB.out⟩
    · skip
      have c0 : decide (100 < (K.length : Int)) = false := by simp; omega
      have g0 : K.length ≤ 1000 := by omega
      obtain ⟨bk, hbk⟩ : ∃ n, zcz a1 K = n := ⟨_, rfl⟩
      obtain ⟨s0, s1, s2, s3, hs4⟩ : ∃ a b c d : Int, sumsV F0 = .agg #[.int .i64 a, .int .i64 b, .int .i64 c, .int .i64 d] := ⟨_, _, _, _, rfl⟩
      obtain ⟨mm, hmm⟩ : ∃ n, dmk a3_0 a3_1 a3_2 a3_3 a4_0 a4_1 a4_2 a4_3 4 = n := ⟨_, rfl⟩
      obtain ⟨L, hL⟩ : ∃ l, inA F0 a5 a6 = l := ⟨_, rfl⟩
      have LF := Kept.mk (show L.length ≤ 1000 ∧ ∀ e ∈ L, FitE e by rw [← hL]; exact zfl1 FFa.out a5 a6)
      have Hbk := Kept.mk hbk
      have Hs4 := Kept.mk hs4
      have Hmm := Kept.mk hmm
      have HL := Kept.mk hL
      clear hbk hs4 hmm hL h0
      go_wp2_with fail
      ((with_reducible refine (zul a1 K bk _ g0 Hbk.out).mono ?_); rintro e W3 ⟨rfl, hb1⟩)
      replace hB := Kept.mk (hB.out.trans ((hb1).mono hB.out.size))
      replace Va := Kept.mk (Va.out.keep (hb1))
      replace Vx := Kept.mk (Vx.out.keep (hb1))
      replace Vy := Kept.mk (Vy.out.keep (hb1))
      clear hb1
      obtain ⟨qa, ra, xa, sa, ia, ka0, ka1, ka2⟩ := Va.out.open_
      have Xa := Kept.mk xa
      have Sa := Kept.mk sa
      have Ia := Kept.mk ia
      clear xa sa ia
      go_wp2_with fail
      ((with_reducible refine (zax1 F0 s0 s1 s2 s3 _ _ Xa.out FFa.out Hs4.out).mono ?_); rintro e U ⟨rfl, hb1⟩)
      obtain ⟨K1, K2, K3, K4, K5⟩ := snew U (s0) (s1) (s2) (s3) U.heap.size rfl
      clear Xa Sa Ia ka0 ka1 ka2
      replace hB := Kept.mk (hB.out.trans ((hb1).mono hB.out.size))
      replace Va := Kept.mk (Va.out.keep (hb1))
      replace Vx := Kept.mk (Vx.out.keep (hb1))
      replace Vy := Kept.mk (Vy.out.keep (hb1))
      clear hb1
      go_wp2_with (have hz0 := K1; refine zao 26 rfl (.tmp 18) (.tmp 38) rfl U.heap.size [.int .i64 s0, .int .i64 s1, .int .i64 s2, .int .i64 s3] zch rfl rfl K1.out rfl K2.out K5.out ?_; replace hB := Kept.mk (hB.out.trans ((K3.out).mono hB.out.size)); replace Va := Kept.mk (Va.out.keep (K3.out)); replace Vx := Kept.mk (Vx.out.keep (K3.out)); replace Vy := Kept.mk (Vy.out.keep (K3.out)); have Vs := Kept.mk K4.out; clear hz0 K1 K2 K3 K4 K5; generalize setN (U.alloc (.cells #[.int .i64 0, .int .i64 0, .int .i64 0, .int .i64 0] 26)) U.heap.size 0 [.int .i64 s0, .int .i64 s1, .int .i64 s2, .int .i64 s3] = W4 at *; generalize U.heap.size = gs at *; have kx0 := Vx.out.cells.2 0 _ rfl; have kx1 := Vx.out.cells.2 1 _ rfl; have kx2 := Vx.out.cells.2 2 _ rfl; have kx3 := Vx.out.cells.2 3 _ rfl; have ky0 := Vy.out.cells.2 0 _ rfl; have ky1 := Vy.out.cells.2 1 _ rfl; have ky2 := Vy.out.cells.2 2 _ rfl; have ky3 := Vy.out.cells.2 3 _ rfl)
      ((with_reducible refine (zwd a3_0 a3_1 a3_2 a3_3 a4_0 a4_1 a4_2 a4_3 mm _ Hmm.out).mono ?_); rintro e W5 ⟨rfl, hb1⟩)
      clear kx0 kx1 kx2 kx3
      clear ky0 ky1 ky2 ky3
      replace hB := Kept.mk (hB.out.trans ((hb1).mono hB.out.size))
      replace Va := Kept.mk (Va.out.keep (hb1))
      replace Vx := Kept.mk (Vx.out.keep (hb1))
      replace Vy := Kept.mk (Vy.out.keep (hb1))
      replace Vs := Kept.mk (Vs.out.keep (hb1))
      clear hb1
      go_wp2_with fail
      obtain ⟨qa, ra, ca, sa, ia⟩ := Va.out
      refine zsb _ _ _ rfl w.heap.size F0 qa ra ca ⟨_, _, rfl, sa, ia⟩ FFa.out rfl L a5 a6 HL.out LF.out.1 LF.out.2 rfl rfl ?_
      intro f9 W9 d20 hb1
      simp only [List.foldl_cons, List.foldl_nil, d20]
      generalize f9 42 = y42
      generalize f9 43 = y43
      generalize f9 44 = y44
      generalize f9 45 = y45
      generalize f9 46 = y46
      generalize f9 47 = y47
      generalize f9 48 = y48
      generalize f9 49 = y49
      generalize f9 50 = y50
      clear d20
      try simp only [List.setIfInBounds_toArray, List.set_cons_succ, List.set_cons_zero]
      clear ca sa ia
      replace hB := Kept.mk (hB.out.trans ((hb1).mono hB.out.size))
      replace Va := Kept.mk (Va.out.keep (hb1))
      replace Vx := Kept.mk (Vx.out.keep (hb1))
      replace Vy := Kept.mk (Vy.out.keep (hb1))
      replace Vs := Kept.mk (Vs.out.keep (hb1))
      clear hb1
      go_wp2_with fail
      obtain ⟨qb, rb, cb, sb, ib⟩ := Va.out
      refine zqn _ _ _ rfl w.heap.size gs (w.heap.size + 1) (w.heap.size + 1 + 1) bk mm K a1 s0 s1 s2 s3 a3_0 a3_1 a3_2 a3_3 a4_0 a4_1 a4_2 a4_3 F0 qb rb cb ⟨_, _, rfl, sb, ib⟩ FFa.out rfl Vs.out.cells Vx.out.cells Vy.out.cells g0 Hbk.out Hs4.out Hmm.out rfl rfl rfl rfl rfl rfl rfl rfl rfl ?_
      intro f9 W9 d14 hb1
      simp only [List.foldl_cons, List.foldl_nil, d14]
      generalize f9 51 = y51
      generalize f9 52 = y52
      generalize f9 53 = y53
      generalize f9 54 = y54
      generalize f9 55 = y55
      generalize f9 56 = y56
      generalize f9 57 = y57
      generalize f9 58 = y58
      generalize f9 59 = y59
      generalize f9 60 = y60
      generalize f9 61 = y61
      generalize f9 62 = y62
      generalize f9 63 = y63
      generalize f9 64 = y64
      generalize f9 65 = y65
      generalize f9 66 = y66
      generalize f9 67 = y67
      generalize f9 68 = y68
      generalize f9 69 = y69
      generalize f9 70 = y70
      generalize f9 71 = y71
      generalize f9 72 = y72
      generalize f9 73 = y73
      generalize f9 74 = y74
      clear d14
      try simp only [List.setIfInBounds_toArray, List.set_cons_succ, List.set_cons_zero]
      clear cb sb ib
      replace hB := Kept.mk (hB.out.trans ((hb1).mono hB.out.size))
      replace Va := Kept.mk (Va.out.keep (hb1))
      replace Vx := Kept.mk (Vx.out.keep (hb1))
      replace Vy := Kept.mk (Vy.out.keep (hb1))
      replace Vs := Kept.mk (Vs.out.keep (hb1))
      clear hb1
      go_wp2
      all_goals go_ret
      all_goals exact ⟨rfl, hB.out⟩
theorem zhg (os : Os) (started : os.Started) (H : Type) (enc : TypeId × Value → H) :
    ReturnsInHanded {} Tryz.checked os 3 .any (Rows.digestTellsSpec.pre6 enc Tryz.prog Tryz.f3 Rows.digestTellsRow.domain false) (Rows.digestTellsSpec.post enc Tryz.prog Tryz.f3 false true false false) := by
  refine returnsInHanded_of_change (C := Tryz.checked) (by kernel_rfl : ownKnob Tryz.prog.godebug = none) started (by kernel_rfl) Tryz.func3
    (ChangeSpec.witness6 (enc := enc) (C := Tryz.checked) false ⟨#[], #[.agg #[.int .i64 0, .slice none 0 0, .slice none 0 0], .int .i64 0, .string ByteArray.empty, .agg #[.int .i64 0, .int .i64 0, .int .i64 0, .int .i64 0], .agg #[.int .i64 0, .int .i64 0, .int .i64 0, .int .i64 0], .int .i64 0, .int .i64 0], []⟩ 8 (by kernel_rfl) (by kernel_rfl) (by kernel_rfl) (by kernel_rfl)) ?_
  intro W base args ds gs before hval0 hW hcnd _
  have hval : ∀ (j : Nat) t v, Tryz.f3.params[j]? = some t → args[j]? = some v → Value.okWide Tryz.prog W .any base t v := hval0
  have hW' := hW
  obtain ⟨p, q, hA0, hV, rfl, hfz, hnd⟩ := hW
  have hA : DataW.TrodAll enc Tryz.prog W 0 (fun _ => true) true Tryz.f3.params.toList args.toList ds p := hA0
  rw [Tryz.params3] at hA hval
  obtain ⟨v0, vs0, d0, ds0, p0, q0, hargs, rfl, rfl, h0, r0⟩ := trodAll_cons hA
  obtain ⟨v1, vs1, d1, ds1, p1, q1, rfl, rfl, rfl, h1, r1⟩ := trodAll_cons r0
  obtain ⟨v2, vs2, d2, ds2, p2, q2, rfl, rfl, rfl, h2, r2⟩ := trodAll_cons r1
  obtain ⟨v3, vs3, d3, ds3, p3, q3, rfl, rfl, rfl, h3, r3⟩ := trodAll_cons r2
  obtain ⟨v4, vs4, d4, ds4, p4, q4, rfl, rfl, rfl, h4, r4⟩ := trodAll_cons r3
  obtain ⟨v5, vs5, d5, ds5, p5, q5, rfl, rfl, rfl, h5, r5⟩ := trodAll_cons r4
  obtain ⟨v6, vs6, d6, ds6, p6, q6, rfl, rfl, rfl, h6, r6⟩ := trodAll_cons r5
  obtain ⟨rfl, rfl, rfl⟩ := trodAll_nil r6
  obtain rfl : args = #[v0, v1, v2, v3, v4, v5, v6] := by cases args; simp_all
  obtain ⟨rfl, rfl⟩ := trodVars_none hV
  obtain ⟨F0, fl0, w0⟩ := zer1 (hval 0 25 v0 rfl rfl) h0
  have lt0 : ∀ x ∈ p0, x.block < W.heap.size := fun x hx => by obtain ⟨fuel, hf⟩ := h0; exact DataW.trod_lt fuel _ _ _ hf x hx
  obtain ⟨a1, rfl, rfl, rfl, w1⟩ := open_int Tryz.underlying3 (hval 1 3 v1 rfl rfl) h1
  obtain ⟨a2, rfl, rfl, rfl, w2⟩ := open_string Tryz.underlying9 (hval 2 9 v2 rfl rfl) h2
  obtain ⟨a3_0, a3_1, a3_2, a3_3, rfl, rfl, rfl, w3_0, w3_1, w3_2, w3_3⟩ := zxk Tryz.underlying26 Tryz.underlying3 (by kernel_rfl) (by kernel_rfl) (hval 3 26 v3 rfl rfl) h3
  obtain ⟨a4_0, a4_1, a4_2, a4_3, rfl, rfl, rfl, w4_0, w4_1, w4_2, w4_3⟩ := zxk Tryz.underlying26 Tryz.underlying3 (by kernel_rfl) (by kernel_rfl) (hval 4 26 v4 rfl rfl) h4
  obtain ⟨a5, rfl, rfl, rfl, w5⟩ := open_int Tryz.underlying3 (hval 5 3 v5 rfl rfl) h5
  obtain ⟨a6, rfl, rfl, rfl, w6⟩ := open_int Tryz.underlying3 (hval 6 3 v6 rfl rfl) h6
  clear hA0 hval0
  simp only [List.append_nil] at hW'
  refine (zjd F0 v0 a1 a2 a3_0 a3_1 a3_2 a3_3 a4_0 a4_1 a4_2 a4_3 a5 a6 w0 w1 w2 w3_0 w3_1 w3_2 w3_3 w4_0 w4_1 w4_2 w4_3 w5 w6 W fl0).mono fun e W' ⟨he, bel⟩ => ?_
  subst he
  exact ⟨_, rfl, _, _, _, [], _, [], hW', trodAll_mk1 (shut_bool Tryz.underlying4 _), (trodAll_cons_mk (Below.trod (by kernel_rfl) (by kernel_rfl) (of_decide_eq_true (by kernel_rfl)) h0 bel lt0) (trodAll_cons_mk (shut_int Tryz.underlying3 w1) (trodAll_cons_mk (shut_string Tryz.underlying9 w2) (trodAll_cons_mk (zyt Tryz.underlying26 Tryz.underlying3 (by kernel_rfl) (by kernel_rfl) w3_0 w3_1 w3_2 w3_3) (trodAll_cons_mk (zyt Tryz.underlying26 Tryz.underlying3 (by kernel_rfl) (by kernel_rfl) w4_0 w4_1 w4_2 w4_3) (trodAll_cons_mk (shut_int Tryz.underlying3 w5) (trodAll_cons_mk (shut_int Tryz.underlying3 w6) trodAll_mk0))))))), rfl, bel.frame _, fun h => by cases h⟩
theorem digestTells_proved : Rows.DigestTellsSaid :=
  OpenClaim.holds_of_wide 3 Tryz.f3 rfl rfl rfl rfl rfl rfl rfl ⟨rfl, rfl, rfl, rfl, rfl⟩ rfl rfl rfl rfl rfl (by kernel_rfl) Tryz.func3 (by kernel_rfl)
    (of_decide_eq_true (by kernel_rfl)) (by unfold Func.isWrapper; first | (rw [if_pos (by decide +kernel)]; kernel_rfl) | (rw [if_neg (by decide +kernel)]; exact ⟨rfl, rfl⟩))
    (fun os started H enc _ => zhg os started H enc)
#print axioms digestTells_proved
end Go.Proofs.YtkjghoomdefbbaaGreatDoor
