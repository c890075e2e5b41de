/- Joined texts: contracts of the program's functions, and the mathematics that they lean on. -/
import Derived.Test.YtebjljiklacolaaGreatPartE
section
namespace Go.Proofs.YtebjljiklacolaaGreat
open Go.RowKit
set_option linter.unusedVariables false
set_option linter.unusedSimpArgs false
attribute [local irreducible] setN

theorem layR (w : World) (l : List Value) (hl : l.length = 8) (n m : Nat) (hn : n = w.heap.size) (hm : m = w.heap.size + 1) :
    Kept (Blk ((w.alloc (.cells #[.string ⟨#[]⟩, .int .i64 0, .int .i64 0, .int .i64 0, .bool false, .string ⟨#[]⟩, .slice none 0 0, .slice none 0 0, .int .u64 0] 27)).alloc (.cells #[.int .i64 0, .int .i64 0, .int .i64 0, .bool false, .string ⟨#[]⟩, .slice none 0 0, .slice none 0 0, .int .u64 0] 25)) m [.int .i64 0, .int .i64 0, .int .i64 0, .bool false, .string ⟨#[]⟩, .slice none 0 0, .slice none 0 0, .int .u64 0]) ∧ Kept (Below w.heap.size w (setN ((w.alloc (.cells #[.string ⟨#[]⟩, .int .i64 0, .int .i64 0, .int .i64 0, .bool false, .string ⟨#[]⟩, .slice none 0 0, .slice none 0 0, .int .u64 0] 27)).alloc (.cells #[.int .i64 0, .int .i64 0, .int .i64 0, .bool false, .string ⟨#[]⟩, .slice none 0 0, .slice none 0 0, .int .u64 0] 25)) m 0 l)) ∧ Kept (Blk (setN ((w.alloc (.cells #[.string ⟨#[]⟩, .int .i64 0, .int .i64 0, .int .i64 0, .bool false, .string ⟨#[]⟩, .slice none 0 0, .slice none 0 0, .int .u64 0] 27)).alloc (.cells #[.int .i64 0, .int .i64 0, .int .i64 0, .bool false, .string ⟨#[]⟩, .slice none 0 0, .slice none 0 0, .int .u64 0] 25)) m 0 l) n [.string ⟨#[]⟩, .int .i64 0, .int .i64 0, .int .i64 0, .bool false, .string ⟨#[]⟩, .slice none 0 0, .slice none 0 0, .int .u64 0]) ∧ Kept (Blk (setN ((w.alloc (.cells #[.string ⟨#[]⟩, .int .i64 0, .int .i64 0, .int .i64 0, .bool false, .string ⟨#[]⟩, .slice none 0 0, .slice none 0 0, .int .u64 0] 27)).alloc (.cells #[.int .i64 0, .int .i64 0, .int .i64 0, .bool false, .string ⟨#[]⟩, .slice none 0 0, .slice none 0 0, .int .u64 0] 25)) m 0 l) m l) := by
  subst hn hm
  have b1 := Blk.new w 27 [.string ⟨#[]⟩, .int .i64 0, .int .i64 0, .int .i64 0, .bool false, .string ⟨#[]⟩, .slice none 0 0, .slice none 0 0, .int .u64 0] w.heap.size rfl
  have b2 := Blk.new (w.alloc (.cells #[.string ⟨#[]⟩, .int .i64 0, .int .i64 0, .int .i64 0, .bool false, .string ⟨#[]⟩, .slice none 0 0, .slice none 0 0, .int .u64 0] 27)) 25 [.int .i64 0, .int .i64 0, .int .i64 0, .bool false, .string ⟨#[]⟩, .slice none 0 0, .slice none 0 0, .int .u64 0] (w.heap.size + 1) (by simp)
  exact ⟨⟨b2⟩, ⟨below_setN (by omega) l 0 _ (((Below.refl _ w).alloc (Nat.le_refl _) _).alloc (by simp) _)⟩, ⟨(b1.alloc _).apartN (by omega) 0 l⟩, ⟨b2.all_ hl.symm⟩⟩
theorem setR {w W : World} {r v : Nat} {cr cv : List Value} (HB : Kept (Below w.heap.size w W)) (HR : Kept (Blk W r cr)) (HV : Kept (Blk W v cv)) (k : Nat) (y : Value) (hk : k < cv.length) (hw : w.heap.size ≤ v) (hr : r ≠ v) : Kept (Below w.heap.size w (W.setCell ⟨v, k, none⟩ y)) ∧ Kept (Blk (W.setCell ⟨v, k, none⟩ y) r cr) ∧ Kept (Blk (W.setCell ⟨v, k, none⟩ y) v (cv.set k y)) :=
  ⟨⟨HB.out.setCell (p := ⟨v, k, none⟩) hw y⟩, ⟨HR.out.apart hr k y⟩, ⟨HV.out.set k y hk⟩⟩
section
variable {P : Program} {ops : Array Oper} {base : World} {a0 : Act} {Q : Exit → Act → World → Prop} {kn : Nat → VP} {i : Nat} {V : VP}
theorem step_min (k : IntKind) (t1 t2 : TypeId) (x y : Operand) (m n r : Int) (hop : (ops[i]?).map (·.op) = some (.call { callee := .builtin .min, args := #[x, y], argTypes := #[t1, t2] })) (hw : Wanted ops a0 kn i) (hx : Knows ops a0 kn i x (isVal (.int k m))) (hy : Knows ops a0 kn i y (isVal (.int k n)))
    (hr : (if n < m then n else m) = r) : FStep P ops base a0 Q kn i (isVal (.int k r)) :=
  step_pure _ hop hw fun o a w ho hk hd => by
    have e1 : a.eval x = .int k m := hx a w hk hd
    have e2 : a.eval y = .int k n := hy a w hk hd
    unfold execOp
    rw [ho]
    simp only [resolve, Sem.run_bind, Sem.run_pure, Result.andThen_ok, invoke, builtin, List.map_toArray, List.map_cons, List.map_nil, e1, e2, Builtin.min_, List.foldlM, Builtin.min2, hr]
theorem step_mid (t : TypeId) (x : Operand) (c : Value) (y : Operand) (v u r : Value) (hop : (ops[i]?).map (·.op) = some (.slice t x (some (.const c)) (some y) none)) (hw : Wanted ops a0 kn i) (hx : Knows ops a0 kn i x (isVal v)) (hy : Knows ops a0 kn i y (isVal u))
    (hr : ∀ w, (Instr.sliceAt t v (some c) (some u) none).run P w = .ok r w) : FStep P ops base a0 Q kn i (isVal r) :=
  step_pure r hop hw fun o a w ho hk hd => by
    have e1 : a.eval x = v := hx a w hk hd
    have e2 : a.eval y = u := hy a w hk hd
    have e3 : a.eval (.const c) = c := rfl
    unfold execOp
    rw [ho]
    simp only [e1, e2, e3, Sem.run_bind, Option.map_none, Option.map_some, hr, Result.andThen_ok, Sem.run_pure]
theorem step_buildE (t : TypeId) (x y : Operand) (v u : Value) (cs : Array Value) (hop : (ops[i]?).map (·.op) = some (.build t #[(0, x), (1, y)])) (hw : Wanted ops a0 kn i) (hx : Knows ops a0 kn i x (isVal v)) (hy : Knows ops a0 kn i y (isVal u))
    (hb : P.built t [(0, v), (1, u)] = some cs) : FStep P ops base a0 Q kn i (isVal (.agg cs)) :=
  step_buildP t #[(0, x), (1, y)] hop hw (stable_val _) fun a w hk hd => ⟨cs, by
    have e1 : a.eval x = v := hx a w hk hd
    have e2 : a.eval y = u := hy a w hk hd
    simp only [List.map_toArray, List.map_cons, List.map_nil, e1, e2]
    exact hb, rfl⟩
end
theorem add_two (t : TypeId) (a m : Nat) (h : a + m ≤ 1000000) (w : World) : (binOp .add t (.int .i64 (a : Int)) (.int .i64 (m : Int))).run Tryz.prog w = .ok (.int .i64 ((a + m : Nat) : Int)) w := by
  simp [go_sem]
  rw [IntKind.wrap_i64]
  omega
theorem mid_at (l : List UInt8) (lo m : Nat) (h : lo + m ≤ l.length) (w : World) : (Instr.sliceAt 9 (.string ⟨l.toArray⟩) (some (.int .i64 (lo : Int))) (some (.int .i64 ((lo + m : Nat) : Int))) none).run Tryz.prog w = .ok (.string ⟨((l.drop lo).take m).toArray⟩) w := by
  rw [run_sliceAt_string _ _ _ _ _ _ Tryz.underlying9, run_slice_string _ _ _ _ _ _ _ Tryz.underlying9 (by omega) (by omega) (by rw [size_mk]; omega)]
  congr 2
  apply ByteArray.ext
  apply Array.toList_inj.1
  rw [ByteArray.data_extract, Array.toList_extract, List.extract_eq_take_drop]
  simp
  omega
theorem mid_ext (l : List UInt8) (lo m : Nat) (h : lo + m ≤ l.length) : (⟨l.toArray⟩ : ByteArray).extract lo (lo + m) = ⟨((l.drop lo).take m).toArray⟩ := by
  apply ByteArray.ext
  apply Array.toList_inj.1
  rw [ByteArray.data_extract, Array.toList_extract, List.extract_eq_take_drop]
  simp
theorem built_en (key text : ByteArray) (k t n : Int) (d : Bool) (a a2 : Option Addr) (n1 c1 n2 c2 : Nat) (f : Int) : Tryz.prog.built 27 [(0, .string key), (1, .agg #[.int .i64 k, .int .i64 t, .int .i64 n, .bool d, .string text, .slice a n1 c1, .slice a2 n2 c2, .int .u64 f])] = some #[.string key, .int .i64 k, .int .i64 t, .int .i64 n, .bool d, .string text, .slice a n1 c1, .slice a2 n2 c2, .int .u64 f] := by kernel_rfl
def keyR (s : List UInt8) : List UInt8 := (s.drop 2).take (min (atN s 1 1) 8)
noncomputable def rrkOps : Array Oper := regionOf Tryz.f36 12
set_option maxRecDepth 100000 in
set_option maxHeartbeats 4000000 in
theorem rrk_region (Q : Exit → Act → World → Prop) (a0 : Act) (w0 : World) (hsz : a0.tmps.size = 56) (s : List UInt8) (A : Va) (b r : Nat) (a a2 : Option Addr) (n1 c1 n2 c2 : Nat) (e0 : a0.tmps.getD 0 undef = .string ⟨s.toArray⟩) (e2 : a0.tmps.getD 2 undef = .pointer (some ⟨r, 0, none⟩)) (e3 : a0.tmps.getD 3 undef = .pointer (some ⟨b, 0, none⟩)) (hs : s.length = 42)
    (hc : CellsN w0 b [.int .i64 A.kind, .int .i64 A.time, .int .i64 A.node, .bool A.dead, .string ⟨A.text.toArray⟩, (.slice a n1 c1), (.slice a2 n2 c2), .int .u64 (A.flags.toNat : Int)]) (hr : Blk w0 r [.string ⟨#[]⟩, .int .i64 0, .int .i64 0, .int .i64 0, .bool false, .string ⟨#[]⟩, .slice none 0 0, .slice none 0 0, .int .u64 0]) (h1 : Ones [.string ⟨(keyR s).toArray⟩, .int .i64 A.kind, .int .i64 A.time, .int .i64 A.node, .bool A.dead, .string ⟨A.text.toArray⟩, (.slice a n1 c1), (.slice a2 n2 c2), .int .u64 (A.flags.toNat : Int)])
    (hQ : ∀ (y : Nat → Value) (w : World), Below w0.heap.size w0 w → Q .normal { tmps := [48, 49, 50, 51, 52, 53, 54, 55].foldl (fun t s => t.setIfInBounds s (y s)) a0.tmps, defers := a0.defers } (setN w r 0 [.string ⟨(keyR s).toArray⟩, .int .i64 A.kind, .int .i64 A.time, .int .i64 A.node, .bool A.dead, .string ⟨A.text.toArray⟩, (.slice a n1 c1), (.slice a2 n2 c2), .int .u64 (A.flags.toNat : Int)])) :
    (Code.region 12 rrkOps true).wp Tryz.prog Q a0 w0 := by
  refine wp_region_cov 8 mixed (by rw [hsz]; kernel_rfl) (by kernel_rfl) ?_
  rw [show rrkOps.size - 8 = 1 by kernel_rfl]
  refine ⟨isVal (.string ⟨s.toArray⟩), step_move (.tmp 0) (by kernel_rfl) (wanted_none (by kernel_rfl)) (stable_val _) (knows_old 0 (.string ⟨s.toArray⟩) (by kernel_rfl) e0), ?_⟩
  refine ⟨isVal (.string ⟨s.toArray⟩), step_move (.tmp 0) (by kernel_rfl) (wanted_none (by kernel_rfl)) (stable_val _) (knows_old 0 (.string ⟨s.toArray⟩) (by kernel_rfl) e0), ?_⟩
  refine ⟨isVal (.int .i64 (atN s 1 1 : Int)), step_call 58 #[.tmp 49, .const (.int .i64 1), .const (.int .i64 1)] #[9, 3, 3] #[.string ⟨s.toArray⟩, .int .i64 1, .int .i64 1] (by kernel_rfl) (wanted_none (by kernel_rfl)) (stable_val _) (args3 (.tmp 49) (.const (.int .i64 1)) (.const (.int .i64 1)) (.string ⟨s.toArray⟩) (.int .i64 1) (.int .i64 1) (knows_new (V := isVal (.string ⟨s.toArray⟩)) 49 1 (by kernel_rfl) (by kernel_rfl) (by kernel_rfl)) (knows_const _) (knows_const _)) (enters_of Tryz.func58 (by kernel_rfl) rfl) (by intro w hb; exact call_rget s 1 1 w (by omega) (by omega) (by omega) (by omega)), ?_⟩
  refine ⟨isVal (.int .i64 ((min (atN s 1 1) 8 : Nat) : Int)), step_min .i64 3 3 (.tmp 50) (.const (.int .i64 8)) (atN s 1 1 : Int) 8 ((min (atN s 1 1) 8 : Nat) : Int) (by kernel_rfl) (wanted_none (by kernel_rfl)) (knows_new (V := isVal (.int .i64 (atN s 1 1 : Int))) 50 2 (by kernel_rfl) (by kernel_rfl) (by kernel_rfl)) (knows_const _) (by split <;> omega), ?_⟩
  refine ⟨isVal (.int .i64 ((2 + min (atN s 1 1) 8 : Nat) : Int)), step_bin .add 3 3 (.const (.int .i64 2)) (.tmp 51) (.int .i64 2) (.int .i64 ((min (atN s 1 1) 8 : Nat) : Int)) (.int .i64 ((2 + min (atN s 1 1) 8 : Nat) : Int)) (by kernel_rfl) (wanted_none (by kernel_rfl)) (knows_const _) (knows_new (V := isVal (.int .i64 ((min (atN s 1 1) 8 : Nat) : Int))) 51 3 (by kernel_rfl) (by kernel_rfl) (by kernel_rfl)) (fun _ => rfl) (add_two _ 2 (min (atN s 1 1) 8) (by omega)), ?_⟩
  refine ⟨isVal (.string ⟨(keyR s).toArray⟩), step_mid 9 (.tmp 48) (.int .i64 2) (.tmp 52) (.string ⟨s.toArray⟩) (.int .i64 ((2 + min (atN s 1 1) 8 : Nat) : Int)) (.string ⟨(keyR s).toArray⟩) (by kernel_rfl) (wanted_none (by kernel_rfl)) (knows_new (V := isVal (.string ⟨s.toArray⟩)) 48 0 (by kernel_rfl) (by kernel_rfl) (by kernel_rfl)) (knows_new (V := isVal (.int .i64 ((2 + min (atN s 1 1) 8 : Nat) : Int))) 52 4 (by kernel_rfl) (by kernel_rfl) (by kernel_rfl)) (mid_at s 2 (min (atN s 1 1) 8) (by omega)), ?_⟩
  refine ⟨isVal (.agg #[.int .i64 A.kind, .int .i64 A.time, .int .i64 A.node, .bool A.dead, .string ⟨A.text.toArray⟩, (.slice a n1 c1), (.slice a2 n2 c2), .int .u64 (A.flags.toNat : Int)]), step_loadN 25 (.tmp 3) (b) [.int .i64 A.kind, .int .i64 A.time, .int .i64 A.node, .bool A.dead, .string ⟨A.text.toArray⟩, (.slice a n1 c1), (.slice a2 n2 c2), .int .u64 (A.flags.toNat : Int)] (by kernel_rfl) (wanted_none (by kernel_rfl)) (knows_old 3 (.pointer (some ⟨b, 0, none⟩)) (by kernel_rfl) e3) size_va agg_va hc, ?_⟩
  refine ⟨isVal (.agg #[.string ⟨(keyR s).toArray⟩, .int .i64 A.kind, .int .i64 A.time, .int .i64 A.node, .bool A.dead, .string ⟨A.text.toArray⟩, (.slice a n1 c1), (.slice a2 n2 c2), .int .u64 (A.flags.toNat : Int)]), step_buildE 27 (.tmp 53) (.tmp 54) (.string ⟨(keyR s).toArray⟩) (.agg #[.int .i64 A.kind, .int .i64 A.time, .int .i64 A.node, .bool A.dead, .string ⟨A.text.toArray⟩, (.slice a n1 c1), (.slice a2 n2 c2), .int .u64 (A.flags.toNat : Int)]) #[.string ⟨(keyR s).toArray⟩, .int .i64 A.kind, .int .i64 A.time, .int .i64 A.node, .bool A.dead, .string ⟨A.text.toArray⟩, (.slice a n1 c1), (.slice a2 n2 c2), .int .u64 (A.flags.toNat : Int)] (by kernel_rfl) (wanted_none (by kernel_rfl)) (knows_new (V := isVal (.string ⟨(keyR s).toArray⟩)) 53 5 (by kernel_rfl) (by kernel_rfl) (by kernel_rfl)) (knows_new (V := isVal (.agg #[.int .i64 A.kind, .int .i64 A.time, .int .i64 A.node, .bool A.dead, .string ⟨A.text.toArray⟩, (.slice a n1 c1), (.slice a2 n2 c2), .int .u64 (A.flags.toNat : Int)])) 54 6 (by kernel_rfl) (by kernel_rfl) (by kernel_rfl)) (built_en _ _ _ _ _ _ _ _ _ _ _ _ _), ?_⟩
  intro x w hkp hb hd
  have d55 : x.eval (.tmp 55) = _ := fdone_of (hd 7 (by decide)) (t := 55) (V := isVal (.agg #[.string ⟨(keyR s).toArray⟩, .int .i64 A.kind, .int .i64 A.time, .int .i64 A.node, .bool A.dead, .string ⟨A.text.toArray⟩, (.slice a n1 c1), (.slice a2 n2 c2), .int .u64 (A.flags.toNat : Int)])) (by kernel_rfl) (by kernel_rfl)
  have d2 : x.eval (.tmp 2) = .pointer (some ⟨r, 0, none⟩) := (hkp.2.2 2 (by kernel_rfl)).trans e2
  have hr2 := hr.keep hb
  refine tail_storeN 27 (.tmp 2) (.tmp 55) r [.string ⟨(keyR s).toArray⟩, .int .i64 A.kind, .int .i64 A.time, .int .i64 A.node, .bool A.dead, .string ⟨A.text.toArray⟩, (.slice a n1 c1), (.slice a2 n2 c2), .int .u64 (A.flags.toNat : Int)] _ (by kernel_rfl) (by kernel_rfl) size_en d2 d55 hr2.cells rfl hr2.free h1 ?_
  obtain ⟨y, ey⟩ := kept_ex hkp [some 48, some 49, some 50, some 51, some 52, some 53, some 54, some 55, none] [48, 49, 50, 51, 52, 53, 54, 55] (by kernel_rfl) (by decide)
  show Q .normal x _
  rw [ey]
  exact hQ y w hb
set_option maxRecDepth 100000 in
set_option maxHeartbeats 4000000 in
theorem rread_none (s : List UInt8) (w : World) (hs : s.length = 42) (kd : Nat) (hk : atN s 0 1 = kd) (n1 : ¬ kd = 1) (n2 : ¬ kd = 2) (n3 : ¬ kd = 3) :
    Calls Tryz.prog 36 #[.string ⟨s.toArray⟩] w fun e w' => ∃ v', e = .returned v' ∧ isEnN w.heap.size (readE s) v' w' ∧ Below w.heap.size w w' := by
  have hsz : (⟨s.toArray⟩ : ByteArray).size = s.length := by simp [ByteArray.size]
  have HK := Kept.mk hk
  clear hk
  have q1 : ((kd : Int) == 1) = false := by simp; omega
  have q2 : ((kd : Int) == 2) = false := by simp; omega
  have q3 : ((kd : Int) == 3) = false := by simp; omega
  obtain ⟨K1, HB, HR, HV⟩ := layR w [.int .i64 (kd : Int), .int .i64 0, .int .i64 0, .bool false, .string ⟨#[]⟩, .slice none 0 0, .slice none 0 0, .int .u64 0] rfl w.heap.size (w.heap.size + 1) rfl rfl
  have K5 : Kept (Ones [.int .i64 (kd : Int), .int .i64 0, .int .i64 0, .bool false, .string ⟨#[]⟩, .slice none 0 0, .slice none 0 0, .int .u64 0]) := ⟨⟨rfl, rfl, rfl, rfl, rfl, rfl, rfl, rfl, trivial⟩⟩
  go_enter Tryz.func36, Tryz.ntmps36
  go_wp2_with fail
  refine (rget_any s 0 1 _ (by omega) (by omega) (by omega) (by omega)).mono ?_
  rintro e w' ⟨rfl, rfl⟩
  rw [HK.out]
  have kv0 := HV.out.cells.2 0 _ rfl
  go_wp2_with (have hz0 := K1; refine wpList_storeN 25 rfl (.tmp 3) (.tmp 6) rfl (w.heap.size + 1) [.int .i64 (kd : Int), .int .i64 0, .int .i64 0, .bool false, .string ⟨#[]⟩, .slice none 0 0, .slice none 0 0, .int .u64 0] size_va rfl rfl K1.out.cells rfl K1.out.free K5.out ?_; clear hz0 K1 K5; generalize setN ((w.alloc (.cells #[.string ⟨#[]⟩, .int .i64 0, .int .i64 0, .int .i64 0, .bool false, .string ⟨#[]⟩, .slice none 0 0, .slice none 0 0, .int .u64 0] 27)).alloc (.cells #[.int .i64 0, .int .i64 0, .int .i64 0, .bool false, .string ⟨#[]⟩, .slice none 0 0, .slice none 0 0, .int .u64 0] 25)) (w.heap.size + 1) 0 [.int .i64 (kd : Int), .int .i64 0, .int .i64 0, .bool false, .string ⟨#[]⟩, .slice none 0 0, .slice none 0 0, .int .u64 0] = W1 at *)
  clear kv0
  obtain ⟨A, hA⟩ : ∃ A : Va, A = ⟨(kd : Int), 0, 0, false, [], [], [], 0⟩ := ⟨_, rfl⟩
  have HC : Kept (CellsN W1 (w.heap.size + 1) [.int .i64 A.kind, .int .i64 A.time, .int .i64 A.node, .bool A.dead, .string ⟨A.text.toArray⟩, .slice none 0 0, .slice none 0 0, .int .u64 (A.flags.toNat : Int)]) := ⟨by rw [hA]; exact HV.out.cells⟩
  have KO : Kept (Ones [.string ⟨(keyR s).toArray⟩, .int .i64 A.kind, .int .i64 A.time, .int .i64 A.node, .bool A.dead, .string ⟨A.text.toArray⟩, .slice none 0 0, .slice none 0 0, .int .u64 (A.flags.toNat : Int)]) := ⟨⟨rfl, rfl, rfl, rfl, rfl, rfl, rfl, rfl, rfl, trivial⟩⟩
  have HRd := Kept.mk (show readE s = ⟨keyR s, A⟩ by unfold readE readV; rw [HK.out, if_neg n1, if_neg n2, if_neg n3, hA]; rfl)
  have HN := Kept.mk (show (∀ W, isCells (A.plus.map intC) (.slice none 0 0) W) ∧ (∀ W, isCells (A.minus.map intC) (.slice none 0 0) W) by rw [hA]; exact ⟨fun W => .inl ⟨rfl, rfl⟩, fun W => .inl ⟨rfl, rfl⟩⟩)
  clear hA HV
  refine rrk_region _ _ _ rfl s A (w.heap.size + 1) w.heap.size _ _ _ _ _ _ rfl rfl rfl hs HC.out HR.out KO.out ?_
  intro y9 W9 hb9
  have HE := Kept.mk (below_setN (Nat.le_refl _) [.string ⟨(keyR s).toArray⟩, .int .i64 A.kind, .int .i64 A.time, .int .i64 A.node, .bool A.dead, .string ⟨A.text.toArray⟩, .slice none 0 0, .slice none 0 0, .int .u64 (A.flags.toNat : Int)] 0 _ (HB.out.trans (hb9.mono HB.out.size)))
  have HF := Kept.mk ((HR.out.keep hb9).all_ (l := [.string ⟨(keyR s).toArray⟩, .int .i64 A.kind, .int .i64 A.time, .int .i64 A.node, .bool A.dead, .string ⟨A.text.toArray⟩, .slice none 0 0, .slice none 0 0, .int .u64 (A.flags.toNat : Int)]) rfl).cells
  clear hb9
  simp only [List.foldl_cons, List.foldl_nil]
  generalize y9 48 = z48
  generalize y9 49 = z49
  generalize y9 50 = z50
  generalize y9 51 = z51
  generalize y9 52 = z52
  generalize y9 53 = z53
  generalize y9 54 = z54
  generalize y9 55 = z55
  simp only [List.setIfInBounds_toArray, List.set_cons_succ, List.set_cons_zero]
  clear y9
  go_wp2
  rw [HRd.out]
  exact bodyPost_ret (resultsN1 rfl _ _ w.heap.size _ size_en agg_en rfl HF.out) rfl ⟨_, rfl, ⟨_, _, rfl, HN.out.1 _, HN.out.2 _, newB_nil _, newB_nil _⟩, HE.out⟩
set_option maxRecDepth 100000 in
set_option maxHeartbeats 4000000 in
theorem rread_reg (s : List UInt8) (w : World) (hs : s.length = 42) (hk : atN s 0 1 = 1) :
    Calls Tryz.prog 36 #[.string ⟨s.toArray⟩] w fun e w' => ∃ v', e = .returned v' ∧ isEnN w.heap.size (readE s) v' w' ∧ Below w.heap.size w w' := by
  have hsz : (⟨s.toArray⟩ : ByteArray).size = s.length := by simp [ByteArray.size]
  have HK := Kept.mk hk
  clear hk
  obtain ⟨K1, HB, HR, HV⟩ := layR w [.int .i64 1, .int .i64 0, .int .i64 0, .bool false, .string ⟨#[]⟩, .slice none 0 0, .slice none 0 0, .int .u64 0] rfl w.heap.size (w.heap.size + 1) rfl rfl
  have K5 : Kept (Ones [.int .i64 1, .int .i64 0, .int .i64 0, .bool false, .string ⟨#[]⟩, .slice none 0 0, .slice none 0 0, .int .u64 0]) := ⟨⟨rfl, rfl, rfl, rfl, rfl, rfl, rfl, rfl, trivial⟩⟩
  go_enter Tryz.func36, Tryz.ntmps36
  go_wp2_with fail
  refine (rget_any s 0 1 _ (by omega) (by omega) (by omega) (by omega)).mono ?_
  rintro e w' ⟨rfl, rfl⟩
  rw [show ((atN s 0 1 : Nat) : Int) = 1 by rw [HK.out]; rfl]
  have kv0 := HV.out.cells.2 0 _ rfl
  go_wp2_with (have hz0 := K1; refine wpList_storeN 25 rfl (.tmp 3) (.tmp 6) rfl (w.heap.size + 1) [.int .i64 1, .int .i64 0, .int .i64 0, .bool false, .string ⟨#[]⟩, .slice none 0 0, .slice none 0 0, .int .u64 0] size_va rfl rfl K1.out.cells rfl K1.out.free K5.out ?_; clear hz0 K1 K5; generalize setN ((w.alloc (.cells #[.string ⟨#[]⟩, .int .i64 0, .int .i64 0, .int .i64 0, .bool false, .string ⟨#[]⟩, .slice none 0 0, .slice none 0 0, .int .u64 0] 27)).alloc (.cells #[.int .i64 0, .int .i64 0, .int .i64 0, .bool false, .string ⟨#[]⟩, .slice none 0 0, .slice none 0 0, .int .u64 0] 25)) (w.heap.size + 1) 0 [.int .i64 1, .int .i64 0, .int .i64 0, .bool false, .string ⟨#[]⟩, .slice none 0 0, .slice none 0 0, .int .u64 0] = W1 at *)
  clear kv0
  refine (rget_any s 10 4 W1 (by omega) (by omega) (by omega) (by omega)).mono ?_
  rintro e w9 ⟨rfl, rfl⟩
  generalize htm : atN s 10 4 = tm
  have Htm := Kept.mk htm
  clear htm
  have ck : W1.cell? ⟨w.heap.size + 1, 1, none⟩ = some (.int .i64 0) := HV.out.cells.2 1 _ rfl
  have fk := HV.out.free 1
  go_wp2_with fail
  clear ck fk
  replace ⟨HB, HR, HV⟩ := setR HB HR HV 1 (.int .i64 (tm : Int)) (by simp) (by omega) (by omega)
  generalize W1.setCell ⟨w.heap.size + 1, 1, none⟩ (.int .i64 (tm : Int)) = W2 at *
  refine (rget_any s 14 1 W2 (by omega) (by omega) (by omega) (by omega)).mono ?_
  rintro e w9 ⟨rfl, rfl⟩
  generalize hnd : atN s 14 1 = nd
  have Hnd := Kept.mk hnd
  clear hnd
  have ck : W2.cell? ⟨w.heap.size + 1, 2, none⟩ = some (.int .i64 0) := HV.out.cells.2 2 _ rfl
  have fk := HV.out.free 2
  go_wp2_with fail
  clear ck fk
  replace ⟨HB, HR, HV⟩ := setR HB HR HV 2 (.int .i64 (nd : Int)) (by simp) (by omega) (by omega)
  generalize W2.setCell ⟨w.heap.size + 1, 2, none⟩ (.int .i64 (nd : Int)) = W3 at *
  refine (rget_any s 15 1 W3 (by omega) (by omega) (by omega) (by omega)).mono ?_
  rintro e w9 ⟨rfl, rfl⟩
  generalize hdd : atN s 15 1 = dd
  have Hdd := Kept.mk hdd
  clear hdd
  have ck : W3.cell? ⟨w.heap.size + 1, 3, none⟩ = some (.bool false) := HV.out.cells.2 3 _ rfl
  have fk := HV.out.free 3
  go_wp2_with fail
  generalize hQ : ((dd : Int) == 1) = qd
  have HQ := Kept.mk hQ
  clear hQ
  clear ck fk
  replace ⟨HB, HR, HV⟩ := setR HB HR HV 3 (.bool qd) (by simp) (by omega) (by omega)
  generalize W3.setCell ⟨w.heap.size + 1, 3, none⟩ (.bool qd) = W4 at *
  refine (rget_any s 16 1 W4 (by omega) (by omega) (by omega) (by omega)).mono ?_
  rintro e w9 ⟨rfl, rfl⟩
  generalize hzz : atN s 16 1 = zz
  have Hzz := Kept.mk hzz
  clear hzz
  have kv0 : W4.cell? ⟨w.heap.size + 1, 0, none⟩ = some (.int .i64 1) := HV.out.cells.2 0 _ rfl
  have ck : W4.cell? ⟨w.heap.size + 1, 4, none⟩ = some (.string ⟨#[]⟩) := HV.out.cells.2 4 _ rfl
  have fk := HV.out.free 4
  have HX := Kept.mk (mid_ext s 17 (min zz 8) (by omega))
  go_wp2_with fail
  clear kv0 ck fk
  have ex : (17 + min (zz : Int) 8).toNat = 17 + min zz 8 := by omega
  rw [ex, HX.out]
  clear ex HX
  generalize hT : (s.drop 17).take (min zz 8) = tx
  have HT := Kept.mk hT
  clear hT
  replace ⟨HB, HR, HV⟩ := setR HB HR HV 4 (.string ⟨tx.toArray⟩) (by simp) (by omega) (by omega)
  generalize W4.setCell ⟨w.heap.size + 1, 4, none⟩ (.string ⟨tx.toArray⟩) = W5 at *
  obtain ⟨A, hA⟩ : ∃ A : Va, A = ⟨1, (tm : Int), (nd : Int), qd, tx, [], [], 0⟩ := ⟨_, rfl⟩
  have HC : Kept (CellsN W5 (w.heap.size + 1) [.int .i64 A.kind, .int .i64 A.time, .int .i64 A.node, .bool A.dead, .string ⟨A.text.toArray⟩, .slice none 0 0, .slice none 0 0, .int .u64 (A.flags.toNat : Int)]) := ⟨by rw [hA]; exact HV.out.cells⟩
  have KO : Kept (Ones [.string ⟨(keyR s).toArray⟩, .int .i64 A.kind, .int .i64 A.time, .int .i64 A.node, .bool A.dead, .string ⟨A.text.toArray⟩, .slice none 0 0, .slice none 0 0, .int .u64 (A.flags.toNat : Int)]) := ⟨⟨rfl, rfl, rfl, rfl, rfl, rfl, rfl, rfl, rfl, trivial⟩⟩
  have HRd := Kept.mk (show readE s = ⟨keyR s, A⟩ by unfold readE readV; rw [if_pos HK.out, Htm.out, Hnd.out, Hdd.out, Hzz.out, HT.out, hA, show decide (dd = 1) = qd by rw [← HQ.out, Bool.eq_iff_iff]; simp; omega]; rfl)
  have HN := Kept.mk (show (∀ W, isCells (A.plus.map intC) (.slice none 0 0) W) ∧ (∀ W, isCells (A.minus.map intC) (.slice none 0 0) W) by rw [hA]; exact ⟨fun W => .inl ⟨rfl, rfl⟩, fun W => .inl ⟨rfl, rfl⟩⟩)
  clear hA HV
  refine rrk_region _ _ _ rfl s A (w.heap.size + 1) w.heap.size _ _ _ _ _ _ rfl rfl rfl hs HC.out HR.out KO.out ?_
  intro y9 W9 hb9
  have HE := Kept.mk (below_setN (Nat.le_refl _) [.string ⟨(keyR s).toArray⟩, .int .i64 A.kind, .int .i64 A.time, .int .i64 A.node, .bool A.dead, .string ⟨A.text.toArray⟩, .slice none 0 0, .slice none 0 0, .int .u64 (A.flags.toNat : Int)] 0 _ (HB.out.trans (hb9.mono HB.out.size)))
  have HF := Kept.mk ((HR.out.keep hb9).all_ (l := [.string ⟨(keyR s).toArray⟩, .int .i64 A.kind, .int .i64 A.time, .int .i64 A.node, .bool A.dead, .string ⟨A.text.toArray⟩, .slice none 0 0, .slice none 0 0, .int .u64 (A.flags.toNat : Int)]) rfl).cells
  clear hb9
  simp only [List.foldl_cons, List.foldl_nil]
  generalize y9 48 = z48
  generalize y9 49 = z49
  generalize y9 50 = z50
  generalize y9 51 = z51
  generalize y9 52 = z52
  generalize y9 53 = z53
  generalize y9 54 = z54
  generalize y9 55 = z55
  simp only [List.setIfInBounds_toArray, List.set_cons_succ, List.set_cons_zero]
  clear y9
  go_wp2
  rw [HRd.out]
  exact bodyPost_ret (resultsN1 rfl _ _ w.heap.size _ size_en agg_en rfl HF.out) rfl ⟨_, rfl, ⟨_, _, rfl, HN.out.1 _, HN.out.2 _, newB_nil _, newB_nil _⟩, HE.out⟩
set_option maxRecDepth 100000 in
set_option maxHeartbeats 4000000 in
theorem rread_count (s : List UInt8) (w : World) (hs : s.length = 42) (hk : atN s 0 1 = 2) :
    Calls Tryz.prog 36 #[.string ⟨s.toArray⟩] w fun e w' => ∃ v', e = .returned v' ∧ isEnN w.heap.size (readE s) v' w' ∧ Below w.heap.size w w' := by
  have hsz : (⟨s.toArray⟩ : ByteArray).size = s.length := by simp [ByteArray.size]
  have HK := Kept.mk hk
  clear hk
  obtain ⟨K1, HB, HR, HV⟩ := layR w [.int .i64 2, .int .i64 0, .int .i64 0, .bool false, .string ⟨#[]⟩, .slice none 0 0, .slice none 0 0, .int .u64 0] rfl w.heap.size (w.heap.size + 1) rfl rfl
  have K5 : Kept (Ones [.int .i64 2, .int .i64 0, .int .i64 0, .bool false, .string ⟨#[]⟩, .slice none 0 0, .slice none 0 0, .int .u64 0]) := ⟨⟨rfl, rfl, rfl, rfl, rfl, rfl, rfl, rfl, trivial⟩⟩
  go_enter Tryz.func36, Tryz.ntmps36
  go_wp2_with fail
  refine (rget_any s 0 1 _ (by omega) (by omega) (by omega) (by omega)).mono ?_
  rintro e w' ⟨rfl, rfl⟩
  rw [show ((atN s 0 1 : Nat) : Int) = 2 by rw [HK.out]; rfl]
  have kv0 := HV.out.cells.2 0 _ rfl
  go_wp2_with (have hz0 := K1; refine wpList_storeN 25 rfl (.tmp 3) (.tmp 6) rfl (w.heap.size + 1) [.int .i64 2, .int .i64 0, .int .i64 0, .bool false, .string ⟨#[]⟩, .slice none 0 0, .slice none 0 0, .int .u64 0] size_va rfl rfl K1.out.cells rfl K1.out.free K5.out ?_; clear hz0 K1 K5; generalize setN ((w.alloc (.cells #[.string ⟨#[]⟩, .int .i64 0, .int .i64 0, .int .i64 0, .bool false, .string ⟨#[]⟩, .slice none 0 0, .slice none 0 0, .int .u64 0] 27)).alloc (.cells #[.int .i64 0, .int .i64 0, .int .i64 0, .bool false, .string ⟨#[]⟩, .slice none 0 0, .slice none 0 0, .int .u64 0] 25)) (w.heap.size + 1) 0 [.int .i64 2, .int .i64 0, .int .i64 0, .bool false, .string ⟨#[]⟩, .slice none 0 0, .slice none 0 0, .int .u64 0] = W1 at *)
  clear kv0
  refine (rgets_any s 10 W1 (by omega) (by omega)).mono ?_
  rintro e W2 ⟨vp, rfl, hvp, nvp, hb⟩
  have hsW2 := hb.size
  have hvW2 := HV.out.lt
  replace HB := Kept.mk (HB.out.trans (hb.mono HB.out.size))
  replace HR := Kept.mk (HR.out.keep hb)
  replace HV := Kept.mk (HV.out.keep hb)
  have ln : ((getsL s 10 8).map intC).length = 8 := by rw [List.length_map, length_gets]
  obtain ⟨ap, kap, rfl⟩ := hvp.len
  rw [ln] at hvp nvp ⊢
  have HP := Kept.mk hvp
  have NP := Kept.mk nvp
  clear hb ln hvp nvp
  have ck : W2.cell? ⟨w.heap.size + 1, 5, none⟩ = some (.slice none 0 0) := HV.out.cells.2 5 _ rfl
  have fk := HV.out.free 5
  go_wp2_with fail
  clear ck fk
  replace HP := Kept.mk (HP.out.setCell_apart (w.heap.size + 1) 5 (.slice ap 8 kap) (NP.out.ne (by omega)))
  replace ⟨HB, HR, HV⟩ := setR HB HR HV 5 (.slice ap 8 kap) (by simp) (by omega) (by omega)
  generalize W2.setCell ⟨w.heap.size + 1, 5, none⟩ (.slice ap 8 kap) = W3 at *
  refine (rgets_any s 26 W3 (by omega) (by omega)).mono ?_
  rintro e W4 ⟨vm, rfl, hvm, nvm, hb⟩
  have hsW4 := hb.size
  have hvW4 := HV.out.lt
  replace HB := Kept.mk (HB.out.trans (hb.mono HB.out.size))
  replace HR := Kept.mk (HR.out.keep hb)
  replace HV := Kept.mk (HV.out.keep hb)
  replace HP := Kept.mk (stable_cells _ _ _ _ HP.out hb)
  have ln : ((getsL s 26 8).map intC).length = 8 := by rw [List.length_map, length_gets]
  obtain ⟨am, kam, rfl⟩ := hvm.len
  rw [ln] at hvm nvm ⊢
  have HM := Kept.mk hvm
  have NM := Kept.mk nvm
  clear hb ln hvm nvm
  have ck : W4.cell? ⟨w.heap.size + 1, 6, none⟩ = some (.slice none 0 0) := HV.out.cells.2 6 _ rfl
  have fk := HV.out.free 6
  have kv0 : W4.cell? ⟨w.heap.size + 1, 0, none⟩ = some (.int .i64 2) := HV.out.cells.2 0 _ rfl
  go_wp2_with fail
  clear ck fk kv0
  have hsz5 : W4.heap.size = W4.heap.size := rfl
  replace HP := Kept.mk (HP.out.setCell_apart (w.heap.size + 1) 6 (.slice am 8 kam) (NP.out.ne (by omega)))
  replace HM := Kept.mk (HM.out.setCell_apart (w.heap.size + 1) 6 (.slice am 8 kam) (NM.out.ne (by have := HB.out.size; omega)))
  replace ⟨HB, HR, HV⟩ := setR HB HR HV 6 (.slice am 8 kam) (by simp) (by omega) (by omega)
  generalize W4.setCell ⟨w.heap.size + 1, 6, none⟩ (.slice am 8 kam) = W5 at *
  obtain ⟨A, hA⟩ : ∃ A : Va, A = ⟨2, 0, 0, false, [], getsL s 10 8, getsL s 26 8, 0⟩ := ⟨_, rfl⟩
  have HC : Kept (CellsN W5 (w.heap.size + 1) [.int .i64 A.kind, .int .i64 A.time, .int .i64 A.node, .bool A.dead, .string ⟨A.text.toArray⟩, .slice ap 8 kap, .slice am 8 kam, .int .u64 (A.flags.toNat : Int)]) := ⟨by rw [hA]; exact HV.out.cells⟩
  have KO : Kept (Ones [.string ⟨(keyR s).toArray⟩, .int .i64 A.kind, .int .i64 A.time, .int .i64 A.node, .bool A.dead, .string ⟨A.text.toArray⟩, .slice ap 8 kap, .slice am 8 kam, .int .u64 (A.flags.toNat : Int)]) := ⟨⟨rfl, rfl, rfl, rfl, rfl, rfl, rfl, rfl, rfl, trivial⟩⟩
  have HRd := Kept.mk (show readE s = ⟨keyR s, A⟩ by unfold readE readV; rw [HK.out, if_neg (by decide), if_pos rfl, hA]; rfl)
  replace HP := Kept.mk (show isCells (A.plus.map intC) _ _ by rw [hA]; exact HP.out)
  replace HM := Kept.mk (show isCells (A.minus.map intC) _ _ by rw [hA]; exact HM.out)
  clear hA HV
  refine rrk_region _ _ _ rfl s A (w.heap.size + 1) w.heap.size _ _ _ _ _ _ rfl rfl rfl hs HC.out HR.out KO.out ?_
  intro y9 W9 hb9
  have HE := Kept.mk (below_setN (Nat.le_refl _) [.string ⟨(keyR s).toArray⟩, .int .i64 A.kind, .int .i64 A.time, .int .i64 A.node, .bool A.dead, .string ⟨A.text.toArray⟩, .slice ap 8 kap, .slice am 8 kam, .int .u64 (A.flags.toNat : Int)] 0 _ (HB.out.trans (hb9.mono HB.out.size)))
  have HF := Kept.mk ((HR.out.keep hb9).all_ (l := [.string ⟨(keyR s).toArray⟩, .int .i64 A.kind, .int .i64 A.time, .int .i64 A.node, .bool A.dead, .string ⟨A.text.toArray⟩, .slice ap 8 kap, .slice am 8 kam, .int .u64 (A.flags.toNat : Int)]) rfl).cells
  have EP := Kept.mk (cells_apart (stable_cells _ _ _ _ HP.out hb9) (g := w.heap.size) (fun b off cap e _ => by have := NP.out b (by rw [e]; rfl); omega) 0 [.string ⟨(keyR s).toArray⟩, .int .i64 A.kind, .int .i64 A.time, .int .i64 A.node, .bool A.dead, .string ⟨A.text.toArray⟩, .slice ap 8 kap, .slice am 8 kam, .int .u64 (A.flags.toNat : Int)])
  have EM := Kept.mk (cells_apart (stable_cells _ _ _ _ HM.out hb9) (g := w.heap.size) (fun b off cap e _ => by have := NM.out b (by rw [e]; rfl); omega) 0 [.string ⟨(keyR s).toArray⟩, .int .i64 A.kind, .int .i64 A.time, .int .i64 A.node, .bool A.dead, .string ⟨A.text.toArray⟩, .slice ap 8 kap, .slice am 8 kam, .int .u64 (A.flags.toNat : Int)])
  clear hb9
  simp only [List.foldl_cons, List.foldl_nil]
  generalize y9 48 = z48
  generalize y9 49 = z49
  generalize y9 50 = z50
  generalize y9 51 = z51
  generalize y9 52 = z52
  generalize y9 53 = z53
  generalize y9 54 = z54
  generalize y9 55 = z55
  simp only [List.setIfInBounds_toArray, List.set_cons_succ, List.set_cons_zero]
  clear y9
  go_wp2
  rw [HRd.out]
  exact bodyPost_ret (resultsN1 rfl _ _ w.heap.size _ size_en agg_en rfl HF.out) rfl ⟨_, rfl, ⟨_, _, rfl, EP.out, EM.out, NP.out.low (by omega), NM.out.low (by omega)⟩, HE.out⟩
set_option maxRecDepth 100000 in
set_option maxHeartbeats 4000000 in
theorem rread_flags (s : List UInt8) (w : World) (hs : s.length = 42) (hk : atN s 0 1 = 3) :
    Calls Tryz.prog 36 #[.string ⟨s.toArray⟩] w fun e w' => ∃ v', e = .returned v' ∧ isEnN w.heap.size (readE s) v' w' ∧ Below w.heap.size w w' := by
  have hsz : (⟨s.toArray⟩ : ByteArray).size = s.length := by simp [ByteArray.size]
  have HK := Kept.mk hk
  clear hk
  obtain ⟨K1, HB, HR, HV⟩ := layR w [.int .i64 3, .int .i64 0, .int .i64 0, .bool false, .string ⟨#[]⟩, .slice none 0 0, .slice none 0 0, .int .u64 0] rfl w.heap.size (w.heap.size + 1) rfl rfl
  have K5 : Kept (Ones [.int .i64 3, .int .i64 0, .int .i64 0, .bool false, .string ⟨#[]⟩, .slice none 0 0, .slice none 0 0, .int .u64 0]) := ⟨⟨rfl, rfl, rfl, rfl, rfl, rfl, rfl, rfl, trivial⟩⟩
  go_enter Tryz.func36, Tryz.ntmps36
  go_wp2_with fail
  refine (rget_any s 0 1 _ (by omega) (by omega) (by omega) (by omega)).mono ?_
  rintro e w' ⟨rfl, rfl⟩
  rw [show ((atN s 0 1 : Nat) : Int) = 3 by rw [HK.out]; rfl]
  have kv0 := HV.out.cells.2 0 _ rfl
  go_wp2_with (have hz0 := K1; refine wpList_storeN 25 rfl (.tmp 3) (.tmp 6) rfl (w.heap.size + 1) [.int .i64 3, .int .i64 0, .int .i64 0, .bool false, .string ⟨#[]⟩, .slice none 0 0, .slice none 0 0, .int .u64 0] size_va rfl rfl K1.out.cells rfl K1.out.free K5.out ?_; clear hz0 K1 K5; generalize setN ((w.alloc (.cells #[.string ⟨#[]⟩, .int .i64 0, .int .i64 0, .int .i64 0, .bool false, .string ⟨#[]⟩, .slice none 0 0, .slice none 0 0, .int .u64 0] 27)).alloc (.cells #[.int .i64 0, .int .i64 0, .int .i64 0, .bool false, .string ⟨#[]⟩, .slice none 0 0, .slice none 0 0, .int .u64 0] 25)) (w.heap.size + 1) 0 [.int .i64 3, .int .i64 0, .int .i64 0, .bool false, .string ⟨#[]⟩, .slice none 0 0, .slice none 0 0, .int .u64 0] = W1 at *)
  clear kv0
  have hg1 : atN s 10 4 < 4294967296 := by have := getN_lt ((s.drop 10).take 4); rw [List.length_take, Nat.min_eq_left (by rw [List.length_drop]; omega)] at this; exact this
  have hg2 : atN s 14 4 < 4294967296 := by have := getN_lt ((s.drop 14).take 4); rw [List.length_take, Nat.min_eq_left (by rw [List.length_drop]; omega)] at this; exact this
  refine (rget_any s 10 4 W1 (by omega) (by omega) (by omega) (by omega)).mono ?_
  rintro e w9 ⟨rfl, rfl⟩
  generalize hlo : atN s 10 4 = lo at hg1 ⊢
  have Hlo := Kept.mk hlo
  clear hlo
  go_wp2_with fail
  refine (rget_any s 14 4 W1 (by omega) (by omega) (by omega) (by omega)).mono ?_
  rintro e w9 ⟨rfl, rfl⟩
  generalize hhi : atN s 14 4 = hi at hg2 ⊢
  have Hhi := Kept.mk hhi
  clear hhi
  have kv0 : W1.cell? ⟨w.heap.size + 1, 0, none⟩ = some (.int .i64 3) := HV.out.cells.2 0 _ rfl
  have ck : W1.cell? ⟨w.heap.size + 1, 7, none⟩ = some (.int .u64 0) := HV.out.cells.2 7 _ rfl
  have fk := HV.out.free 7
  go_wp2_with fail
  clear kv0 ck fk
  obtain ⟨ff, hff⟩ : ∃ f : UInt64, f = UInt64.ofNat (lo + 4294967296 * hi) := ⟨_, rfl⟩
  have ef : (lo : Int) + 4294967296 * (hi : Int) = (ff.toNat : Int) := by rw [hff, UInt64.toNat_ofNat', Nat.mod_eq_of_lt (by omega)]; omega
  rw [ef]
  have HF0 := Kept.mk hff
  clear ef hff
  replace ⟨HB, HR, HV⟩ := setR HB HR HV 7 (.int .u64 (ff.toNat : Int)) (by simp) (by omega) (by omega)
  generalize W1.setCell ⟨w.heap.size + 1, 7, none⟩ (.int .u64 (ff.toNat : Int)) = W5 at *
  obtain ⟨A, hA⟩ : ∃ A : Va, A = ⟨3, 0, 0, false, [], [], [], ff⟩ := ⟨_, rfl⟩
  have HC : Kept (CellsN W5 (w.heap.size + 1) [.int .i64 A.kind, .int .i64 A.time, .int .i64 A.node, .bool A.dead, .string ⟨A.text.toArray⟩, .slice none 0 0, .slice none 0 0, .int .u64 (A.flags.toNat : Int)]) := ⟨by rw [hA]; exact HV.out.cells⟩
  have KO : Kept (Ones [.string ⟨(keyR s).toArray⟩, .int .i64 A.kind, .int .i64 A.time, .int .i64 A.node, .bool A.dead, .string ⟨A.text.toArray⟩, .slice none 0 0, .slice none 0 0, .int .u64 (A.flags.toNat : Int)]) := ⟨⟨rfl, rfl, rfl, rfl, rfl, rfl, rfl, rfl, rfl, trivial⟩⟩
  have HRd := Kept.mk (show readE s = ⟨keyR s, A⟩ by unfold readE readV; rw [HK.out, if_neg (by decide), if_neg (by decide), if_pos rfl, hA, Hlo.out, Hhi.out, ← HF0.out]; rfl)
  have HN := Kept.mk (show (∀ W, isCells (A.plus.map intC) (.slice none 0 0) W) ∧ (∀ W, isCells (A.minus.map intC) (.slice none 0 0) W) by rw [hA]; exact ⟨fun W => .inl ⟨rfl, rfl⟩, fun W => .inl ⟨rfl, rfl⟩⟩)
  clear hA HV
  refine rrk_region _ _ _ rfl s A (w.heap.size + 1) w.heap.size _ _ _ _ _ _ rfl rfl rfl hs HC.out HR.out KO.out ?_
  intro y9 W9 hb9
  have HE := Kept.mk (below_setN (Nat.le_refl _) [.string ⟨(keyR s).toArray⟩, .int .i64 A.kind, .int .i64 A.time, .int .i64 A.node, .bool A.dead, .string ⟨A.text.toArray⟩, .slice none 0 0, .slice none 0 0, .int .u64 (A.flags.toNat : Int)] 0 _ (HB.out.trans (hb9.mono HB.out.size)))
  have HF := Kept.mk ((HR.out.keep hb9).all_ (l := [.string ⟨(keyR s).toArray⟩, .int .i64 A.kind, .int .i64 A.time, .int .i64 A.node, .bool A.dead, .string ⟨A.text.toArray⟩, .slice none 0 0, .slice none 0 0, .int .u64 (A.flags.toNat : Int)]) rfl).cells
  clear hb9
  simp only [List.foldl_cons, List.foldl_nil]
  generalize y9 48 = z48
  generalize y9 49 = z49
  generalize y9 50 = z50
  generalize y9 51 = z51
  generalize y9 52 = z52
  generalize y9 53 = z53
  generalize y9 54 = z54
  generalize y9 55 = z55
  simp only [List.setIfInBounds_toArray, List.set_cons_succ, List.set_cons_zero]
  clear y9
  go_wp2
  rw [HRd.out]
  exact bodyPost_ret (resultsN1 rfl _ _ w.heap.size _ size_en agg_en rfl HF.out) rfl ⟨_, rfl, ⟨_, _, rfl, HN.out.1 _, HN.out.2 _, newB_nil _, newB_nil _⟩, HE.out⟩
theorem rread_any (s : List UInt8) (w : World) (hs : s.length = 42) :
    Calls Tryz.prog 36 #[.string ⟨s.toArray⟩] w fun e w' => ∃ v', e = .returned v' ∧ isEnN w.heap.size (readE s) v' w' ∧ Below w.heap.size w w' := by
  by_cases h1 : atN s 0 1 = 1
  · exact rread_reg s w hs h1
  · by_cases h2 : atN s 0 1 = 2
    · exact rread_count s w hs h2
    · by_cases h3 : atN s 0 1 = 3
      · exact rread_flags s w hs h3
      · exact rread_none s w hs _ rfl h1 h2 h3
theorem fit_read (s : List UInt8) (hs : s.length = 42) : FitE (readE s) := by
  refine ⟨?_, ?_⟩
  · show (List.take _ _).length ≤ _
    rw [List.length_take]; omega
  · show Fit (readV s)
    unfold readV
    split
    · refine ⟨?_, by show 0 ≤ _; omega, by show 0 ≤ _; omega⟩
      show (List.take _ _).length ≤ _
      rw [List.length_take]; omega
    · split
      · refine ⟨by show 0 ≤ _; omega, ?_, ?_⟩
        · show (getsL s 10 8).length ≤ _; rw [length_gets]; omega
        · show (getsL s 26 8).length ≤ _; rw [length_gets]; omega
      · split <;> exact ⟨by show 0 ≤ _; omega, by show 0 ≤ _; omega, by show 0 ≤ _; omega⟩
set_option maxRecDepth 100000 in
set_option maxHeartbeats 4000000 in
theorem reget_any (s : List UInt8) (w : World) (hs : s.length ≤ 1000) :
    Calls Tryz.prog 18 #[.string ⟨s.toArray⟩] w fun e w' => ∃ v', e = .returned (.tuple #[v', .int .i64 (getEE s)]) ∧ isEn (getEF s) v' w' ∧ Below w.heap.size w w' := by
  have hsz : (⟨s.toArray⟩ : ByteArray).size = s.length := by simp [ByteArray.size]
  have HB := Kept.mk (lit_below w (.cells #[.string ⟨#[]⟩, .int .i64 0, .int .i64 0, .int .i64 0, .bool false, .string ⟨#[]⟩, .slice none 0 0, .slice none 0 0, .int .u64 0] 27))
  have HR := Kept.mk (Blk.new w 27 [.string ⟨#[]⟩, .int .i64 0, .int .i64 0, .int .i64 0, .bool false, .string ⟨#[]⟩, .slice none 0 0, .slice none 0 0, .int .u64 0] w.heap.size rfl)
  by_cases h42 : s.length = 42
  · have d42 : ((s.length : Int) != 42) = false := by simp; omega
    go_enter Tryz.func18, Tryz.ntmps18
    go_wp2_with fail
    generalize hW0 : w.alloc (.cells #[.string ⟨#[]⟩, .int .i64 0, .int .i64 0, .int .i64 0, .bool false, .string ⟨#[]⟩, .slice none 0 0, .slice none 0 0, .int .u64 0] 27) = W0 at *
    have hs0 : W0.heap.size = w.heap.size + 1 := by rw [← hW0]; simp
    clear hW0
    have FR := Kept.mk (fit_read s h42)
    refine (rread_any s W0 h42).mono ?_
    rintro e U ⟨v', rfl, ⟨p', m', rfl, hp', hm', np, nm⟩, hb⟩
    replace HB := Kept.mk (HB.out.trans (hb.mono HB.out.size))
    replace HR := Kept.mk (HR.out.keep hb)
    have hsU := hb.size
    obtain ⟨E, hE⟩ : ∃ E, readE s = E := ⟨_, rfl⟩
    rw [hE] at hp' hm' FR ⊢
    have HE := Kept.mk hE
    clear hE hb
    obtain ⟨K1, K2, K3, K4, K5⟩ := enew U E p' m' hp' hm' U.heap.size rfl
    have NP := Kept.mk np
    have NM := Kept.mk nm
    clear hp' hm' np nm
    have kx0 := K1
    clear kx0
    go_wp2_with (have hz0 := K1; refine wpList_storeN 27 rfl (.tmp 4) (.tmp 12) rfl U.heap.size [.string ⟨E.key.toArray⟩, .int .i64 E.val.kind, .int .i64 E.val.time, .int .i64 E.val.node, .bool E.val.dead, .string ⟨E.val.text.toArray⟩, p', m', .int .u64 (E.val.flags.toNat : Int)] size_en rfl rfl K1.out rfl K2.out K5.out ?_; replace HB := Kept.mk (HB.out.trans (K3.out.mono HB.out.size)); replace HR := Kept.mk (HR.out.keep K3.out); clear hz0 K1 K2 K3 K5; generalize setN (U.alloc (.cells #[.string ⟨#[]⟩, .int .i64 0, .int .i64 0, .int .i64 0, .bool false, .string ⟨#[]⟩, .slice none 0 0, .slice none 0 0, .int .u64 0] 27)) U.heap.size 0 [.string ⟨E.key.toArray⟩, .int .i64 E.val.kind, .int .i64 E.val.time, .int .i64 E.val.node, .bool E.val.dead, .string ⟨E.val.text.toArray⟩, p', m', .int .u64 (E.val.flags.toNat : Int)] = W1 at *; have ke0 := K4.out.1.2 0 _ rfl; have ke1 := K4.out.1.2 1 _ rfl; have ke2 := K4.out.1.2 2 _ rfl; have ke3 := K4.out.1.2 3 _ rfl; have ke4 := K4.out.1.2 4 _ rfl; have ke5 := K4.out.1.2 5 _ rfl; have ke6 := K4.out.1.2 6 _ rfl; have ke7 := K4.out.1.2 7 _ rfl; have ke8 := K4.out.1.2 8 _ rfl)
    have hlt1 := K4.out.1.1
    refine (rput_any E _ W1 ⟨p', m', rfl, K4.out.2.1, K4.out.2.2⟩ FR.out).mono ?_
    rintro e W2 ⟨rfl, hb⟩
    clear ke0 ke1 ke2 ke3 ke4 ke5 ke6 ke7 ke8
    replace HB := Kept.mk (HB.out.trans (hb.mono HB.out.size))
    replace HR := Kept.mk (HR.out.keep hb)
    have HC := Kept.mk (K4.out.1.keep hb hlt1)
    have HP := Kept.mk (stable_cells _ _ _ _ K4.out.2.1 hb)
    have HM := Kept.mk (stable_cells _ _ _ _ K4.out.2.2 hb)
    have hs2 := hb.size
    clear hb K4
    cases hok : okE E with
    | false =>
      rw [chk_no hok]
      have HO := Kept.mk hok
      clear hok
      generalize putF E = t
      have KZ : Kept (Ones [.string ⟨#[]⟩, .int .i64 0, .int .i64 0, .int .i64 0, .bool false, .string ⟨#[]⟩, .slice none 0 0, .slice none 0 0, .int .u64 0]) := ⟨⟨rfl, rfl, rfl, rfl, rfl, rfl, rfl, rfl, rfl, trivial⟩⟩
      go_wp2_with (refine wpList_storeN 27 rfl (.tmp 2) (.tmp 25) rfl w.heap.size [.string ⟨#[]⟩, .int .i64 0, .int .i64 0, .int .i64 0, .bool false, .string ⟨#[]⟩, .slice none 0 0, .slice none 0 0, .int .u64 0] size_en rfl rfl HR.out.cells rfl HR.out.free KZ.out ?_)
      have eo : getOk s = false := by cases h : getOk s with | false => rfl | true => exact absurd ((getOk_iff s).1 h) (by rintro ⟨g1, g2, g3⟩; rw [HE.out, HO.out] at g2; cases g2)
      have e1 : getEF s = zeroE := getEF_none eo
      have e2 : getEE s = 2 := by unfold getEE; rw [eo]; rfl
      rw [e1, e2]
      exact bodyPost_ret (resultsN2 rfl _ _ w.heap.size _ (.int .i64 2) size_en agg_en rfl rfl (HR.out.all_ rfl).cells) rfl ⟨_, rfl, ⟨.slice none 0 0, .slice none 0 0, rfl, .inl ⟨rfl, rfl⟩, .inl ⟨rfl, rfl⟩⟩, below_setN (Nat.le_refl _) _ 0 _ HB.out⟩
    | true =>
      rw [chk_ok hok, show putF E = putEn E by unfold putF; rw [if_pos hok]]
      have HO := Kept.mk hok
      clear hok
      obtain ⟨t, ht⟩ : ∃ t, putEn E = t := ⟨_, rfl⟩
      rw [ht]
      have HT := Kept.mk ht
      clear ht
      cases hts : (t == s) with
      | false =>
        have hts2 : (t != s) = true := by simp [bne, hts]
        have HS := Kept.mk hts
        have KZ : Kept (Ones [.string ⟨#[]⟩, .int .i64 0, .int .i64 0, .int .i64 0, .bool false, .string ⟨#[]⟩, .slice none 0 0, .slice none 0 0, .int .u64 0]) := ⟨⟨rfl, rfl, rfl, rfl, rfl, rfl, rfl, rfl, rfl, trivial⟩⟩
        go_wp2_with (refine wpList_storeN 27 rfl (.tmp 2) (.tmp 25) rfl w.heap.size [.string ⟨#[]⟩, .int .i64 0, .int .i64 0, .int .i64 0, .bool false, .string ⟨#[]⟩, .slice none 0 0, .slice none 0 0, .int .u64 0] size_en rfl rfl HR.out.cells rfl HR.out.free KZ.out ?_)
        have eo : getOk s = false := by cases h : getOk s with | false => rfl | true => exact absurd ((getOk_iff s).1 h) (by rintro ⟨g1, g2, g3⟩; rw [HE.out, HT.out] at g3; have := HS.out; rw [g3] at this; simp at this)
        have e1 : getEF s = zeroE := getEF_none eo
        have e2 : getEE s = 2 := by unfold getEE; rw [eo]; rfl
        rw [e1, e2]
        exact bodyPost_ret (resultsN2 rfl _ _ w.heap.size _ (.int .i64 2) size_en agg_en rfl rfl (HR.out.all_ rfl).cells) rfl ⟨_, rfl, ⟨.slice none 0 0, .slice none 0 0, rfl, .inl ⟨rfl, rfl⟩, .inl ⟨rfl, rfl⟩⟩, below_setN (Nat.le_refl _) _ 0 _ HB.out⟩
      | true =>
        have hts2 : (t != s) = false := by simp [bne, hts]
        have HS := Kept.mk hts
        obtain ⟨Q1, Q2, Q3, Q4, Q5⟩ := eset E p' m' (g := w.heap.size) (Nat.le_refl _) HB.out HR.out.cells rfl HP.out HM.out (NP.out.ne (by omega)) (NM.out.ne (by omega))
        have ke0 := HC.out.2 0 _ rfl
        have ke1 := HC.out.2 1 _ rfl
        have ke2 := HC.out.2 2 _ rfl
        have ke3 := HC.out.2 3 _ rfl
        have ke4 := HC.out.2 4 _ rfl
        have ke5 := HC.out.2 5 _ rfl
        have ke6 := HC.out.2 6 _ rfl
        have ke7 := HC.out.2 7 _ rfl
        have ke8 := HC.out.2 8 _ rfl
        clear HP HM HC
        go_wp2_with (have hz0 := Q5; refine wpList_storeN 27 rfl (.tmp 2) (.tmp 26) rfl w.heap.size [.string ⟨E.key.toArray⟩, .int .i64 E.val.kind, .int .i64 E.val.time, .int .i64 E.val.node, .bool E.val.dead, .string ⟨E.val.text.toArray⟩, p', m', .int .u64 (E.val.flags.toNat : Int)] size_en rfl rfl HR.out.cells rfl HR.out.free Q5.out ?_; clear hz0 Q5)
        have eo : getOk s = true := (getOk_iff s).2 ⟨h42, by rw [HE.out]; exact HO.out, by rw [HE.out, HT.out]; simpa using HS.out⟩
        have e1 : getEF s = E := (getEF_read eo).trans HE.out
        have e2 : getEE s = 0 := by unfold getEE; rw [eo]; rfl
        rw [e1, e2]
        exact bodyPost_ret (resultsN2 rfl _ _ w.heap.size _ (.int .i64 0) size_en agg_en rfl rfl Q2.out) rfl ⟨_, rfl, ⟨p', m', rfl, Q3.out, Q4.out⟩, Q1.out⟩
  · have d42 : ((s.length : Int) != 42) = true := by simp; omega
    go_enter Tryz.func18, Tryz.ntmps18
    have KZ : Kept (Ones [.string ⟨#[]⟩, .int .i64 0, .int .i64 0, .int .i64 0, .bool false, .string ⟨#[]⟩, .slice none 0 0, .slice none 0 0, .int .u64 0]) := ⟨⟨rfl, rfl, rfl, rfl, rfl, rfl, rfl, rfl, rfl, trivial⟩⟩
    go_wp2_with (refine wpList_storeN 27 rfl (.tmp 2) (.tmp 10) rfl w.heap.size [.string ⟨#[]⟩, .int .i64 0, .int .i64 0, .int .i64 0, .bool false, .string ⟨#[]⟩, .slice none 0 0, .slice none 0 0, .int .u64 0] size_en rfl rfl HR.out.cells rfl HR.out.free KZ.out ?_)
    have eo : getOk s = false := by cases h : getOk s with | false => rfl | true => exact absurd ((getOk_iff s).1 h) (by rintro ⟨g1, g2, g3⟩; exact h42 g1)
    have e1 : getEF s = zeroE := getEF_none eo
    have e2 : getEE s = 2 := by unfold getEE; rw [eo]; rfl
    rw [e1, e2]
    exact bodyPost_ret (resultsN2 rfl _ _ w.heap.size _ (.int .i64 2) size_en agg_en rfl rfl (HR.out.all_ rfl).cells) rfl ⟨_, rfl, ⟨.slice none 0 0, .slice none 0 0, rfl, .inl ⟨rfl, rfl⟩, .inl ⟨rfl, rfl⟩⟩, below_setN (Nat.le_refl _) _ 0 _ HB.out⟩
end Go.Proofs.YtebjljiklacolaaGreat
end
