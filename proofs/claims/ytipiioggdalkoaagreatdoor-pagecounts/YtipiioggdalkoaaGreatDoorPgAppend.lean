/- Contract of page.Append. -/
import Derived.Test.YtipiioggdalkoaaGreatDoorPgHas
import Derived.Test.YtipiioggdalkoaaGreatDoorFlLay
import Derived.IntWalk
namespace Go.Proofs.YtipiioggdalkoaaGreatDoor
open Go.RowKit
set_option linter.unusedVariables false
set_option linter.unusedSimpArgs false
attribute [local irreducible] set5
/-- What an append tells, and makes. -/
def lenI (l : List UInt8) : Int := (l.length : Int)
def pageOf (F : Fl) (page : Int) : List UInt8 := F.pages.getD page.toNat []
def appOk (F : Fl) (page : Int) (pl : List UInt8) : Bool := hasB F page && decide (szN (lenI pl) ≠ 0)
def appE (F : Fl) (page : Int) (pl : List UInt8) : Int := if appOk F page pl = false then 1 else if nextN (pageOf F page) (lenI pl) = roomN (pageOf F page) (lenI pl) then 4 else progE F page (nextN (pageOf F page) (lenI pl) * szN (lenI pl) : Nat) (recL pl)
def appF (F : Fl) (page : Int) (pl : List UInt8) : Fl := if appOk F page pl = false then F else if nextN (pageOf F page) (lenI pl) = roomN (pageOf F page) (lenI pl) then F else progF F page (nextN (pageOf F page) (lenI pl) * szN (lenI pl) : Nat) (recL pl)
theorem tend_le (p : Nat → Bool) (r : Nat) : tend p (List.range r) ≤ r := by
  induction r with
  | zero => simp [tend]
  | succ r ih =>
    rw [List.range_succ]
    unfold tend at ih ⊢
    rw [List.foldl_append]
    simp only [List.foldl_cons, List.foldl_nil]
    split <;> omega
structure AppI (w W : World) (F : Fl) (vp vw : Value) : Prop where
  below : Below w.heap.size w W
  size : w.heap.size + 2 ≤ W.heap.size
  c3 : Cells5 W w.heap.size vp vw (.int .i64 F.fuse) (strC F.torn) (.bool F.dead)
  b6 : W.heap[w.heap.size + 1]? = some (.cells #[.slice none 0 0, .slice none 0 0, .int .i64 0, .string ⟨#[]⟩, .bool false] 31 (0, 0))
  p : isCells (F.pages.map strC) vp w
  q : isCells (F.wear.map intC) vw w
theorem AppI.grow {w W W' : World} {F : Fl} {vp vw : Value} (h : AppI w W F vp vw) (hb : Below W.heap.size W W') : AppI w W' F vp vw :=
  ⟨h.below.trans (hb.mono h.below.size), Nat.le_trans h.size hb.size, h.c3.keep hb h.c3.1, (hb.block _ (by have := h.size; omega)).trans h.b6, h.p, h.q⟩
theorem AppI.fl {w W : World} {F : Fl} {vp vw : Value} (h : AppI w W F vp vw) : isFl F (.agg #[vp, vw, .int .i64 F.fuse, strC F.torn, .bool F.dead]) W := ⟨vp, vw, rfl, stable_cells _ _ _ _ h.p h.below, stable_cells _ _ _ _ h.q h.below⟩
theorem appI_start (w : World) (F : Fl) (vp vw : Value) (hp : isCells (F.pages.map strC) vp w) (hq : isCells (F.wear.map intC) vw w) : AppI w ((w.alloc (.cells #[vp, vw, .int .i64 F.fuse, strC F.torn, .bool F.dead] 31)).alloc (.cells #[.slice none 0 0, .slice none 0 0, .int .i64 0, .string ⟨#[]⟩, .bool false] 31)) F vp vw := by
  have hb1 : Below (w.alloc (.cells #[vp, vw, .int .i64 F.fuse, strC F.torn, .bool F.dead] 31)).heap.size (w.alloc (.cells #[vp, vw, .int .i64 F.fuse, strC F.torn, .bool F.dead] 31)) ((w.alloc (.cells #[vp, vw, .int .i64 F.fuse, strC F.torn, .bool F.dead] 31)).alloc (.cells #[.slice none 0 0, .slice none 0 0, .int .i64 0, .string ⟨#[]⟩, .bool false] 31)) := (Below.refl _ _).alloc (Nat.le_refl _) _
  refine ⟨((Below.refl _ _).alloc (Nat.le_refl _) _).alloc (by simp) _, by simp, (cells5_new w 31 vp vw _ _ _).keep hb1 (by simp), ?_, hp, hq⟩
  have := World.alloc_heap_new (w.alloc (.cells #[vp, vw, .int .i64 F.fuse, strC F.torn, .bool F.dead] 31)) (.cells #[.slice none 0 0, .slice none 0 0, .int .i64 0, .string ⟨#[]⟩, .bool false] 31)
  rwa [World.size_alloc] at this
/-- The result's variable, in which a copy, or what a callee told, is laid down. -/
theorem AppI.told {w W w1 : World} {F G : Fl} {vp vw vp' vw' : Value} (h : AppI w W F vp vw) (hb1 : Below W.heap.size W w1) (hp : isBtw W.heap.size w1.heap.size 9 (G.pages.map strC) vp' w1) (hq : isBtw W.heap.size w1.heap.size 3 (G.wear.map intC) vw' w1) :
    Kept (Cells5 w1 (w.heap.size + 1) (.slice none 0 0) (.slice none 0 0) (.int .i64 0) (.string ⟨#[]⟩) (.bool false)) ∧ Kept (Free5 w1 (w.heap.size + 1)) ∧ Kept (Cells5 (set5 w1 (w.heap.size + 1) vp' vw' (.int .i64 G.fuse) (strC G.torn) (.bool G.dead)) (w.heap.size + 1) vp' vw' (.int .i64 G.fuse) (strC G.torn) (.bool G.dead)) ∧
      Kept (isFlN w.heap.size G (.agg #[vp', vw', .int .i64 G.fuse, strC G.torn, .bool G.dead]) (set5 w1 (w.heap.size + 1) vp' vw' (.int .i64 G.fuse) (strC G.torn) (.bool G.dead))) ∧ Kept (Below w.heap.size w (set5 w1 (w.heap.size + 1) vp' vw' (.int .i64 G.fuse) (strC G.torn) (.bool G.dead))) :=
  Go.Proofs.YtipiioggdalkoaaGreatDoor.told (g := w.heap.size + 1) (by have := h.size; omega) rfl h.below (by omega) (cells5_of h.b6).1 (cells5_of h.b6).2 hb1 hp hq

theorem mul_nat (a b q : Nat) (h : a * b = q) (hq : q ≤ 1000000000) (w : World) : (binOp .mul 3 (.int .i64 (a : Int)) (.int .i64 (b : Int))).run Tryz.prog w = .ok (.int .i64 (q : Int)) w := by
  have e : (a : Int) * (b : Int) = (q : Int) := by rw [← h]; push_cast; rfl
  have hw : IntKind.i64.wrap (q : Int) = (q : Int) := IntWalk.i64_in _ (by omega)
  simp [binOp, e, hw, go_sem]
noncomputable def app8 : Array Oper := regionOf Tryz.f22 8
set_option maxRecDepth 100000 in
set_option maxHeartbeats 4000000 in
theorem app_region (Q : Exit → Act → World → Prop) (a0 : Act) (w0 : World) (hsz : a0.tmps.size = 53) (B g3 g6 : Nat) (D X : Fl) (vp vw : Value) (page ex : Int) (nx z q : Nat) (pl : List UInt8) (hpl : pl.length ≤ 1024) (hq : nx * z = q) (hqb : q ≤ 1000000000) (hBB : B ≤ w0.heap.size) (hg3 : g3 < B)
    (hnew : isNewB 31 B 5 (.pointer (some ⟨g6, 0, none⟩)) w0)
    (e3 : a0.tmps.getD 3 undef = .pointer (some ⟨g3, 0, none⟩)) (e1 : a0.tmps.getD 1 undef = .int .i64 page) (e10 : a0.tmps.getD 10 undef = .int .i64 (nx : Int)) (e9 : a0.tmps.getD 9 undef = .int .i64 (z : Int)) (e2 : a0.tmps.getD 2 undef = .string ⟨pl.toArray⟩) (e6 : a0.tmps.getD 6 undef = .pointer (some ⟨g6, 0, none⟩))
    (hC : Cells5 w0 g3 vp vw (.int .i64 D.fuse) (strC D.torn) (.bool D.dead))
    (hcall : ∀ w2 : World, Below B w0 w2 → Calls Tryz.prog 44 #[.agg #[vp, vw, .int .i64 D.fuse, strC D.torn, .bool D.dead], .int .i64 page, .int .i64 (q : Int), .string ⟨(recL pl).toArray⟩] w2 fun e w' => ∃ v, e = .returned v ∧ isTupB B X ex v w' ∧ Below w2.heap.size w2 w')
    (hQ : ∀ (a : Act) (w : World), a.defers = a0.defers → a.tmps.getD 6 undef = .pointer (some ⟨g6, 0, none⟩) → a.tmps.getD 7 undef = .int .i64 ex → isLaidB 31 B (holdsF B X) (.pointer (some ⟨g6, 0, none⟩)) w → Below B w0 w → Q .normal a w) :
    (Code.region 8 app8 true).wp Tryz.prog Q a0 w0 := by
  have hok : flowOk app8 a0.tmps.size = true := by rw [hsz]; kernel_rfl
  have hR := laid_pre (stab_holdsF B X)
  have hcb : ∀ w, Laid 31 B (holdsF B X) w0 w → ∀ w2, Below w.heap.size w w2 → Below B w0 w2 := fun w hw w2 hb => (hw.below hBB).trans (hb.mono (Nat.le_trans hBB (hw.below hBB).size))
  refine wp_region_lay hR mixed hok (by kernel_rfl) ?_
  rw [show app8.size = 12 by kernel_rfl]
  refine ⟨isVal (.agg #[vp, vw, .int .i64 D.fuse, strC D.torn, .bool D.dead]), LStep.of hR hok (stabR_val _ _) (by kernel_rfl) (fun w hw => step_load5 (.tmp 3) g3 (by kernel_rfl) (wanted_none (by kernel_rfl)) (knows_old 3 (.pointer (some ⟨g3, 0, none⟩)) (by kernel_rfl) e3) (hC.keep (hw.below hBB) hg3)), ?_⟩
  refine ⟨isVal (.int .i64 page), LStep.of hR hok (stabR_val _ _) (by kernel_rfl) (fun w hw => step_move (.tmp 1) (by kernel_rfl) (wanted_none (by kernel_rfl)) (stable_val _) (knows_old 1 (.int .i64 page) (by kernel_rfl) e1)), ?_⟩
  refine ⟨isVal (.int .i64 (nx : Int)), LStep.of hR hok (stabR_val _ _) (by kernel_rfl) (fun w hw => step_move (.tmp 10) (by kernel_rfl) (wanted_none (by kernel_rfl)) (stable_val _) (knows_old 10 (.int .i64 (nx : Int)) (by kernel_rfl) e10)), ?_⟩
  refine ⟨isVal (.int .i64 (z : Int)), LStep.of hR hok (stabR_val _ _) (by kernel_rfl) (fun w hw => step_move (.tmp 9) (by kernel_rfl) (wanted_none (by kernel_rfl)) (stable_val _) (knows_old 9 (.int .i64 (z : Int)) (by kernel_rfl) e9)), ?_⟩
  refine ⟨isVal (.int .i64 (q : Int)), LStep.of hR hok (stabR_val _ _) (by kernel_rfl) (fun w hw => step_bin .mul 3 3 (.tmp 45) (.tmp 46) (.int .i64 (nx : Int)) (.int .i64 (z : Int)) (.int .i64 (q : Int)) (by kernel_rfl) (wanted_none (by kernel_rfl)) (knows_new (V := isVal (.int .i64 (nx : Int))) 45 2 (by kernel_rfl) (by kernel_rfl) (by kernel_rfl)) (knows_new (V := isVal (.int .i64 (z : Int))) 46 3 (by kernel_rfl) (by kernel_rfl) (by kernel_rfl)) (fun _ => rfl) (fun w => mul_nat nx z q hq hqb w)), ?_⟩
  refine ⟨isVal (.string ⟨pl.toArray⟩), LStep.of hR hok (stabR_val _ _) (by kernel_rfl) (fun w hw => step_move (.tmp 2) (by kernel_rfl) (wanted_none (by kernel_rfl)) (stable_val _) (knows_old 2 (.string ⟨pl.toArray⟩) (by kernel_rfl) e2)), ?_⟩
  refine ⟨isVal (.string ⟨(recL pl).toArray⟩), LStep.of hR hok (stabR_val _ _) (by kernel_rfl) (fun w hw => step_call 32 #[.tmp 48] #[9] #[.string ⟨pl.toArray⟩] (by kernel_rfl) (wanted_none (by kernel_rfl)) (stable_val _) (args1 (.tmp 48) (.string ⟨pl.toArray⟩) (knows_new (V := isVal (.string ⟨pl.toArray⟩)) 48 5 (by kernel_rfl) (by kernel_rfl) (by kernel_rfl))) (enters_of Tryz.func32 (by kernel_rfl) rfl) (by intro w2 hb; exact (make_any pl w2 hpl).mono (by rintro e w' ⟨rfl, hb'⟩; exact ⟨_, rfl, rfl, hb'⟩))), ?_⟩
  refine ⟨isTupB B X (ex), LStep.of hR hok (stab_tupB _ _ _ _) (by kernel_rfl) (fun w hw => step_call 44 #[.tmp 43, .tmp 44, .tmp 47, .tmp 49] #[31, 3, 3, 9] #[.agg #[vp, vw, .int .i64 D.fuse, strC D.torn, .bool D.dead], .int .i64 page, .int .i64 (q : Int), .string ⟨(recL pl).toArray⟩] (by kernel_rfl) (wanted_none (by kernel_rfl)) (stable_tupB _ _ _) (args4 (.tmp 43) (.tmp 44) (.tmp 47) (.tmp 49) (.agg #[vp, vw, .int .i64 D.fuse, strC D.torn, .bool D.dead]) (.int .i64 page) (.int .i64 (q : Int)) (.string ⟨(recL pl).toArray⟩) (knows_new (V := isVal (.agg #[vp, vw, .int .i64 D.fuse, strC D.torn, .bool D.dead])) 43 0 (by kernel_rfl) (by kernel_rfl) (by kernel_rfl)) (knows_new (V := isVal (.int .i64 page)) 44 1 (by kernel_rfl) (by kernel_rfl) (by kernel_rfl)) (knows_new (V := isVal (.int .i64 (q : Int))) 47 4 (by kernel_rfl) (by kernel_rfl) (by kernel_rfl)) (knows_new (V := isVal (.string ⟨(recL pl).toArray⟩)) 49 6 (by kernel_rfl) (by kernel_rfl) (by kernel_rfl))) (enters_of Tryz.func44 (by kernel_rfl) rfl) (by intro w2 hb; exact hcall w2 (hcb w hw w2 hb))), ?_⟩
  refine ⟨isFlB B X, LStep.of hR hok (stab_flB _ _ _) (by kernel_rfl) (fun w hw => step_extract0 B X (ex) (.tmp 50) (by kernel_rfl) (wanted_none (by kernel_rfl)) (knows_new (V := isTupB B X (ex)) 50 7 (by kernel_rfl) (by kernel_rfl) (by kernel_rfl))), ?_⟩
  refine ⟨isVal (.int .i64 (ex)), LStep.of hR hok (stabR_val _ _) (by kernel_rfl) (fun w hw => step_extract1 B X (ex) (.tmp 50) (by kernel_rfl) (wanted_none (by kernel_rfl)) (knows_new (V := isTupB B X (ex)) 50 7 (by kernel_rfl) (by kernel_rfl) (by kernel_rfl))), ?_⟩
  refine ⟨isLaidB 31 B (holdsF B X), LStep.store5_old 6 g6 (.tmp 51) hBB (by kernel_rfl) (knows_old 6 (.pointer (some ⟨g6, 0, none⟩)) (by kernel_rfl) e6) hnew (knows_new (V := isFlB B X) 51 8 (by kernel_rfl) (by kernel_rfl) (by kernel_rfl)), ?_⟩
  refine ⟨isVal (.int .i64 (ex)), LStep.of hR hok (stabR_val _ _) (by kernel_rfl) (fun w hw => step_assign (.tmp 52) (by kernel_rfl) (wanted_none (by kernel_rfl)) (stable_val _) (knows_new (V := isVal (.int .i64 (ex))) 52 9 (by kernel_rfl) (by kernel_rfl) (by kernel_rfl))), ?_⟩
  intro a w hkp hr hd
  have hsz2 : app8.size = 12 := by kernel_rfl
  have h6 : a.tmps.getD 6 undef = .pointer (some ⟨g6, 0, none⟩) := (hkp.2.2 6 (by kernel_rfl)).trans e6
  have hl := ldone_of (hd 10 (by rw [hsz2]; decide)) (t := 6) (V := isLaidB 31 B (holdsF B X)) (by kernel_rfl) (by kernel_rfl)
  rw [h6] at hl
  exact hQ a w hkp.1 h6 (ldone_of (hd 11 (by rw [hsz2]; decide)) (t := 7) (V := isVal (.int .i64 (ex))) (by kernel_rfl) (by kernel_rfl)) hl (hr.below hBB)
set_option maxRecDepth 100000 in
set_option maxHeartbeats 4000000 in
theorem app_no1 (F : Fl) (page : Int) (pl : List UInt8) (v : Value) (w : World) (hv : isFl F v w) (h1 : F.pages.length ≤ 1000000) (h2 : F.wear.length ≤ 1000000) (hh : hasB F page = false) :
    Calls Tryz.prog 22 #[v, .int .i64 page, .string ⟨pl.toArray⟩] w fun e w' => ∃ v', e = .returned (.tuple #[v', .int .i64 1]) ∧ isFlN w.heap.size F v' w' ∧ Below w.heap.size w w' := by
  have HH := Kept.mk hh
  clear hh
  have hsz : (⟨pl.toArray⟩ : ByteArray).size = pl.length := size_mk pl
  obtain ⟨vp, vw, rfl, hp, hq⟩ := hv
  have T := Kept.mk (appI_start w F vp vw hp hq)
  have HZ := Kept.mk (szN_eq (lenI pl))
  clear hp hq
  unfold lenI at *
  go_enter Tryz.func22, Tryz.ntmps22
  go_wp2_with fail
  ((with_reducible refine (size_any (pl.length : Int) _).mono ?_); rintro e w9 ⟨rfl, rfl⟩)
  rewrite [HZ.out]
  generalize szN (pl.length : Int) = z at *
  generalize ((w.alloc (.cells #[vp, vw, .int .i64 F.fuse, strC F.torn, .bool F.dead] 31)).alloc (.cells #[.slice none 0 0, .slice none 0 0, .int .i64 0, .string ⟨#[]⟩, .bool false] 31)) = W at *
  obtain ⟨_, k0, k1, k2, k3, k4⟩ := T.out.c3
  have flf := Kept.mk T.out.fl
  go_wp2_with fail
  ((with_reducible refine (phas_any F page _ _ flf.out h1 h2).mono ?_); rintro e W2 ⟨rfl, hb⟩)
  replace T := Kept.mk (T.out.grow hb)
  clear hb flf k0 k1 k2 k3 k4
  rewrite [HH.out]
  obtain ⟨_, k0, k1, k2, k3, k4⟩ := T.out.c3
  have flf := Kept.mk T.out.fl
  go_wp2_with fail
  ((with_reducible refine (pcopied_any F _ _ flf.out (by omega) (by omega)).mono ?_); rintro e w3 ⟨vp', vw', rfl, ho1, ho2, hb1⟩)
  have oo1 := (ho1.one).2
  have oo2 := (ho2.one).2
  obtain ⟨K1, K2, K3, K4, K5⟩ := T.out.told hb1 (isBtw_own ho1) (isBtw_own ho2)
  clear ho1 ho2 hb1 flf k0 k1 k2 k3 k4
  go_wp2_with (refine wpList_store5 rfl (.tmp 6) (.tmp 24) rfl (w.heap.size + 1) vp' vw' (.int .i64 F.fuse) (strC F.torn) (.bool F.dead) rfl rfl K1.out K2.out oo1 oo2 rfl rfl rfl ?_)
  exact bodyPost_ret (results2 rfl _ _ (w.heap.size + 1) _ _ _ _ _ (.int .i64 1) rfl rfl K3.out) rfl ⟨_, rfl, K4.out, K5.out⟩
set_option maxRecDepth 100000 in
set_option maxHeartbeats 4000000 in
theorem app_no2 (F : Fl) (page : Int) (pl : List UInt8) (v : Value) (w : World) (hv : isFl F v w) (h1 : F.pages.length ≤ 1000000) (h2 : F.wear.length ≤ 1000000) (hh : hasB F page = true) (hz : szN (lenI pl) = 0) :
    Calls Tryz.prog 22 #[v, .int .i64 page, .string ⟨pl.toArray⟩] w fun e w' => ∃ v', e = .returned (.tuple #[v', .int .i64 1]) ∧ isFlN w.heap.size F v' w' ∧ Below w.heap.size w w' := by
  have HH := Kept.mk hh
  have HZ0 := Kept.mk hz
  clear hh hz
  have hsz : (⟨pl.toArray⟩ : ByteArray).size = pl.length := size_mk pl
  obtain ⟨vp, vw, rfl, hp, hq⟩ := hv
  have T := Kept.mk (appI_start w F vp vw hp hq)
  have HZ := Kept.mk (szN_eq (lenI pl))
  clear hp hq
  unfold lenI at *
  go_enter Tryz.func22, Tryz.ntmps22
  go_wp2_with fail
  ((with_reducible refine (size_any (pl.length : Int) _).mono ?_); rintro e w9 ⟨rfl, rfl⟩)
  rewrite [HZ.out]
  generalize szN (pl.length : Int) = z at *
  generalize ((w.alloc (.cells #[vp, vw, .int .i64 F.fuse, strC F.torn, .bool F.dead] 31)).alloc (.cells #[.slice none 0 0, .slice none 0 0, .int .i64 0, .string ⟨#[]⟩, .bool false] 31)) = W at *
  obtain ⟨_, k0, k1, k2, k3, k4⟩ := T.out.c3
  have flf := Kept.mk T.out.fl
  go_wp2_with fail
  ((with_reducible refine (phas_any F page _ _ flf.out h1 h2).mono ?_); rintro e W2 ⟨rfl, hb⟩)
  replace T := Kept.mk (T.out.grow hb)
  clear hb flf k0 k1 k2 k3 k4
  rewrite [HH.out]
  have z0 : ((z : Int) == 0) = true := by rw [HZ0.out]; rfl
  obtain ⟨_, k0, k1, k2, k3, k4⟩ := T.out.c3
  have flf := Kept.mk T.out.fl
  go_wp2_with fail
  ((with_reducible refine (pcopied_any F _ _ flf.out (by omega) (by omega)).mono ?_); rintro e w3 ⟨vp', vw', rfl, ho1, ho2, hb1⟩)
  have oo1 := (ho1.one).2
  have oo2 := (ho2.one).2
  obtain ⟨K1, K2, K3, K4, K5⟩ := T.out.told hb1 (isBtw_own ho1) (isBtw_own ho2)
  clear ho1 ho2 hb1 flf k0 k1 k2 k3 k4
  go_wp2_with (refine wpList_store5 rfl (.tmp 6) (.tmp 24) rfl (w.heap.size + 1) vp' vw' (.int .i64 F.fuse) (strC F.torn) (.bool F.dead) rfl rfl K1.out K2.out oo1 oo2 rfl rfl rfl ?_)
  exact bodyPost_ret (results2 rfl _ _ (w.heap.size + 1) _ _ _ _ _ (.int .i64 1) rfl rfl K3.out) rfl ⟨_, rfl, K4.out, K5.out⟩
set_option maxRecDepth 100000 in
set_option maxHeartbeats 4000000 in
theorem app_full (F : Fl) (k : Nat) (pl : List UInt8) (v : Value) (w : World) (hv : isFl F v w) (h1 : F.pages.length ≤ 1000000) (h2 : F.wear.length ≤ 1000000) (p : List UInt8) (hh : hasB F (k : Int) = true) (hp_ : F.pages[k]? = some p) (hpl8 : p.length ≤ 8192) (hpl : pl.length ≤ 1000) (hz : szN (lenI pl) ≠ 0) (hfull : nextN p (lenI pl) = roomN p (lenI pl)) :
    Calls Tryz.prog 22 #[v, .int .i64 (k : Int), .string ⟨pl.toArray⟩] w fun e w' => ∃ v', e = .returned (.tuple #[v', .int .i64 4]) ∧ isFlN w.heap.size F v' w' ∧ Below w.heap.size w w' := by
  have HH := Kept.mk hh
  have HP := Kept.mk hp_
  have hk : k < F.pages.length := by have := (List.getElem?_eq_some_iff.1 hp_).1; exact this
  have HNX := Kept.mk (fun W : World => next_any p (pl.length : Int) W (by omega) (.inl (by unfold szN sizeN; split <;> omega)))
  have hzp : 0 < szN (lenI pl) := by omega
  have HNR := Kept.mk hfull
  clear hh hp_ hz hfull
  have hsz : (⟨pl.toArray⟩ : ByteArray).size = pl.length := size_mk pl
  obtain ⟨vp, vw, rfl, hp, hq⟩ := hv
  have T := Kept.mk (appI_start w F vp vw hp hq)
  have HZ := Kept.mk (szN_eq (lenI pl))
  clear hp hq
  unfold lenI at *
  go_enter Tryz.func22, Tryz.ntmps22
  go_wp2_with fail
  ((with_reducible refine (size_any (pl.length : Int) _).mono ?_); rintro e w9 ⟨rfl, rfl⟩)
  rewrite [HZ.out]
  generalize szN (pl.length : Int) = z at *
  generalize ((w.alloc (.cells #[vp, vw, .int .i64 F.fuse, strC F.torn, .bool F.dead] 31)).alloc (.cells #[.slice none 0 0, .slice none 0 0, .int .i64 0, .string ⟨#[]⟩, .bool false] 31)) = W at *
  obtain ⟨_, k0, k1, k2, k3, k4⟩ := T.out.c3
  have flf := Kept.mk T.out.fl
  go_wp2_with fail
  ((with_reducible refine (phas_any F (k : Int) _ _ flf.out h1 h2).mono ?_); rintro e W2 ⟨rfl, hb⟩)
  replace T := Kept.mk (T.out.grow hb)
  clear hb flf k0 k1 k2 k3 k4
  rewrite [HH.out]
  have z0 : ((z : Int) == 0) = false := by simp; omega
  obtain ⟨b, off, cap, hvp, lb, hcp⟩ := T.out.p.some_ (by rw [List.length_map]; omega)
  rw [List.length_map] at hvp
  subst hvp
  have HC := Kept.mk (show w.cell? ⟨b, off + k, none⟩ = some (.string ⟨p.toArray⟩) from hcp k _ (by rw [List.getElem?_map, HP.out]; rfl))
  clear hcp
  obtain ⟨_, k0, k1, k2, k3, k4⟩ := T.out.c3
  have kp := (T.out.below.cell (p := ⟨b, off + k, none⟩) lb).trans HC.out
  go_wp2_with fail
  ((with_reducible refine (HNX.out _).mono ?_); rintro e W3 ⟨rfl, hb⟩)
  replace T := Kept.mk (T.out.grow hb)
  clear hb k0 k1 k2 k3 k4 kp
  obtain ⟨_, k0, k1, k2, k3, k4⟩ := T.out.c3
  have kp := (T.out.below.cell (p := ⟨b, off + k, none⟩) lb).trans HC.out
  generalize nextN p (pl.length : Int) = nx at *
  go_wp2_with fail
  ((with_reducible refine (room_any p (pl.length : Int) _ (by omega)).mono ?_); rintro e w8 ⟨rfl, rfl⟩)
  generalize roomN p (pl.length : Int) = rm at *
  clear kp k0 k1 k2 k3 k4
  have e0 : ((nx : Int) == (rm : Int)) = true := by rw [HNR.out]; simp
  obtain ⟨_, k0, k1, k2, k3, k4⟩ := T.out.c3
  have flf := Kept.mk T.out.fl
  go_wp2_with fail
  ((with_reducible refine (pcopied_any F _ _ flf.out (by omega) (by omega)).mono ?_); rintro e w3 ⟨vp', vw', rfl, ho1, ho2, hb1⟩)
  have oo1 := (ho1.one).2
  have oo2 := (ho2.one).2
  obtain ⟨K1, K2, K3, K4, K5⟩ := T.out.told hb1 (isBtw_own ho1) (isBtw_own ho2)
  clear ho1 ho2 hb1 flf k0 k1 k2 k3 k4
  go_wp2_with (refine wpList_store5 rfl (.tmp 6) (.tmp 42) rfl (w.heap.size + 1) vp' vw' (.int .i64 F.fuse) (strC F.torn) (.bool F.dead) rfl rfl K1.out K2.out oo1 oo2 rfl rfl rfl ?_)
  exact bodyPost_ret (results2 rfl _ _ (w.heap.size + 1) _ _ _ _ _ (.int .i64 4) rfl rfl K3.out) rfl ⟨_, rfl, K4.out, K5.out⟩
set_option maxRecDepth 100000 in
set_option maxHeartbeats 4000000 in
theorem app_yes (F : Fl) (k : Nat) (pl : List UInt8) (v : Value) (w : World) (hv : isFl F v w) (h1 : F.pages.length ≤ 1000000) (h2 : F.wear.length ≤ 1000000) (p : List UInt8) (hh : hasB F (k : Int) = true) (hp_ : F.pages[k]? = some p) (hpl8 : p.length ≤ 8192) (hpl : pl.length ≤ 1000) (hz : szN (lenI pl) ≠ 0) (hfz : F.fuse ≤ 9223372036854775807) (hfull : nextN p (lenI pl) ≠ roomN p (lenI pl)) (q : Nat) (hq : nextN p (lenI pl) * szN (lenI pl) = q) (hqb : q ≤ 1000000000) :
    Calls Tryz.prog 22 #[v, .int .i64 (k : Int), .string ⟨pl.toArray⟩] w fun e w' => ∃ v', e = .returned (.tuple #[v', .int .i64 (progE F k q (recL pl))]) ∧ isFlN w.heap.size (progF F k q (recL pl)) v' w' ∧ Below w.heap.size w w' := by
  have HH := Kept.mk hh
  have HP := Kept.mk hp_
  have hk : k < F.pages.length := by have := (List.getElem?_eq_some_iff.1 hp_).1; exact this
  have HNX := Kept.mk (fun W : World => next_any p (pl.length : Int) W (by omega) (.inl (by unfold szN sizeN; split <;> omega)))
  have hzp : 0 < szN (lenI pl) := by omega
  have HNR := Kept.mk hfull
  have HQ := Kept.mk hq
  obtain ⟨X, hX⟩ : ∃ X, X = progF F k q (recL pl) := ⟨_, rfl⟩
  obtain ⟨E, hE⟩ : ∃ E, E = progE F k q (recL pl) := ⟨_, rfl⟩
  rw [← hX, ← hE]
  have HPR := Kept.mk (show ∀ (v : Value) (w : World), isFl F v w → Calls Tryz.prog 44 #[v, .int .i64 (k : Int), .int .i64 (q : Int), .string ⟨(recL pl).toArray⟩] w fun e w' => ∃ v', e = .returned (.tuple #[v', .int .i64 E]) ∧ isFlN w.heap.size X v' w' ∧ Below w.heap.size w w' from by
    intro v w hv
    have h := program_any F k q (recL pl) v w hv (by rw [length_recL]; omega) h1 h2 hfz
    rwa [← hX, ← hE] at h)
  clear hh hp_ hz hfull hq hX hE hfz
  have hsz : (⟨pl.toArray⟩ : ByteArray).size = pl.length := size_mk pl
  obtain ⟨vp, vw, rfl, hp, hq⟩ := hv
  have T := Kept.mk (appI_start w F vp vw hp hq)
  have HZ := Kept.mk (szN_eq (lenI pl))
  clear hp hq
  unfold lenI at *
  go_enter Tryz.func22, Tryz.ntmps22
  go_wp2_with fail
  ((with_reducible refine (size_any (pl.length : Int) _).mono ?_); rintro e w9 ⟨rfl, rfl⟩)
  rewrite [HZ.out]
  generalize szN (pl.length : Int) = z at *
  generalize ((w.alloc (.cells #[vp, vw, .int .i64 F.fuse, strC F.torn, .bool F.dead] 31)).alloc (.cells #[.slice none 0 0, .slice none 0 0, .int .i64 0, .string ⟨#[]⟩, .bool false] 31)) = W at *
  obtain ⟨_, k0, k1, k2, k3, k4⟩ := T.out.c3
  have flf := Kept.mk T.out.fl
  go_wp2_with fail
  ((with_reducible refine (phas_any F (k : Int) _ _ flf.out h1 h2).mono ?_); rintro e W2 ⟨rfl, hb⟩)
  replace T := Kept.mk (T.out.grow hb)
  clear hb flf k0 k1 k2 k3 k4
  rewrite [HH.out]
  have z0 : ((z : Int) == 0) = false := by simp; omega
  obtain ⟨b, off, cap, hvp, lb, hcp⟩ := T.out.p.some_ (by rw [List.length_map]; omega)
  rw [List.length_map] at hvp
  subst hvp
  have HC := Kept.mk (show w.cell? ⟨b, off + k, none⟩ = some (.string ⟨p.toArray⟩) from hcp k _ (by rw [List.getElem?_map, HP.out]; rfl))
  clear hcp
  obtain ⟨_, k0, k1, k2, k3, k4⟩ := T.out.c3
  have kp := (T.out.below.cell (p := ⟨b, off + k, none⟩) lb).trans HC.out
  go_wp2_with fail
  ((with_reducible refine (HNX.out _).mono ?_); rintro e W3 ⟨rfl, hb⟩)
  replace T := Kept.mk (T.out.grow hb)
  clear hb k0 k1 k2 k3 k4 kp
  obtain ⟨_, k0, k1, k2, k3, k4⟩ := T.out.c3
  have kp := (T.out.below.cell (p := ⟨b, off + k, none⟩) lb).trans HC.out
  generalize nextN p (pl.length : Int) = nx at *
  go_wp2_with fail
  ((with_reducible refine (room_any p (pl.length : Int) _ (by omega)).mono ?_); rintro e w8 ⟨rfl, rfl⟩)
  generalize roomN p (pl.length : Int) = rm at *
  clear kp k0 k1 k2 k3 k4
  have e0 : ((nx : Int) == (rm : Int)) = false := by
    have := HNR.out
    simp
    omega
  go_wp2_with fail
  refine app_region _ _ _ rfl (w.heap.size + 1) w.heap.size (w.heap.size + 1) F X (.slice (some ⟨b, off, none⟩) F.pages.length cap) vw (k : Int) E nx z q pl (by omega) HQ.out hqb (by have := T.out.size; omega) (by omega) ⟨_, _, rfl, Nat.le_refl _, T.out.b6, rfl⟩ rfl rfl rfl rfl rfl rfl T.out.c3 (fun w2 hb2 => (HPR.out _ w2 ⟨_, vw, rfl, stable_cells _ _ _ _ T.out.p (T.out.below.trans (hb2.mono (by omega))), stable_cells _ _ _ _ T.out.q (T.out.below.trans (hb2.mono (by omega)))⟩).mono (by rintro e w' ⟨v', rfl, hf, hb'⟩; exact ⟨_, rfl, ⟨v', rfl, hf.low (by have := hb2.size; have := T.out.size; omega)⟩, hb'⟩)) ?_
  intro a W8 hd h6 h7 hl hb8
  obtain ⟨g, cs, eg, hg, hc, vp', vw', rfl, hp', hq'⟩ := hl
  injection eg with eg
  injection eg with eg
  injection eg with eg _ _
  subst eg
  have hB := T.out.below.trans (hb8.mono (by omega))
  go_wp2
  exact bodyPost_ret (results2 rfl a.tmps _ (w.heap.size + 1) vp' vw' _ _ _ (.int .i64 E) h6 h7 (cells5_of hc).1) hd ⟨_, rfl, ⟨vp', vw', rfl, hp'.weak (by omega) (Nat.le_refl _), hq'.weak (by omega) (Nat.le_refl _)⟩, hB⟩

theorem append_any (F : Fl) (page : Int) (pl : List UInt8) (v : Value) (w : World) (hv : isFl F v w) (h1 : F.pages.length ≤ 1000000) (h2 : F.wear.length ≤ 1000000) (hfz : F.fuse ≤ 9223372036854775807) (hpl : pl.length ≤ 1000 ∨ 4000 < pl.length) :
    Calls Tryz.prog 22 #[v, .int .i64 page, .string ⟨pl.toArray⟩] w fun e w' => ∃ v', e = .returned (.tuple #[v', .int .i64 (appE F page pl)]) ∧ isFlN w.heap.size (appF F page pl) v' w' ∧ Below w.heap.size w w' := by
  cases hh : hasB F page with
  | false =>
    rw [show appE F page pl = 1 by simp [appE, appOk, hh], show appF F page pl = F by simp [appF, appOk, hh]]
    exact app_no1 F page pl v w hv h1 h2 hh
  | true =>
    by_cases hz : szN (lenI pl) = 0
    · rw [show appE F page pl = 1 by simp [appE, appOk, hz], show appF F page pl = F by simp [appF, appOk, hz]]
      exact app_no2 F page pl v w hv h1 h2 hh hz
    · obtain ⟨k, rfl⟩ := has_nat hh
      have hf := has_facts F k hh
      have hp : F.pages[k]? = some F.pages[k] := List.getElem?_eq_getElem hf.1
      have hpo : pageOf F (k : Int) = F.pages[k] := by simp [pageOf, List.getD_eq_getElem?_getD, hf.1]
      have hl8 := (hf.2.2.2.2.1 F.pages[k] (List.getElem_mem hf.1)).2.1
      have hpl' : pl.length ≤ 1000 := by
        rcases hpl with h | h
        · exact h
        · exfalso; apply hz; unfold szN sizeN lenI; rw [if_pos (by omega)]; rfl
      have hok : appOk F (k : Int) pl = true := by simp [appOk, hh, hz]
      unfold appE appF
      rw [hok, hpo]
      simp only [Bool.true_eq_false, if_false]
      by_cases hfull : nextN F.pages[k] (lenI pl) = roomN F.pages[k] (lenI pl)
      · rw [if_pos hfull, if_pos hfull]
        exact app_full F k pl v w hv h1 h2 _ hh hp hl8 hpl' hz hfull
      · rw [if_neg hfull, if_neg hfull]
        exact app_yes F k pl v w hv h1 h2 _ hh hp hl8 hpl' hz hfz hfull _ rfl (by
          have h1 : nextN F.pages[k] (lenI pl) ≤ roomN F.pages[k] (lenI pl) := tend_le _ _
          have h2 := roomN_le F.pages[k] (lenI pl)
          have h3 := Nat.mul_le_mul_right (szN (lenI pl)) h1
          omega)
end Go.Proofs.YtipiioggdalkoaaGreatDoor
