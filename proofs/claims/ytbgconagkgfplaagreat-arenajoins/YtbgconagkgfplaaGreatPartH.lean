/- Joined texts: contracts of the program's functions, and the mathematics that they lean on. -/
import Derived.Test.YtbgconagkgfplaaGreatPartG
import Derived.RegionTactic
section
namespace Go.Proofs.YtbgconagkgfplaaGreat
open Go.RowKit
set_option linter.unusedVariables false
set_option linter.unusedSimpArgs false
attribute [local irreducible] setN

structure JQ (w W : World) (A : Ar) (X : En) (pa ma px mx : Value) : Prop where
  hb : Below w.heap.size w W
  a : Blk W w.heap.size [.int .i64 A.cap, pa, ma]
  x : Blk W (w.heap.size + 1) [.string ⟨X.key.toArray⟩, .int .i64 X.val.kind, .int .i64 X.val.time, .int .i64 X.val.node, .bool X.val.dead, .string ⟨X.val.text.toArray⟩, px, mx, .int .u64 (X.val.flags.toNat : Int)]
  r : Blk W (w.heap.size + 1 + 1) [.int .i64 0, .slice none 0 0, .slice none 0 0, .bool false, .int .i64 0]
theorem JQ.keep {w W W' : World} {A : Ar} {X : En} {pa ma px mx : Value} (h : JQ w W A X pa ma px mx) (k : Below W.heap.size W W') : JQ w W' A X pa ma px mx :=
  ⟨h.hb.trans (k.mono h.hb.size), h.a.keep k, h.x.keep k, h.r.keep k⟩
theorem jq_new (w : World) (A : Ar) (X : En) (pa ma px mx : Value) : JQ w (((w.alloc (.cells #[.int .i64 A.cap, pa, ma] 25)).alloc (.cells #[.string ⟨X.key.toArray⟩, .int .i64 X.val.kind, .int .i64 X.val.time, .int .i64 X.val.node, .bool X.val.dead, .string ⟨X.val.text.toArray⟩, px, mx, .int .u64 (X.val.flags.toNat : Int)] 30)).alloc (.cells #[.int .i64 0, .slice none 0 0, .slice none 0 0, .bool false, .int .i64 0] 74)) A X pa ma px mx where
  hb := (((Below.refl _ w).alloc (Nat.le_refl _) _).alloc (by simp) _).alloc (by simp; omega) _
  a := ((Blk.new w 25 _ _ rfl).alloc _).alloc _
  x := (Blk.new (w.alloc (.cells #[.int .i64 A.cap, pa, ma] 25)) 30 _ _ (by simp)).alloc _
  r := Blk.new ((w.alloc (.cells #[.int .i64 A.cap, pa, ma] 25)).alloc (.cells #[.string ⟨X.key.toArray⟩, .int .i64 X.val.kind, .int .i64 X.val.time, .int .i64 X.val.node, .bool X.val.dead, .string ⟨X.val.text.toArray⟩, px, mx, .int .u64 (X.val.flags.toNat : Int)] 30)) 74 _ _ (by simp)
theorem cellsN_of_free {w : World} {s : Nat} {cur : Array Value} {T : TypeId} (h : w.heap[s]? = some (.cells cur T (0, 0))) : Free5 w s := fun j => by simp [World.frozen?, h]
def GapJo (M N : Nat) (G : Ar) (b : Bool) (r : Int) : VP := fun v w => ∃ vs vi, v = .agg #[.int .i64 G.cap, vs, vi, .bool b, .int .i64 r] ∧ GapE M N G.slots vs w ∧ GapC M N (G.index.map intC) vi w
/-- The block holds numbers. -/
def IntB (v : Value) (w : World) : Prop := ∀ b, blk v = some b → ∃ cur, w.heap[b]? = some (.cells cur 3 (0, 0))
theorem own_intb {B n : Nat} {w : World} {v : Value} {xs : List Value} (h : w.ownsRow B 3 1 v n xs) : IntB v w := fun b hb => by
  obtain ⟨_, ⟨rfl, _⟩ | ⟨g, cap, cur, rfl, hB, hg, _⟩⟩ := h
  · cases hb
  · injection hb with hb
    have : g = b := hb
    subst this
    exact ⟨_, hg⟩
theorem IntB.keep {v : Value} {w w' : World} (h : IntB v w) (hb : Below w.heap.size w w') : IntB v w' := fun b e => by
  obtain ⟨cur, hc⟩ := h b e
  exact ⟨cur, (hb.block b (Array.getElem?_eq_some_iff.1 hc).1).trans hc⟩
/-- And which of the answer's rows are those that were handed. -/
def GapJt (M N : Nat) (A : Ar) (pa ma : Value) (ok : Bool) (G : Ar) (b : Bool) (r : Int) : VP := fun v w => ∃ vs vi, v = .agg #[.int .i64 G.cap, vs, vi, .bool b, .int .i64 r] ∧ GapE M N G.slots vs w ∧ GapC M N (G.index.map intC) vi w ∧ ((vs = pa ∧ vi = ma ∧ G = A) ∨ (ok = true ∧ ((vi = ma ∧ G.index = A.index) ∨ IntB vi w)))
/-- What join answers: an arena, whether it changed, and what is wrong. -/
def isJo (G : Ar) (b : Bool) (r : Int) : VP := fun v w => ∃ vs vi, v = .agg #[.int .i64 G.cap, vs, vi, .bool b, .int .i64 r] ∧ isEns G.slots vs w ∧ isCells (G.index.map intC) vi w
theorem rfind_at (A : Ar) (X : En) (p : Int) (v : Value) (w : World) (hv : isAr A v w) (hF : FitA A) (hp : findI A X = p) : Calls Tryz.prog 65 #[v, .int .i64 X.val.kind, .string ⟨X.key.toArray⟩] w fun e w' => e = .returned (.int .i64 p) ∧ Below w.heap.size w w' :=
  (rfind_any A X.val.kind X.key v w hv hF).mono (by rintro e w' ⟨rfl, h⟩; exact ⟨by rw [find_nameE, hp], h⟩)
set_option maxRecDepth 100000 in
set_option maxHeartbeats 2000000 in
theorem rjn_typ (M N : Nat) (A : Ar) (X : En) (ok : Bool) (pa ma u : Value) (w : World) (hs : GapE M N A.slots pa w) (hi : GapC M N (A.index.map intC) ma w) (hu : GapEn M N X u w) (hN : N ≤ w.heap.size) (hA : FitA A) (hX : FitE X) (hok : (okA A && okE X) = ok) : Calls Tryz.prog 50 #[.agg #[.int .i64 A.cap, pa, ma], u] w fun e w' => ∃ v', e = .returned v' ∧ GapJt M N A pa ma ok (joinAF A X) (joinAB A X) (joinAE A X) v' w' ∧ Below w.heap.size w w' := by
  have sa := hs
  have ia := hi
  have HOK := Kept.mk hok
  clear hs hi hok
  obtain ⟨px, mx, rfl, hpx, hmx, hgx⟩ := hu
  have HGX := Kept.mk hgx
  have HSA := Kept.mk sa
  have HIA := Kept.mk ia
  have HPX := Kept.mk hpx
  have HMX := Kept.mk hmx
  obtain ⟨sp, sc, es⟩ := sa.ens.len
  obtain ⟨ip, ic, ei⟩ := ia.1.len
  rw [List.length_map] at ei
  clear sa ia hpx hmx hgx
  have J := Kept.mk (jq_new w A X pa ma px mx)
  subst es ei
  have f1 := hA.slots
  have ka0 := J.out.a.cells.2 0 _ rfl
  have ka1 := J.out.a.cells.2 1 _ rfl
  have ka2 := J.out.a.cells.2 2 _ rfl
  go_enter Tryz.func50, Tryz.ntmps50
  go_wp2_with fail
  clear ka0 ka1 ka2
  generalize (((w.alloc (.cells #[.int .i64 A.cap, .slice sp A.slots.length sc, .slice ip A.index.length ic] 25)).alloc (.cells #[.string ⟨X.key.toArray⟩, .int .i64 X.val.kind, .int .i64 X.val.time, .int .i64 X.val.node, .bool X.val.dead, .string ⟨X.val.text.toArray⟩, px, mx, .int .u64 (X.val.flags.toNat : Int)] 30)).alloc (.cells #[.int .i64 0, .slice none 0 0, .slice none 0 0, .bool false, .int .i64 0] 74)) = W0 at *
  cases oa : okA A with
  | false =>
    have O := Kept.mk oa
    clear oa
    refine (rcheckA_at A false _ W0 ⟨_, _, rfl, stable_ens _ _ _ _ HSA.out.ens J.out.hb, stable_cells _ _ _ _ HIA.out.1 J.out.hb⟩ hA O.out).mono ?_
    rintro e W1 ⟨rfl, hb⟩
    replace J := Kept.mk (J.out.keep hb)
    clear hb
    have ka0 := J.out.a.cells.2 0 _ rfl
    have ka1 := J.out.a.cells.2 1 _ rfl
    have ka2 := J.out.a.cells.2 2 _ rfl
    have KZ : Kept (Ones [.int .i64 A.cap, .slice sp A.slots.length sc, .slice ip A.index.length ic, .bool false, .int .i64 2]) := ⟨⟨rfl, rfl, rfl, rfl, rfl, trivial⟩⟩
    go_wp2_with (have hz0 := KZ; refine wpList_storeN 74 rfl (.tmp 4) (.tmp 19) rfl (w.heap.size + 1 + 1) [.int .i64 A.cap, .slice sp A.slots.length sc, .slice ip A.index.length ic, .bool false, .int .i64 2] size_jo rfl rfl J.out.r.cells rfl J.out.r.free KZ.out ?_; clear hz0)
    have hbw := Kept.mk (below_setN (show w.heap.size ≤ (w.heap.size + 1 + 1) by omega) [.int .i64 A.cap, .slice sp A.slots.length sc, .slice ip A.index.length ic, .bool false, .int .i64 2] 0 _ J.out.hb)
    obtain ⟨e1, e2, e3⟩ := join_no (A := A) (Y := X) (by rw [O.out]; rfl)
    rw [e1, e2, e3]
    exact bodyPost_ret (resultsN1 rfl _ _ (w.heap.size + 1 + 1) _ size_jo agg_jo rfl (J.out.r.all_ (l := [.int .i64 A.cap, .slice sp A.slots.length sc, .slice ip A.index.length ic, .bool false, .int .i64 2]) rfl).cells) rfl ⟨_, rfl, ⟨_, _, rfl, HSA.out.keep hbw.out, HIA.out.keep hbw.out, .inl ⟨rfl, rfl, rfl⟩⟩, hbw.out⟩
  | true =>
    have OA := Kept.mk oa
    clear oa
    refine (rcheckA_at A true _ W0 ⟨_, _, rfl, stable_ens _ _ _ _ HSA.out.ens J.out.hb, stable_cells _ _ _ _ HIA.out.1 J.out.hb⟩ hA OA.out).mono ?_
    rintro e W1 ⟨rfl, hb⟩
    replace J := Kept.mk (J.out.keep hb)
    clear hb
    have kx0 := J.out.x.cells.2 0 _ rfl
    have kx1 := J.out.x.cells.2 1 _ rfl
    have kx2 := J.out.x.cells.2 2 _ rfl
    have kx3 := J.out.x.cells.2 3 _ rfl
    have kx4 := J.out.x.cells.2 4 _ rfl
    have kx5 := J.out.x.cells.2 5 _ rfl
    have kx6 := J.out.x.cells.2 6 _ rfl
    have kx7 := J.out.x.cells.2 7 _ rfl
    have kx8 := J.out.x.cells.2 8 _ rfl
    go_wp2_with fail
    clear kx0 kx1 kx2 kx3 kx4 kx5 kx6 kx7 kx8
    cases ox : okE X with
    | false =>
      have O := Kept.mk ox
      clear ox
      refine (rechk_at X false _ W1 ⟨_, _, rfl, stable_cells _ _ _ _ HPX.out J.out.hb, stable_cells _ _ _ _ HMX.out J.out.hb⟩ hX O.out).mono ?_
      rintro e W2 ⟨rfl, hb⟩
      replace J := Kept.mk (J.out.keep hb)
      clear hb
      have ka0 := J.out.a.cells.2 0 _ rfl
      have ka1 := J.out.a.cells.2 1 _ rfl
      have ka2 := J.out.a.cells.2 2 _ rfl
      have KZ : Kept (Ones [.int .i64 A.cap, .slice sp A.slots.length sc, .slice ip A.index.length ic, .bool false, .int .i64 2]) := ⟨⟨rfl, rfl, rfl, rfl, rfl, trivial⟩⟩
      go_wp2_with (have hz0 := KZ; refine wpList_storeN 74 rfl (.tmp 4) (.tmp 19) rfl (w.heap.size + 1 + 1) [.int .i64 A.cap, .slice sp A.slots.length sc, .slice ip A.index.length ic, .bool false, .int .i64 2] size_jo rfl rfl J.out.r.cells rfl J.out.r.free KZ.out ?_; clear hz0)
      have hbw := Kept.mk (below_setN (show w.heap.size ≤ (w.heap.size + 1 + 1) by omega) [.int .i64 A.cap, .slice sp A.slots.length sc, .slice ip A.index.length ic, .bool false, .int .i64 2] 0 _ J.out.hb)
      obtain ⟨e1, e2, e3⟩ := join_no (A := A) (Y := X) (by rw [O.out, Bool.and_false])
      rw [e1, e2, e3]
      exact bodyPost_ret (resultsN1 rfl _ _ (w.heap.size + 1 + 1) _ size_jo agg_jo rfl (J.out.r.all_ (l := [.int .i64 A.cap, .slice sp A.slots.length sc, .slice ip A.index.length ic, .bool false, .int .i64 2]) rfl).cells) rfl ⟨_, rfl, ⟨_, _, rfl, HSA.out.keep hbw.out, HIA.out.keep hbw.out, .inl ⟨rfl, rfl, rfl⟩⟩, hbw.out⟩
    | true =>
      have OX := Kept.mk ox
      clear ox
      refine (rechk_at X true _ W1 ⟨_, _, rfl, stable_cells _ _ _ _ HPX.out J.out.hb, stable_cells _ _ _ _ HMX.out J.out.hb⟩ hX OX.out).mono ?_
      rintro e W2 ⟨rfl, hb⟩
      replace J := Kept.mk (J.out.keep hb)
      clear hb
      have ka0 := J.out.a.cells.2 0 _ rfl
      have ka1 := J.out.a.cells.2 1 _ rfl
      have ka2 := J.out.a.cells.2 2 _ rfl
      have kx0 := J.out.x.cells.2 0 _ rfl
      have kx1 := J.out.x.cells.2 1 _ rfl
      have kx2 := J.out.x.cells.2 2 _ rfl
      have kx3 := J.out.x.cells.2 3 _ rfl
      have kx4 := J.out.x.cells.2 4 _ rfl
      have kx5 := J.out.x.cells.2 5 _ rfl
      have kx6 := J.out.x.cells.2 6 _ rfl
      have kx7 := J.out.x.cells.2 7 _ rfl
      have kx8 := J.out.x.cells.2 8 _ rfl
      go_wp2_with fail
      clear ka0 ka1 ka2
      clear kx0 kx1 kx2 kx3 kx4 kx5 kx6 kx7 kx8
      have OK := Kept.mk (okA_iff.1 OA.out)
      cases hh : hitB (ordA A) X with
      | false =>
        have HH := Kept.mk hh
        clear hh
        refine (rfind_at A X (-1) _ W2 ⟨_, _, rfl, stable_ens _ _ _ _ HSA.out.ens J.out.hb, stable_cells _ _ _ _ HIA.out.1 J.out.hb⟩ hA (find_no OK.out HH.out)).mono ?_
        rintro e W3 ⟨rfl, hb⟩
        replace J := Kept.mk (J.out.keep hb)
        clear hb
        have ka0 := J.out.a.cells.2 0 _ rfl
        have ka1 := J.out.a.cells.2 1 _ rfl
        have ka2 := J.out.a.cells.2 2 _ rfl
        by_cases hc : (A.slots.length : Int) = A.cap
        · skip
          have HC := Kept.mk hc
          have KZ : Kept (Ones [.int .i64 A.cap, .slice sp A.slots.length sc, .slice ip A.index.length ic, .bool false, .int .i64 4]) := ⟨⟨rfl, rfl, rfl, rfl, rfl, trivial⟩⟩
          go_wp2_with (have hz0 := KZ; refine wpList_storeN 74 rfl (.tmp 4) (.tmp 38) rfl (w.heap.size + 1 + 1) [.int .i64 A.cap, .slice sp A.slots.length sc, .slice ip A.index.length ic, .bool false, .int .i64 4] size_jo rfl rfl J.out.r.cells rfl J.out.r.free KZ.out ?_; clear hz0)
          have hbw := Kept.mk (below_setN (show w.heap.size ≤ (w.heap.size + 1 + 1) by omega) [.int .i64 A.cap, .slice sp A.slots.length sc, .slice ip A.index.length ic, .bool false, .int .i64 4] 0 _ J.out.hb)
          obtain ⟨e1, e2, e3⟩ := join_full OA.out OX.out HH.out HC.out
          rw [e1, e2, e3]
          exact bodyPost_ret (resultsN1 rfl _ _ (w.heap.size + 1 + 1) _ size_jo agg_jo rfl (J.out.r.all_ (l := [.int .i64 A.cap, .slice sp A.slots.length sc, .slice ip A.index.length ic, .bool false, .int .i64 4]) rfl).cells) rfl ⟨_, rfl, ⟨_, _, rfl, HSA.out.keep hbw.out, HIA.out.keep hbw.out, .inl ⟨rfl, rfl, rfl⟩⟩, hbw.out⟩
        · skip
          have HC := Kept.mk hc
          have hl8 : A.slots.length ≤ 8 := by have h1 := OK.out.fits; have h2 := OK.out.room; omega
          obtain ⟨ps, em, rw_, sb, -, gq⟩ := HSA.out
          have sr := sb.srcE
          have GQ := Kept.mk gq
          have EM := Kept.mk em
          have RW := Kept.mk rw_
          have SR := Kept.mk sr
          have hpl : ps.length = A.slots.length := by have := congrArg List.length em; rwa [List.length_map] at this
          have J3 := J
          have hsz3 := J.out.r.lt
          have RW3 := Kept.mk (show RowsOk ps W3 from fun q hq => ⟨stable_cells _ _ _ _ (RW.out q hq).1 J3.out.hb, stable_cells _ _ _ _ (RW.out q hq).2 J3.out.hb⟩)
          have SR3 := Kept.mk (SR.out.keepE J3.out.hb)
          clear em rw_ sb sr gq
          go_wp2_with (first | (at_builtin; refine wpList_append_ens rfl (.tmp 39) (.tmp 41) rfl W3.heap.size (.slice none 0 0) [] rfl (outV_nil _ _) _ ps rfl SR3.out RW3.out (fun q hq b hb => by cases hb) (by simp; omega) (Nat.le_refl _) ?_; intro v2 W4 ho2 hg2; have OV := Kept.mk (show OutV W3.heap.size v2 ps W4 from ho2); have BZ := Kept.mk (grown_below (outV_nil _ _) hg2 (Below.refl _ _) (Nat.le_refl _)); clear ho2 hg2 ka0 ka1 ka2; replace J := Kept.mk (J3.out.keep BZ.out); have kx0 := J.out.x.cells.2 0 _ rfl; have kx1 := J.out.x.cells.2 1 _ rfl; have kx2 := J.out.x.cells.2 2 _ rfl; have kx3 := J.out.x.cells.2 3 _ rfl; have kx4 := J.out.x.cells.2 4 _ rfl; have kx5 := J.out.x.cells.2 5 _ rfl; have kx6 := J.out.x.cells.2 6 _ rfl; have kx7 := J.out.x.cells.2 7 _ rfl; have kx8 := J.out.x.cells.2 8 _ rfl) | (at_builtin; go_loud (have OV1 := Kept.mk (OV.out.keep (lit_below W4 (.cells #[.string ⟨X.key.toArray⟩, .int .i64 X.val.kind, .int .i64 X.val.time, .int .i64 X.val.node, .bool X.val.dead, .string ⟨X.val.text.toArray⟩, px, mx, .int .u64 (X.val.flags.toNat : Int)] 30))); have BZ1 := Kept.mk (BZ.out.trans ((lit_below W4 (.cells #[.string ⟨X.key.toArray⟩, .int .i64 X.val.kind, .int .i64 X.val.time, .int .i64 X.val.node, .bool X.val.dead, .string ⟨X.val.text.toArray⟩, px, mx, .int .u64 (X.val.flags.toNat : Int)] 30)).mono BZ.out.size)); have J1 := Kept.mk (J3.out.keep BZ1.out); have SRC := Kept.mk (src_oneE X px mx W4); have ROW := Kept.mk (show RowsOk [(X, px, mx)] w from fun q hq => by rw [List.mem_singleton] at hq; subst hq; exact ⟨HPX.out, HMX.out⟩); have ROW1 := Kept.mk (show RowsOk [(X, px, mx)] (W4.alloc (.cells #[.string ⟨X.key.toArray⟩, .int .i64 X.val.kind, .int .i64 X.val.time, .int .i64 X.val.node, .bool X.val.dead, .string ⟨X.val.text.toArray⟩, px, mx, .int .u64 (X.val.flags.toNat : Int)] 30)) from fun q hq => ⟨stable_cells _ _ _ _ (ROW.out q hq).1 J1.out.hb, stable_cells _ _ _ _ (ROW.out q hq).2 J1.out.hb⟩); have hwN := J3.out.hb.size; have HOF := Kept.mk (show ∀ q ∈ [(X, px, mx)], ∀ b, v2.ownBlock = some b → OffQ b q from fun q hq b hbo => off_old ROW.out (by have := (OV.out.own.lt b hbo).1; omega) q hq); have hpk : ps.length + [(X, px, mx)].length ≤ 1000 := (by simp; omega); have HPK := Kept.mk hpk; clear hpk; refine wpList_append_ens rfl (.tmp 45) (.tmp 47) rfl W3.heap.size v2 ps rfl OV1.out _ [(X, px, mx)] rfl SRC.out ROW1.out HOF.out HPK.out BZ1.out.size ?_; intro v3 W5 ho3 hg3; have OV3 := Kept.mk ho3; have BZ3 := Kept.mk (grown_below OV1.out hg3 BZ1.out (Nat.le_refl _)); clear ho3 hg3 kx0 kx1 kx2 kx3 kx4 kx5 kx6 kx7 kx8; replace J := Kept.mk (J3.out.keep BZ3.out); clear J1)))
          obtain ⟨pl, cl, e3⟩ := OV3.out.len
          generalize hnn : (ps ++ [(X, px, mx)]).length = nn at e3
          clear hnn
          subst e3
          have HENS := Kept.mk (show isEns (A.slots ++ [X]) _ W5 by have h := OV3.out.ens; rw [List.map_append, EM.out] at h; exact h)
          refine rjn10_region _ _ _ rfl w.heap.size (w.heap.size + 1 + 1) _ cl pl A (A.slots ++ [X]) _ _ rfl rfl rfl J.out.a.cells J.out.r.cells J.out.r.free HENS.out (by simp; omega) ?_
          intro a W6 i' hd h4 hb6 hi6
          have J6 := Kept.mk (J.out.keep hb6)
          have OV6 := OV3.out.keep hb6
          have hs5 := BZ3.out.size
          have hbw := Kept.mk (below_setN (show w.heap.size ≤ (w.heap.size + 1 + 1) by omega) [.int .i64 A.cap, .slice pl nn cl, i', .bool true, .int .i64 0] 0 _ J6.out.hb)
          have bt := bt_setN (S := fun b => b = (w.heap.size + 1 + 1)) rfl [.int .i64 A.cap, .slice pl nn cl, i', .bool true, .int .i64 0] 0 W6
          have ownS := bt.own OV6.own (fun g e h => by have := (OV6.own.lt g e).1; omega)
          have rowS : RowsOk (ps ++ [(X, px, mx)]) (setN W6 (w.heap.size + 1 + 1) 0 [.int .i64 A.cap, .slice pl nn cl, i', .bool true, .int .i64 0]) := fun q hq => (List.mem_append.1 hq).elim (fun h => ⟨stable_cells _ _ _ _ (RW.out q h).1 hbw.out, stable_cells _ _ _ _ (RW.out q h).2 hbw.out⟩) (fun h => ⟨stable_cells _ _ _ _ (ROW.out q h).1 hbw.out, stable_cells _ _ _ _ (ROW.out q h).2 hbw.out⟩)
          have hN3 : N ≤ W3.heap.size := Nat.le_trans hN J3.out.hb.size
          have ensS := gap_own (M := M) (N := N) ownS hN3 rowS (fun q hq => (List.mem_append.1 hq).elim (fun h => GQ.out q h) (fun h => by rw [List.mem_singleton] at h; subst h; exact HGX.out))
          rw [List.map_append, EM.out] at ensS
          have idxO : W6.ownsRow _ _ _ _ _ _ := hi6
          have idxS : OutI _ i' _ _ := bt.own idxO (fun g e h => by have := (idxO.lt g e).1; omega)
          have ES := Kept.mk ensS
          have IS := Kept.mk (show GapC M N ((putIdx A X).map intC) i' (setN W6 (w.heap.size + 1 + 1) 0 [.int .i64 A.cap, .slice pl nn cl, i', .bool true, .int .i64 0]) from ⟨by rw [join_index OK.out OX.out HH.out HC.out]; exact idxS.cells, .inr (own_gap idxO (Nat.le_trans hN3 hs5))⟩)
          have IB := Kept.mk (own_intb idxS)
          clear ensS rowS ownS bt OV6 idxO idxS hi6
          go_wp2
          obtain ⟨e1, e2, e3⟩ := join_new OA.out OX.out HH.out HC.out
          rw [e1, e2, e3]
          exact bodyPost_ret (resultsN1 rfl _ _ (w.heap.size + 1 + 1) _ size_jo agg_jo h4 (J6.out.r.all_ (l := [.int .i64 A.cap, .slice pl nn cl, i', .bool true, .int .i64 0]) rfl).cells) hd ⟨_, rfl, ⟨_, _, rfl, ES.out, IS.out, .inr ⟨by rw [← HOK.out, OA.out, OX.out]; rfl, .inr IB.out⟩⟩, hbw.out⟩
      | true =>
        have HH := Kept.mk hh
        clear hh
        have hps := place_spec OK.out HH.out
        obtain ⟨q, hqe⟩ : ∃ q : Nat, placeI A X = (q : Int) := ⟨(placeI A X).toNat, by have := hps.1.1; omega⟩
        have hq : q < A.slots.length := by have := hps.1.2; omega
        have hq0 : ¬ (q : Int) < 0 := by omega
        obtain ⟨Y, hYe⟩ : ∃ Y, slotAt A.slots (placeI A X) = Y := ⟨_, rfl⟩
        have HYE := Kept.mk hYe
        have HQE := Kept.mk hqe
        have HY := Kept.mk (show A.slots[q]? = some Y by have h := slotAt_nat A.slots (placeI A X) hps.1; rw [hYe, hqe] at h; exact h)
        have HNM := Kept.mk (show nameB Y X = true by have h := hps.2.2.2; rw [hYe] at h; exact h)
        have P := Kept.mk (show findI A X = (q : Int) by rw [find_hit OK.out HH.out, hqe])
        have OY := Kept.mk (OK.out.ents Y (List.mem_of_getElem? HY.out))
        have FY := Kept.mk (show FitE Y from ok_fit' OY.out)
        clear hps hYe hqe
        obtain ⟨J0, hJ0⟩ : ∃ J0, joinEF Y X = J0 := ⟨_, rfl⟩
        have HJF := Kept.mk hJ0
        have HJE := Kept.mk (show joinEE Y X = 0 by unfold joinEE; rw [OY.out, OX.out, HNM.out]; rfl)
        have OJ := Kept.mk (show okE J0 = true by rw [← hJ0]; exact joinEF_ok HJE.out)
        have FJ := Kept.mk (show FitE J0 from ok_fit' OJ.out)
        clear hJ0
        obtain ⟨z, hz⟩ : ∃ z, decide (Y = J0) = z := ⟨_, rfl⟩
        have HZ := Kept.mk hz
        clear hz
        refine (rfind_at A X (q : Int) _ W2 ⟨_, _, rfl, stable_ens _ _ _ _ HSA.out.ens J.out.hb, stable_cells _ _ _ _ HIA.out.1 J.out.hb⟩ hA P.out).mono ?_
        rintro e W3 ⟨rfl, hb⟩
        replace J := Kept.mk (J.out.keep hb)
        clear hb
        have ka0 := J.out.a.cells.2 0 _ rfl
        have ka1 := J.out.a.cells.2 1 _ rfl
        have ka2 := J.out.a.cells.2 2 _ rfl
        have hl8 : A.slots.length ≤ 8 := by have h1 := OK.out.fits; have h2 := OK.out.room; omega
        obtain ⟨ps, em, rw_, sb, -, gq⟩ := HSA.out
        have sr := sb.srcE
        have GQ := Kept.mk gq
        have EM := Kept.mk em
        have RW := Kept.mk rw_
        have SR := Kept.mk sr
        have hpl : ps.length = A.slots.length := by have := congrArg List.length em; rwa [List.length_map] at this
        have J3 := J
        have hsz3 := J.out.r.lt
        have RW3 := Kept.mk (show RowsOk ps W3 from fun q hq => ⟨stable_cells _ _ _ _ (RW.out q hq).1 J3.out.hb, stable_cells _ _ _ _ (RW.out q hq).2 J3.out.hb⟩)
        have SR3 := Kept.mk (SR.out.keepE J3.out.hb)
        clear em rw_ sb sr gq
        have HPL := Kept.mk hpl
        have hp1000 : ps.length ≤ 1000 := by omega
        clear hpl
        obtain ⟨⟨Y', xp, xm⟩, hpq, hY'⟩ := Option.map_eq_some_iff.1 (show (ps[q]?).map (·.1) = some Y by rw [← List.getElem?_map, EM.out]; exact HY.out)
        obtain rfl : Y' = Y := hY'
        have HPQ := Kept.mk hpq
        have HRW := Kept.mk (RW.out _ (List.mem_of_getElem? hpq))
        clear hpq
        go_wp2_with (at_builtin; refine wpList_append_ens rfl (.tmp 39) (.tmp 41) rfl W3.heap.size (.slice none 0 0) [] rfl (outV_nil _ _) _ ps rfl SR3.out RW3.out (fun q hq b hb => by cases hb) (by simp; omega) (Nat.le_refl _) ?_; intro v2 W4 ho2 hg2; have OV := Kept.mk (show OutV W3.heap.size v2 ps W4 from ho2); have BZ := Kept.mk (grown_below (outV_nil _ _) hg2 (Below.refl _ _) (Nat.le_refl _)); clear ho2 hg2 ka0 ka1 ka2; replace J := Kept.mk (J3.out.keep BZ.out))
        have hqp : q < ps.length := by rw [HPL.out]; exact hq
        obtain ⟨s, cap, cur, ev, hg, hcs, hn, hc, ht, hBs, hlt⟩ := OV.out.slot hqp
        subst ev
        have HCF := Kept.mk (cell_flat hg ht HPQ.out)
        clear hg hcs hn hc ht
        refine rjn11_region _ _ _ rfl q ps.length s 0 cap (w.heap.size + 1) Y' X J0 xp xm px mx rfl rfl rfl hqp hlt (fun j x hx => by rw [Nat.zero_add]; exact HCF.out j x hx) J.out.x.cells (stable_cells _ _ _ _ HRW.out.1 J.out.hb) (stable_cells _ _ _ _ HRW.out.2 J.out.hb) (stable_cells _ _ _ _ HPX.out J.out.hb) (stable_cells _ _ _ _ HMX.out J.out.hb) FY.out hX HJE.out HJF.out OJ.out ?_
        intro f9 W9 d7 d8 hb9
        simp only [List.foldl_cons, List.foldl_nil, d8]
        generalize f9 57 = y57
        generalize f9 58 = y58
        generalize f9 59 = y59
        generalize f9 60 = y60
        generalize f9 61 = y61
        generalize f9 62 = y62
        generalize f9 56 = y56
        generalize f9 63 = y63
        generalize f9 64 = y64
        generalize f9 7 = y7 at d7 ⊢
        clear d8
        simp only [List.setIfInBounds_toArray, List.set_cons_succ, List.set_cons_zero]
        obtain ⟨gx, ey, jp, jm, cx, hjp, hjm, njp, njm⟩ := d7
        subst ey
        have HB9 := Kept.mk hb9
        have hs9 := hb9.size
        have J9 := Kept.mk (J.out.keep hb9)
        have CX := Kept.mk cx
        have HJP := Kept.mk hjp
        have HJM := Kept.mk hjm
        have NJP := Kept.mk njp
        have NJM := Kept.mk njm
        clear hb9 cx hjp hjm njp njm
        go_wp2
        refine rjn12_region _ _ _ rfl q ps.length s 0 cap gx Y' J0 xp xm jp jm z rfl rfl rfl hqp (Nat.lt_of_lt_of_le hlt hs9) (fun j x hx => by rw [Nat.zero_add]; exact (HB9.out.cell (p := ⟨s, q * 9 + j, none⟩) hlt).trans (HCF.out j x hx)) CX.out (stable_cells _ _ _ _ HRW.out.1 J9.out.hb) (stable_cells _ _ _ _ HRW.out.2 J9.out.hb) HJP.out HJM.out FY.out FJ.out HZ.out ?_
        intro f8 W8 d9 hb8
        simp only [List.foldl_cons, List.foldl_nil, d9]
        generalize f8 65 = y65
        generalize f8 66 = y66
        generalize f8 67 = y67
        generalize f8 68 = y68
        generalize f8 69 = y69
        generalize f8 70 = y70
        generalize f8 71 = y71
        clear d9
        simp only [List.setIfInBounds_toArray, List.set_cons_succ, List.set_cons_zero]
        have HB8 := Kept.mk (HB9.out.trans (hb8.mono hs9))
        have hs8 := HB8.out.size
        have J8 := Kept.mk (J9.out.keep hb8)
        have CX8 := Kept.mk (CX.out.keep hb8 CX.out.1)
        have HJP8 := Kept.mk (stable_cells _ _ _ _ HJP.out hb8)
        have HJM8 := Kept.mk (stable_cells _ _ _ _ HJM.out hb8)
        have OV8 := Kept.mk (OV.out.keep HB8.out)
        clear hb8
        obtain ⟨s', cap', cur, ev, hg, hcs, hn, hc, ht, hBs', hlt'⟩ := OV8.out.slot hqp
        injection ev with ev1 ev2 ev3
        injection ev1 with ev1
        injection ev1 with ev1
        subst ev1 ev3
        clear ev2
        have HG8 := Kept.mk hg
        have OFS := Kept.mk (show OffQ s (J0, jp, jm) from ⟨by by_cases h : J0.val.plus = []; exact .inl (by rw [h]; rfl); exact .inr ((NJP.out h).ne hlt), by by_cases h : J0.val.minus = []; exact .inl (by rw [h]; rfl); exact .inr ((NJM.out h).ne hlt)⟩)
        have OV10 := Kept.mk (OutV.set J0 jp jm OV8.out hg hcs hn hc ht hBs hqp HJP8.out HJM8.out OFS.out)
        have hj3 := J3.out.hb.size
        have HSC := Kept.mk (show ∀ j, j < (enL J0 jp jm).length → ∃ x, W8.cell? ⟨s, q * 9 + j, none⟩ = some x from fun j hj => ⟨_, cell_flat hg ht HPQ.out j _ (List.getElem?_eq_getElem (show j < (enL Y' xp xm).length from hj))⟩)
        have FRS := Kept.mk (cellsN_of_free hg)
        have KJ := Kept.mk (show Ones (enL J0 jp jm) from ⟨rfl, rfl, rfl, rfl, rfl, rfl, HJP8.out.one, HJM8.out.one, rfl, trivial⟩)
        have hsR : s ≠ (w.heap.size + 1 + 1) := by omega
        have hsA : s ≠ w.heap.size := by omega
        have hsX : s ≠ w.heap.size + 1 := by omega
        have J10 := Kept.mk (show JQ w (setN W8 s (q * 9) (enL J0 jp jm)) A X _ _ px mx from ⟨below_setN (show w.heap.size ≤ s by omega) _ _ _ J8.out.hb, J8.out.a.apartN hsA.symm _ _, J8.out.x.apartN hsX.symm _ _, J8.out.r.apartN hsR.symm _ _⟩)
        clear hg hcs hn hc ht hBs' hlt'
        have kc0 := CX8.out.2 0 _ rfl
        have kc1 := CX8.out.2 1 _ rfl
        have kc2 := CX8.out.2 2 _ rfl
        have kc3 := CX8.out.2 3 _ rfl
        have kc4 := CX8.out.2 4 _ rfl
        have kc5 := CX8.out.2 5 _ rfl
        have kc6 := CX8.out.2 6 _ rfl
        have kc7 := CX8.out.2 7 _ rfl
        have kc8 := CX8.out.2 8 _ rfl
        have KZ := Kept.mk (show Ones [.int .i64 A.cap, .slice (some ⟨s, 0, none⟩) ps.length cap, .slice ip A.index.length ic, .bool !z, .int .i64 0] from ⟨rfl, rfl, rfl, rfl, rfl, trivial⟩)
        go_wp2_with (first | (have hz0 := KJ; refine wpList_storeO 30 rfl (.tmp 75) (.tmp 74) rfl s (q * 9) (enL J0 jp jm) size_en rfl rfl KJ.out HSC.out FRS.out ?_; clear hz0 KJ HSC FRS kc0 kc1 kc2 kc3 kc4 kc5 kc6 kc7 kc8; generalize setN W8 s (q * 9) (enL J0 jp jm) = W10 at *; have ka0 := J10.out.a.cells.2 0 _ rfl; have ka1 := J10.out.a.cells.2 1 _ rfl; have ka2 := J10.out.a.cells.2 2 _ rfl) | (have hz1 := KZ; refine wpList_storeN 74 rfl (.tmp 4) (.tmp 83) rfl (w.heap.size + 1 + 1) [.int .i64 A.cap, .slice (some ⟨s, 0, none⟩) ps.length cap, .slice ip A.index.length ic, .bool !z, .int .i64 0] size_jo rfl rfl J10.out.r.cells rfl J10.out.r.free KZ.out ?_; clear hz1))
        have hbw := Kept.mk (below_setN (show w.heap.size ≤ (w.heap.size + 1 + 1) by omega) [.int .i64 A.cap, .slice (some ⟨s, 0, none⟩) ps.length cap, .slice ip A.index.length ic, .bool !z, .int .i64 0] 0 _ J10.out.hb)
        have bt := bt_setN (S := fun b => b = (w.heap.size + 1 + 1)) rfl [.int .i64 A.cap, .slice (some ⟨s, 0, none⟩) ps.length cap, .slice ip A.index.length ic, .bool !z, .int .i64 0] 0 W10
        have ownS := bt.own OV10.out.own (fun g e h => by have := (OV10.out.own.lt g e).1; omega)
        have rowS : RowsOk (ps.set q (J0, jp, jm)) (setN W10 (w.heap.size + 1 + 1) 0 [.int .i64 A.cap, .slice (some ⟨s, 0, none⟩) ps.length cap, .slice ip A.index.length ic, .bool !z, .int .i64 0]) := fun p hp => by
            rcases List.mem_or_eq_of_mem_set hp with hp' | rfl
            · exact ⟨stable_cells _ _ _ _ (RW.out p hp').1 hbw.out, stable_cells _ _ _ _ (RW.out p hp').2 hbw.out⟩
            · have r := OV10.out.rows _ hp
              refine ⟨bt.cells r.1 ?_, bt.cells r.2 ?_⟩
              · by_cases h : J0.val.plus = []
                · exact .inl (by rw [h]; rfl)
                · exact .inr (fun b hb e => (NJP.out h).ne (g := (w.heap.size + 1 + 1)) (by omega) (by rw [hb, e]))
              · by_cases h : J0.val.minus = []
                · exact .inl (by rw [h]; rfl)
                · exact .inr (fun b hb e => (NJM.out h).ne (g := (w.heap.size + 1 + 1)) (by omega) (by rw [hb, e]))
        have hN3 : N ≤ W3.heap.size := Nat.le_trans hN J3.out.hb.size
        have hN4 : N ≤ W4.heap.size := Nat.le_trans hN3 BZ.out.size
        have ensS := gap_own (M := M) (N := N) ownS hN3 rowS (fun p hp => (List.mem_or_eq_of_mem_set hp).elim (fun h => GQ.out p h) (fun h => by subst h; exact gap_new (fun h => (NJP.out h).low hN4) (fun h => (NJM.out h).low hN4)))
        rw [List.map_set, EM.out] at ensS
        obtain ⟨e1, e2, e3⟩ := join_hit OA.out OX.out HH.out
        rw [HYE.out, HJF.out, HZ.out] at e2
        rw [show meetL A X = A.slots.set q J0 by unfold meetL; rw [HYE.out, HJF.out, HQE.out]; rfl] at e3
        rw [e1, e2, e3]
        exact bodyPost_ret (resultsN1 rfl _ _ (w.heap.size + 1 + 1) _ size_jo agg_jo rfl (J10.out.r.all_ (l := [.int .i64 A.cap, .slice (some ⟨s, 0, none⟩) ps.length cap, .slice ip A.index.length ic, .bool !z, .int .i64 0]) rfl).cells) rfl ⟨_, rfl, ⟨_, _, rfl, ensS, HIA.out.keep hbw.out, .inr ⟨by rw [← HOK.out, OA.out, OX.out]; rfl, .inl ⟨rfl, rfl⟩⟩⟩, hbw.out⟩
theorem rjn_gap (M N : Nat) (A : Ar) (X : En) (v u : Value) (w : World) (hv : GapAr M N A v w) (hu : GapEn M N X u w) (hN : N ≤ w.heap.size) (hA : FitA A) (hX : FitE X) : Calls Tryz.prog 50 #[v, u] w fun e w' => ∃ v', e = .returned v' ∧ GapJo M N (joinAF A X) (joinAB A X) (joinAE A X) v' w' ∧ Below w.heap.size w w' := by
  obtain ⟨pa, ma, rfl, sa, ia⟩ := hv
  exact (rjn_typ M N A X _ pa ma u w sa ia hu hN hA hX rfl).mono (by
    rintro e w' ⟨v', rfl, ⟨vs, vi, rfl, h1, h2, _⟩, hb⟩
    exact ⟨_, rfl, ⟨vs, vi, rfl, h1, h2⟩, hb⟩)
end Go.Proofs.YtbgconagkgfplaaGreat
end
section
namespace Go.Proofs.YtbgconagkgfplaaGreat
open Go.RowKit
set_option linter.unusedVariables false
set_option linter.unusedSimpArgs false
theorem setN_three (w : World) (g : Nat) (a b c : Value) : setN w g 0 [a, b, c] = ((w.setCell ⟨g, 0, none⟩ a).setCell ⟨g, 1, none⟩ b).setCell ⟨g, 2, none⟩ c := rfl
attribute [local irreducible] setN

set_option maxRecDepth 100000 in
set_option maxHeartbeats 2000000 in
theorem rjoinA_at (A : Ar) (X : En) (G : Ar) (z : Bool) (r : Int) (v u : Value) (w : World) (hv : isAr A v w) (hu : isEn X u w) (hA : FitA A) (hX : FitE X) (hG : joinAF A X = G) (hz : joinAB A X = z) (hr : joinAE A X = r) : Calls Tryz.prog 15 #[v, u] w fun e w' => ∃ v', e = .returned (.tuple #[v', .bool z, .int .i64 r]) ∧ isAr G v' w' ∧ Below w.heap.size w w' := by
  obtain ⟨pa, ma, rfl, sa, ia⟩ := hv
  obtain ⟨px, mx, rfl, hpx, hmx⟩ := hu
  have HSA := Kept.mk sa
  have HIA := Kept.mk ia
  have HPX := Kept.mk hpx
  have HMX := Kept.mk hmx
  obtain ⟨sp, sc, es⟩ := sa.len
  obtain ⟨ip, ic, ei⟩ := ia.len
  rw [List.length_map] at ei
  clear sa ia hpx hmx
  subst es ei
  have hb0 : Below w.heap.size w (((w.alloc (.cells #[.int .i64 A.cap, .slice sp A.slots.length sc, .slice ip A.index.length ic] 25)).alloc (.cells #[.string ⟨X.key.toArray⟩, .int .i64 X.val.kind, .int .i64 X.val.time, .int .i64 X.val.node, .bool X.val.dead, .string ⟨X.val.text.toArray⟩, px, mx, .int .u64 (X.val.flags.toNat : Int)] 30)).alloc (.cells #[.int .i64 0, .slice none 0 0, .slice none 0 0] 25)) := (((Below.refl _ w).alloc (Nat.le_refl _) _).alloc (by simp) _).alloc (by simp; omega) _
  have hB := Kept.mk hb0
  have BA := Kept.mk (((Blk.new w 25 [.int .i64 A.cap, .slice sp A.slots.length sc, .slice ip A.index.length ic] w.heap.size rfl).alloc (.cells #[.string ⟨X.key.toArray⟩, .int .i64 X.val.kind, .int .i64 X.val.time, .int .i64 X.val.node, .bool X.val.dead, .string ⟨X.val.text.toArray⟩, px, mx, .int .u64 (X.val.flags.toNat : Int)] 30)).alloc (.cells #[.int .i64 0, .slice none 0 0, .slice none 0 0] 25))
  have BXX := Kept.mk ((Blk.new (w.alloc (.cells #[.int .i64 A.cap, .slice sp A.slots.length sc, .slice ip A.index.length ic] 25)) 30 [.string ⟨X.key.toArray⟩, .int .i64 X.val.kind, .int .i64 X.val.time, .int .i64 X.val.node, .bool X.val.dead, .string ⟨X.val.text.toArray⟩, px, mx, .int .u64 (X.val.flags.toNat : Int)] (w.heap.size + 1) (by simp)).alloc (.cells #[.int .i64 0, .slice none 0 0, .slice none 0 0] 25))
  have BR := Kept.mk (Blk.new ((w.alloc (.cells #[.int .i64 A.cap, .slice sp A.slots.length sc, .slice ip A.index.length ic] 25)).alloc (.cells #[.string ⟨X.key.toArray⟩, .int .i64 X.val.kind, .int .i64 X.val.time, .int .i64 X.val.node, .bool X.val.dead, .string ⟨X.val.text.toArray⟩, px, mx, .int .u64 (X.val.flags.toNat : Int)] 30)) 25 [.int .i64 0, .slice none 0 0, .slice none 0 0] (w.heap.size + 1 + 1) (by simp))
  have ka0 := BA.out.cells.2 0 _ rfl
  have ka1 := BA.out.cells.2 1 _ rfl
  have ka2 := BA.out.cells.2 2 _ rfl
  have kx0 := BXX.out.cells.2 0 _ rfl
  have kx1 := BXX.out.cells.2 1 _ rfl
  have kx2 := BXX.out.cells.2 2 _ rfl
  have kx3 := BXX.out.cells.2 3 _ rfl
  have kx4 := BXX.out.cells.2 4 _ rfl
  have kx5 := BXX.out.cells.2 5 _ rfl
  have kx6 := BXX.out.cells.2 6 _ rfl
  have kx7 := BXX.out.cells.2 7 _ rfl
  have kx8 := BXX.out.cells.2 8 _ rfl
  clear hb0 BA BXX
  have HJ := Kept.mk (fun (v u : Value) (W : World) hv hu hN => rjn_gap w.heap.size (w.heap.size + 3) A X v u W hv hu hN hA hX)
  have hW0 : w.heap.size + 3 ≤ (((w.alloc (.cells #[.int .i64 A.cap, .slice sp A.slots.length sc, .slice ip A.index.length ic] 25)).alloc (.cells #[.string ⟨X.key.toArray⟩, .int .i64 X.val.kind, .int .i64 X.val.time, .int .i64 X.val.node, .bool X.val.dead, .string ⟨X.val.text.toArray⟩, px, mx, .int .u64 (X.val.flags.toNat : Int)] 30)).alloc (.cells #[.int .i64 0, .slice none 0 0, .slice none 0 0] 25)).heap.size := by simp
  rw [hG, hz, hr] at HJ
  clear hG hz hr
  go_enter Tryz.func15, Tryz.ntmps15
  go_wp2_with fail
  clear ka0 ka1 ka2 kx0 kx1 kx2 kx3 kx4 kx5 kx6 kx7 kx8
  generalize (((w.alloc (.cells #[.int .i64 A.cap, .slice sp A.slots.length sc, .slice ip A.index.length ic] 25)).alloc (.cells #[.string ⟨X.key.toArray⟩, .int .i64 X.val.kind, .int .i64 X.val.time, .int .i64 X.val.node, .bool X.val.dead, .string ⟨X.val.text.toArray⟩, px, mx, .int .u64 (X.val.flags.toNat : Int)] 30)).alloc (.cells #[.int .i64 0, .slice none 0 0, .slice none 0 0] 25)) = W0 at *
  refine (HJ.out _ _ W0 ⟨_, _, rfl, (gap_ens _ HSA.out).keep hB.out, (gap_cells _ HIA.out).keep hB.out⟩ ⟨_, _, rfl, stable_cells _ _ _ _ HPX.out hB.out, stable_cells _ _ _ _ HMX.out hB.out, gap_q (q := (X, px, mx)) _ HPX.out HMX.out⟩ hW0).mono ?_
  clear hW0
  rintro e U ⟨v', rfl, ⟨vs, vi, rfl, hs, hi⟩, hb⟩
  obtain ⟨us, uc, rfl⟩ := hs.ens.len
  obtain ⟨ui, uk, eu⟩ := hi.1.len
  rw [List.length_map] at eu
  subst eu
  generalize hun : G.slots.length = un at *
  generalize hum : G.index.length = um at *
  clear hun hum
  have hlt := BR.out.lt
  replace BR := Kept.mk (BR.out.keep hb)
  replace hB := Kept.mk (hB.out.trans (hb.mono hB.out.size))
  have K := Kept.mk (Blk.new U 74 [.int .i64 0, .slice none 0 0, .slice none 0 0, .bool false, .int .i64 0] U.heap.size rfl)
  have KZ := Kept.mk (show Ones [.int .i64 G.cap, .slice us un uc, .slice ui um uk, .bool z, .int .i64 r] from ⟨rfl, rfl, rfl, rfl, rfl, trivial⟩)
  have hbu := lit_below U (.cells #[.int .i64 0, .slice none 0 0, .slice none 0 0, .bool false, .int .i64 0] 74)
  have hbs := (hbu.trans (below_setN (Nat.le_refl _) [.int .i64 G.cap, .slice us un uc, .slice ui um uk, .bool z, .int .i64 r] 0 _ (Below.refl _ _)))
  have BR9 := Kept.mk (BR.out.keep hbs)
  have hB9 := Kept.mk (hB.out.trans (hbs.mono hB.out.size))
  have HS9 := Kept.mk (hs.keep hbs)
  have HI9 := Kept.mk (hi.keep hbs)
  have K9 := Kept.mk (K.out.all_ (l := [.int .i64 G.cap, .slice us un uc, .slice ui um uk, .bool z, .int .i64 r]) rfl)
  have hUU := hb.size
  clear hbu hbs hs hi hb
  go_wp2_with (have hz0 := KZ; refine wpList_storeN 74 rfl (.tmp 7) (.tmp 10) rfl U.heap.size [.int .i64 G.cap, .slice us un uc, .slice ui um uk, .bool z, .int .i64 r] size_jo rfl rfl K.out.cells rfl K.out.free KZ.out ?_; clear hz0 KZ K)
  generalize setN (U.alloc (.cells #[.int .i64 0, .slice none 0 0, .slice none 0 0, .bool false, .int .i64 0] 74)) U.heap.size 0 [.int .i64 G.cap, .slice us un uc, .slice ui um uk, .bool z, .int .i64 r] = W9 at *
  generalize U.heap.size = gx at *
  have c0 := K9.out.cells.2 0 _ rfl
  have c1 := K9.out.cells.2 1 _ rfl
  have c2 := K9.out.cells.2 2 _ rfl
  have c3 := K9.out.cells.2 3 _ rfl
  have c4 := K9.out.cells.2 4 _ rfl
  have r0 := BR9.out.cells.2 0 _ rfl
  have r1 := BR9.out.cells.2 1 _ rfl
  have r2 := BR9.out.cells.2 2 _ rfl
  have q0 := BR9.out.free 0
  have q1 := BR9.out.free 1
  have q2 := BR9.out.free 2
  have hne : w.heap.size + 1 + 1 ≠ gx := by omega
  have hne2 : gx ≠ w.heap.size + 1 + 1 := by omega
  have hR1 := bt_setN (S := fun b => b = w.heap.size + 1 + 1) rfl [.int .i64 G.cap, .slice us un uc, .slice ui um uk] 0 W9
  have hD := (Below.refl (setN W9 (w.heap.size + 1 + 1) 0 [.int .i64 G.cap, .slice us un uc, .slice ui um uk]).heap.size (setN W9 (w.heap.size + 1 + 1) 0 [.int .i64 G.cap, .slice us un uc, .slice ui um uk])).drew
  have HS10 := Kept.mk ((HS9.out.bt hR1 (fun b e => by omega)).keep hD)
  have HI10 := Kept.mk ((HI9.out.bt hR1 (fun b e => by omega)).keep hD)
  have HB10 := Kept.mk ((below_setN (show w.heap.size ≤ w.heap.size + 1 + 1 by omega) [.int .i64 G.cap, .slice us un uc, .slice ui um uk] 0 _ hB9.out).drew)
  have CR := Kept.mk ((BR9.out.all_ (l := [.int .i64 G.cap, .slice us un uc, .slice ui um uk]) rfl).keep hD)
  rw [setN_three] at HS10 HI10 HB10 CR
  clear hR1 hD HS9 HI9 hB9
  go_region
  all_goals generalize (((W9.setCell ⟨w.heap.size + 1 + 1, 0, none⟩ (.int .i64 G.cap)).setCell ⟨w.heap.size + 1 + 1, 1, none⟩ (.slice us un uc)).setCell ⟨w.heap.size + 1 + 1, 2, none⟩ (.slice ui um uk)).drew = WD at *
  all_goals go_wp2
  all_goals exact bodyPost_ret (resultsN3 rfl _ _ (w.heap.size + 1 + 1) [.int .i64 G.cap, .slice us un uc, .slice ui um uk] (.bool z) (.int .i64 r) size_ar agg_ar rfl rfl rfl CR.out.cells) rfl ⟨_, rfl, ⟨_, _, rfl, HS10.out.ens, HI10.out.1⟩, HB10.out⟩
end Go.Proofs.YtbgconagkgfplaaGreat
end
section
namespace Go.Proofs.YtbgconagkgfplaaGreat
open Go.RowKit
set_option linter.unusedVariables false
set_option linter.unusedSimpArgs false
attribute [local irreducible] setN

def Row8 (E : En) : Prop := (E.val.plus.length = 8 ∨ E.val.plus = []) ∧ (E.val.minus.length = 8 ∨ E.val.minus = [])
theorem okV_row8 {v : Va} (h : okV v = true) : (v.plus.length = 8 ∨ v.plus = []) ∧ (v.minus.length = 8 ∨ v.minus = []) := by
  have hk : kindN v ≠ 0 := of_decide_eq_true h
  unfold kindN at hk
  split at hk
  · split at hk
    · rename_i h1
      rw [Bool.and_eq_true] at h1
      have e := of_decide_eq_true h1.2
      rw [e]
      exact ⟨.inr rfl, .inr rfl⟩
    · exact absurd rfl hk
  · split at hk
    · split at hk
      · rename_i h1
        rw [Bool.and_eq_true] at h1
        have h2 := h1.1
        unfold inCount okRow at h2
        simp only [Bool.and_eq_true, decide_eq_true_eq] at h2
        exact ⟨.inl h2.1.1, .inl h2.2.1⟩
      · exact absurd rfl hk
    · split at hk
      · split at hk
        · rename_i h1
          have e := of_decide_eq_true h1
          rw [e]
          exact ⟨.inr rfl, .inr rfl⟩
        · exact absurd rfl hk
      · exact absurd rfl hk
theorem ok_row8 {E : En} (h : okE E = true) : Row8 E := by
  unfold okE at h
  rw [Bool.and_eq_true] at h
  exact okV_row8 h.2
theorem join_row8 {A : Ar} {x : En} (h1 : (okA A && okE x) = true) : ∀ e ∈ (joinAF A x).slots, Row8 e := by
  rw [Bool.and_eq_true] at h1
  have ok := okA_iff.1 h1.1
  cases h2 : hitB (ordA A) x with
  | true =>
    rw [(join_hit h1.1 h1.2 h2).2.2]
    obtain ⟨pr, _, _, pn⟩ := place_spec ok h2
    intro e he
    have he : e ∈ meetL A x := he
    unfold meetL at he
    rcases List.mem_or_eq_of_mem_set he with he | rfl
    · exact ok_row8 (ok.ents e he)
    · refine ok_row8 (joinEF_ok ?_)
      unfold joinEE
      rw [ok.ents _ (slotAt_mem pr), h1.2, pn]; rfl
  | false =>
    by_cases h3 : (A.slots.length : Int) = A.cap
    · rw [(join_full h1.1 h1.2 h2 h3).2.2]; exact fun e he => ok_row8 (ok.ents e he)
    · rw [(join_new h1.1 h1.2 h2 h3).2.2]
      intro e he
      rcases List.mem_append.1 he with he | he
      · exact ok_row8 (ok.ents e he)
      · rw [List.mem_singleton] at he; rw [he]; exact ok_row8 h1.2
theorem five_off {w : World} {g : Nat} {T : TypeId} {z : List Value} (hz : z.length = 5) (hg : w.heap[g]? = some (.cells z.toArray T (0, 0))) {b off : Nat} {l : List Value} {x : Value} (hx : l[5]? = some x) (hc : ∀ (j : Nat) (x : Value), l[j]? = some x → w.cell? ⟨b, off + j, none⟩ = some x) : b ≠ g := by
  intro e
  subst e
  have h := hc 5 x hx
  simp only [World.cell?, hg] at h
  have h : z.toArray[off + 5]? = some x := h
  have := (Array.getElem?_eq_some_iff.1 h).1
  simp at this
  omega
theorem cells_off5 {cs : List Value} {v : Value} {w : World} {g : Nat} {T : TypeId} {z : List Value} (hz : z.length = 5) (hg : w.heap[g]? = some (.cells z.toArray T (0, 0))) (h8 : cs.length = 8 ∨ cs = []) (h : isCells cs v w) : cs = [] ∨ ∀ b, blk v = some b → ¬ b = g := by
  rcases h8 with h8 | h8
  · rcases h with ⟨_, h⟩ | ⟨_, _, _, h⟩ | ⟨b, off, cap, e, hlt, hc⟩
    · exact .inl h
    · exact .inl h
    · refine .inr fun b' hb => ?_
      rw [e] at hb
      injection hb with hb
      have : b = b' := hb
      subst this
      exact five_off hz hg (List.getElem?_eq_getElem (show 5 < cs.length by omega)) hc
  · exact .inl h8
theorem len8 {l : List Int} (h : l.length = 8 ∨ l = []) : (l.map intC).length = 8 ∨ l.map intC = [] := by
  rcases h with h | rfl
  · exact .inl (by rw [List.length_map]; exact h)
  · exact .inr rfl
/-- Entries' rows do not stand in a variable of five places. -/
theorem gap_off5 {M N : Nat} {l : List En} {v : Value} {w : World} {g : Nat} {T : TypeId} {z : List Value} (hz : z.length = 5) (hg : w.heap[g]? = some (.cells z.toArray T (0, 0))) (h8 : ∀ e ∈ l, Row8 e) (h : GapE M N l v w) (L : List Value) : GapE M N l v (setN w g 0 L) := by
  have hb := bt_setN (S := fun b => b = g) rfl L 0 w
  obtain ⟨ps, h1, h2, h3, h4, h5⟩ := h
  refine ⟨ps, h1, fun q hq => ?_, ?_, h4, h5⟩
  · obtain ⟨r1, r2⟩ := h2 q hq
    obtain ⟨a1, a2⟩ := h8 q.1 (by rw [← h1]; exact List.mem_map_of_mem hq)
    exact ⟨hb.cells r1 (cells_off5 hz hg (len8 a1) r1), hb.cells r2 (cells_off5 hz hg (len8 a2) r2)⟩
  · rcases h3 with h3 | h3 | ⟨b, off, cap, e, hlt, hc⟩
    · exact .inl h3
    · exact .inr (.inl h3)
    · cases ps with
      | nil => exact .inr (.inl ⟨_, _, e, rfl⟩)
      | cons q r =>
        have hx : (flatE (q :: r))[0 * 9 + 5]? = some (.string ⟨q.1.val.text.toArray⟩) := flatE_get (show (q :: r)[0]? = some q from rfl) rfl
        exact .inr (.inr ⟨b, off, cap, e, Nat.lt_of_lt_of_le hlt hb.size, fun j x hx' => (hb.cell (p := ⟨b, off + j, none⟩) hlt (five_off hz hg hx hc)).trans (hc j x hx')⟩)
/-- Nor do the numbers of an index. -/
theorem gapc_intb {M N : Nat} {cs : List Value} {v : Value} {w : World} {g : Nat} {T : TypeId} {z : List Value} (hT : T ≠ 3) (hg : w.heap[g]? = some (.cells z.toArray T (0, 0))) (h : GapC M N cs v w) (hi : IntB v w) (L : List Value) : GapC M N cs v (setN w g 0 L) := by
  refine ⟨(bt_setN (S := fun b => b = g) rfl L 0 w).cells h.1 (.inr fun b hb e => ?_), h.2⟩
  obtain ⟨cur, hc⟩ := hi b hb
  subst e
  rw [hg] at hc
  injection hc with hc
  injection hc with _ hc
  exact hT hc
theorem gapjt_set {M N : Nat} {A : Ar} {pa ma : Value} {ok : Bool} {G : Ar} {x : En} {w0 w : World} {g : Nat} {T : TypeId} {z : List Value} {vs vi : Value} (hz : z.length = 5) (hT : T ≠ 3) (hg : w.heap[g]? = some (.cells z.toArray T (0, 0))) (hlt : w0.heap.size ≤ g) (hb : Below w0.heap.size w0 w) (hok : (okA A && okE x) = ok) (hG : joinAF A x = G)
    (hs0 : GapE M N A.slots pa w0) (hi0 : GapC M N (A.index.map intC) ma w0) (hs : GapE M N G.slots vs w) (hi : GapC M N (G.index.map intC) vi w) (h : (vs = pa ∧ vi = ma ∧ G = A) ∨ (ok = true ∧ ((vi = ma ∧ G.index = A.index) ∨ IntB vi w))) (L : List Value) :
    GapE M N G.slots vs (setN w g 0 L) ∧ GapC M N (G.index.map intC) vi (setN w g 0 L) := by
  have hfin := below_setN (B := w0.heap.size) hlt L 0 w hb
  rcases h with ⟨rfl, rfl, rfl⟩ | ⟨h1, h2⟩
  · exact ⟨hs0.keep hfin, hi0.keep hfin⟩
  · refine ⟨gap_off5 hz hg (by rw [← hG]; exact join_row8 (hok.trans h1)) hs L, ?_⟩
    rcases h2 with ⟨rfl, e⟩ | h2
    · rw [e]; exact hi0.keep hfin
    · exact gapc_intb hT hg hi h2 L
theorem stable_gapjt (M N : Nat) (A : Ar) (pa ma : Value) (ok : Bool) (G : Ar) (b : Bool) (r : Int) : Stable (GapJt M N A pa ma ok G b r) := fun v w w' ⟨vs, vi, e, h1, h2, h3⟩ hb =>
  ⟨vs, vi, e, h1.keep hb, h2.keep hb, h3.imp id (fun h => ⟨h.1, h.2.imp id (fun h => h.keep hb)⟩)⟩
end Go.Proofs.YtbgconagkgfplaaGreat
end
section
namespace Go.Proofs.YtbgconagkgfplaaGreat
open Go.RowKit
set_option linter.unusedVariables false
set_option linter.unusedSimpArgs false
attribute [local irreducible] setN

theorem rjn_typP (M N : Nat) (A : Ar) (X : En) (G : Ar) (z : Bool) (r : Int) (ok : Bool) (pa ma u : Value) (w : World) (hs : GapE M N A.slots pa w) (hi : GapC M N (A.index.map intC) ma w) (hu : GapEn M N X u w) (hN : N ≤ w.heap.size) (hA : FitA A) (hX : FitE X) (hG : joinAF A X = G) (hz : joinAB A X = z) (hr : joinAE A X = r) (hok : (okA A && okE X) = ok) : Calls Tryz.prog 50 #[.agg #[.int .i64 A.cap, pa, ma], u] w fun e w' => ∃ x, e = .returned x ∧ GapJt M N A pa ma ok G z r x w' ∧ Below w.heap.size w w' := by subst hG hz hr; exact rjn_typ M N A X ok pa ma u w hs hi hu hN hA hX hok
theorem alloc_jo (w : World) : (Instr.alloc 74 true (.tuple #[])).run Tryz.prog w = .ok (.pointer (some ⟨w.heap.size, 0, none⟩)) (w.alloc (.cells ([.int .i64 0, .slice none 0 0, .slice none 0 0, .bool false, .int .i64 0] : List Value).toArray 74)) := by
  have hz : (Tryz.prog.info? 74).map (·.zero) = some (some (.agg ([.int .i64 0, .slice none 0 0, .slice none 0 0, .bool false, .int .i64 0] : List Value).toArray)) := by kernel_rfl
  obtain ⟨ie, hie, hz⟩ := Option.map_eq_some_iff.1 hz
  simp [Instr.alloc, zeroValue, typeInfo, hie, hz, newVar, newRow, newObj, Value.cells]
  rfl
noncomputable def rmg6Ops : Array Oper := regionOf Tryz.f17 6
set_option maxRecDepth 100000 in
set_option maxHeartbeats 2000000 in
theorem rmg6_region (Q : Exit → Act → World → Prop) (a0 : Act) (w0 : World) (hsz : a0.tmps.size = 37) (M N ga k bs os n cs : Nat) (A : Ar) (X : En) (G : Ar) (z : Bool) (r : Int) (ok : Bool) (pa ma px mx : Value) (HA : CellsN w0 ga [.int .i64 A.cap, pa, ma]) (XS : GapE M N A.slots pa w0) (XI : GapC M N (A.index.map intC) ma w0) (GX : GapEn M N X (.agg #[.string ⟨X.key.toArray⟩, .int .i64 X.val.kind, .int .i64 X.val.time, .int .i64 X.val.node, .bool X.val.dead, .string ⟨X.val.text.toArray⟩, px, mx, .int .u64 (X.val.flags.toNat : Int)]) w0) (hxc : ∀ (j : Nat) (x : Value), [.string ⟨X.key.toArray⟩, .int .i64 X.val.kind, .int .i64 X.val.time, .int .i64 X.val.node, .bool X.val.dead, .string ⟨X.val.text.toArray⟩, px, mx, .int .u64 (X.val.flags.toNat : Int)][j]? = some x → w0.cell? ⟨bs, os + k * 9 + j, none⟩ = some x) (hbs : bs < w0.heap.size) (hk : k < n) (hN : N ≤ w0.heap.size) (fA : FitA A) (fX : FitE X) (hG : joinAF A X = G) (hz : joinAB A X = z) (hr : joinAE A X = r) (hok : (okA A && okE X) = ok) (e2 : a0.tmps.getD 2 undef = .pointer (some ⟨ga, 0, none⟩)) (e1 : a0.tmps.getD 1 undef = .slice (some ⟨bs, os, none⟩) n cs) (e9 : a0.tmps.getD 9 undef = .int .i64 (k : Int))
    (hQ : ∀ (y : Nat → Value) (w1 : World) (g : Nat) (vs vi : Value), y 10 = .pointer (some ⟨g, 0, none⟩) → w0.heap.size ≤ g → Below w0.heap.size w0 (setN w1 g 0 [.int .i64 G.cap, vs, vi, .bool z, .int .i64 r]) → GapE M N G.slots vs (setN w1 g 0 [.int .i64 G.cap, vs, vi, .bool z, .int .i64 r]) → GapC M N (G.index.map intC) vi (setN w1 g 0 [.int .i64 G.cap, vs, vi, .bool z, .int .i64 r]) → CellsN (setN w1 g 0 [.int .i64 G.cap, vs, vi, .bool z, .int .i64 r]) g [.int .i64 G.cap, vs, vi, .bool z, .int .i64 r] → Q .normal { tmps := [17, 18, 19, 20, 21, 22, 10].foldl (fun t s => t.setIfInBounds s (y s)) a0.tmps, defers := a0.defers } (setN w1 g 0 [.int .i64 G.cap, vs, vi, .bool z, .int .i64 r])) :
    (Code.region 6 rmg6Ops true).wp Tryz.prog Q a0 w0 := by
  refine wp_region_cov 7 mixed (by rw [hsz]; kernel_rfl) (by kernel_rfl) ?_
  rw [show rmg6Ops.size - 7 = 1 by kernel_rfl]
  refine ⟨isVal (.agg #[.int .i64 A.cap, pa, ma]), step_loadA 25 (.tmp 2) (ga) (0) [.int .i64 A.cap, pa, ma] (by kernel_rfl) (wanted_none (by kernel_rfl)) (knows_old 2 (.pointer (some ⟨ga, 0, none⟩)) (by kernel_rfl) e2) size_ar agg_ar (⟨HA.1, fun j x hx => by rw [Nat.zero_add]; exact HA.2 j x hx⟩), ?_⟩
  refine ⟨isVal (.slice (some ⟨bs, os, none⟩) n cs), step_move (.tmp 1) (by kernel_rfl) (wanted_none (by kernel_rfl)) (stable_val _) (knows_old 1 (.slice (some ⟨bs, os, none⟩) n cs) (by kernel_rfl) e1), ?_⟩
  refine ⟨isVal (.int .i64 (k : Int)), step_move (.tmp 9) (by kernel_rfl) (wanted_none (by kernel_rfl)) (stable_val _) (knows_old 9 (.int .i64 (k : Int)) (by kernel_rfl) e9), ?_⟩
  refine ⟨isVal (.pointer (some ⟨bs, os + k * 9, none⟩)), step_placeE 22 30 (.tmp 18) (.tmp 19) bs (os) (n) (cs) (k) (os + k * 9) (by kernel_rfl) (wanted_none (by kernel_rfl)) (knows_new (V := isVal (.slice (some ⟨bs, os, none⟩) n cs)) 18 1 (by kernel_rfl) (by kernel_rfl) (by kernel_rfl)) (knows_new (V := isVal (.int .i64 (k : Int))) 19 2 (by kernel_rfl) (by kernel_rfl) (by kernel_rfl)) Tryz.underlying22 (by kernel_rfl) (⟨hk, rfl⟩), ?_⟩
  refine ⟨isVal (.agg #[.string ⟨X.key.toArray⟩, .int .i64 X.val.kind, .int .i64 X.val.time, .int .i64 X.val.node, .bool X.val.dead, .string ⟨X.val.text.toArray⟩, px, mx, .int .u64 (X.val.flags.toNat : Int)]), step_loadA 30 (.tmp 20) (bs) (os + k * 9) [.string ⟨X.key.toArray⟩, .int .i64 X.val.kind, .int .i64 X.val.time, .int .i64 X.val.node, .bool X.val.dead, .string ⟨X.val.text.toArray⟩, px, mx, .int .u64 (X.val.flags.toNat : Int)] (by kernel_rfl) (wanted_none (by kernel_rfl)) (knows_new (V := isVal (.pointer (some ⟨bs, os + k * 9, none⟩))) 20 3 (by kernel_rfl) (by kernel_rfl) (by kernel_rfl)) size_en agg_en (⟨hbs, hxc⟩), ?_⟩
  refine ⟨(GapJt M N A pa ma ok G z r), step_call 50 #[.tmp 17, .tmp 21] #[25, 30] #[.agg #[.int .i64 A.cap, pa, ma], .agg #[.string ⟨X.key.toArray⟩, .int .i64 X.val.kind, .int .i64 X.val.time, .int .i64 X.val.node, .bool X.val.dead, .string ⟨X.val.text.toArray⟩, px, mx, .int .u64 (X.val.flags.toNat : Int)]] (by kernel_rfl) (wanted_none (by kernel_rfl)) (stable_gapjt _ _ _ _ _ _ _ _ _) (args2 (.tmp 17) (.tmp 21) (.agg #[.int .i64 A.cap, pa, ma]) (.agg #[.string ⟨X.key.toArray⟩, .int .i64 X.val.kind, .int .i64 X.val.time, .int .i64 X.val.node, .bool X.val.dead, .string ⟨X.val.text.toArray⟩, px, mx, .int .u64 (X.val.flags.toNat : Int)]) (knows_new (V := isVal (.agg #[.int .i64 A.cap, pa, ma])) 17 0 (by kernel_rfl) (by kernel_rfl) (by kernel_rfl)) (knows_new (V := isVal (.agg #[.string ⟨X.key.toArray⟩, .int .i64 X.val.kind, .int .i64 X.val.time, .int .i64 X.val.node, .bool X.val.dead, .string ⟨X.val.text.toArray⟩, px, mx, .int .u64 (X.val.flags.toNat : Int)])) 21 4 (by kernel_rfl) (by kernel_rfl) (by kernel_rfl))) (enters_of Tryz.func50 (by kernel_rfl) rfl) (by intro w' hb; exact rjn_typP M N A X G z r ok pa ma _ w' (XS.keep hb) (XI.keep hb) (GX.keep hb) (Nat.le_trans hN hb.size) fA fX hG hz hr hok), ?_⟩
  refine ⟨(isNewS 74 ([.int .i64 0, .slice none 0 0, .slice none 0 0, .bool false, .int .i64 0] : List Value) w0.heap.size), step_newS 74 ([.int .i64 0, .slice none 0 0, .slice none 0 0, .bool false, .int .i64 0] : List Value) w0.heap.size (Nat.le_refl _) (by kernel_rfl) (wanted_none (by kernel_rfl)) alloc_jo, ?_⟩
  intro a w hkp hb hd
  have ey := kept_of hkp [some 17, some 18, some 19, some 20, some 21, some 22, some 10, none] [17, 18, 19, 20, 21, 22, 10] (by kernel_rfl) (by decide)
  have d22 : GapJt M N A pa ma ok G z r (a.tmps.getD 22 undef) w := fdone_of (hd 5 (by decide)) (t := 22) (V := GapJt M N A pa ma ok G z r) (by kernel_rfl) (by kernel_rfl)
  have d10 : isNewS 74 ([.int .i64 0, .slice none 0 0, .slice none 0 0, .bool false, .int .i64 0] : List Value) w0.heap.size (a.tmps.getD 10 undef) w := fdone_of (hd 6 (by decide)) (t := 10) (V := isNewS 74 ([.int .i64 0, .slice none 0 0, .slice none 0 0, .bool false, .int .i64 0] : List Value) w0.heap.size) (by kernel_rfl) (by kernel_rfl)
  obtain ⟨vs, vi, e22, hs, hi, ht⟩ := d22
  obtain ⟨g, e10, hg, hc⟩ := d10
  obtain ⟨c1, c2⟩ := cellsN_of hc
  obtain ⟨sa, sc, es⟩ := hs.ens.len
  obtain ⟨ia, ic, ei⟩ := hi.1.len
  have on : Ones [.int .i64 G.cap, vs, vi, .bool z, .int .i64 r] := ⟨rfl, by rw [es]; rfl, by rw [ei]; rfl, rfl, rfl, trivial⟩
  have hfin := below_setN (B := w0.heap.size) hg [.int .i64 G.cap, vs, vi, .bool z, .int .i64 r] 0 w hb
  have gj := gapjt_set (x := X) rfl (show 74 ≠ 3 by decide) hc hg hb hok hG XS XI hs hi ht [.int .i64 G.cap, vs, vi, .bool z, .int .i64 r]
  refine tail_storeN 74 (.tmp 10) (.tmp 22) g [.int .i64 G.cap, vs, vi, .bool z, .int .i64 r] _ (by kernel_rfl) (by kernel_rfl) size_jo e10 e22 c1 rfl c2 on ?_
  have hq := hQ (fun s => a.tmps.getD s undef) w g vs vi e10 hg hfin gj.1 gj.2 (c1.setN_ [.int .i64 G.cap, vs, vi, .bool z, .int .i64 r] rfl)
  rw [← ey] at hq
  exact hq
end Go.Proofs.YtbgconagkgfplaaGreat
end
section
namespace Go.Proofs.YtbgconagkgfplaaGreat
open Go.RowKit
set_option linter.unusedVariables false
set_option linter.unusedSimpArgs false
attribute [local irreducible] setN

/-- The arena that grows, in its variable. -/
def MSt (B : Nat) (G : Ar) (w : World) : Prop := ∃ pa ma, Blk w B [.int .i64 G.cap, pa, ma] ∧ GapE B (B + 2) G.slots pa w ∧ GapC B (B + 2) (G.index.map intC) ma w
set_option maxRecDepth 100000 in
set_option maxHeartbeats 2000000 in
theorem rmerge_any (A : Ar) (L : List En) (v u : Value) (w : World) (hv : isAr A v w) (hu : isEns L u w) (hF : FitA A) (hL : ∀ e ∈ L, FitE e) (hLn : L.length ≤ 500) : Calls Tryz.prog 17 #[v, u] w fun e w' => ∃ v', e = .returned (.tuple #[v', .int .i64 (mergeN A L : Int), .int .i64 (mergeO A L : Int)]) ∧ isAr (mergeF A L) v' w' ∧ Below w.heap.size w w' := by
  obtain ⟨vs, vi, rfl, hs, hi⟩ := hv
  have hb0 : Below w.heap.size w ((w.alloc (.cells #[.int .i64 A.cap, vs, vi] 25)).alloc (.cells #[.int .i64 0, .slice none 0 0, .slice none 0 0] 25)) := ((Below.refl _ w).alloc (Nat.le_refl _) _).alloc (by simp) _
  have HN := Kept.mk (show w.heap.size + 2 ≤ ((w.alloc (.cells #[.int .i64 A.cap, vs, vi] 25)).alloc (.cells #[.int .i64 0, .slice none 0 0, .slice none 0 0] 25)).heap.size by simp)
  have HU := Kept.mk hu
  obtain ⟨ua, uc, rfl⟩ := hu.len
  have BA := ((Blk.new w 25 [.int .i64 A.cap, vs, vi] w.heap.size rfl).alloc (.cells #[.int .i64 0, .slice none 0 0, .slice none 0 0] 25))
  have HC := Kept.mk (show MSt w.heap.size (mergeF A (L.take 0)) ((w.alloc (.cells #[.int .i64 A.cap, vs, vi] 25)).alloc (.cells #[.int .i64 0, .slice none 0 0, .slice none 0 0] 25)) from ⟨vs, vi, BA, (gap_ens _ hs).keep hb0, (gap_cells _ hi).keep hb0⟩)
  have BR := Kept.mk (Blk.new (w.alloc (.cells #[.int .i64 A.cap, vs, vi] 25)) 25 [.int .i64 0, .slice none 0 0, .slice none 0 0] (w.heap.size + 1) (by simp))
  have hB := Kept.mk hb0
  clear hs hi BA hb0 hu
  go_enter Tryz.func17, Tryz.ntmps17
  go_wp2_with fail
  generalize ((w.alloc (.cells #[.int .i64 A.cap, vs, vi] 25)).alloc (.cells #[.int .i64 0, .slice none 0 0, .slice none 0 0] 25)) = W0 at *
  go_loopw [7, 8, 9] (fun s7 s8 i wr => ∃ k : Nat, k ≤ L.length ∧ i = .int .i64 (k : Int) ∧ s7 = .int .i64 (mergeN A (L.take k) : Int) ∧ s8 = .int .i64 (mergeO A (L.take k) : Int) ∧ Kept (Below w.heap.size w wr) ∧ Kept (w.heap.size + 2 ≤ wr.heap.size) ∧ Kept (Blk wr (w.heap.size + 1) [.int .i64 0, .slice none 0 0, .slice none 0 0]) ∧ Kept (MSt w.heap.size (mergeF A (L.take k)) wr)) (fun _ _ i _ => L.length - (intOf i).toNat)
  case atStart => exact ⟨0, Nat.zero_le _, rfl, rfl, rfl, hB, HN, BR, HC⟩
  case round =>
    clear hB BR HC HN
    obtain ⟨k, hk, rfl, rfl, rfl, B, HN, BR, HC⟩ := hrel
    by_cases hlt : k < L.length
    · have hlt' : (k : Int) < (L.length : Int) := by omega
      obtain ⟨X, hX⟩ : ∃ X, L[k]? = some X := ⟨_, List.getElem?_eq_getElem hlt⟩
      obtain ⟨bs, os, cs', hvs, hbs, hat⟩ := HU.out.get hX
      injection hvs with h1 _ h2
      subst h1 h2
      obtain ⟨xp, xm, hcell, hp0, hm0⟩ := hat
      have FX := Kept.mk (hL X (List.mem_of_getElem? hX))
      have FA := Kept.mk (fit_merge (L.take k) A hF (fun e he => hL e (List.mem_of_mem_take he)))
      have GX := Kept.mk (show GapEn w.heap.size (w.heap.size + 2) X (.agg #[.string ⟨X.key.toArray⟩, .int .i64 X.val.kind, .int .i64 X.val.time, .int .i64 X.val.node, .bool X.val.dead, .string ⟨X.val.text.toArray⟩, xp, xm, .int .u64 (X.val.flags.toNat : Int)]) wr from ⟨xp, xm, rfl, stable_cells _ _ _ _ hp0 B.out, stable_cells _ _ _ _ hm0 B.out, gap_q (q := (X, xp, xm)) _ hp0 hm0⟩)
      have HXC := Kept.mk (show ∀ (j : Nat) (x : Value), ([.string ⟨X.key.toArray⟩, .int .i64 X.val.kind, .int .i64 X.val.time, .int .i64 X.val.node, .bool X.val.dead, .string ⟨X.val.text.toArray⟩, xp, xm, .int .u64 (X.val.flags.toNat : Int)] : List Value)[j]? = some x → wr.cell? ⟨bs, os + k * 9 + j, none⟩ = some x from fun j x hx => (B.out.cell (p := ⟨bs, os + k * 9 + j, none⟩) hbs).trans (hcell j x hx))
      have HBS := Kept.mk (Nat.lt_of_lt_of_le hbs B.out.size)
      have htk : L.take (k + 1) = L.take k ++ [X] := by rw [List.take_add_one, hX]; rfl
      have hmf : mergeF A (L.take (k + 1)) = joinAF (mergeF A (L.take k)) X := by rw [htk, mergeF_snoc]
      have hmn := mergeN_snoc (L.take k) A X
      have hmo := mergeO_snoc (L.take k) A X
      rw [← htk] at hmn hmo
      have b1 := mergeN_le (L.take k) A
      have b2 := mergeO_le (L.take k) A
      have b3 : (L.take k).length ≤ L.length := by simp; omega
      obtain ⟨G, hG⟩ : ∃ G, joinAF (mergeF A (L.take k)) X = G := ⟨_, rfl⟩
      obtain ⟨z, hz⟩ : ∃ z, joinAB (mergeF A (L.take k)) X = z := ⟨_, rfl⟩
      obtain ⟨r, hr⟩ : ∃ r, joinAE (mergeF A (L.take k)) X = r := ⟨_, rfl⟩
      rw [hz] at hmn
      rw [hr] at hmo
      rw [hG] at hmf
      have HM := Kept.mk (And.intro hmn hmo)
      have HMF := Kept.mk hmf
      have HG := Kept.mk hG
      have HZ := Kept.mk hz
      have HR := Kept.mk hr
      obtain ⟨pa, ma, hblk, hse, hie⟩ := HC.out
      have HBL := Kept.mk hblk
      have HSE := Kept.mk hse
      have HIE := Kept.mk hie
      clear hcell hp0 hm0 hX htk hmf hmn hmo hG hz hr hblk hse hie hbs HC
      generalize mergeN A (L.take k) = n1 at *
      generalize mergeO A (L.take k) = n2 at *
      generalize mergeF A (L.take k) = Gk at *
      go_wp2
      refine rmg6_region _ _ _ rfl w.heap.size (w.heap.size + 2) w.heap.size k bs os L.length _ Gk X G z r _ pa ma xp xm HBL.out.cells HSE.out HIE.out GX.out HXC.out HBS.out hlt HN.out FA.out FX.out HG.out HZ.out HR.out rfl rfl rfl rfl ?_
      intro y W1 g va ia e10 hg hb hgs hgi hc
      simp only [List.foldl_cons, List.foldl_nil, e10]
      generalize y 17 = y17
      generalize y 18 = y18
      generalize y 19 = y19
      generalize y 20 = y20
      generalize y 21 = y21
      generalize y 22 = y22
      clear e10
      simp only [List.setIfInBounds_toArray, List.set_cons_succ, List.set_cons_zero]
      generalize setN W1 g 0 [.int .i64 G.cap, va, ia, .bool z, .int .i64 r] = W2 at *
      have HBK := Kept.mk (HBL.out.keep hb)
      have hsw := B.out.size
      have hs2 := hb.size
      have hn2 := HN.out
      have B2 := B.out.trans (hb.mono hsw)
      have KO : Kept (Ones [.int .i64 G.cap, va, ia]) := ⟨⟨rfl, hgs.ens.one, hgi.1.one, trivial⟩⟩
      have bt := bt_setN (S := fun b => b = w.heap.size) rfl [.int .i64 G.cap, va, ia] 0 W2
      have hbw := hc.1
      have KC := Kept.mk (show CellsN (setN W2 w.heap.size 0 [.int .i64 G.cap, va, ia]) g [.int .i64 G.cap, va, ia, .bool z, .int .i64 r] from ⟨Nat.lt_of_lt_of_le hbw bt.size, fun j x hx => (bt.cell (p := ⟨g, j, none⟩) hbw (show ¬ g = w.heap.size by omega)).trans (hc.2 j x hx)⟩)
      have B3 := Kept.mk (below_setN (Nat.le_refl _) [.int .i64 G.cap, va, ia] 0 W2 B2)
      have BR3 := Kept.mk ((BR.out.keep hb).apartN (show w.heap.size + 1 ≠ w.heap.size by omega) 0 [.int .i64 G.cap, va, ia])
      have HN3 : Kept (w.heap.size + 2 ≤ (setN W2 w.heap.size 0 [.int .i64 G.cap, va, ia]).heap.size) := ⟨Nat.le_trans (Nat.le_trans hn2 hs2) bt.size⟩
      have HC3 := Kept.mk (show MSt w.heap.size (mergeF A (L.take (k + 1))) (setN W2 w.heap.size 0 [.int .i64 G.cap, va, ia]) by rw [HMF.out]; exact ⟨va, ia, HBK.out.all_ (l := [.int .i64 G.cap, va, ia]) rfl, hgs.bt bt (by rintro b rfl; omega), hgi.bt bt (by rintro b rfl; omega)⟩)
      have c0 := hc.2 0 _ rfl
      have c1 := hc.2 1 _ rfl
      have c2 := hc.2 2 _ rfl
      have c3 := hc.2 3 _ rfl
      have c4 := hc.2 4 _ rfl
      clear bt hbw hc B2 hgs hgi hb hs2 hsw hn2 hg HBL HSE HIE GX HXC HBS HG HZ HR HMF
      by_cases hre : r = 0
      · subst hre
        cases z with
        | true =>
          go_wp2_with (have hz0 := KO; refine wpList_storeN 25 rfl (.tmp 2) (.tmp 24) rfl w.heap.size [.int .i64 G.cap, va, ia] size_ar rfl rfl HBK.out.cells rfl HBK.out.free KO.out ?_; clear hz0 KO HBK c0 c1 c2 c3 c4; generalize (setN W2 w.heap.size 0 [.int .i64 G.cap, va, ia]) = W3 at *; have c3 := KC.out.2 3 _ rfl; have c4 := KC.out.2 4 _ rfl)
          go_roundw
          case rel => exact ⟨k + 1, by omega, by go_num, by rw [HM.out.1]; go_num, by rw [HM.out.2]; rfl, B3, HN3, BR3, HC3⟩
          case measure => simp [intOf]; omega
        | false =>
          go_wp2_with (have hz0 := KO; refine wpList_storeN 25 rfl (.tmp 2) (.tmp 24) rfl w.heap.size [.int .i64 G.cap, va, ia] size_ar rfl rfl HBK.out.cells rfl HBK.out.free KO.out ?_; clear hz0 KO HBK c0 c1 c2 c3 c4; generalize (setN W2 w.heap.size 0 [.int .i64 G.cap, va, ia]) = W3 at *; have c3 := KC.out.2 3 _ rfl; have c4 := KC.out.2 4 _ rfl)
          go_roundw
          case rel => exact ⟨k + 1, by omega, by go_num, by rw [HM.out.1]; rfl, by rw [HM.out.2]; rfl, B3, HN3, BR3, HC3⟩
          case measure => simp [intOf]; omega
      · have hre2 : (r != 0) = true := by simpa using hre
        have hre3 : (r == 0) = false := by simpa using hre
        cases z with
        | true =>
          go_wp2_with (have hz0 := KO; refine wpList_storeN 25 rfl (.tmp 2) (.tmp 24) rfl w.heap.size [.int .i64 G.cap, va, ia] size_ar rfl rfl HBK.out.cells rfl HBK.out.free KO.out ?_; clear hz0 KO HBK c0 c1 c2 c3 c4; generalize (setN W2 w.heap.size 0 [.int .i64 G.cap, va, ia]) = W3 at *; have c3 := KC.out.2 3 _ rfl; have c4 := KC.out.2 4 _ rfl)
          go_roundw
          case rel => exact ⟨k + 1, by omega, by go_num, by rw [HM.out.1]; go_num, by rw [HM.out.2]; rw [if_neg hre]; go_num, B3, HN3, BR3, HC3⟩
          case measure => simp [intOf]; omega
        | false =>
          go_wp2_with (have hz0 := KO; refine wpList_storeN 25 rfl (.tmp 2) (.tmp 24) rfl w.heap.size [.int .i64 G.cap, va, ia] size_ar rfl rfl HBK.out.cells rfl HBK.out.free KO.out ?_; clear hz0 KO HBK c0 c1 c2 c3 c4; generalize (setN W2 w.heap.size 0 [.int .i64 G.cap, va, ia]) = W3 at *; have c3 := KC.out.2 3 _ rfl; have c4 := KC.out.2 4 _ rfl)
          go_roundw
          case rel => exact ⟨k + 1, by omega, by go_num, by rw [HM.out.1]; rfl, by rw [HM.out.2]; rw [if_neg hre]; go_num, B3, HN3, BR3, HC3⟩
          case measure => simp [intOf]; omega
    · have hlt' : ¬ (k : Int) < (L.length : Int) := by omega
      have htk : L.take k = L := List.take_of_length_le (by omega)
      rw [htk] at HC ⊢
      obtain ⟨pa, ma, hblk, hse, hie⟩ := HC.out
      have k0 := hblk.cells.2 0 _ rfl
      have k1 := hblk.cells.2 1 _ rfl
      have k2 := hblk.cells.2 2 _ rfl
      have HO : Kept (Ones [.int .i64 (mergeF A L).cap, pa, ma]) := ⟨⟨rfl, hse.ens.one, hie.1.one, trivial⟩⟩
      have HSE := Kept.mk hse
      have HIE := Kept.mk hie
      clear hblk hse hie htk HC
      go_wp2_with (have hz0 := HO; refine wpList_storeN 25 rfl (.tmp 4) (.tmp 34) rfl (w.heap.size + 1) [.int .i64 (mergeF A L).cap, pa, ma] size_ar rfl rfl BR.out.cells rfl BR.out.free HO.out ?_; clear hz0 HO)
      have bt := bt_setN (S := fun b => b = w.heap.size + 1) rfl [.int .i64 (mergeF A L).cap, pa, ma] 0 wr
      exact bodyPost_ret (resultsN3 rfl _ _ (w.heap.size + 1) [.int .i64 (mergeF A L).cap, pa, ma] (.int .i64 (mergeN A L : Int)) (.int .i64 (mergeO A L : Int)) size_ar agg_ar rfl rfl rfl (BR.out.all_ (l := [.int .i64 (mergeF A L).cap, pa, ma]) rfl).cells) rfl ⟨_, rfl, ⟨_, _, rfl, (HSE.out.bt bt (by rintro b rfl; omega)).ens, (HIE.out.bt bt (by rintro b rfl; omega)).1⟩, below_setN (by omega) _ 0 _ B.out⟩
end Go.Proofs.YtbgconagkgfplaaGreat
end
