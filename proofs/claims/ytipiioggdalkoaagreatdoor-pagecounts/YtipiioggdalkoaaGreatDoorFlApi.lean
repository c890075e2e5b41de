/- Contracts of package flash: Erase, Program, Wake. -/
import Derived.Test.YtipiioggdalkoaaGreatDoorFlTakes
namespace Go.Proofs.YtipiioggdalkoaaGreatDoor
open Go.RowKit
set_option linter.unusedVariables false
set_option linter.unusedSimpArgs false
attribute [local irreducible] set5

/-- Where a result is laid down that was told by a callee. -/
theorem told {w W1 w1 : World} {B g : Nat} {G : Fl} {vp' vw' o0 o1 o2 o3 o4 : Value} (hB : g < B) (hW : W1.heap.size = B) (hbw : Below w.heap.size w W1) (hg : w.heap.size ≤ g) (hc : Cells5 W1 g o0 o1 o2 o3 o4) (hf : Free5 W1 g) (hb1 : Below W1.heap.size W1 w1)
    (hp : isBtw B w1.heap.size 9 (G.pages.map strC) vp' w1) (hq : isBtw B w1.heap.size 3 (G.wear.map intC) vw' w1) :
    Kept (Cells5 w1 g o0 o1 o2 o3 o4) ∧ Kept (Free5 w1 g) ∧ Kept (Cells5 (set5 w1 g vp' vw' (.int .i64 G.fuse) (strC G.torn) (.bool G.dead)) g vp' vw' (.int .i64 G.fuse) (strC G.torn) (.bool G.dead)) ∧
      Kept (isFlN w.heap.size G (.agg #[vp', vw', .int .i64 G.fuse, strC G.torn, .bool G.dead]) (set5 w1 g vp' vw' (.int .i64 G.fuse) (strC G.torn) (.bool G.dead))) ∧ Kept (Below w.heap.size w (set5 w1 g vp' vw' (.int .i64 G.fuse) (strC G.torn) (.bool G.dead))) := by
  have hc1 := hc.keep hb1 (by omega)
  refine ⟨⟨hc1⟩, ⟨hf.keep hb1 (by omega)⟩, ⟨hc1.set5_ _ _ _ _ _⟩, ⟨⟨vp', vw', rfl, ?_, ?_⟩⟩, ⟨below_set5 (hbw.trans (hb1.mono hbw.size)) hg _ _ _ _ _⟩⟩
  · have := (hp.out5 (g := g) (.inl hB) vp' vw' (.int .i64 G.fuse) (strC G.torn) (.bool G.dead)).weak (lo' := w.heap.size) (by omega) (Nat.le_refl _)
    rwa [← size_set5 w1 g vp' vw' (.int .i64 G.fuse) (strC G.torn) (.bool G.dead)] at this
  · have := (hq.out5 (g := g) (.inl hB) vp' vw' (.int .i64 G.fuse) (strC G.torn) (.bool G.dead)).weak (lo' := w.heap.size) (by omega) (Nat.le_refl _)
    rwa [← size_set5 w1 g vp' vw' (.int .i64 G.fuse) (strC G.torn) (.bool G.dead)] at this

set_option maxRecDepth 100000 in
set_option maxHeartbeats 1000000 in
theorem erase_any (F : Fl) (page : Int) (v : Value) (w : World) (hv : isFl F v w) (h1 : F.pages.length ≤ 1000000) (h2 : F.wear.length ≤ 1000000) (hfz : F.fuse ≤ 9223372036854775807) :
    Calls Tryz.prog 29 #[v, .int .i64 page] w fun e w' => ∃ v', e = .returned (.tuple #[v', .int .i64 (eraseE F page)]) ∧ isFlN w.heap.size (eraseF F page) v' w' ∧ Below w.heap.size w w' := by
  obtain ⟨G, hG⟩ : ∃ G, G = eraseF F page := ⟨_, rfl⟩
  obtain ⟨E, hE⟩ : ∃ E, E = eraseE F page := ⟨_, rfl⟩
  rw [← hG, ← hE]
  have HG := Kept.mk hG
  have HE := Kept.mk hE
  clear hG hE
  obtain ⟨vp, vw, rfl, hp, hq⟩ := hv
  have hb0 : Below w.heap.size w ((w.alloc (.cells #[vp, vw, .int .i64 F.fuse, strC F.torn, .bool F.dead] 31)).alloc (.cells #[.slice none 0 0, .slice none 0 0, .int .i64 0, .string ⟨#[]⟩, .bool false] 31)) := ((Below.refl _ _).alloc (Nat.le_refl _) _).alloc (by simp) _
  have HP := Kept.mk hp
  have HQ := Kept.mk hq
  have HB0 := Kept.mk hb0
  have HFZ := Kept.mk hfz
  clear hp hq hb0 hfz
  go_enter Tryz.func29, Tryz.ntmps29
  go_wp2_with fail
  refine (take_e F page _ _ ⟨vp, vw, rfl, stable_cells _ _ _ _ HP.out HB0.out, stable_cells _ _ _ _ HQ.out HB0.out⟩ h1 h2 HFZ.out).mono ?_
  rintro e w1 ⟨v', rfl, hf', hb1⟩
  rw [← HG.out] at hf'
  rewrite [← HE.out]
  obtain ⟨vp', vw', rfl, hp', hq'⟩ := hf'
  have oo1 := hp'.one
  have oo2 := hq'.one
  obtain ⟨K1, K2, K3, K4, K5⟩ := told (g := w.heap.size + 1) (by simp) rfl HB0.out (by omega) (cells5_at (w.alloc (.cells #[vp, vw, .int .i64 F.fuse, strC F.torn, .bool F.dead] 31)) 31 (.slice none 0 0) (.slice none 0 0) (.int .i64 0) (.string ⟨#[]⟩) (.bool false) (w.heap.size + 1) (by simp)) (free5_at (w.alloc (.cells #[vp, vw, .int .i64 F.fuse, strC F.torn, .bool F.dead] 31)) #[.slice none 0 0, .slice none 0 0, .int .i64 0, .string ⟨#[]⟩, .bool false] 31 (w.heap.size + 1) (by simp)) hb1 hp' hq'
  clear hp' hq' hb1
  go_wp2_with (refine wpList_store5 rfl (.tmp 4) (.tmp 11) rfl (w.heap.size + 1) vp' vw' (.int .i64 G.fuse) (strC G.torn) (.bool G.dead) rfl rfl K1.out K2.out oo1 oo2 rfl rfl rfl ?_)
  exact bodyPost_ret (results2 rfl _ _ (w.heap.size + 1) _ _ _ _ _ (.int .i64 E) rfl rfl K3.out) rfl ⟨_, rfl, K4.out, K5.out⟩

set_option maxRecDepth 100000 in
set_option maxHeartbeats 1000000 in
theorem program_any (F : Fl) (page at_ : Int) (s : List UInt8) (v : Value) (w : World) (hv : isFl F v w) (hs : s.length ≤ 1000000) (h1 : F.pages.length ≤ 1000000) (h2 : F.wear.length ≤ 1000000) (hfz : F.fuse ≤ 9223372036854775807) :
    Calls Tryz.prog 44 #[v, .int .i64 page, .int .i64 at_, .string ⟨s.toArray⟩] w fun e w' => ∃ v', e = .returned (.tuple #[v', .int .i64 (progE F page at_ s)]) ∧ isFlN w.heap.size (progF F page at_ s) v' w' ∧ Below w.heap.size w w' := by
  obtain ⟨G, hG⟩ : ∃ G, G = progF F page at_ s := ⟨_, rfl⟩
  obtain ⟨E, hE⟩ : ∃ E, E = progE F page at_ s := ⟨_, rfl⟩
  rw [← hG, ← hE]
  have HG := Kept.mk hG
  have HE := Kept.mk hE
  clear hG hE
  obtain ⟨vp, vw, rfl, hp, hq⟩ := hv
  have hb0 : Below w.heap.size w ((w.alloc (.cells #[vp, vw, .int .i64 F.fuse, strC F.torn, .bool F.dead] 31)).alloc (.cells #[.slice none 0 0, .slice none 0 0, .int .i64 0, .string ⟨#[]⟩, .bool false] 31)) := ((Below.refl _ _).alloc (Nat.le_refl _) _).alloc (by simp) _
  have HP := Kept.mk hp
  have HQ := Kept.mk hq
  have HB0 := Kept.mk hb0
  have HFZ := Kept.mk hfz
  clear hp hq hb0 hfz
  go_enter Tryz.func44, Tryz.ntmps44
  go_wp2_with fail
  refine (take_p F page at_ s _ _ ⟨vp, vw, rfl, stable_cells _ _ _ _ HP.out HB0.out, stable_cells _ _ _ _ HQ.out HB0.out⟩ hs h1 h2 HFZ.out).mono ?_
  rintro e w1 ⟨v', rfl, hf', hb1⟩
  rw [← HG.out] at hf'
  rewrite [← HE.out]
  obtain ⟨vp', vw', rfl, hp', hq'⟩ := hf'
  have oo1 := hp'.one
  have oo2 := hq'.one
  obtain ⟨K1, K2, K3, K4, K5⟩ := told (g := w.heap.size + 1) (by simp) rfl HB0.out (by omega) (cells5_at (w.alloc (.cells #[vp, vw, .int .i64 F.fuse, strC F.torn, .bool F.dead] 31)) 31 (.slice none 0 0) (.slice none 0 0) (.int .i64 0) (.string ⟨#[]⟩) (.bool false) (w.heap.size + 1) (by simp)) (free5_at (w.alloc (.cells #[vp, vw, .int .i64 F.fuse, strC F.torn, .bool F.dead] 31)) #[.slice none 0 0, .slice none 0 0, .int .i64 0, .string ⟨#[]⟩, .bool false] 31 (w.heap.size + 1) (by simp)) hb1 hp' hq'
  clear hp' hq' hb1
  go_wp2_with (refine wpList_store5 rfl (.tmp 8) (.tmp 17) rfl (w.heap.size + 1) vp' vw' (.int .i64 G.fuse) (strC G.torn) (.bool G.dead) rfl rfl K1.out K2.out oo1 oo2 rfl rfl rfl ?_)
  exact bodyPost_ret (results2 rfl _ _ (w.heap.size + 1) _ _ _ _ _ (.int .i64 E) rfl rfl K3.out) rfl ⟨_, rfl, K4.out, K5.out⟩
end Go.Proofs.YtipiioggdalkoaaGreatDoor
