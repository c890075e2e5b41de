/- A device that is being copied and changed: what stands where. -/
import Derived.Test.YtipiioggdalkoaaGreatDoorFlMeth
namespace Go.Proofs.YtipiioggdalkoaaGreatDoor
open Go.RowKit
set_option linter.unusedVariables false
set_option linter.unusedSimpArgs false

/-- A row of one's own, in a block between two numbers. -/
def isBtw (lo hi : Nat) (e : TypeId) (cs : List Value) (v : Value) (w : World) : Prop := (v = .slice none 0 0 ∧ cs = []) ∨
  ∃ g cap cur, v = .slice (some ⟨g, 0, none⟩) cs.length cap ∧ lo ≤ g ∧ g < hi ∧ w.heap[g]? = some (.cells cur e (0, 0)) ∧ cs.length ≤ cap ∧ cur.size = cap ∧ cur.toList.take cs.length = cs
theorem isBtw_own {w : World} {B : Nat} {e : TypeId} {v : Value} {cs : List Value} (h : isOwn B e cs v w) : isBtw B w.heap.size e cs v w := by
  obtain ⟨hl, ⟨rfl, h0⟩ | ⟨g, cap, cur, rfl, hB, hg, hn, _, hs, ht⟩⟩ := h
  · exact .inl ⟨rfl, List.eq_nil_of_length_eq_zero h0⟩
  · rw [Nat.mul_one] at hs ht
    exact .inr ⟨g, cap, cur, rfl, hB, (Array.getElem?_eq_some_iff.1 hg).1, hg, hn, hs, ht⟩
theorem isBtw.grow {lo hi : Nat} {e : TypeId} {cs : List Value} {v : Value} {w w' : World} (h : isBtw lo hi e cs v w) (hb : Below w.heap.size w w') : isBtw lo hi e cs v w' := by
  rcases h with h | ⟨g, cap, cur, hv, h1, h2, hg, rest⟩
  · exact .inl h
  · exact .inr ⟨g, cap, cur, hv, h1, h2, (hb.block g (Array.getElem?_eq_some_iff.1 hg).1).trans hg, rest⟩
theorem isBtw.out {lo hi : Nat} {e : TypeId} {cs : List Value} {v : Value} {w : World} (h : isBtw lo hi e cs v w) {p : Addr} (hp : p.block < lo ∨ hi ≤ p.block) (x : Value) : isBtw lo hi e cs v (w.setCell p x) := by
  rcases h with h | ⟨g, cap, cur, hv, h1, h2, hg, rest⟩
  · exact .inl h
  · exact .inr ⟨g, cap, cur, hv, h1, h2, (Below.heap_setCell w p x g (by omega)).trans hg, rest⟩
theorem isBtw.other {lo hi : Nat} {e e' : TypeId} {cs cs' : List Value} {v v' : Value} {w : World} (h : isBtw lo hi e cs v w) {g cap n : Nat} {cur : Array Value} (hg' : w.heap[g]? = some (.cells cur e' (0, 0))) (hne : e ≠ e') (k : Nat) (x : Value) : isBtw lo hi e cs v (w.setCell ⟨g, k, none⟩ x) := by
  rcases h with h | ⟨g2, cap2, cur2, hv, h1, h2, hg, rest⟩
  · exact .inl h
  · refine .inr ⟨g2, cap2, cur2, hv, h1, h2, (Below.heap_setCell w ⟨g, k, none⟩ x g2 ?_).trans hg, rest⟩
    rintro rfl
    rw [hg'] at hg
    injection hg with hg
    injection hg with _ he _
    exact hne he.symm
theorem isBtw.some_ {lo hi : Nat} {e : TypeId} {cs : List Value} {v : Value} {w : World} (h : isBtw lo hi e cs v w) (h0 : 0 < cs.length) :
    ∃ g cap cur, v = .slice (some ⟨g, 0, none⟩) cs.length cap ∧ lo ≤ g ∧ g < hi ∧ w.heap[g]? = some (.cells cur e (0, 0)) ∧ cs.length ≤ cap ∧ cur.size = cap ∧ cur.toList.take cs.length = cs := by
  rcases h with ⟨_, rfl⟩ | h
  · simp at h0
  · exact h
theorem isBtw.cells {lo hi : Nat} {e : TypeId} {cs : List Value} {v : Value} {w : World} (h : isBtw lo hi e cs v w) : isCells cs v w := by
  rcases h with h | ⟨g, cap, cur, rfl, h1, h2, hg, hn, hs, ht⟩
  · exact .inl h
  · refine .inr (.inr ⟨g, 0, cap, rfl, (Array.getElem?_eq_some_iff.1 hg).1, fun j x hx => ?_⟩)
    have hj := (List.getElem?_eq_some_iff.1 hx).1
    rw [← ht, List.getElem?_take, if_pos hj] at hx
    simp only [World.cell?, hg]
    simpa using hx
theorem isBtw.one {lo hi : Nat} {e : TypeId} {cs : List Value} {v : Value} {w : World} (h : isBtw lo hi e cs v w) : v.oneCell' = true := by
  rcases h with ⟨rfl, _⟩ | ⟨g, cap, cur, rfl, _⟩ <;> rfl
/-- One of its cells is written. -/
theorem isBtw.put {lo hi : Nat} {e : TypeId} {cs : List Value} {g n cap : Nat} {w : World} (h : isBtw lo hi e cs (.slice (some ⟨g, 0, none⟩) n cap) w) (k : Nat) (hk : k < cs.length) (x : Value) : isBtw lo hi e (cs.set k x) (.slice (some ⟨g, 0, none⟩) n cap) (w.setCell ⟨g, k, none⟩ x) := by
  rcases h with ⟨h, _⟩ | ⟨g2, cap2, cur, hv, h1, h2, hg, hn, hs, ht⟩
  · cases h
  · injection hv with e1 e2 e3
    injection e1 with e1
    injection e1 with e1 _ _
    subst e1 e2 e3
    refine .inr ⟨g, cap, cur.setIfInBounds k x, by rw [List.length_set], h1, h2, ?_, by rw [List.length_set]; exact hn, by simpa using hs, ?_⟩
    · exact heap_setCell_same w g k cur e x hg
    · rw [List.length_set, Array.toList_setIfInBounds, List.take_set, ht]
theorem isBtw.cell {lo hi : Nat} {e : TypeId} {cs : List Value} {g n cap : Nat} {w : World} (h : isBtw lo hi e cs (.slice (some ⟨g, 0, none⟩) n cap) w) (k : Nat) (x : Value) (hx : cs[k]? = some x) : w.cell? ⟨g, k, none⟩ = some x ∧ w.frozen? ⟨g, k, none⟩ = false ∧ lo ≤ g ∧ g < hi ∧ ∃ cur, w.heap[g]? = some (.cells cur e (0, 0)) := by
  rcases h with ⟨h, _⟩ | ⟨g2, cap2, cur, hv, h1, h2, hg, hn, hs, ht⟩
  · cases h
  · injection hv with e1 e2 e3
    injection e1 with e1
    injection e1 with e1 _ _
    subst e1 e2 e3
    have hj := (List.getElem?_eq_some_iff.1 hx).1
    rw [← ht, List.getElem?_take, if_pos hj] at hx
    refine ⟨?_, ?_, h1, h2, cur, hg⟩
    · simp only [World.cell?, hg]
      simpa using hx
    · simp [World.frozen?, hg]

theorem isBtw.weak {lo hi lo' hi' : Nat} {e : TypeId} {cs : List Value} {v : Value} {w : World} (h : isBtw lo hi e cs v w) (h1 : lo' ≤ lo) (h2 : hi ≤ hi') : isBtw lo' hi' e cs v w := by
  rcases h with h | ⟨g, cap, cur, hv, h3, h4, rest⟩
  · exact .inl h
  · exact .inr ⟨g, cap, cur, hv, by omega, by omega, rest⟩
theorem isBtw.out5 {lo hi : Nat} {e : TypeId} {cs : List Value} {v : Value} {w : World} (h : isBtw lo hi e cs v w) {g : Nat} (hg : g < lo ∨ hi ≤ g) (v0 v1 v2 v3 v4 : Value) : isBtw lo hi e cs v (set5 w g v0 v1 v2 v3 v4) := by
  unfold set5
  exact ((((h.out (p := ⟨g, 0, none⟩) hg _).out (p := ⟨g, 1, none⟩) hg _).out (p := ⟨g, 2, none⟩) hg _).out (p := ⟨g, 3, none⟩) hg _).out (p := ⟨g, 4, none⟩) hg _
/-- A device whose rows are new: in blocks from B on. -/
def isFlN (B : Nat) (F : Fl) (v : Value) (w : World) : Prop := ∃ vp vw, v = .agg #[vp, vw, .int .i64 F.fuse, strC F.torn, .bool F.dead] ∧ isBtw B w.heap.size 9 (F.pages.map strC) vp w ∧ isBtw B w.heap.size 3 (F.wear.map intC) vw w
theorem isFlN.fl {B : Nat} {F : Fl} {v : Value} {w : World} (h : isFlN B F v w) : isFl F v w := by
  obtain ⟨vp, vw, rfl, hp, hq⟩ := h
  exact ⟨vp, vw, rfl, hp.cells, hq.cells⟩
theorem isFlN.low {B B' : Nat} {F : Fl} {v : Value} {w : World} (h : isFlN B F v w) (hB : B' ≤ B) : isFlN B' F v w := by
  obtain ⟨vp, vw, rfl, hp, hq⟩ := h
  exact ⟨vp, vw, rfl, hp.weak hB (Nat.le_refl _), hq.weak hB (Nat.le_refl _)⟩
/-- The device as it came (F), and as it is told (G). -/
structure TI (w0 W : World) (lo hi g3 g6 g8 : Nat) (F G : Fl) (vp vw vp' vw' : Value) : Prop where
  below : Below w0.heap.size w0 W
  o3 : w0.heap.size ≤ g3 ∧ g3 < lo
  o6 : w0.heap.size ≤ g6 ∧ g6 < lo
  o36 : g3 ≠ g6
  o8 : w0.heap.size ≤ lo ∧ lo ≤ hi ∧ hi ≤ g8
  c3 : Cells5 W g3 vp vw (.int .i64 F.fuse) (strC F.torn) (.bool F.dead)
  c6 : ∃ o0 o1 o2 o3 o4, Cells5 W g6 o0 o1 o2 o3 o4
  f6 : Free5 W g6
  c8 : Cells5 W g8 vp' vw' (.int .i64 G.fuse) (strC G.torn) (.bool G.dead)
  f8 : Free5 W g8
  p : isCells (F.pages.map strC) vp w0
  q : isCells (F.wear.map intC) vw w0
  p' : isBtw lo hi 9 (G.pages.map strC) vp' W
  q' : isBtw lo hi 3 (G.wear.map intC) vw' W

section
variable {w0 W : World} {lo hi g3 g6 g8 g n cap : Nat} {F G : Fl} {vp vw vp' vw' : Value}
theorem TI.grow (h : TI w0 W lo hi g3 g6 g8 F G vp vw vp' vw') {W' : World} (hb : Below W.heap.size W W') : TI w0 W' lo hi g3 g6 g8 F G vp vw vp' vw' where
  below := h.below.trans (hb.mono h.below.size)
  o3 := h.o3
  o6 := h.o6
  o36 := h.o36
  o8 := h.o8
  c3 := h.c3.keep hb h.c3.1
  c6 := by obtain ⟨o0, o1, o2, o3, o4, hc⟩ := h.c6; exact ⟨o0, o1, o2, o3, o4, hc.keep hb hc.1⟩
  f6 := by obtain ⟨o0, o1, o2, o3, o4, hc⟩ := h.c6; exact h.f6.keep hb hc.1
  c8 := h.c8.keep hb h.c8.1
  f8 := h.f8.keep hb h.c8.1
  p := h.p
  q := h.q
  p' := h.p'.grow hb
  q' := h.q'.grow hb
theorem TI.fl (h : TI w0 W lo hi g3 g6 g8 F G vp vw vp' vw') : isFl F (.agg #[vp, vw, .int .i64 F.fuse, strC F.torn, .bool F.dead]) W := ⟨vp, vw, rfl, stable_cells _ _ _ _ h.p h.below, stable_cells _ _ _ _ h.q h.below⟩
theorem TI.fl' (h : TI w0 W lo hi g3 g6 g8 F G vp vw vp' vw') : isFl G (.agg #[vp', vw', .int .i64 G.fuse, strC G.torn, .bool G.dead]) W := ⟨vp', vw', rfl, h.p'.cells, h.q'.cells⟩
theorem TI.page (h : TI w0 W lo hi g3 g6 g8 F G vp vw (.slice (some ⟨g, 0, none⟩) n cap) vw') (k : Nat) (hk : k < G.pages.length) (x : List UInt8) :
    TI w0 (W.setCell ⟨g, k, none⟩ (strC x)) lo hi g3 g6 g8 F { G with pages := G.pages.set k x } vp vw (.slice (some ⟨g, 0, none⟩) n cap) vw' := by
  obtain ⟨hc, hf, h1, h2, cur, hg⟩ := h.p'.cell k (strC G.pages[k]) (get_map strC _ _ hk)
  have o3 := h.o3
  have o6 := h.o6
  have o8 := h.o8
  exact {
    below := h.below.setCell (p := ⟨g, k, none⟩) (by show _ ≤ g; omega) _
    o3 := o3
    o6 := o6
    o36 := h.o36
    o8 := o8
    c3 := h.c3.apart _ (by omega)
    c6 := by obtain ⟨o0, o1, o2, o3', o4, hc⟩ := h.c6; exact ⟨o0, o1, o2, o3', o4, hc.apart _ (by omega)⟩
    f6 := h.f6.set _ _
    c8 := h.c8.apart _ (by omega)
    f8 := h.f8.set _ _
    p := h.p
    q := h.q
    p' := by
      have := h.p'.put k (by simpa using hk) (strC x)
      rwa [← List.map_set] at this
    q' := h.q'.other (cs' := []) (v' := .nilIface) (cap := 0) (n := 0) hg (by decide) k _ }
theorem TI.wear (h : TI w0 W lo hi g3 g6 g8 F G vp vw vp' (.slice (some ⟨g, 0, none⟩) n cap)) (k : Nat) (hk : k < G.wear.length) (x : Int) :
    TI w0 (W.setCell ⟨g, k, none⟩ (intC x)) lo hi g3 g6 g8 F { G with wear := G.wear.set k x } vp vw vp' (.slice (some ⟨g, 0, none⟩) n cap) := by
  obtain ⟨hc, hf, h1, h2, cur, hg⟩ := h.q'.cell k (intC G.wear[k]) (get_map intC _ _ hk)
  have o3 := h.o3
  have o6 := h.o6
  have o8 := h.o8
  exact {
    below := h.below.setCell (p := ⟨g, k, none⟩) (by show _ ≤ g; omega) _
    o3 := o3
    o6 := o6
    o36 := h.o36
    o8 := o8
    c3 := h.c3.apart _ (by omega)
    c6 := by obtain ⟨o0, o1, o2, o3', o4, hc⟩ := h.c6; exact ⟨o0, o1, o2, o3', o4, hc.apart _ (by omega)⟩
    f6 := h.f6.set _ _
    c8 := h.c8.apart _ (by omega)
    f8 := h.f8.set _ _
    p := h.p
    q := h.q
    p' := h.p'.other (cs' := []) (v' := .nilIface) (cap := 0) (n := 0) hg (by decide) k _
    q' := by
      have := h.q'.put k (by simpa using hk) (intC x)
      rwa [← List.map_set] at this }
theorem TI.die (h : TI w0 W lo hi g3 g6 g8 F G vp vw vp' vw') (b : Bool) : TI w0 (W.setCell ⟨g8, 4, none⟩ (.bool b)) lo hi g3 g6 g8 F { G with dead := b } vp vw vp' vw' := by
  have o3 := h.o3
  have o6 := h.o6
  have o8 := h.o8
  exact {
    below := h.below.setCell (p := ⟨g8, 4, none⟩) (by show _ ≤ g8; omega) _
    o3 := o3
    o6 := o6
    o36 := h.o36
    o8 := o8
    c3 := h.c3.apart _ (by omega)
    c6 := by obtain ⟨o0, o1, o2, o3', o4, hc⟩ := h.c6; exact ⟨o0, o1, o2, o3', o4, hc.apart _ (by omega)⟩
    f6 := h.f6.set _ _
    c8 := h.c8.set4 _
    f8 := h.f8.set _ _
    p := h.p
    q := h.q
    p' := h.p'.out (p := ⟨g8, 4, none⟩) (.inr (by show _ ≤ g8; omega)) _
    q' := h.q'.out (p := ⟨g8, 4, none⟩) (.inr (by show _ ≤ g8; omega)) _ }
theorem TI.burn (h : TI w0 W lo hi g3 g6 g8 F G vp vw vp' vw') (n : Int) : TI w0 (W.setCell ⟨g8, 2, none⟩ (.int .i64 n)) lo hi g3 g6 g8 F { G with fuse := n } vp vw vp' vw' := by
  have o3 := h.o3
  have o6 := h.o6
  have o8 := h.o8
  exact {
    below := h.below.setCell (p := ⟨g8, 2, none⟩) (by show _ ≤ g8; omega) _
    o3 := o3
    o6 := o6
    o36 := h.o36
    o8 := o8
    c3 := h.c3.apart _ (by omega)
    c6 := by obtain ⟨o0, o1, o2, o3', o4, hc⟩ := h.c6; exact ⟨o0, o1, o2, o3', o4, hc.apart _ (by omega)⟩
    f6 := h.f6.set _ _
    c8 := h.c8.set2 _
    f8 := h.f8.set _ _
    p := h.p
    q := h.q
    p' := h.p'.out (p := ⟨g8, 2, none⟩) (.inr (by show _ ≤ g8; omega)) _
    q' := h.q'.out (p := ⟨g8, 2, none⟩) (.inr (by show _ ≤ g8; omega)) _ }
end
end Go.Proofs.YtipiioggdalkoaaGreatDoor
