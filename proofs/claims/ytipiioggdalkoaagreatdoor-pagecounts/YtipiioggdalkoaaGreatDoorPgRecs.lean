/- Contract of page.Records. -/
import Derived.Test.YtipiioggdalkoaaGreatDoorPgIter
import Derived.Test.YtipiioggdalkoaaGreatDoorFlVar
import Derived.RangeFuncBox
import Derived.Maps.AppendAt
namespace Go.Proofs.YtipiioggdalkoaaGreatDoor
open Go.RowKit Go.Shelf
set_option linter.unusedVariables false
set_option linter.unusedSimpArgs false
attribute [local go_sem] Oper.semAt_some

/-- Behind an append to what a box holds: the row lies from n₁ on, behind the box. -/
theorem boxed_app {W w1 : World} {n₀ n₁ B : Nat} {t e : TypeId} {size : Nat} {v v' : Value} {k m : Nat} {xs ys : List Value} {tmp : Obj}
    (hv : Boxed W B t v) (hte : t ≠ e) (hrow : W.ownsRow n₁ e size v k xs) (hn₁ : n₁ ≤ W.heap.size) (hB : n₀ ≤ B) (h01 : n₀ ≤ n₁)
    (hown' : w1.ownsRow n₁ e size v' m ys) (hgrow : (W.alloc tmp).grownBy w1 v.ownBlock) :
    Boxed w1 B t v ∧ Boxed (w1.setCell ⟨B, 0, none⟩ v') B t v' ∧ (w1.setCell ⟨B, 0, none⟩ v').ownsRow n₁ e size v' m ys ∧ KeepsOthers W (w1.setCell ⟨B, 0, none⟩ v') ∧ Below n₀ W (w1.setCell ⟨B, 0, none⟩ v') ∧ (∀ b, b < n₁ → b ≠ B → (w1.setCell ⟨B, 0, none⟩ v').heap[b]? = W.heap[b]?) ∧ W.heap.size ≤ (w1.setCell ⟨B, 0, none⟩ v').heap.size := by
  have hv1 : Boxed w1 B t v := (hv.alloc tmp).kept hgrow (hv.not_row hte hrow)
  have hb : Below n₁ W w1 := ((Below.refl n₁ W).alloc hn₁ tmp).grown hgrow (by simp; omega) fun j ej => by
    rcases hrow.2 with ⟨rfl, _⟩ | ⟨g, cap, cur, rfl, hb, _, _⟩
    · simp [Value.ownBlock] at ej
    · obtain rfl : g = j := by simpa [Value.ownBlock] using ej
      exact hb
  refine ⟨hv1, hv1.set v', hown'.kept (grownBy_setCell' w1 B v') (.inr (hv1.not_row hte hown').symm), ?_, (hb.mono h01).setCell (p := ⟨B, 0, none⟩) hB v', fun b h1 h2 => (Below.heap_setCell w1 ⟨B, 0, none⟩ v' b h2).trans (hb.block b h1), by simpa using hb.size⟩
  refine ((KeepsOthers.alloc W tmp).trans (KeepsOthers.of_grownBy hgrow fun j o ej hj => ?_)).trans (KeepsOthers.setCell _ _ _)
  rcases (hrow.alloc tmp).2 with ⟨rfl, _⟩ | ⟨g, cap, cur, rfl, _, hgb, _⟩
  · simp [Value.ownBlock] at ej
  · obtain rfl : g = j := by simpa [Value.ownBlock] using ej
    rw [hgb] at hj; cases hj; rfl
theorem keepsOthers_below {W W' : World} (h : Below W.heap.size W W') : KeepsOthers W W' := ⟨h.size, fun k o hk _ => (h.block k (Array.getElem?_eq_some_iff.1 hk).1).trans hk⟩
theorem ownsRow_below {W W' : World} {n₀ : Nat} {e : TypeId} {size : Nat} {v : Value} {k : Nat} {xs : List Value} (h : W.ownsRow n₀ e size v k xs) (hb : Below W.heap.size W W') : W'.ownsRow n₀ e size v k xs := by
  obtain ⟨hl, h | ⟨g, cap, cur, hv, h1, hg, rest⟩⟩ := h
  · exact ⟨hl, .inl h⟩
  · exact ⟨hl, .inr ⟨g, cap, cur, hv, h1, (hb.block g (Array.getElem?_eq_some_iff.1 hg).1).trans hg, rest⟩⟩
theorem boxed_below {W W' : World} {B : Nat} {t : TypeId} {v : Value} (h : Boxed W B t v) (hb : Below W.heap.size W W') : Boxed W' B t v := (hb.block B (Array.getElem?_eq_some_iff.1 h).1).trans h
theorem cell_of_block {W W' : World} {b : Nat} (h : W'.heap[b]? = W.heap[b]?) : W'.cell? ⟨b, 0, none⟩ = W.cell? ⟨b, 0, none⟩ := by simp only [World.cell?, h]

def recOf (t : List UInt8) : List (List UInt8) := if readE t = 0 then [readS t] else []
def recsOf (s : List UInt8) (n : Int) (pre : List Nat) : List (List UInt8) := pre.flatMap fun i => recOf (slotL s n i)
/-- The payloads of all places that are records. -/
def recordsL (s : List UInt8) (n : Int) : List (List UInt8) := recsOf s n (List.range (roomN s n))
theorem recsOf_len (s : List UInt8) (n : Int) (pre : List Nat) : (recsOf s n pre).length ≤ pre.length := by
  unfold recsOf
  induction pre with
  | nil => simp
  | cons a l ih =>
    rw [List.flatMap_cons, List.length_append, List.length_cons]
    have : (recOf (slotL s n a)).length ≤ 1 := by unfold recOf; split <;> simp
    omega

set_option maxRecDepth 100000 in
set_option maxHeartbeats 2000000 in
theorem records_any (s : List UInt8) (n : Int) (w : World) (hs : s.length ≤ 1000000) (hz : szN n ≤ 2056 ∨ roomN s n = 0) :
    Calls Tryz.prog 13 #[.string ⟨s.toArray⟩, .int .i64 n] w fun e W' => ∃ v, e = .returned v ∧ isCells ((recordsL s n).map strC) v W' ∧ Below w.heap.size w W' := by
  refine (callsIn_wide (n := 5)).1 ?_
  obtain ⟨i0, hi, hz0, hz1, hz2⟩ := info_parts Tryz.infoStr
  refine callsIn_of_wp_marks Tryz.func13 rfl trivial ?_ rfl
  simp only [Tryz.ntmps13, List.size_toArray, List.length_cons, List.length_nil, Nat.reduceAdd, Nat.reduceSub, Array.replicate_succ, Array.replicate_zero, List.push_toArray, List.append_toArray, List.nil_append, List.cons_append]
  gi_wp2_with (refine ⟨trivial, (places_in _ s n _).mono ?_⟩; rintro e w' ⟨rfl, rfl⟩)
  have bO := Boxed.new w 26 (.slice none 0 0)
  have bS := Boxed.new (w.alloc (.cells #[.slice none 0 0] 26)) 9 (.string ⟨s.toArray⟩)
  have bN := Boxed.new ((w.alloc (.cells #[.slice none 0 0] 26)).alloc (.cells #[.string ⟨s.toArray⟩] 9)) 3 (.int .i64 n)
  have hB0 : Below w.heap.size w (((w.alloc (.cells #[.slice none 0 0] 26)).alloc (.cells #[.string ⟨s.toArray⟩] 9)).alloc (.cells #[.int .i64 n] 3)) := (((Below.refl _ w).alloc (Nat.le_refl _) _).alloc (by simp) _).alloc (by simp; omega) _
  simp only [World.size_alloc] at bS bN ⊢
  have hrl : roomN s n ≤ 1000000 := Nat.le_trans (roomN_len s n) hs
  refine wpIn_rangeFunc_ownG rfl (by decide) (gf := 63) (lb := #[.pointer (some ⟨w.heap.size + 1, 0, none⟩), .pointer (some ⟨w.heap.size + 1 + 1, 0, none⟩)]) rfl trivial (enters_of Tryz.func63 (by kernel_rfl) rfl)
    (places_stops 4 (by omega) (w.heap.size + 1) (w.heap.size + 1 + 1) s n (by omega) _ (by simp) (bS.alloc _).cell (by simp) bN.cell) (box2_t _ _) (box2_put _ _ _ (by simp) (by simp)) (Below.refl _ _) (fun _ => rfl)
    (fun (pre : List (Fin (roomN s n))) W => (∃ v, Boxed W w.heap.size 26 v ∧ W.ownsRow (w.heap.size + 3) 9 1 v (recsOf s n (pre.map Fin.val)).length ((recsOf s n (pre.map Fin.val)).map strC) ∧ True) ∧ Below w.heap.size w W ∧ w.heap.size + 3 ≤ W.heap.size)
    (fun _ _ _ => False)
    (OwnFrom.and (Own.from (holdsRow_own (w.heap.size + 3) w.heap.size 26 9 1 (fun pre : List (Fin (roomN s n)) => (recsOf s n (pre.map Fin.val)).length) (fun pre => (recsOf s n (pre.map Fin.val)).map strC) (fun pre v => True)) _) (OwnFrom.and (ownFrom_below (Nat.le_refl _) (by simp; omega)) (fun _ _ _ _ hs hg _ => Nat.le_trans hs hg.size)))
    (fun _ _ _ _ _ hs _ _ => hs)
    ⟨⟨_, (bO.alloc _).alloc _, World.ownsRow_nil _ _ _ _, trivial⟩, hB0, by simp⟩
    (fun x : Fin (roomN s n) => { tmps := #[.string ⟨s.toArray⟩, .int .i64 n, undef, undef, .slice none 0 0, .pointer (some ⟨w.heap.size, 0, none⟩), undef, .string ⟨(slotL s n x.val).toArray⟩, undef, undef, .string ⟨s.toArray⟩, .int .i64 n, .func (.func 63) #[] #[.pointer (some ⟨w.heap.size + 1, 0, none⟩), .pointer (some ⟨w.heap.size + 1 + 1, 0, none⟩)], .int .i64 (x.val : Int), .string ⟨(slotL s n x.val).toArray⟩, undef, undef, undef, undef, undef, undef, undef, undef, undef, undef, undef, undef], defers := [] }) ?assign ?body ?done ?stop
  case assign =>
    intro l x W K hK
    simp only [encPl]
    gi_wp2
    exact hK
  case body =>
    rintro l pre x W ⟨⟨v, hv, hrow, _⟩, hB, hW3⟩ hlt
    have hle : (slotL s n x.val).length ≤ 2056 := by
      rcases hz with h | h
      · exact Nat.le_trans (by simp only [slotL, List.length_take]; omega) h
      · omega
    have hpl := recsOf_len s n (pre.map Fin.val)
    rw [List.length_map] at hpl
    have HR := Lib.hid (show recsOf s n ((pre ++ [x]).map Fin.val) = recsOf s n (pre.map Fin.val) ++ recOf (slotL s n x.val) by simp [recsOf])
    generalize slotL s n x.val = t at *
    rcases readE_cases t with ⟨h0, _⟩ | ⟨h0, _⟩
    · have HE := Lib.hid h0
      have HC := Lib.hid (show recOf t = [readS t] by unfold recOf; rw [if_pos h0])
      clear h0
      gi_wp2_with (first
        | (refine ⟨trivial, ((callsIn_wide.2 (read_any t _ hle)).inRound l).mono ?_⟩; rintro e W2 ⟨rfl, hb2⟩; rw [HE.out]; have hv2 := boxed_below hv hb2; have hrow2 := ownsRow_below hrow hb2; have hc2 := hv2.cell; have hW4 : w.heap.size + 3 ≤ W2.heap.size := Nat.le_trans hW3 hb2.size)
        | (gi_at_builtin; refine wpListIn_append_own _ rfl _ _ 26 rfl (w.heap.size + 3) 9 i0 (.string ⟨#[]⟩) 1 16 Tryz.underlying26 hi hz0 hz1 hz2 rfl (by decide) _ _ _ rfl (hrow2.alloc _) ⟨W2.heap.size, 0, none⟩ 1 1 [strC (readS t)] rfl rfl (cell_one_new _ _ _) (by simp [Value.oneCell', strC]) (by unfold maxLen; omega) (by omega) (by simp; omega) ?_; intro v' w1 hown' hgrow _; obtain ⟨g', cap', rfl⟩ := ownsRow_succ hown'; obtain ⟨hv3, hv4, hr4, hk4, hb4, hbl4, hsz4⟩ := boxed_app (n₀ := w.heap.size) hv2 (by decide) hrow2 hW4 (Nat.le_refl _) (by omega) hown' hgrow; have hc1 := hv3.cell; have hf1 := hv3.frozen))
      refine ⟨((keepsOthers_below hb2).trans hk4).from _, ⟨cell_of_block ((hbl4 _ (by omega) (by omega)).trans (hb2.block _ (by omega))), cell_of_block ((hbl4 _ (by omega) (by omega)).trans (hb2.block _ (by omega)))⟩, ⟨_, hv4, ?_, trivial⟩, (hB.trans (hb2.mono hB.size)).trans hb4, by omega⟩
      rw [HR.out, HC.out]
      simpa using hr4
    · have HE := Lib.hid h0
      have HC := Lib.hid (show recOf t = [] by unfold recOf; rw [if_neg (by rw [h0]; decide)])
      clear h0
      gi_wp2_with (refine ⟨trivial, ((callsIn_wide.2 (read_any t _ hle)).inRound l).mono ?_⟩; rintro e W2 ⟨rfl, hb2⟩; rw [HE.out]; have hv2 := boxed_below hv hb2; have hrow2 := ownsRow_below hrow hb2; have hW4 : w.heap.size + 3 ≤ W2.heap.size := Nat.le_trans hW3 hb2.size)
      refine ⟨(keepsOthers_below hb2).from _, ⟨cell_of_block (hb2.block _ (by omega)), cell_of_block (hb2.block _ (by omega))⟩, ⟨_, hv2, ?_, trivial⟩, hB.trans (hb2.mono hB.size), hW4⟩
      rw [HR.out, HC.out]
      simpa using hrow2
  case done =>
    rintro D ys W hD hys ⟨⟨v, hv, hrow, _⟩, hB, hW3⟩ hK
    rw [hys] at hrow
    have hc := hv.cell
    gi_wp2
    refine ⟨by simp, .inl ⟨_, _, rfl, run_takeDeferred hK, ?_⟩⟩
    exact ⟨_, results_tmp rfl _ _ _, v, rfl, isCells_own (ownsRow_putObj hrow _ hK rfl), hB.trans (belowK_b (w := w) (Nat.le_refl _) W D _ _ (by simp at hD; omega) hK rfl rfl)⟩
  case stop =>
    rintro D c pre W _ _ h _
    exact h.elim
end Go.Proofs.YtipiioggdalkoaaGreatDoor
