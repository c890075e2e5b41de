/- Joined texts: contracts of the program's functions, and the mathematics that they lean on. -/
import Derived.Test.YtkjghoomdefbbaaGreatDoorPartF
import Derived.RangeFuncCalls
import Derived.RegionTactic
import Derived.Laws.EntriesVeiled
import Derived.Maps.AppendAt
import Derived.OwnWalk
import Derived.Laws.BytesArg
import Derived.Deep.Slices
section
namespace Go.Proofs.YtkjghoomdefbbaaGreatDoor
open Go Go.RowKit Go.Shelf
set_option linter.unusedVariables false
set_option linter.unusedSimpArgs false
attribute [local irreducible] setN
attribute [local go_sem] Oper.semAt_some

theorem xor_i64 (a b : Nat) (ha : a < 4294967296) (hb : b < 4294967296) : bits .xor .i64 (a : Int) (b : Int) = ((a ^^^ b : Nat) : Int) := by
  have hx : a ^^^ b < 4294967296 := x32 ha hb
  show IntKind.i64.wrap ((BitVec.ofInt 64 (a : Int) ^^^ BitVec.ofInt 64 (b : Int)).toNat : Int) = _
  rw [BitVec.toNat_xor, BitVec.toNat_ofInt, BitVec.toNat_ofInt]
  rw [show ((a : Int) % ((2 ^ 64 : Nat) : Int)).toNat = a by omega, show ((b : Int) % ((2 ^ 64 : Nat) : Int)).toNat = b by omega]
  generalize a ^^^ b = c at *
  rw [IntKind.wrap_i64]
  omega
theorem Blk.drew {W : World} {b : Nat} {cs : List Value} (h : Blk W b cs) : Blk W.drew b cs := ⟨⟨h.cells.1, h.cells.2⟩, h.free⟩
theorem cells_own {B : Nat} {cs : List Value} {v : Value} {W W' : World} {row : Option Nat} (h : isCells cs v W) (hg : W.grownBy W' row) (hr : ∀ r, row = some r → B ≤ r ∧ ∃ o : Obj, W.heap[r]? = some o ∧ o.isCells = false) : isCells cs v W' := by
  rcases h with h1 | h1 | ⟨b, off, cap, e, hlt, hcc⟩
  · exact .inl h1
  · exact .inr (.inl h1)
  · refine .inr (.inr ⟨b, off, cap, e, Nat.lt_of_lt_of_le hlt hg.size, fun j y hy => ?_⟩)
    have hx := hcc j y hy
    rw [World.cell?_of_block (a := ⟨b, off + j, none⟩) (hg.block b hlt (fun er => ?_))]
    · exact hx
    · obtain ⟨_, o, ho, hc⟩ := hr b er.symm
      rw [cell_cells hx ho] at hc
      cases hc
/-- What stands in the variable behind some slots. -/
def stS (l : List En) : List Value := [.int .i64 (sumK 0 l : Int), .int .i64 (sumK 1 l : Int), .int .i64 (sumK 2 l : Int), .int .i64 (sumK 3 l : Int)]
def sumsV (A : Ar) : Value := .agg #[.int .i64 (sumA A 0 : Int), .int .i64 (sumA A 1 : Int), .int .i64 (sumA A 2 : Int), .int .i64 (sumA A 3 : Int)]
theorem sum_chunk (A : Ar) (k : Nat) : sumK k (chunkA A 0 8) = sumA A k := by
  unfold chunkA sumA
  rw [if_neg (by decide)]
  cases hok : okA A with
  | false => rfl
  | true =>
    have h := okA_iff.1 hok
    have h1 := h.fits
    have h2 := h.room
    rw [if_pos rfl, if_pos rfl, show (0 : Int).toNat = 0 from rfl, List.drop_zero, List.take_of_length_le (by show A.slots.length ≤ 8; omega)]
def ISm (w : World) (pre : List Elb) (W : World) : Prop := Blk W (w.heap.size + 1) [.int .i64 0, .int .i64 0, .int .i64 0, .int .i64 0] ∧ Blk W (w.heap.size + 1 + 1) (stS (pre.map (·.1))) ∧ Below w.heap.size w W ∧ w.heap.size + 4 ≤ W.heap.size
theorem ism_own (w : World) (B : Nat) (hB : w.heap.size + 4 ≤ B) : OwnFrom B (ISm w) := by
  intro s W W' row ⟨h1, h2, h3, h4⟩ hg hr
  exact ⟨blk_own (by simp) h1 hg hr, blk_own (by simp [stS]) h2 hg hr, h3.grown hg (by omega) (fun k e => by have := (hr k e).1; omega), Nat.le_trans h4 hg.size⟩
theorem ism_keep {w : World} {pre : List Elb} {W W' : World} (h : ISm w pre W) (hb : Below W.heap.size W W') : ISm w pre W' :=
  ⟨h.1.keep hb, h.2.1.keep hb, h.2.2.1.trans (hb.mono (by have := h.2.2.2; omega)), Nat.le_trans h.2.2.2 hb.size⟩
def AxSm (A : Ar) (vs vi : Value) (w : World) (x : Elb) (a' : Act) (W : World) : Prop := ∃ h, a' = { tmps := #[.agg #[.int .i64 A.cap, vs, vi], .pointer (some ⟨w.heap.size, 0, none⟩), .pointer (some ⟨w.heap.size + 1, 0, none⟩), .pointer (some ⟨w.heap.size + 1 + 1, 0, none⟩), .int .i64 (bkE x.1 : Int), .pointer (some ⟨h, 0, none⟩), undef, undef, .agg #[.int .i64 A.cap, vs, vi], .func (.func 70) #[] #[.pointer (some ⟨w.heap.size + 1 + 1 + 1, 0, none⟩)], .int .i64 (bkE x.1 : Int), .agg #[.string ⟨x.1.key.toArray⟩, .int .i64 x.1.val.kind, .int .i64 x.1.val.time, .int .i64 x.1.val.node, .bool x.1.val.dead, .string ⟨x.1.val.text.toArray⟩, x.2.1, x.2.2.1, .int .u64 (x.1.val.flags.toNat : Int)], undef, undef, undef, undef, undef, undef, undef, undef, undef, undef, undef, undef, undef], defers := [] } ∧ Blk W h [.string ⟨x.1.key.toArray⟩, .int .i64 x.1.val.kind, .int .i64 x.1.val.time, .int .i64 x.1.val.node, .bool x.1.val.dead, .string ⟨x.1.val.text.toArray⟩, x.2.1, x.2.2.1, .int .u64 (x.1.val.flags.toNat : Int)] ∧ isCells (x.1.val.plus.map intC) x.2.1 W ∧ isCells (x.1.val.minus.map intC) x.2.2.1 W ∧ okE x.1 = true ∧ w.heap.size + 4 ≤ x.2.2.2.1
theorem axsm_own (A : Ar) (vs vi : Value) (w : World) (x : Elb) (a' : Act) (B : Nat) : OwnFrom B (fun (_ : Unit) W => AxSm A vs vi w x a' W) := by
  rintro _ W W' row ⟨h, e, hb, hp, hm, h1, h2⟩ hg hr
  exact ⟨h, e, blk_own (by simp) hb hg hr, cells_own hp hg hr, cells_own hm hg hr, h1, h2⟩
set_option maxRecDepth 100000 in
set_option maxHeartbeats 4000000 in
theorem sums_any (A : Ar) (v : Value) (w : World) (hv : isAr A v w) (hF : FitA A) : Calls Tryz.prog 18 #[v] w fun e W' => e = .returned (sumsV A) ∧ Below w.heap.size w W' := by
  obtain ⟨vs, vi, rfl, hs, hi⟩ := hv
  refine (callsIn_wide (n := 5)).1 ?_
  refine callsIn_of_wp_marks Tryz.func18 rfl trivial ?_ rfl
  simp only [Tryz.ntmps18, List.size_toArray, List.length_cons, List.length_nil, Nat.reduceAdd, Nat.reduceSub, Array.replicate_succ, Array.replicate_zero, List.push_toArray, List.append_toArray, List.nil_append, List.cons_append]
  gi_wp2_with (refine ⟨trivial, (callsIn_wide.2 (by_any A _ _ vs vi rfl)).mono ?_⟩; rintro e w' ⟨rfl, rfl⟩)
  have hB0 : Below w.heap.size w ((((w.alloc (.cells #[.int .i64 A.cap, vs, vi] 25)).alloc (.cells #[.int .i64 0, .int .i64 0, .int .i64 0, .int .i64 0] 26)).alloc (.cells #[.int .i64 0, .int .i64 0, .int .i64 0, .int .i64 0] 26)).alloc (.cells #[.int .i64 A.cap, vs, vi] 25)) := ((((Below.refl _ w).alloc (Nat.le_refl _) _).alloc (by simp) _).alloc (by simp; omega) _).alloc (by simp; omega) _
  have hBx : Blk ((((w.alloc (.cells #[.int .i64 A.cap, vs, vi] 25)).alloc (.cells #[.int .i64 0, .int .i64 0, .int .i64 0, .int .i64 0] 26)).alloc (.cells #[.int .i64 0, .int .i64 0, .int .i64 0, .int .i64 0] 26)).alloc (.cells #[.int .i64 A.cap, vs, vi] 25)) (w.heap.size + 1 + 1 + 1) [.int .i64 A.cap, vs, vi] := Blk.new (((w.alloc (.cells #[.int .i64 A.cap, vs, vi] 25)).alloc (.cells #[.int .i64 0, .int .i64 0, .int .i64 0, .int .i64 0] 26)).alloc (.cells #[.int .i64 0, .int .i64 0, .int .i64 0, .int .i64 0] 26)) 25 [.int .i64 A.cap, vs, vi] (w.heap.size + 1 + 1 + 1) (by simp)
  have hst : Blk ((((w.alloc (.cells #[.int .i64 A.cap, vs, vi] 25)).alloc (.cells #[.int .i64 0, .int .i64 0, .int .i64 0, .int .i64 0] 26)).alloc (.cells #[.int .i64 0, .int .i64 0, .int .i64 0, .int .i64 0] 26)).alloc (.cells #[.int .i64 A.cap, vs, vi] 25)) (w.heap.size + 1) [.int .i64 0, .int .i64 0, .int .i64 0, .int .i64 0] := ((Blk.new (w.alloc (.cells #[.int .i64 A.cap, vs, vi] 25)) 26 [.int .i64 0, .int .i64 0, .int .i64 0, .int .i64 0] (w.heap.size + 1) (by simp)).alloc _).alloc _
  have hso : Blk ((((w.alloc (.cells #[.int .i64 A.cap, vs, vi] 25)).alloc (.cells #[.int .i64 0, .int .i64 0, .int .i64 0, .int .i64 0] 26)).alloc (.cells #[.int .i64 0, .int .i64 0, .int .i64 0, .int .i64 0] 26)).alloc (.cells #[.int .i64 A.cap, vs, vi] 25)) (w.heap.size + 1 + 1) [.int .i64 0, .int .i64 0, .int .i64 0, .int .i64 0] := (Blk.new ((w.alloc (.cells #[.int .i64 A.cap, vs, vi] 25)).alloc (.cells #[.int .i64 0, .int .i64 0, .int .i64 0, .int .i64 0] 26)) 26 [.int .i64 0, .int .i64 0, .int .i64 0, .int .i64 0] (w.heap.size + 1 + 1) (by simp)).alloc _
  have hI0 : ISm w [] ((((w.alloc (.cells #[.int .i64 A.cap, vs, vi] 25)).alloc (.cells #[.int .i64 0, .int .i64 0, .int .i64 0, .int .i64 0] 26)).alloc (.cells #[.int .i64 0, .int .i64 0, .int .i64 0, .int .i64 0] 26)).alloc (.cells #[.int .i64 A.cap, vs, vi] 25)) := ⟨hst, hso, hB0, by simp⟩
  have hsz : ((((w.alloc (.cells #[.int .i64 A.cap, vs, vi] 25)).alloc (.cells #[.int .i64 0, .int .i64 0, .int .i64 0, .int .i64 0] 26)).alloc (.cells #[.int .i64 0, .int .i64 0, .int .i64 0, .int .i64 0] 26)).alloc (.cells #[.int .i64 A.cap, vs, vi] 25)).heap.size = w.heap.size + 4 := by simp
  have hs0 := stable_ens _ _ _ _ hs hB0
  have hi0 := stable_cells _ _ _ _ hi hB0
  have hseq := by1_in 4 (by omega) (w.heap.size + 1 + 1 + 1) A vs vi ((((w.alloc (.cells #[.int .i64 A.cap, vs, vi] 25)).alloc (.cells #[.int .i64 0, .int .i64 0, .int .i64 0, .int .i64 0] 26)).alloc (.cells #[.int .i64 0, .int .i64 0, .int .i64 0, .int .i64 0] 26)).alloc (.cells #[.int .i64 A.cap, vs, vi] 25)) hBx hs0 hi0 hF
  have HLO := Kept.mk (show ∀ e ∈ chunkA A 0 8, okE e = true from fun e he => chunk_ok he)
  try simp only [World.size_alloc] at hseq
  try simp only [World.size_alloc]
  generalize ((((w.alloc (.cells #[.int .i64 A.cap, vs, vi] 25)).alloc (.cells #[.int .i64 0, .int .i64 0, .int .i64 0, .int .i64 0] 26)).alloc (.cells #[.int .i64 0, .int .i64 0, .int .i64 0, .int .i64 0] 26)).alloc (.cells #[.int .i64 A.cap, vs, vi] 25)) = W0 at *
  refine range_made rfl (by decide) (gf := 70) (lb := #[.pointer (some ⟨w.heap.size + 1 + 1 + 1, 0, none⟩)]) rfl trivial (enters_of Tryz.func70 (by kernel_rfl) rfl)
    hseq kpB_t (fun x W l o o' h1 h2 h3 h4 => kpB_put x W l o o' h1 h2 h3 h4) (Below.refl _ _) (fun _ => rfl)
    (ISm w) (fun _ _ _ => False) (ism_own w _ (by omega)) (fun _ _ _ _ _ hs _ _ => hs) hI0 (AxSm A vs vi w) (fun x a' => axsm_own A vs vi w x a' _) ?assign ?body ?done ?stop
  case assign =>
    intro l pre x W K hIp hpx hK
    obtain ⟨K1, K2, K3, K4, K5⟩ := enew W x.1 x.2.1 x.2.2.1 hpx.rp hpx.rm W.heap.size rfl
    have HH := Kept.mk ((Blk.new W 48 [.string ⟨#[]⟩, .int .i64 0, .int .i64 0, .int .i64 0, .bool false, .string ⟨#[]⟩, .slice none 0 0, .slice none 0 0, .int .u64 0] W.heap.size rfl).all_ (l := [.string ⟨x.1.key.toArray⟩, .int .i64 x.1.val.kind, .int .i64 x.1.val.time, .int .i64 x.1.val.node, .bool x.1.val.dead, .string ⟨x.1.val.text.toArray⟩, x.2.1, x.2.2.1, .int .u64 (x.1.val.flags.toNat : Int)]) rfl)
    have hK2 := hK _ _ (keeps_below K3.out) (kpB_below K3.out) (ism_keep hIp K3.out) ⟨W.heap.size, rfl, HH.out, stable_cells _ _ _ _ hpx.rp K3.out, stable_cells _ _ _ _ hpx.rm K3.out, HLO.out _ (List.mem_of_getElem? hpx.at_), by have := hpx.lo; omega⟩
    have HK := Kept.mk hK2
    clear hK2 hK hpx
    simp only [encBk]
    gi_wp2_with (have hz0 := K1; refine wpListIn_storeN (fun _ => trivial) 48 rfl (.tmp 5) (.tmp 11) rfl W.heap.size [.string ⟨x.1.key.toArray⟩, .int .i64 x.1.val.kind, .int .i64 x.1.val.time, .int .i64 x.1.val.node, .bool x.1.val.dead, .string ⟨x.1.val.text.toArray⟩, x.2.1, x.2.2.1, .int .u64 (x.1.val.flags.toNat : Int)] size_en rfl rfl K1.out rfl K2.out K5.out ?_; clear hz0 K1 K2 K5)
    exact HK.out
  case body =>
    rintro l pre x a' W hl hIp ⟨h, rfl, hbl, hp, hm, hok, hlo⟩ hlt
    obtain ⟨h1, h2, h3, hsz4⟩ := hIp
    have HO := Kept.mk h2
    have HR := Kept.mk h1
    have HB := Kept.mk h3
    have FE := ok_fit' hok
    have HPF := Kept.mk (show putF x.1 = putEn x.1 by unfold putF; rw [if_pos hok])
    have HLN := Kept.mk (show (putEn x.1).length ≤ 1024 by rw [length_putEn hok]; decide)
    have hmx : Tryz.prog.follows .mixedOrders = true := mixed
    have XE := Kept.mk (show isEn x.1 (.agg #[.string ⟨x.1.key.toArray⟩, .int .i64 x.1.val.kind, .int .i64 x.1.val.time, .int .i64 x.1.val.node, .bool x.1.val.dead, .string ⟨x.1.val.text.toArray⟩, x.2.1, x.2.2.1, .int .u64 (x.1.val.flags.toNat : Int)]) W from ⟨_, _, rfl, hp, hm⟩)
    have ke0 := hbl.cells.2 0 _ rfl
    have ke1 := hbl.cells.2 1 _ rfl
    have ke2 := hbl.cells.2 2 _ rfl
    have ke3 := hbl.cells.2 3 _ rfl
    have ke4 := hbl.cells.2 4 _ rfl
    have ke5 := hbl.cells.2 5 _ rfl
    have ke6 := hbl.cells.2 6 _ rfl
    have ke7 := hbl.cells.2 7 _ rfl
    have ke8 := hbl.cells.2 8 _ rfl
    have HFIN : ∀ k, (hk : bkE x.1 = k) → ∀ W1, Below W.heap.size W W1 → KeepsFrom W0.heap.size W (W1.setCell ⟨w.heap.size + 1 + 1, k, none⟩ (.int .i64 ((sumK k (pre.map (·.1)) ^^^ sumE x.1 : Nat) : Int))).drew ∧ KpB x W (W1.setCell ⟨w.heap.size + 1 + 1, k, none⟩ (.int .i64 ((sumK k (pre.map (·.1)) ^^^ sumE x.1 : Nat) : Int))).drew ∧ ISm w (pre ++ [x]) (W1.setCell ⟨w.heap.size + 1 + 1, k, none⟩ (.int .i64 ((sumK k (pre.map (·.1)) ^^^ sumE x.1 : Nat) : Int))).drew := by
      intro k hk W1 hb
      have hk4 : k < 4 := by rw [← hk]; exact bucketN_lt _ _
      have hst1 : stS ((pre ++ [x]).map (·.1)) = (stS (pre.map (·.1))).set k (.int .i64 ((sumK k (pre.map (·.1)) ^^^ sumE x.1 : Nat) : Int)) := by
        rw [List.map_append]
        show stS (pre.map (·.1) ++ [x.1]) = _
        unfold stS
        simp only [sumK_snoc, hk]
        have h4 : k = 0 ∨ k = 1 ∨ k = 2 ∨ k = 3 := by omega
        rcases h4 with rfl | rfl | rfl | rfl <;> simp
      have hother : ∀ b, b < W.heap.size → b ≠ w.heap.size + 1 + 1 → (W1.setCell ⟨w.heap.size + 1 + 1, k, none⟩ (.int .i64 ((sumK k (pre.map (·.1)) ^^^ sumE x.1 : Nat) : Int))).drew.heap[b]? = W.heap[b]? := fun b h1 h2 => (Below.heap_setCell W1 _ _ b h2).trans (hb.block b h1)
      have hle : W.heap.size ≤ (W1.setCell ⟨w.heap.size + 1 + 1, k, none⟩ (.int .i64 ((sumK k (pre.map (·.1)) ^^^ sumE x.1 : Nat) : Int))).drew.heap.size := by
        have := hb.size
        show W.heap.size ≤ (W1.setCell _ _).heap.size
        simpa using this
      refine ⟨⟨hle, fun b o hB hkb _ => (hother b (Array.getElem?_eq_some_iff.1 hkb).1 (by omega)).trans hkb⟩, kpB_blk hle (fun b h1 _ h3 => hother b h3 (by omega)), ?_, ?_, ?_, ?_⟩
      · exact ((HR.out.keep hb).apart (show w.heap.size + 1 ≠ w.heap.size + 1 + 1 by omega) _ _).drew
      · rw [hst1]; exact ((HO.out.keep hb).set k _ (by unfold stS; exact hk4)).drew
      · exact ((HB.out.trans (hb.mono HB.out.size)).setCell (p := ⟨w.heap.size + 1 + 1, k, none⟩) (by show w.heap.size ≤ w.heap.size + 1 + 1; omega) _).drew
      · omega
    have hb4 := bucketN_lt x.1.val.kind x.1.key
    have h4 : bkE x.1 = 0 ∨ bkE x.1 = 1 ∨ bkE x.1 = 2 ∨ bkE x.1 = 3 := by unfold bkE; omega
    clear hp hm hbl h1 h2 h3
    rcases h4 with hk | hk | hk | hk
    · have HFK := HFIN 0 hk
      rw [hk]
      have kc := HO.out.cells.2 0 (.int .i64 (sumK 0 (pre.map (·.1)) : Int)) rfl
      have kf := HO.out.free 0
      have hxo := xor_i64 (sumK 0 (pre.map (·.1))) (sumE x.1) (sumK_lt 0 _) (sumE_lt _)
      clear HFIN hk
      gi_wp2_with fail
      refine ⟨trivial, (CallsIn.inRound l (callsIn_wide.2 (eput_any x.1 _ _ XE.out FE))).mono ?_⟩
      rintro e W1 ⟨rfl, hb⟩
      rw [HPF.out]
      have kc1 := (hb.cell (p := ⟨w.heap.size + 1 + 1, 0, none⟩) HO.out.lt).trans kc
      have kf1 := (hb.frozen (p := ⟨w.heap.size + 1 + 1, 0, none⟩) HO.out.lt).trans kf
      have HW := Kept.mk (HFK W1 hb)
      clear kc kf XE ke0 ke1 ke2 ke3 ke4 ke5 ke6 ke7 ke8 HFK hb
      have hln : (putEn x.1).length ≤ 1024 := HLN.out
      have hsm : sumE x.1 = crcN (putEn x.1) := rfl
      rw [hsm] at hxo HW
      clear hsm
      generalize putEn x.1 = q at *
      generalize sumK 0 (pre.map (·.1)) = sk at *
      gi_wp2_with fail
      gi_region_with_o (refine ⟨trivial, (CallsIn.inRound l (callsIn_wide.2 (sum_any q _ hln))).mono ?_⟩; rintro e w' ⟨rfl, rfl⟩)
      all_goals exact HW.out
    · have HFK := HFIN 1 hk
      rw [hk]
      have kc := HO.out.cells.2 1 (.int .i64 (sumK 1 (pre.map (·.1)) : Int)) rfl
      have kf := HO.out.free 1
      have hxo := xor_i64 (sumK 1 (pre.map (·.1))) (sumE x.1) (sumK_lt 1 _) (sumE_lt _)
      clear HFIN hk
      gi_wp2_with fail
      refine ⟨trivial, (CallsIn.inRound l (callsIn_wide.2 (eput_any x.1 _ _ XE.out FE))).mono ?_⟩
      rintro e W1 ⟨rfl, hb⟩
      rw [HPF.out]
      have kc1 := (hb.cell (p := ⟨w.heap.size + 1 + 1, 1, none⟩) HO.out.lt).trans kc
      have kf1 := (hb.frozen (p := ⟨w.heap.size + 1 + 1, 1, none⟩) HO.out.lt).trans kf
      have HW := Kept.mk (HFK W1 hb)
      clear kc kf XE ke0 ke1 ke2 ke3 ke4 ke5 ke6 ke7 ke8 HFK hb
      have hln : (putEn x.1).length ≤ 1024 := HLN.out
      have hsm : sumE x.1 = crcN (putEn x.1) := rfl
      rw [hsm] at hxo HW
      clear hsm
      generalize putEn x.1 = q at *
      generalize sumK 1 (pre.map (·.1)) = sk at *
      gi_wp2_with fail
      gi_region_with_o (refine ⟨trivial, (CallsIn.inRound l (callsIn_wide.2 (sum_any q _ hln))).mono ?_⟩; rintro e w' ⟨rfl, rfl⟩)
      all_goals exact HW.out
    · have HFK := HFIN 2 hk
      rw [hk]
      have kc := HO.out.cells.2 2 (.int .i64 (sumK 2 (pre.map (·.1)) : Int)) rfl
      have kf := HO.out.free 2
      have hxo := xor_i64 (sumK 2 (pre.map (·.1))) (sumE x.1) (sumK_lt 2 _) (sumE_lt _)
      clear HFIN hk
      gi_wp2_with fail
      refine ⟨trivial, (CallsIn.inRound l (callsIn_wide.2 (eput_any x.1 _ _ XE.out FE))).mono ?_⟩
      rintro e W1 ⟨rfl, hb⟩
      rw [HPF.out]
      have kc1 := (hb.cell (p := ⟨w.heap.size + 1 + 1, 2, none⟩) HO.out.lt).trans kc
      have kf1 := (hb.frozen (p := ⟨w.heap.size + 1 + 1, 2, none⟩) HO.out.lt).trans kf
      have HW := Kept.mk (HFK W1 hb)
      clear kc kf XE ke0 ke1 ke2 ke3 ke4 ke5 ke6 ke7 ke8 HFK hb
      have hln : (putEn x.1).length ≤ 1024 := HLN.out
      have hsm : sumE x.1 = crcN (putEn x.1) := rfl
      rw [hsm] at hxo HW
      clear hsm
      generalize putEn x.1 = q at *
      generalize sumK 2 (pre.map (·.1)) = sk at *
      gi_wp2_with fail
      gi_region_with_o (refine ⟨trivial, (CallsIn.inRound l (callsIn_wide.2 (sum_any q _ hln))).mono ?_⟩; rintro e w' ⟨rfl, rfl⟩)
      all_goals exact HW.out
    · have HFK := HFIN 3 hk
      rw [hk]
      have kc := HO.out.cells.2 3 (.int .i64 (sumK 3 (pre.map (·.1)) : Int)) rfl
      have kf := HO.out.free 3
      have hxo := xor_i64 (sumK 3 (pre.map (·.1))) (sumE x.1) (sumK_lt 3 _) (sumE_lt _)
      clear HFIN hk
      gi_wp2_with fail
      refine ⟨trivial, (CallsIn.inRound l (callsIn_wide.2 (eput_any x.1 _ _ XE.out FE))).mono ?_⟩
      rintro e W1 ⟨rfl, hb⟩
      rw [HPF.out]
      have kc1 := (hb.cell (p := ⟨w.heap.size + 1 + 1, 3, none⟩) HO.out.lt).trans kc
      have kf1 := (hb.frozen (p := ⟨w.heap.size + 1 + 1, 3, none⟩) HO.out.lt).trans kf
      have HW := Kept.mk (HFK W1 hb)
      clear kc kf XE ke0 ke1 ke2 ke3 ke4 ke5 ke6 ke7 ke8 HFK hb
      have hln : (putEn x.1).length ≤ 1024 := HLN.out
      have hsm : sumE x.1 = crcN (putEn x.1) := rfl
      rw [hsm] at hxo HW
      clear hsm
      generalize putEn x.1 = q at *
      generalize sumK 3 (pre.map (·.1)) = sk at *
      gi_wp2_with fail
      gi_region_with_o (refine ⟨trivial, (CallsIn.inRound l (callsIn_wide.2 (sum_any q _ hln))).mono ?_⟩; rintro e w' ⟨rfl, rfl⟩)
      all_goals exact HW.out
  case done =>
    rintro D ys W hD hys ⟨h1, h2, h3, h4⟩ hK
    have hys2 : ys.map (·.1) = chunkA A 0 8 := hys
    rw [hys2] at h2
    have hss : stS (chunkA A 0 8) = [.int .i64 (sumA A 0 : Int), .int .i64 (sumA A 1 : Int), .int .i64 (sumA A 2 : Int), .int .i64 (sumA A 3 : Int)] := by
      unfold stS
      rw [sum_chunk, sum_chunk, sum_chunk, sum_chunk]
    rw [hss] at h2
    have HO := Kept.mk h2
    have HR := Kept.mk h1
    have HB := Kept.mk h3
    have k0 := h2.cells.2 0 _ rfl
    have k1 := h2.cells.2 1 _ rfl
    have k2 := h2.cells.2 2 _ rfl
    have k3 := h2.cells.2 3 _ rfl
    have KO := Kept.mk (show Ones [.int .i64 (sumA A 0 : Int), .int .i64 (sumA A 1 : Int), .int .i64 (sumA A 2 : Int), .int .i64 (sumA A 3 : Int)] from ⟨rfl, rfl, rfl, rfl, trivial⟩)
    have hK3 : (setN W (w.heap.size + 1) 0 [.int .i64 (sumA A 0 : Int), .int .i64 (sumA A 1 : Int), .int .i64 (sumA A 2 : Int), .int .i64 (sumA A 3 : Int)]).heap[D]? = some (.deferred (some [])) := ((bt_setN (S := fun b => b = w.heap.size + 1) rfl _ 0 W).block D (Array.getElem?_eq_some_iff.1 hK).1 (by show ¬ D = w.heap.size + 1; omega)).trans hK
    have HK3 := Kept.mk hK3
    have HCR := Kept.mk (blk_own (B := W0.heap.size) (by simp) (HR.out.all_ (l := [.int .i64 (sumA A 0 : Int), .int .i64 (sumA A 1 : Int), .int .i64 (sumA A 2 : Int), .int .i64 (sumA A 3 : Int)]) rfl) (grownBy_putObj' _ D (.deferred none)) (fun r e => by cases e; exact ⟨hD, _, hK3, rfl⟩))
    have HBB := Kept.mk ((below_setN (B := w.heap.size) (g := w.heap.size + 1) (by omega) [.int .i64 (sumA A 0 : Int), .int .i64 (sumA A 1 : Int), .int .i64 (sumA A 2 : Int), .int .i64 (sumA A 3 : Int)] 0 _ h3).trans (belowK_b (w := w) (Nat.le_refl _) _ D _ (.deferred none) (by omega) hK3 rfl rfl))
    clear h1 h2 h3 hK3 hss hys hys2
    gi_wp2_with (have hz0 := KO; refine wpListIn_storeN (fun _ => trivial) 26 rfl (.tmp 2) (.tmp 24) rfl (w.heap.size + 1) [.int .i64 (sumA A 0 : Int), .int .i64 (sumA A 1 : Int), .int .i64 (sumA A 2 : Int), .int .i64 (sumA A 3 : Int)] size_a4 rfl rfl HR.out.cells rfl HR.out.free KO.out ?_; clear hz0 KO k0 k1 k2 k3)
    refine ⟨by simp, .inl ⟨_, _, rfl, run_takeDeferred HK3.out, ?_⟩⟩
    exact ⟨_, resultsN1 rfl _ _ (w.heap.size + 1) _ size_a4 agg_a4 rfl HCR.out.cells, rfl, HBB.out⟩
  case stop =>
    rintro D c pre W _ _ h _
    exact h.elim
end Go.Proofs.YtkjghoomdefbbaaGreatDoor
end
section
namespace Go.Proofs.YtkjghoomdefbbaaGreatDoor
open Go.RowKit
set_option linter.unusedVariables false
set_option linter.unusedSimpArgs false

theorem and_i64 (a b : Nat) (ha : a < 4294967296) (hb : b < 4294967296) : bits .and .i64 (a : Int) (b : Int) = ((a &&& b : Nat) : Int) := by
  have hx : a &&& b < 4294967296 := Nat.lt_of_le_of_lt Nat.and_le_left ha
  show IntKind.i64.wrap ((BitVec.ofInt 64 (a : Int) &&& BitVec.ofInt 64 (b : Int)).toNat : Int) = _
  rw [BitVec.toNat_and, BitVec.toNat_ofInt, BitVec.toNat_ofInt]
  rw [show ((a : Int) % ((2 ^ 64 : Nat) : Int)).toNat = a by omega, show ((b : Int) % ((2 ^ 64 : Nat) : Int)).toNat = b by omega]
  generalize a &&& b = c at *
  rw [IntKind.wrap_i64]
  omega
def askK (m : Int) (k : Nat) : Bool := maskB m && decide (m.toNat &&& 2 ^ k ≠ 0)
theorem askB_eq (m : Int) (E : En) : askB m E = askK m (bkE E) := rfl
theorem and_v {P : Program} {t : TypeId} (x y z : Int) (h : bits .and .i64 x y = z) (w : World) : (binOp .and t (.int .i64 x) (.int .i64 y)).run P w = .ok (.int .i64 z) w := by subst h; simp [go_sem]
theorem neq_v0 {P : Program} {t : TypeId} (z : Nat) (b : Bool) (h : decide (z ≠ 0) = b) (w : World) : (binOp .neq t (.int .i64 (z : Int)) (.int .i64 0)).run P w = .ok (.bool b) w := by
  subst h
  by_cases hz : z = 0
  · subst hz; simp [go_sem]
  · have : ¬ (z : Int) = 0 := by omega
    simp [go_sem, hz, this]
noncomputable def ask2Ops : Array Oper := regionOf Tryz.f39 1
set_option maxRecDepth 100000 in
set_option maxHeartbeats 2000000 in
theorem ask2_region (Q : Exit → Act → World → Prop) (a0 : Act) (w0 : World) (hsz : a0.tmps.size = 13) (k g z : Nat) (b : Bool) (m : Int) (e0 : a0.tmps.getD 0 undef = .int .i64 (k : Int)) (e1 : a0.tmps.getD 1 undef = .pointer (some ⟨g, 0, none⟩)) (hc : w0.cell? ⟨g, 0, none⟩ = some (.int .i64 m)) (hg : g < w0.heap.size) (hm : maskB m = true) (hk : k < 4) (hand : bits .and .i64 m ((2 ^ k : Nat) : Int) = (z : Int)) (hne : decide (z ≠ 0) = b)
    (hQ : ∀ (g : Nat → Value) (w : World), g 3 = .bool b → Below w0.heap.size w0 w → Q .normal { tmps := [4, 5, 6, 7, 8, 9, 10, 11, 12, 3].foldl (fun t s => t.setIfInBounds s (g s)) a0.tmps, defers := a0.defers } w) :
    (Code.region 1 ask2Ops true).wp Tryz.prog Q a0 w0 := by
  refine wp_region_flow mixed (by rw [hsz]; kernel_rfl) ?_
  rw [show ask2Ops.size = 10 by kernel_rfl]
  refine ⟨isVal (.int .i64 m), step_read 3 (.tmp 1) ⟨g, 0, none⟩ (.int .i64 m) (by kernel_rfl) (wanted_none (by kernel_rfl)) (knows_old 1 (.pointer (some ⟨g, 0, none⟩)) (by kernel_rfl) e1) (hc) (hg) (agg_noZ), ?_⟩
  refine ⟨isVal (.bool true), step_call 40 #[.tmp 4] #[3] #[.int .i64 m] (by kernel_rfl) (wanted_none (by kernel_rfl)) (stable_val _) (args1 (.tmp 4) (.int .i64 m) (knows_new (V := isVal (.int .i64 m)) 4 0 (by kernel_rfl) (by kernel_rfl) (by kernel_rfl))) (enters_of Tryz.func40 (by kernel_rfl) rfl) (by intro w' hb; exact (isMask_any m w').mono (by rintro e w2 ⟨rfl, hb2⟩; exact ⟨_, by rw [hm], rfl, hb2⟩)), ?_⟩
  refine ⟨isVal (.bool true), step_move (.tmp 5) (by kernel_rfl) (wanted_none (by kernel_rfl)) (stable_val _) (knows_new (V := isVal (.bool true)) 5 1 (by kernel_rfl) (by kernel_rfl) (by kernel_rfl)), ?_⟩
  refine ⟨isVal (.int .i64 m), step_read 3 (.tmp 1) ⟨g, 0, none⟩ (.int .i64 m) (by kernel_rfl) (wanted_some 2 6 true (by kernel_rfl) (by kernel_rfl) (by kernel_rfl) (by kernel_rfl)) (knows_old 1 (.pointer (some ⟨g, 0, none⟩)) (by kernel_rfl) e1) (hc) (hg) (agg_noZ), ?_⟩
  refine ⟨isVal (.int .i64 (k : Int)), step_move (.tmp 0) (by kernel_rfl) (wanted_some 2 6 true (by kernel_rfl) (by kernel_rfl) (by kernel_rfl) (by kernel_rfl)) (stable_val _) (knows_old 0 (.int .i64 (k : Int)) (by kernel_rfl) e0), ?_⟩
  refine ⟨isVal (.int .i64 ((2 ^ k : Nat) : Int)), step_call 41 #[.tmp 8] #[3] #[.int .i64 (k : Int)] (by kernel_rfl) (wanted_some 2 6 true (by kernel_rfl) (by kernel_rfl) (by kernel_rfl) (by kernel_rfl)) (stable_val _) (args1 (.tmp 8) (.int .i64 (k : Int)) (knows_new (V := isVal (.int .i64 (k : Int))) 8 4 (by kernel_rfl) (by kernel_rfl) (by kernel_rfl))) (enters_of Tryz.func41 (by kernel_rfl) rfl) (by intro w' hb; exact (bit_any k w' hk).mono (by rintro e w2 ⟨rfl, hb2⟩; exact ⟨_, rfl, rfl, hb2⟩)), ?_⟩
  refine ⟨isVal (.int .i64 (z : Int)), step_bin .and 3 3 (.tmp 7) (.tmp 9) (.int .i64 m) (.int .i64 ((2 ^ k : Nat) : Int)) (.int .i64 (z : Int)) (by kernel_rfl) (wanted_some 2 6 true (by kernel_rfl) (by kernel_rfl) (by kernel_rfl) (by kernel_rfl)) (knows_new (V := isVal (.int .i64 m)) 7 3 (by kernel_rfl) (by kernel_rfl) (by kernel_rfl)) (knows_new (V := isVal (.int .i64 ((2 ^ k : Nat) : Int))) 9 5 (by kernel_rfl) (by kernel_rfl) (by kernel_rfl)) (fun _ => rfl) (and_v _ _ _ hand), ?_⟩
  refine ⟨isVal (.bool b), step_bin .neq 3 3 (.tmp 10) (.const (.int .i64 0)) (.int .i64 (z : Int)) (.int .i64 0) (.bool b) (by kernel_rfl) (wanted_some 2 6 true (by kernel_rfl) (by kernel_rfl) (by kernel_rfl) (by kernel_rfl)) (knows_new (V := isVal (.int .i64 (z : Int))) 10 6 (by kernel_rfl) (by kernel_rfl) (by kernel_rfl)) (knows_const _) (fun _ => rfl) (neq_v0 _ _ hne), ?_⟩
  refine ⟨isVal (.bool b), step_pick (.tmp 6) (.tmp 11) (.const (.bool false)) true (by kernel_rfl) (wanted_none (by kernel_rfl)) (stable_val _) (knows_new (V := isVal (.bool true)) 6 2 (by kernel_rfl) (by kernel_rfl) (by kernel_rfl)) (knows_new (V := isVal (.bool b)) 11 7 (by kernel_rfl) (by kernel_rfl) (by kernel_rfl)), ?_⟩
  refine ⟨isVal (.bool b), step_assign (.tmp 12) (by kernel_rfl) (wanted_none (by kernel_rfl)) (stable_val _) (knows_new (V := isVal (.bool b)) 12 8 (by kernel_rfl) (by kernel_rfl) (by kernel_rfl)), ?_⟩
  intro a w hkp hb hd
  rw [kept_of hkp [some 4, some 5, some 6, some 7, some 8, some 9, some 10, some 11, some 12, some 3] [4, 5, 6, 7, 8, 9, 10, 11, 12, 3] (by kernel_rfl) (by decide)]
  have d3 := fdone_of (hd 9 (by rw [show ask2Ops.size = 10 by kernel_rfl]; decide)) (t := 3) (V := isVal (.bool b)) (by kernel_rfl) (by kernel_rfl)
  exact hQ (fun s => a.tmps.getD s undef) w d3 hb
noncomputable def askOps : Array Oper := regionOf Tryz.f39 1
set_option maxRecDepth 100000 in
set_option maxHeartbeats 2000000 in
theorem ask_region (Q : Exit → Act → World → Prop) (a0 : Act) (w0 : World) (hsz : a0.tmps.size = 13) (k g : Nat) (m : Int) (e0 : a0.tmps.getD 0 undef = .int .i64 (k : Int)) (e1 : a0.tmps.getD 1 undef = .pointer (some ⟨g, 0, none⟩)) (hc : w0.cell? ⟨g, 0, none⟩ = some (.int .i64 m)) (hg : g < w0.heap.size) (hm : maskB m = false)
    (hQ : ∀ (g : Nat → Value) (w : World), g 3 = .bool false → Below w0.heap.size w0 w → Q .normal { tmps := [4, 5, 6, 7, 8, 9, 10, 11, 12, 3].foldl (fun t s => t.setIfInBounds s (g s)) a0.tmps, defers := a0.defers } w) :
    (Code.region 1 askOps true).wp Tryz.prog Q a0 w0 := by
  refine wp_region_flow mixed (by rw [hsz]; kernel_rfl) ?_
  rw [show askOps.size = 10 by kernel_rfl]
  refine ⟨isVal (.int .i64 m), step_read 3 (.tmp 1) ⟨g, 0, none⟩ (.int .i64 m) (by kernel_rfl) (wanted_none (by kernel_rfl)) (knows_old 1 (.pointer (some ⟨g, 0, none⟩)) (by kernel_rfl) e1) (hc) (hg) (agg_noZ), ?_⟩
  refine ⟨isVal (.bool false), step_call 40 #[.tmp 4] #[3] #[.int .i64 m] (by kernel_rfl) (wanted_none (by kernel_rfl)) (stable_val _) (args1 (.tmp 4) (.int .i64 m) (knows_new (V := isVal (.int .i64 m)) 4 0 (by kernel_rfl) (by kernel_rfl) (by kernel_rfl))) (enters_of Tryz.func40 (by kernel_rfl) rfl) (by intro w' hb; exact (isMask_any m w').mono (by rintro e w2 ⟨rfl, hb2⟩; exact ⟨_, rfl, by rw [hm]; rfl, hb2⟩)), ?_⟩
  refine ⟨isVal (.bool false), step_move (.tmp 5) (by kernel_rfl) (wanted_none (by kernel_rfl)) (stable_val _) (knows_new (V := isVal (.bool false)) 5 1 (by kernel_rfl) (by kernel_rfl) (by kernel_rfl)), ?_⟩
  refine ⟨_, step_skip 2 6 true false (by kernel_rfl) (by kernel_rfl) (by kernel_rfl) (by kernel_rfl) rfl, ?_⟩
  refine ⟨_, step_skip 2 6 true false (by kernel_rfl) (by kernel_rfl) (by kernel_rfl) (by kernel_rfl) rfl, ?_⟩
  refine ⟨_, step_skip 2 6 true false (by kernel_rfl) (by kernel_rfl) (by kernel_rfl) (by kernel_rfl) rfl, ?_⟩
  refine ⟨_, step_skip 2 6 true false (by kernel_rfl) (by kernel_rfl) (by kernel_rfl) (by kernel_rfl) rfl, ?_⟩
  refine ⟨_, step_skip 2 6 true false (by kernel_rfl) (by kernel_rfl) (by kernel_rfl) (by kernel_rfl) rfl, ?_⟩
  refine ⟨isVal (.bool false), step_pick (.tmp 6) (.tmp 11) (.const (.bool false)) false (by kernel_rfl) (wanted_none (by kernel_rfl)) (stable_val _) (knows_new (V := isVal (.bool false)) 6 2 (by kernel_rfl) (by kernel_rfl) (by kernel_rfl)) (knows_const _), ?_⟩
  refine ⟨isVal (.bool false), step_assign (.tmp 12) (by kernel_rfl) (wanted_none (by kernel_rfl)) (stable_val _) (knows_new (V := isVal (.bool false)) 12 8 (by kernel_rfl) (by kernel_rfl) (by kernel_rfl)), ?_⟩
  intro a w hkp hb hd
  rw [kept_of hkp [some 4, some 5, some 6, some 7, some 8, some 9, some 10, some 11, some 12, some 3] [4, 5, 6, 7, 8, 9, 10, 11, 12, 3] (by kernel_rfl) (by decide)]
  have d3 := fdone_of (hd 9 (by rw [show askOps.size = 10 by kernel_rfl]; decide)) (t := 3) (V := isVal (.bool false)) (by kernel_rfl) (by kernel_rfl)
  exact hQ (fun s => a.tmps.getD s undef) w d3 hb
set_option maxRecDepth 100000 in
set_option maxHeartbeats 1000000 in
theorem asked_any (m : Int) (k g : Nat) (w : World) (hk : k < 4) (HB : Blk w g [.int .i64 m]) : Calls Tryz.prog 39 #[.int .i64 (k : Int), .pointer (some ⟨g, 0, none⟩)] w fun e w' => e = .returned (.bool (askK m k)) ∧ Below w.heap.size w w' := by
  have kc := HB.cells.2 0 _ rfl
  have hz := HB.lt
  clear HB
  have hmx : Tryz.prog.follows .mixedOrders = true := mixed
  cases hm : maskB m with
  | false =>
    have HA := Kept.mk (show askK m k = false by unfold askK; rw [hm]; rfl)
    have HM := Kept.mk hm
    clear hm
    go_enter Tryz.func39, Tryz.ntmps39
    go_wp2_with fail
    refine ask_region _ _ w rfl k g m rfl rfl kc hz HM.out ?_
    intro f9 W9 d3 hb9
    simp only [List.foldl_cons, List.foldl_nil, d3]
    generalize f9 4 = y4
    generalize f9 5 = y5
    generalize f9 6 = y6
    generalize f9 7 = y7
    generalize f9 8 = y8
    generalize f9 9 = y9
    generalize f9 10 = y10
    generalize f9 11 = y11
    generalize f9 12 = y12
    clear d3
    simp only [List.setIfInBounds_toArray, List.set_cons_succ, List.set_cons_zero]
    go_wp2
    go_ret
    exact ⟨by rw [HA.out]; rfl, hb9⟩
  | true =>
    have HM := Kept.mk hm
    have h15 : 0 ≤ m ∧ m ≤ 15 := by unfold maskB at hm; simpa using hm
    obtain ⟨M, rfl⟩ : ∃ M : Nat, m = (M : Int) := ⟨m.toNat, by omega⟩
    have hp : 2 ^ k < 4294967296 := Nat.lt_of_lt_of_le (Nat.pow_lt_pow_right (by decide) hk) (by decide)
    have hand := and_i64 M (2 ^ k) (by omega) hp
    have HA := Kept.mk (show askK (M : Int) k = decide (M &&& 2 ^ k ≠ 0) by unfold askK; rw [hm]; rfl)
    clear hm h15 hp
    obtain ⟨z, hz0⟩ : ∃ z, M &&& 2 ^ k = z := ⟨_, rfl⟩
    rw [hz0] at hand HA
    obtain ⟨b, hb⟩ : ∃ b, decide (z ≠ 0) = b := ⟨_, rfl⟩
    have HBB := Kept.mk hb
    have HAND := Kept.mk hand
    clear hz0 hb hand
    go_enter Tryz.func39, Tryz.ntmps39
    go_wp2_with fail
    refine ask2_region _ _ w rfl k g z b M rfl rfl kc hz HM.out hk HAND.out HBB.out ?_
    intro f9 W9 d3 hb9
    simp only [List.foldl_cons, List.foldl_nil, d3]
    generalize f9 4 = y4
    generalize f9 5 = y5
    generalize f9 6 = y6
    generalize f9 7 = y7
    generalize f9 8 = y8
    generalize f9 9 = y9
    generalize f9 10 = y10
    generalize f9 11 = y11
    generalize f9 12 = y12
    clear d3
    simp only [List.setIfInBounds_toArray, List.set_cons_succ, List.set_cons_zero]
    go_wp2
    go_ret
    exact ⟨by rw [HA.out, HBB.out]; rfl, hb9⟩
end Go.Proofs.YtkjghoomdefbbaaGreatDoor
end
section
namespace Go.Proofs.YtkjghoomdefbbaaGreatDoor
open Go Go.RowKit Go.Shelf
set_option linter.unusedVariables false
set_option linter.unusedSimpArgs false
attribute [local irreducible] setN
attribute [local go_sem] Oper.semAt_some

theorem run_append_ens2 {N : Nat} {v : Value} {ps : RowE} {w : World} (h : OutV N v ps w) {u : Value} {ps2 : RowE} (hu : SrcE u ps2 w) (hr2 : RowsOk ps2 w) (hoff : ∀ q ∈ ps2, ∀ b, v.ownBlock = some b → OffQ b q) (hn : ps.length + ps2.length ≤ 1000) (hN : N ≤ w.heap.size) (ty : TypeId) :
    ∃ v' w', (Builtin.append_ #[22, 22] ty #[v, u]).run Tryz.prog w = .ok v' w' ∧ OutV N v' (ps ++ ps2) w' ∧ w.grownBy w' v.ownBlock ∧ (v'.ownBlock = v.ownBlock ∨ v'.ownBlock = some w.heap.size) := by
  obtain ⟨ie, hie, hz, hsz⟩ : ∃ ie, Tryz.prog.info? 48 = some ie ∧ ie.zero = some (.agg #[.string ⟨#[]⟩, .int .i64 0, .int .i64 0, .int .i64 0, .bool false, .string ⟨#[]⟩, .slice none 0 0, .slice none 0 0, .int .u64 0]) ∧ ie.size = 9 := by
    have := Tryz.infoEn
    obtain ⟨ie, h1, h2⟩ := Option.map_eq_some_iff.1 this
    simp only [Prod.mk.injEq] at h2
    exact ⟨ie, h1, h2.1, h2.2⟩
  have hbytes : ie.bytes ≤ 100000 := by
    have : (Tryz.prog.info? 48).all (fun i => decide (i.bytes ≤ 100000)) = true := by kernel_rfl
    rw [hie] at this
    simpa using this
  rcases hu with ⟨rfl, rfl⟩ | ⟨a, c, rfl, hcell⟩
  · refine ⟨v, w, run_append_owned_none (P := Tryz.prog) (w := w) N _ ty 48 ie 9 Tryz.underlying22 hie v _ _ h.own, ?_, ⟨rfl, rfl, rfl, Nat.le_refl _, fun _ _ _ => rfl⟩, .inl rfl⟩
    rw [List.append_nil]; exact h
  · obtain ⟨v', w', hrun, how, hgr, _, hob⟩ := run_append_own_at (P := Tryz.prog) (w := w) N 22 ty 48 ie (.agg #[.string ⟨#[]⟩, .int .i64 0, .int .i64 0, .int .i64 0, .bool false, .string ⟨#[]⟩, .slice none 0 0, .slice none 0 0, .int .u64 0]) 9 ie.bytes Tryz.underlying22 hie hz hsz rfl rfl (by decide) v ps.length (flatE ps) h.own a ps2.length c (flatE ps2) (flatE_length _) hcell (ones_flat hr2) (by unfold maxLen; omega) (by have : (ps.length + ps2.length) * ie.bytes ≤ 1000 * 100000 := Nat.mul_le_mul hn hbytes; omega) hN
    refine ⟨v', w', hrun, ⟨?_, fun q hq => ?_, fun q hq b hb => ?_⟩, hgr, hob⟩
    · rw [List.length_append]
      have e : flatE (ps ++ ps2) = flatE ps ++ flatE ps2 := by unfold flatE; simp
      rw [e]; exact how
    · have key : ∀ q, isCells (q.1.val.plus.map intC) q.2.1 w ∧ isCells (q.1.val.minus.map intC) q.2.2 w → (∀ b, v.ownBlock = some b → OffQ b q) → isCells (q.1.val.plus.map intC) q.2.1 w' ∧ isCells (q.1.val.minus.map intC) q.2.2 w' := by
        intro q hc ho
        refine ⟨hgr.cells hc.1 ?_, hgr.cells hc.2 ?_⟩
        · by_cases e : q.1.val.plus.map intC = []
          · exact .inl e
          · exact .inr (fun s hs => ((ho s hs).1.resolve_left e))
        · by_cases e : q.1.val.minus.map intC = []
          · exact .inl e
          · exact .inr (fun s hs => ((ho s hs).2.resolve_left e))
      rcases List.mem_append.1 hq with hq | hq
      · exact key q (h.rows q hq) (h.off q hq)
      · exact key q (hr2 q hq) (hoff q hq)
    · rcases hob with e | e
      · rw [e] at hb
        exact (List.mem_append.1 hq).elim (fun hq => h.off q hq b hb) (fun hq => hoff q hq b hb)
      · rw [e] at hb
        injection hb with hb
        subst hb
        exact (List.mem_append.1 hq).elim (fun hq => off_old h.rows (Nat.le_refl _) q hq) (fun hq => off_old hr2 (Nat.le_refl _) q hq)
theorem wpListIn_append_ens {F : Fence} {n : Nat} (hFn : ∀ f, F.fn f) {ops : Array Oper} {rest : List Oper} {o : Oper} {a : Act} {w : World} {Q : Exit → Act → World → Prop} (hgd : o.guard = none) (s x : Operand) (ho : o.op = .call { callee := .builtin .append, args := #[s, x], argTypes := #[22, 22] })
    (N : Nat) (v : Value) (ps : RowE) (hs : a.eval s = v) (h : OutV N v ps w) (u : Value) (ps2 : RowE) (hx : a.eval x = u) (hu : SrcE u ps2 w) (hr2 : RowsOk ps2 w) (hoff : ∀ q ∈ ps2, ∀ b, v.ownBlock = some b → OffQ b q) (hn : ps.length + ps2.length ≤ 1000) (hN : N ≤ w.heap.size)
    (hr : ∀ v' w', OutV N v' (ps ++ ps2) w' → w.grownBy w' v.ownBlock → (v'.ownBlock = v.ownBlock ∨ v'.ownBlock = some w.heap.size) → wpListIn F n Tryz.prog ops Q rest (a.put o.dst v') w') : wpListIn F n Tryz.prog ops Q (o :: rest) a w := by
  refine wpListIn_plain hgd fun K hK => ?_
  obtain ⟨v', w', hrun, h1, h2, h3⟩ := run_append_ens2 h hu hr2 hoff hn hN o.type
  unfold Oper.wpIn
  refine ⟨fun f _ => hFn f, ?_⟩
  rw [Oper.semAt_eq _ _ _ (by intro c e; rw [ho] at e; cases e)]
  unfold execOp
  rw [ho]
  simp only [resolve, Sem.run_bind, Sem.run_pure, Result.andThen_ok, invoke, builtin, List.map_toArray, List.map_cons, List.map_nil, hs, hx, hrun, Oper.uponIn]
  exact hK _ _ (hr v' w' h1 h2 h3)
theorem src_oneB (X : En) (xp xm : Value) (w : World) : SrcE (.slice (some ⟨w.heap.size, 0, none⟩) 1 1) [(X, xp, xm)] (w.alloc (.cells #[.string ⟨X.key.toArray⟩, .int .i64 X.val.kind, .int .i64 X.val.time, .int .i64 X.val.node, .bool X.val.dead, .string ⟨X.val.text.toArray⟩, xp, xm, .int .u64 (X.val.flags.toNat : Int)] 48)) := by
  refine .inr ⟨⟨w.heap.size, 0, none⟩, 1, rfl, fun j x hx => ?_⟩
  rw [add_at, Nat.zero_add, World.cell?_alloc_new]
  simpa [flatE, enL] using hx
theorem in_chunk (A : Ar) (mask most : Int) : inL mask most (chunkA A 0 8) = inA A mask most := by
  unfold chunkA inA
  rw [if_neg (by decide)]
  cases hok : okA A with
  | false => simp [inL]
  | true =>
    have h := okA_iff.1 hok
    have h1 := h.fits
    have h2 := h.room
    rw [if_pos rfl, if_pos rfl, show (0 : Int).toNat = 0 from rfl, List.drop_zero, List.take_of_length_le (by show A.slots.length ≤ 8; omega)]
structure IIn (mask most : Int) (w : World) (pre : List Elb) (W : World) : Prop where
  ex : ∃ v ps, OutS (w.heap.size + 6) (w.heap.size + 1 + 1 + 1 + 1) v ps W ∧ ps.map (·.1) = inL mask most (pre.map (·.1)) ∧ ∀ b, v.ownBlock = some b → ∃ y ∈ pre, y.2.2.2.2 ≤ b
  below : Below w.heap.size w W
  size : w.heap.size + 6 ≤ W.heap.size
  bm : Blk W (w.heap.size + 1) [.int .i64 mask]
  bp : Blk W (w.heap.size + 1 + 1) [.int .i64 most]
  bf : Blk W (w.heap.size + 1 + 1 + 1) [.func (.func 39) #[] #[.pointer (some ⟨w.heap.size + 1, 0, none⟩)]]
theorem iin_own (mask most : Int) (w : World) (B : Nat) (hB : w.heap.size + 6 ≤ B) : OwnFrom B (IIn mask most w) := by
  intro s W W' row ⟨⟨v, ps, h1, h3, h4⟩, h5, h6, h7, h8, h9⟩ hg hr
  exact ⟨⟨v, ps, out_own (B := B) (by omega) h1 hg hr, h3, h4⟩, h5.grown hg (by omega) (fun k e => by have := (hr k e).1; omega), Nat.le_trans h6 hg.size, blk_own (by simp) h7 hg hr, blk_own (by simp) h8 hg hr, blk_own (by simp) h9 hg hr⟩
theorem iin_keep {mask most : Int} {w : World} {pre : List Elb} {W W' : World} (h : IIn mask most w pre W) (hb : Below W.heap.size W W') : IIn mask most w pre W' := by
  obtain ⟨⟨v, ps, h1, h3, h4⟩, h5, h6, h7, h8, h9⟩ := h
  exact ⟨⟨v, ps, h1.keep hb, h3, h4⟩, h5.trans (hb.mono (by omega)), Nat.le_trans h6 hb.size, h7.keep hb, h8.keep hb, h9.keep hb⟩
/-- Where no more is told: the list stays. -/
theorem IIn.skip {mask most : Int} {w : World} {pre : List Elb} {x : Elb} {W : World} (h : IIn mask most w pre W) (hx : inL mask most (pre.map (·.1) ++ [x.1]) = inL mask most (pre.map (·.1))) : IIn mask most w (pre ++ [x]) W := by
  obtain ⟨⟨v, ps, h1, h3, h4⟩, h5, h6, h7, h8, h9⟩ := h
  exact ⟨⟨v, ps, h1, by rw [List.map_append]; exact h3.trans hx.symm, fun b hb => by obtain ⟨y, hy, hl⟩ := h4 b hb; exact ⟨y, List.mem_append_left _ hy, hl⟩⟩, h5, h6, h7, h8, h9⟩
def IxIn (mask most : Int) (w : World) (c : Code) (pre : List Elb) (W : World) : Prop := c = .exit 0 ∧ IIn mask most w pre W ∧ most ≤ ((inL mask most (pre.map (·.1))).length : Int)
structure AxIn (A : Ar) (mask most : Int) (vs vi : Value) (w : World) (x : Elb) (a' : Act) (W : World) (h : Nat) : Prop where
  act : a' = { tmps := #[.agg #[.int .i64 A.cap, vs, vi], .int .i64 mask, .int .i64 most, .pointer (some ⟨w.heap.size, 0, none⟩), .pointer (some ⟨w.heap.size + 1, 0, none⟩), .pointer (some ⟨w.heap.size + 1 + 1, 0, none⟩), .slice none 0 0, .pointer (some ⟨w.heap.size + 1 + 1 + 1, 0, none⟩), .pointer (some ⟨w.heap.size + 1 + 1 + 1 + 1, 0, none⟩), .int .i64 (bkE x.1 : Int), .pointer (some ⟨h, 0, none⟩), .func (.func 39) #[] #[.pointer (some ⟨w.heap.size + 1, 0, none⟩)], .agg #[.int .i64 A.cap, vs, vi], .func (.func 70) #[] #[.pointer (some ⟨w.heap.size + 1 + 1 + 1 + 1 + 1, 0, none⟩)], .int .i64 (bkE x.1 : Int), .agg #[.string ⟨x.1.key.toArray⟩, .int .i64 x.1.val.kind, .int .i64 x.1.val.time, .int .i64 x.1.val.node, .bool x.1.val.dead, .string ⟨x.1.val.text.toArray⟩, x.2.1, x.2.2.1, .int .u64 (x.1.val.flags.toNat : Int)], undef, undef, undef, undef, undef, undef, undef, undef, undef, undef, undef, undef], defers := [] }
  box : Blk W h [.string ⟨x.1.key.toArray⟩, .int .i64 x.1.val.kind, .int .i64 x.1.val.time, .int .i64 x.1.val.node, .bool x.1.val.dead, .string ⟨x.1.val.text.toArray⟩, x.2.1, x.2.2.1, .int .u64 (x.1.val.flags.toNat : Int)]
  rp : isCells (x.1.val.plus.map intC) x.2.1 W
  rm : isCells (x.1.val.minus.map intC) x.2.2.1 W
  up : x.1.val.plus.map intC = [] ∨ ∀ b, blk x.2.1 = some b → b < x.2.2.2.2
  um : x.1.val.minus.map intC = [] ∨ ∀ b, blk x.2.2.1 = some b → b < x.2.2.2.2
  np : NewB x.2.2.2.1 x.2.1
  nm : NewB x.2.2.2.1 x.2.2.1
  lo : w.heap.size + 6 ≤ x.2.2.2.1
  hi : x.2.2.2.2 ≤ W.heap.size
  row : ∀ u, W.cell? ⟨(w.heap.size + 1 + 1 + 1 + 1), 0, none⟩ = some u → ∀ b, u.ownBlock = some b → x.2.2.2.2 ≤ b
theorem axin_own (A : Ar) (mask most : Int) (vs vi : Value) (w : World) (x : Elb) (a' : Act) (B : Nat) (hB : w.heap.size + 6 ≤ B) : OwnFrom B (fun (_ : Unit) W => ∃ h, AxIn A mask most vs vi w x a' W h ∧ (w.heap.size + 1 + 1 + 1 + 1) < W.heap.size) := by
  rintro _ W W' row ⟨h, ⟨e, hb, hp, hm, h1, h2, n1, n2, h3, h4, h5⟩, h6⟩ hg hr
  exact ⟨h, ⟨e, blk_own (by simp) hb hg hr, cells_own hp hg hr, cells_own hm hg hr, h1, h2, n1, n2, h3, Nat.le_trans h4 hg.size, fun u hc => h5 u (by rw [← hc]; exact (World.cell?_of_block (a := ⟨(w.heap.size + 1 + 1 + 1 + 1), 0, none⟩) (iall_b1 (b := (w.heap.size + 1 + 1 + 1 + 1)) hg hr hb ⟨by omega, h6⟩)).symm)⟩, Nat.lt_of_lt_of_le h6 hg.size⟩
set_option maxRecDepth 100000 in
set_option maxHeartbeats 4000000 in
theorem in_any (A : Ar) (mask most : Int) (v : Value) (w : World) (hv : isAr A v w) (hF : FitA A) : Calls Tryz.prog 15 #[v, .int .i64 mask, .int .i64 most] w fun e W' => ∃ v', e = .returned v' ∧ isEns (inA A mask most) v' W' ∧ Below w.heap.size w W' := by
  obtain ⟨vs, vi, rfl, hs, hi⟩ := hv
  refine (callsIn_wide (n := 5)).1 ?_
  refine callsIn_of_wp_marks Tryz.func15 rfl trivial ?_ rfl
  simp only [Tryz.ntmps15, List.size_toArray, List.length_cons, List.length_nil, Nat.reduceAdd, Nat.reduceSub, Array.replicate_succ, Array.replicate_zero, List.push_toArray, List.append_toArray, List.nil_append, List.cons_append]
  gi_wp2_with (refine ⟨trivial, (callsIn_wide.2 (by_any A _ _ vs vi rfl)).mono ?_⟩; rintro e w' ⟨rfl, rfl⟩)
  have hB0 : Below w.heap.size w ((((((w.alloc (.cells #[.int .i64 A.cap, vs, vi] 25)).alloc (.cells #[.int .i64 mask] 3)).alloc (.cells #[.int .i64 most] 3)).alloc (.cells #[.func (.func 39) #[] #[.pointer (some ⟨w.heap.size + 1, 0, none⟩)]] 66)).alloc (.cells #[.slice none 0 0] 22)).alloc (.cells #[.int .i64 A.cap, vs, vi] 25)) := ((((((Below.refl _ w).alloc (Nat.le_refl _) _).alloc (by simp) _).alloc (by simp; omega) _).alloc (by simp; omega) _).alloc (by simp; omega) _).alloc (by simp; omega) _
  have hBx : Blk ((((((w.alloc (.cells #[.int .i64 A.cap, vs, vi] 25)).alloc (.cells #[.int .i64 mask] 3)).alloc (.cells #[.int .i64 most] 3)).alloc (.cells #[.func (.func 39) #[] #[.pointer (some ⟨w.heap.size + 1, 0, none⟩)]] 66)).alloc (.cells #[.slice none 0 0] 22)).alloc (.cells #[.int .i64 A.cap, vs, vi] 25)) (w.heap.size + 1 + 1 + 1 + 1 + 1) [.int .i64 A.cap, vs, vi] := (Blk.new (((((w.alloc (.cells #[.int .i64 A.cap, vs, vi] 25)).alloc (.cells #[.int .i64 mask] 3)).alloc (.cells #[.int .i64 most] 3)).alloc (.cells #[.func (.func 39) #[] #[.pointer (some ⟨w.heap.size + 1, 0, none⟩)]] 66)).alloc (.cells #[.slice none 0 0] 22)) 25 [.int .i64 A.cap, vs, vi] (w.heap.size + 1 + 1 + 1 + 1 + 1) (by simp))
  have hI0 : IIn mask most w [] ((((((w.alloc (.cells #[.int .i64 A.cap, vs, vi] 25)).alloc (.cells #[.int .i64 mask] 3)).alloc (.cells #[.int .i64 most] 3)).alloc (.cells #[.func (.func 39) #[] #[.pointer (some ⟨w.heap.size + 1, 0, none⟩)]] 66)).alloc (.cells #[.slice none 0 0] 22)).alloc (.cells #[.int .i64 A.cap, vs, vi] 25)) := ⟨⟨.slice none 0 0, [], ⟨((Blk.new ((((w.alloc (.cells #[.int .i64 A.cap, vs, vi] 25)).alloc (.cells #[.int .i64 mask] 3)).alloc (.cells #[.int .i64 most] 3)).alloc (.cells #[.func (.func 39) #[] #[.pointer (some ⟨w.heap.size + 1, 0, none⟩)]] 66)) 22 [.slice none 0 0] (w.heap.size + 1 + 1 + 1 + 1) (by simp)).alloc _), World.ownsRow_nil _ _ _ _, (fun q hq => by cases hq), (fun q hq => by cases hq), (fun q hq => by cases hq)⟩, by rw [List.map_nil, List.map_nil, inL_nil], fun b hb => by cases hb⟩, hB0, by simp, (((((Blk.new (w.alloc (.cells #[.int .i64 A.cap, vs, vi] 25)) 3 [.int .i64 mask] (w.heap.size + 1) (by simp)).alloc _).alloc _).alloc _).alloc _), ((((Blk.new ((w.alloc (.cells #[.int .i64 A.cap, vs, vi] 25)).alloc (.cells #[.int .i64 mask] 3)) 3 [.int .i64 most] (w.heap.size + 1 + 1) (by simp)).alloc _).alloc _).alloc _), (((Blk.new (((w.alloc (.cells #[.int .i64 A.cap, vs, vi] 25)).alloc (.cells #[.int .i64 mask] 3)).alloc (.cells #[.int .i64 most] 3)) 66 [.func (.func 39) #[] #[.pointer (some ⟨w.heap.size + 1, 0, none⟩)]] (w.heap.size + 1 + 1 + 1) (by simp)).alloc _).alloc _)⟩
  have hsz : ((((((w.alloc (.cells #[.int .i64 A.cap, vs, vi] 25)).alloc (.cells #[.int .i64 mask] 3)).alloc (.cells #[.int .i64 most] 3)).alloc (.cells #[.func (.func 39) #[] #[.pointer (some ⟨w.heap.size + 1, 0, none⟩)]] 66)).alloc (.cells #[.slice none 0 0] 22)).alloc (.cells #[.int .i64 A.cap, vs, vi] 25)).heap.size = w.heap.size + 6 := by simp
  have hs0 := stable_ens _ _ _ _ hs hB0
  have hi0 := stable_cells _ _ _ _ hi hB0
  have hseq := by1_in 4 (by omega) (w.heap.size + 1 + 1 + 1 + 1 + 1) A vs vi ((((((w.alloc (.cells #[.int .i64 A.cap, vs, vi] 25)).alloc (.cells #[.int .i64 mask] 3)).alloc (.cells #[.int .i64 most] 3)).alloc (.cells #[.func (.func 39) #[] #[.pointer (some ⟨w.heap.size + 1, 0, none⟩)]] 66)).alloc (.cells #[.slice none 0 0] 22)).alloc (.cells #[.int .i64 A.cap, vs, vi] 25)) hBx hs0 hi0 hF
  have HLO := Kept.mk (show ∀ e ∈ chunkA A 0 8, okE e = true from fun e he => chunk_ok he)
  try simp only [World.size_alloc] at hseq
  try simp only [World.size_alloc]
  generalize ((((((w.alloc (.cells #[.int .i64 A.cap, vs, vi] 25)).alloc (.cells #[.int .i64 mask] 3)).alloc (.cells #[.int .i64 most] 3)).alloc (.cells #[.func (.func 39) #[] #[.pointer (some ⟨w.heap.size + 1, 0, none⟩)]] 66)).alloc (.cells #[.slice none 0 0] 22)).alloc (.cells #[.int .i64 A.cap, vs, vi] 25)) = W0 at *
  refine range_made rfl (by decide) (gf := 70) (lb := #[.pointer (some ⟨w.heap.size + 1 + 1 + 1 + 1 + 1, 0, none⟩)]) rfl trivial (enters_of Tryz.func70 (by kernel_rfl) rfl)
    hseq kpB_t (fun x W l o o' h1 h2 h3 h4 => kpB_put x W l o o' h1 h2 h3 h4) (Below.refl _ _) (fun _ => rfl)
    (IIn mask most w) (IxIn mask most w) (iin_own mask most w _ (by omega)) (fun c s W W' row hs hg hr => ⟨hs.1, iin_own mask most w _ (by omega) s W W' row hs.2.1 hg hr, hs.2.2⟩) hI0 (fun x a' W => ∃ h, AxIn A mask most vs vi w x a' W h ∧ (w.heap.size + 1 + 1 + 1 + 1) < W.heap.size) (fun x a' => axin_own A mask most vs vi w x a' _ (by omega)) ?assign ?body ?done ?stop
  case assign =>
    intro l pre x W K hIp hpx hK
    obtain ⟨K1, K2, K3, K4, K5⟩ := enew W x.1 x.2.1 x.2.2.1 hpx.rp hpx.rm W.heap.size rfl
    have HH := Kept.mk ((Blk.new W 48 [.string ⟨#[]⟩, .int .i64 0, .int .i64 0, .int .i64 0, .bool false, .string ⟨#[]⟩, .slice none 0 0, .slice none 0 0, .int .u64 0] W.heap.size rfl).all_ (l := [.string ⟨x.1.key.toArray⟩, .int .i64 x.1.val.kind, .int .i64 x.1.val.time, .int .i64 x.1.val.node, .bool x.1.val.dead, .string ⟨x.1.val.text.toArray⟩, x.2.1, x.2.2.1, .int .u64 (x.1.val.flags.toNat : Int)]) rfl)
    obtain ⟨⟨v0, ps0, hOS0, hpm0, hvo0⟩, hb0, hN0, _, _, _⟩ := id hIp
    have hO0 := hOS0.st
    have hun : ∀ u, (setN (W.alloc (.cells #[.string ⟨#[]⟩, .int .i64 0, .int .i64 0, .int .i64 0, .bool false, .string ⟨#[]⟩, .slice none 0 0, .slice none 0 0, .int .u64 0] 48)) W.heap.size 0 [.string ⟨x.1.key.toArray⟩, .int .i64 x.1.val.kind, .int .i64 x.1.val.time, .int .i64 x.1.val.node, .bool x.1.val.dead, .string ⟨x.1.val.text.toArray⟩, x.2.1, x.2.2.1, .int .u64 (x.1.val.flags.toNat : Int)]).cell? ⟨(w.heap.size + 1 + 1 + 1 + 1), 0, none⟩ = some u → ∀ b, u.ownBlock = some b → x.2.2.2.2 ≤ b := fun u hc b hb => by
      have h1 := (K3.out.cell (p := ⟨(w.heap.size + 1 + 1 + 1 + 1), 0, none⟩) hO0.lt).symm.trans hc
      rw [hO0.cells.2 0 _ rfl] at h1
      injection h1 with h1
      subst h1
      obtain ⟨y, hy, hle⟩ := hvo0 b hb
      have := hpx.one y hy
      rw [this] at hle
      exact hle
    have hK2 := hK _ _ (keeps_below K3.out) (kpB_below K3.out) (iin_keep hIp K3.out) ⟨W.heap.size, ⟨rfl, HH.out, stable_cells _ _ _ _ hpx.rp K3.out, stable_cells _ _ _ _ hpx.rm K3.out, hpx.up, hpx.um, hpx.np, hpx.nm, by have := hpx.lo; omega, Nat.le_trans hpx.hi K3.out.size, hun⟩, Nat.lt_of_lt_of_le hO0.lt K3.out.size⟩
    have HK := Kept.mk hK2
    clear hK2 hK hpx hun hO0 hOS0 hpm0 hvo0
    simp only [encBk]
    gi_wp2_with (have hz0 := K1; refine wpListIn_storeN (fun _ => trivial) 48 rfl (.tmp 10) (.tmp 15) rfl W.heap.size [.string ⟨x.1.key.toArray⟩, .int .i64 x.1.val.kind, .int .i64 x.1.val.time, .int .i64 x.1.val.node, .bool x.1.val.dead, .string ⟨x.1.val.text.toArray⟩, x.2.1, x.2.2.1, .int .u64 (x.1.val.flags.toNat : Int)] size_en rfl rfl K1.out rfl K2.out K5.out ?_; clear hz0 K1 K2 K5)
    exact HK.out
  case body =>
    rintro l pre x a' W hl hIp ⟨h, ⟨rfl, hbl, hp, hm, hup, hum, hnp, hnm, hlo, hhi, hrow⟩, h4lt⟩ hlt
    have HI := Kept.mk hIp
    obtain ⟨⟨v, ps, hOS, hpm, hvo⟩, hb0, hN0, hbm, hbp, hbf⟩ := hIp
    have hO := hOS.st
    have hOV : OutV (w.heap.size + 6) v ps W := ⟨hOS.own, hOS.rows, hOS.off⟩
    have HNW := Kept.mk hOS.nw
    have HVO := Kept.mk hvo
    clear hOS hvo
    have kv := hO.cells.2 0 _ rfl
    have kp := hbp.cells.2 0 _ rfl
    have kf := hbf.cells.2 0 _ rfl
    have HOW := Kept.mk (hrow v kv)
    obtain ⟨va, vc, rfl⟩ := hOV.len
    have hpl : ps.length ≤ 999 := by
      have h1 := congrArg List.length hpm
      rw [List.length_map] at h1
      rw [h1]
      unfold inL
      rw [List.length_take]
      have h2 := List.length_filter_le (askB mask) (pre.map (·.1))
      rw [List.length_map] at h2
      omega
    have HPM := Kept.mk hpm
    have HPL := Kept.mk (show (ps.length : Int) = ((inL mask most (pre.map (·.1))).length : Int) by rw [← hpm, List.length_map])
    have HO := Kept.mk hO
    have HOV := Kept.mk hOV
    have HBM := Kept.mk hbm
    have hk4 : bkE x.1 < 4 := bucketN_lt _ _
    have ke0 := hbl.cells.2 0 _ rfl
    have ke1 := hbl.cells.2 1 _ rfl
    have ke2 := hbl.cells.2 2 _ rfl
    have ke3 := hbl.cells.2 3 _ rfl
    have ke4 := hbl.cells.2 4 _ rfl
    have ke5 := hbl.cells.2 5 _ rfl
    have ke6 := hbl.cells.2 6 _ rfl
    have ke7 := hbl.cells.2 7 _ rfl
    have ke8 := hbl.cells.2 8 _ rfl
    have HBL := Kept.mk hbl
    have HRR := Kept.mk (And.intro hp hm)
    have HUU := Kept.mk (And.intro hup hum)
    have HNN := Kept.mk (And.intro hnp hnm)
    clear hO hOV hpm hbm hbp hbf hrow hbl hp hm hup hum hnp hnm
    generalize hn : ps.length = n at *
    have HNL := Kept.mk hn
    clear hn
    by_cases hge : most ≤ (n : Int)
    · have hpost : KeepsFrom W0.heap.size W W ∧ IxIn mask most w (.exit 0) (pre ++ [x]) W := by
        have hx : inL mask most (pre.map (·.1) ++ [x.1]) = inL mask most (pre.map (·.1)) := inL_full _ _ _ _ (by rw [← HPL.out]; exact hge)
        refine ⟨⟨Nat.le_refl _, fun k o _ hk _ => hk⟩, rfl, HI.out.skip hx, ?_⟩
        rw [List.map_append]
        show most ≤ ((inL mask most (pre.map (·.1) ++ [x.1])).length : Int)
        rw [hx, ← HPL.out]; exact hge
      have HPO := Kept.mk hpost
      clear hpost
      gi_wp2
      exact HPO.out
    · have hge2 : ¬ most ≤ (n : Int) := hge
      gi_wp2_with fail
      refine ⟨trivial, (CallsIn.inRound l (callsIn_wide.2 (asked_any mask (bkE x.1) (w.heap.size + 1) W hk4 HBM.out))).mono ?_⟩
      rintro e W1 ⟨rfl, hb⟩
      cases hz : askK mask (bkE x.1) with
      | false =>
        have hx : inL mask most (pre.map (·.1) ++ [x.1]) = inL mask most (pre.map (·.1)) := by
          rw [inL_snoc]
          unfold inStep
          rw [if_neg (by rintro ⟨_, h⟩; rw [askB_eq, hz] at h; cases h)]
        have hpost : KeepsFrom W0.heap.size W W1 ∧ KpB x W W1 ∧ IIn mask most w (pre ++ [x]) W1 := ⟨keeps_below hb, kpB_below hb, iin_keep (HI.out.skip hx) hb⟩
        have HPO := Kept.mk hpost
        clear hpost
        gi_wp2
        exact HPO.out
      | true =>
        have hx : inL mask most (pre.map (·.1) ++ [x.1]) = inL mask most (pre.map (·.1)) ++ [x.1] := by
          rw [inL_snoc]
          unfold inStep
          rw [if_pos ⟨by rw [← HPL.out]; omega, by rw [askB_eq, hz]⟩]
        have HX := Kept.mk hx
        have HB := Kept.mk hb
        have kv1 := (hb.cell (p := ⟨(w.heap.size + 1 + 1 + 1 + 1), 0, none⟩) HO.out.lt).trans kv
        have kq0 := (hb.cell (p := ⟨h, 0, none⟩) HBL.out.lt).trans ke0
        have kq1 := (hb.cell (p := ⟨h, 1, none⟩) HBL.out.lt).trans ke1
        have kq2 := (hb.cell (p := ⟨h, 2, none⟩) HBL.out.lt).trans ke2
        have kq3 := (hb.cell (p := ⟨h, 3, none⟩) HBL.out.lt).trans ke3
        have kq4 := (hb.cell (p := ⟨h, 4, none⟩) HBL.out.lt).trans ke4
        have kq5 := (hb.cell (p := ⟨h, 5, none⟩) HBL.out.lt).trans ke5
        have kq6 := (hb.cell (p := ⟨h, 6, none⟩) HBL.out.lt).trans ke6
        have kq7 := (hb.cell (p := ⟨h, 7, none⟩) HBL.out.lt).trans ke7
        have kq8 := (hb.cell (p := ⟨h, 8, none⟩) HBL.out.lt).trans ke8
        have hlit := lit_below W1 (.cells #[.string ⟨x.1.key.toArray⟩, .int .i64 x.1.val.kind, .int .i64 x.1.val.time, .int .i64 x.1.val.node, .bool x.1.val.dead, .string ⟨x.1.val.text.toArray⟩, x.2.1, x.2.2.1, .int .u64 (x.1.val.flags.toNat : Int)] 48)
        have SRC := Kept.mk (src_oneB x.1 x.2.1 x.2.2.1 W1)
        have OV1 := Kept.mk ((HOV.out.keep hb).keep hlit)
        have ROW := Kept.mk (show RowsOk [(x.1, x.2.1, x.2.2.1)] (W1.alloc (.cells #[.string ⟨x.1.key.toArray⟩, .int .i64 x.1.val.kind, .int .i64 x.1.val.time, .int .i64 x.1.val.node, .bool x.1.val.dead, .string ⟨x.1.val.text.toArray⟩, x.2.1, x.2.2.1, .int .u64 (x.1.val.flags.toNat : Int)] 48)) from fun q hq => by rw [List.mem_singleton] at hq; subst hq; exact ⟨stable_cells _ _ _ _ (stable_cells _ _ _ _ HRR.out.1 hb) hlit, stable_cells _ _ _ _ (stable_cells _ _ _ _ HRR.out.2 hb) hlit⟩)
        have HOF := Kept.mk (show ∀ q ∈ [(x.1, x.2.1, x.2.2.1)], ∀ b, (Value.slice va n vc).ownBlock = some b → OffQ b q from fun q hq b hbo => by
          rw [List.mem_singleton] at hq
          subst hq
          have h1 := HOW.out b hbo
          exact ⟨HUU.out.1.imp id (fun h2 e => by have := h2 b e; omega), HUU.out.2.imp id (fun h2 e => by have := h2 b e; omega)⟩)
        have HPK := Kept.mk (show ps.length + [(x.1, x.2.1, x.2.2.1)].length ≤ 1000 by rw [HNL.out]; show n + 1 ≤ 1000; omega)
        have BZ := Kept.mk (show w.heap.size + 6 ≤ (W1.alloc (.cells #[.string ⟨x.1.key.toArray⟩, .int .i64 x.1.val.kind, .int .i64 x.1.val.time, .int .i64 x.1.val.node, .bool x.1.val.dead, .string ⟨x.1.val.text.toArray⟩, x.2.1, x.2.2.1, .int .u64 (x.1.val.flags.toNat : Int)] 48)).heap.size by have h1 := hb.size; have h2 := hlit.size; omega)
        have HFIN := Kept.mk (show ∀ v2 W2, OutV (w.heap.size + 6) v2 (ps ++ [(x.1, x.2.1, x.2.2.1)]) W2 → (W1.alloc (.cells #[.string ⟨x.1.key.toArray⟩, .int .i64 x.1.val.kind, .int .i64 x.1.val.time, .int .i64 x.1.val.node, .bool x.1.val.dead, .string ⟨x.1.val.text.toArray⟩, x.2.1, x.2.2.1, .int .u64 (x.1.val.flags.toNat : Int)] 48)).grownBy W2 (Value.slice va n vc).ownBlock → (v2.ownBlock = (Value.slice va n vc).ownBlock ∨ v2.ownBlock = some (W1.alloc (.cells #[.string ⟨x.1.key.toArray⟩, .int .i64 x.1.val.kind, .int .i64 x.1.val.time, .int .i64 x.1.val.node, .bool x.1.val.dead, .string ⟨x.1.val.text.toArray⟩, x.2.1, x.2.2.1, .int .u64 (x.1.val.flags.toNat : Int)] 48)).heap.size) →
            Blk W2 (w.heap.size + 1 + 1 + 1 + 1) [.slice va n vc] ∧ KeepsFrom W0.heap.size W (W2.setCell ⟨(w.heap.size + 1 + 1 + 1 + 1), 0, none⟩ v2) ∧ KpB x W (W2.setCell ⟨(w.heap.size + 1 + 1 + 1 + 1), 0, none⟩ v2) ∧ IIn mask most w (pre ++ [x]) (W2.setCell ⟨(w.heap.size + 1 + 1 + 1 + 1), 0, none⟩ v2) by
          intro v2 W2 ho2 hg2 hob2
          have bt2 : Bt (fun b => (Value.slice va n vc).ownBlock = some b) W W2 := ((Bt.grow hb).trans (Bt.grow hlit)).trans (gb_bt hg2 (fun b e => e))
          have hown6 : ∀ b, (Value.slice va n vc).ownBlock = some b → w.heap.size + 6 ≤ b := fun b e => (HOV.out.own.lt b e).1
          have hB2 : Blk W2 (w.heap.size + 1 + 1 + 1 + 1) [.slice va n vc] := bt2.blk HO.out (fun e => by have := hown6 _ e; omega)
          have bt3 := bt_set (S := fun b => b = (w.heap.size + 1 + 1 + 1 + 1)) (w.heap.size + 1 + 1 + 1 + 1) 0 v2 W2 rfl
          have bt4 : Bt (fun b => b = (w.heap.size + 1 + 1 + 1 + 1) ∨ (Value.slice va n vc).ownBlock = some b) W (W2.setCell ⟨(w.heap.size + 1 + 1 + 1 + 1), 0, none⟩ v2) := (bt2.weak (fun b e => .inr e)).trans (bt3.weak (fun b e => .inl e))
          have hlt6 : W0.heap.size = w.heap.size + 6 := hsz
          refine ⟨hB2, ⟨bt4.size, fun k o hBk hk ho => (bt4.block k (Array.getElem?_eq_some_iff.1 hk).1 ?_).trans hk⟩, kpB_blk bt4.size (fun b g1 g2 g3 => bt4.block b g3 ?_), ⟨⟨v2, _, ⟨?_, ?_, ?_, ho2.off, ?_⟩, ?_, ?_⟩, ?_, ?_, ?_, ?_, ?_⟩⟩
          · rintro (e | e)
            · omega
            · obtain ⟨_, ⟨e2, _⟩ | ⟨g, cap, cur, e2, _, hg', _⟩⟩ := HOV.out.own
              · rw [e2] at e; cases e
              · rw [e2] at e
                injection e with e
                have : g = k := e
                subst this
                rw [hg'] at hk
                injection hk with hk
                subst hk
                cases ho
          · rintro (e | e)
            · omega
            · have := HOW.out b e; omega
          · exact hB2.set 0 v2 (Nat.zero_lt_one)
          · exact bt3.own ho2.own (fun b hb2 e => by have := (ho2.own.lt b hb2).1; omega)
          · intro q hq
            have nn : NewB (w.heap.size + 6) q.2.1 ∧ NewB (w.heap.size + 6) q.2.2 := by
              rcases List.mem_append.1 hq with hq | hq
              · exact HNW.out q hq
              · rw [List.mem_singleton] at hq; subst hq
                exact ⟨HNN.out.1.low hlo, HNN.out.2.low hlo⟩
            exact ⟨bt3.cells (ho2.rows q hq).1 (.inr (fun b e1 e2 => by have := nn.1 b e1; omega)), bt3.cells (ho2.rows q hq).2 (.inr (fun b e1 e2 => by have := nn.2 b e1; omega))⟩
          · intro q hq
            rcases List.mem_append.1 hq with hq | hq
            · exact HNW.out q hq
            · rw [List.mem_singleton] at hq; subst hq
              exact ⟨HNN.out.1.low hlo, HNN.out.2.low hlo⟩
          · rw [List.map_append, List.map_append, HPM.out]
            exact HX.out.symm
          · intro b hb2
            rcases hob2 with e | e
            · rw [e] at hb2
              obtain ⟨y, hy, hl2⟩ := HVO.out b hb2
              exact ⟨y, List.mem_append_left _ hy, hl2⟩
            · rw [e] at hb2
              injection hb2 with hb2
              exact ⟨x, List.mem_append_right _ (List.mem_singleton.2 rfl), by have h1 := hb.size; have h2 := hlit.size; omega⟩
          · exact hb0.trans (bt4.below (fun b e => by rcases e with e | e; (· omega); (· have := hown6 b e; omega)) (by omega))
          · exact Nat.le_trans hN0 bt4.size
          · exact bt4.blk HI.out.bm (fun e => by rcases e with e | e; (· omega); (· have := hown6 _ e; omega))
          · exact bt4.blk HI.out.bp (fun e => by rcases e with e | e; (· omega); (· have := hown6 _ e; omega))
          · exact bt4.blk HI.out.bf (fun e => by rcases e with e | e; (· omega); (· have := hown6 _ e; omega)))
        clear hb hlit
        gi_wp2_with (have hz0 := SRC; refine wpListIn_append_ens (fun _ => trivial) rfl (.tmp 23) (.tmp 25) rfl (w.heap.size + 6) (.slice va n vc) ps rfl OV1.out _ [(x.1, x.2.1, x.2.2.1)] rfl SRC.out ROW.out HOF.out HPK.out BZ.out ?_; clear hz0 SRC; intro v2 W2 ho2 hg2 hob2; have HF := Kept.mk (HFIN.out v2 W2 ho2 hg2 hob2); obtain ⟨va2, vc2, e2⟩ := ho2.len; rw [List.length_append, HNL.out] at e2; subst e2; have kz := HF.out.1.cells.2 0 _ rfl; have kzf := HF.out.1.free 0; clear ho2 hg2 hob2 kv1 kv)
        exact HF.out.2
  case done =>
    rintro D ys W hD hys hIp hK
    have hl : inL mask most (ys.map (·.1)) = inA A mask most := by
      have hys2 : ys.map (·.1) = chunkA A 0 8 := hys
      rw [hys2]; exact in_chunk A mask most
    obtain ⟨⟨v, ps, hOS, hpm, hvo⟩, hb0, hN0, hbm, hbp, hbf⟩ := hIp
    have kv := hOS.st.cells.2 0 _ rfl
    have hen := Kept.mk (show isEns (inA A mask most) v (W.putObj D (.deferred none)) by
      have h2 := (out_own (B := W0.heap.size) (by omega) hOS (grownBy_putObj' W D (.deferred none)) (fun r e => by cases e; exact ⟨hD, _, hK, rfl⟩)).ens
      rw [hpm, hl] at h2
      exact h2)
    have hbl := Kept.mk (hb0.trans (belowK_b (w := w) (Nat.le_refl _) W D _ (.deferred none) (by omega) hK rfl rfl))
    clear hl hpm hvo hbm hbp hbf
    gi_wp2
    refine ⟨by simp, .inl ⟨_, _, rfl, run_takeDeferred hK, ?_⟩⟩
    exact ⟨_, results_tmp rfl _ _ _, v, rfl, hen.out, hbl.out⟩
  case stop =>
    rintro D c pre W hD hsp ⟨rfl, hIp, hle⟩ hK
    have hl : inL mask most (pre.map (·.1)) = inA A mask most := by
      obtain ⟨k, hk⟩ := hsp
      rw [← in_chunk A mask most, ← List.take_append_drop k (chunkA A 0 8), ← hk]
      exact (inL_full _ _ _ _ hle).symm
    obtain ⟨⟨v, ps, hOS, hpm, hvo⟩, hb0, hN0, hbm, hbp, hbf⟩ := hIp
    have kv := hOS.st.cells.2 0 _ rfl
    have hen := Kept.mk (show isEns (inA A mask most) v (W.putObj D (.deferred none)) by
      have h2 := (out_own (B := W0.heap.size) (by omega) hOS (grownBy_putObj' W D (.deferred none)) (fun r e => by cases e; exact ⟨hD, _, hK, rfl⟩)).ens
      rw [hpm, hl] at h2
      exact h2)
    have hbl := Kept.mk (hb0.trans (belowK_b (w := w) (Nat.le_refl _) W D _ (.deferred none) (by omega) hK rfl rfl))
    clear hl hpm hvo hbm hbp hbf
    gi_wp2
    refine ⟨by simp, .inl ⟨_, _, rfl, run_takeDeferred hK, ?_⟩⟩
    exact ⟨_, results_tmp rfl _ _ _, v, rfl, hen.out, hbl.out⟩
end Go.Proofs.YtkjghoomdefbbaaGreatDoor
end
section
namespace Go.Proofs.YtkjghoomdefbbaaGreatDoor
open Go.RowKit
set_option linter.unusedVariables false
set_option linter.unusedSimpArgs false

theorem eql_i4 {P : Program} (t e : TypeId) (x0 x1 x2 x3 y0 y1 y2 y3 : Int) (b : Bool) (hu : P.underlying t = some (.array 4 e)) (he : P.underlying e = some (.int .i64)) (hi : (P.info? e).map (·.size) = some 1)
    (hb : (x0 == y0 && x1 == y1 && x2 == y2 && x3 == y3) = b) (w : World) :
    (binOp .eql t (.agg #[.int .i64 x0, .int .i64 x1, .int .i64 x2, .int .i64 x3]) (.agg #[.int .i64 y0, .int .i64 y1, .int .i64 y2, .int .i64 y3])).run P w = .ok (.bool b) w := by
  obtain ⟨ie, hie, hz⟩ := Option.map_eq_some_iff.1 hi
  have hc : P.cellsOf e = 1 := by simp [Program.cellsOf, hie, hz]
  rw [run_eql_struct, show (10000 : Nat) = 9999 + 1 from rfl, run_equalIn_array w 9999 _ _ hu hie, hc]
  have hsz : ∀ w, (sizeOf e).run P w = .ok 1 w := fun w => by simp [sizeOf, typeInfo, hie, hz]
  rw [show List.range 4 = [0, 1, 2, 3] from rfl, ← hb]
  have hp : ∀ (xs : Array Value) (off : Nat) (v : Value) (w : World), xs[off]? = some v → (part e xs off).run P w = .ok v w := fun xs off v w hx => by simp [part, isAgg, run_underlying he, hx]
  have heq : ∀ (x y : Int) (w : World), (Op.equalIn 9999 e (.int .i64 x) (.int .i64 y)).run P w = .ok (x == y) w := fun x y w => run_equalIn_int w 9998 e .i64 .i64 x y he
  simp only [Op.eqItems, Sem.run_bind, Nat.zero_mul, Nat.mul_one]
  rw [hp _ 0 (.int .i64 x0) w rfl]
  simp only [Result.andThen_ok]
  rw [hp _ 0 (.int .i64 y0) w rfl]
  simp only [Result.andThen_ok]
  rw [heq x0 y0]
  cases h0 : x0 == y0 with
  | false => simp
  | true =>
    simp only [Result.andThen_ok, Bool.not_true, Bool.false_eq_true, if_false, Sem.run_pure, Sem.run_bind]
    rw [hp _ 1 (.int .i64 x1) w rfl]
    simp only [Result.andThen_ok]
    rw [hp _ 1 (.int .i64 y1) w rfl]
    simp only [Result.andThen_ok]
    rw [heq x1 y1]
    cases h1 : x1 == y1 with
    | false => simp
    | true =>
      simp only [Result.andThen_ok, Bool.not_true, Bool.false_eq_true, if_false, Sem.run_pure, Sem.run_bind]
      rw [hp _ 2 (.int .i64 x2) w rfl]
      simp only [Result.andThen_ok]
      rw [hp _ 2 (.int .i64 y2) w rfl]
      simp only [Result.andThen_ok]
      rw [heq x2 y2]
      cases h2 : x2 == y2 with
      | false => simp
      | true =>
        simp only [Result.andThen_ok, Bool.not_true, Bool.false_eq_true, if_false, Sem.run_pure, Sem.run_bind]
        rw [hp _ 3 (.int .i64 x3) w rfl]
        simp only [Result.andThen_ok]
        rw [hp _ 3 (.int .i64 y3) w rfl]
        simp only [Result.andThen_ok]
        rw [heq x3 y3]
        cases h3 : x3 == y3 with
        | false => simp
        | true => simp
theorem neq_i4 {P : Program} (t e : TypeId) (x0 x1 x2 x3 y0 y1 y2 y3 : Int) (b : Bool) (hu : P.underlying t = some (.array 4 e)) (he : P.underlying e = some (.int .i64)) (hi : (P.info? e).map (·.size) = some 1)
    (hb : (x0 == y0 && x1 == y1 && x2 == y2 && x3 == y3) = b) (w : World) :
    (binOp .neq t (.agg #[.int .i64 x0, .int .i64 x1, .int .i64 x2, .int .i64 x3]) (.agg #[.int .i64 y0, .int .i64 y1, .int .i64 y2, .int .i64 y3])).run P w = .ok (.bool (!b)) w := by
  obtain ⟨ie, hie, hz⟩ := Option.map_eq_some_iff.1 hi
  have hc : P.cellsOf e = 1 := by simp [Program.cellsOf, hie, hz]
  rw [run_neq_struct, show (10000 : Nat) = 9999 + 1 from rfl, run_equalIn_array w 9999 _ _ hu hie, hc]
  have hsz : ∀ w, (sizeOf e).run P w = .ok 1 w := fun w => by simp [sizeOf, typeInfo, hie, hz]
  rw [show List.range 4 = [0, 1, 2, 3] from rfl, ← hb]
  have hp : ∀ (xs : Array Value) (off : Nat) (v : Value) (w : World), xs[off]? = some v → (part e xs off).run P w = .ok v w := fun xs off v w hx => by simp [part, isAgg, run_underlying he, hx]
  have heq : ∀ (x y : Int) (w : World), (Op.equalIn 9999 e (.int .i64 x) (.int .i64 y)).run P w = .ok (x == y) w := fun x y w => run_equalIn_int w 9998 e .i64 .i64 x y he
  simp only [Op.eqItems, Sem.run_bind, Nat.zero_mul, Nat.mul_one]
  rw [hp _ 0 (.int .i64 x0) w rfl]
  simp only [Result.andThen_ok]
  rw [hp _ 0 (.int .i64 y0) w rfl]
  simp only [Result.andThen_ok]
  rw [heq x0 y0]
  cases h0 : x0 == y0 with
  | false => simp
  | true =>
    simp only [Result.andThen_ok, Bool.not_true, Bool.false_eq_true, if_false, Sem.run_pure, Sem.run_bind]
    rw [hp _ 1 (.int .i64 x1) w rfl]
    simp only [Result.andThen_ok]
    rw [hp _ 1 (.int .i64 y1) w rfl]
    simp only [Result.andThen_ok]
    rw [heq x1 y1]
    cases h1 : x1 == y1 with
    | false => simp
    | true =>
      simp only [Result.andThen_ok, Bool.not_true, Bool.false_eq_true, if_false, Sem.run_pure, Sem.run_bind]
      rw [hp _ 2 (.int .i64 x2) w rfl]
      simp only [Result.andThen_ok]
      rw [hp _ 2 (.int .i64 y2) w rfl]
      simp only [Result.andThen_ok]
      rw [heq x2 y2]
      cases h2 : x2 == y2 with
      | false => simp
      | true =>
        simp only [Result.andThen_ok, Bool.not_true, Bool.false_eq_true, if_false, Sem.run_pure, Sem.run_bind]
        rw [hp _ 3 (.int .i64 x3) w rfl]
        simp only [Result.andThen_ok]
        rw [hp _ 3 (.int .i64 y3) w rfl]
        simp only [Result.andThen_ok]
        rw [heq x3 y3]
        cases h3 : x3 == y3 with
        | false => simp
        | true => simp

attribute [local irreducible] setN
def d1 (x y : Int) (p : Nat) : Nat := if x = y then 0 else p
/-- The mask behind k rounds. -/
def dmk (a b c d e f g h : Int) : Nat → Nat
  | 0 => 0
  | 1 => d1 a e 1
  | 2 => d1 a e 1 + d1 b f 2
  | 3 => d1 a e 1 + d1 b f 2 + d1 c g 4
  | _ => d1 a e 1 + d1 b f 2 + d1 c g 4 + d1 d h 8
theorem d1_le (x y : Int) (p : Nat) : d1 x y p ≤ p := by unfold d1; split <;> omega
theorem dmk_lt (a b c d e f g h : Int) (k : Nat) (hk : k < 4) : dmk a b c d e f g h k < 2 ^ k := by
  have h0 := d1_le a e 1
  have h1 := d1_le b f 2
  have h2 := d1_le c g 4
  have h4 : k = 0 ∨ k = 1 ∨ k = 2 ∨ k = 3 := by omega
  rcases h4 with rfl | rfl | rfl | rfl <;> simp only [dmk] <;> omega
theorem or_bit (m k : Nat) (hk : k < 4) (hm : m < 2 ^ k) : bits .or .i64 (m : Int) ((2 ^ k : Nat) : Int) = ((m + 2 ^ k : Nat) : Int) := by
  have h4 : k = 0 ∨ k = 1 ∨ k = 2 ∨ k = 3 := by omega
  rcases h4 with rfl | rfl | rfl | rfl
  · obtain rfl : m = 0 := by omega
    rfl
  · have : m = 0 ∨ m = 1 := by omega
    rcases this with rfl | rfl <;> rfl
  · have : m = 0 ∨ m = 1 ∨ m = 2 ∨ m = 3 := by omega
    rcases this with rfl | rfl | rfl | rfl <;> rfl
  · have : m = 0 ∨ m = 1 ∨ m = 2 ∨ m = 3 ∨ m = 4 ∨ m = 5 ∨ m = 6 ∨ m = 7 := by omega
    rcases this with rfl | rfl | rfl | rfl | rfl | rfl | rfl | rfl <;> rfl
set_option maxRecDepth 100000 in
set_option maxHeartbeats 4000000 in
theorem differ_any (a b c d e f g h : Int) (w : World) : Calls Tryz.prog 19 #[.agg #[.int .i64 a, .int .i64 b, .int .i64 c, .int .i64 d], .agg #[.int .i64 e, .int .i64 f, .int .i64 g, .int .i64 h]] w fun E w' => E = .returned (.int .i64 (dmk a b c d e f g h 4 : Int)) ∧ Below w.heap.size w w' := by
  have C := Lib.hid (show Below w.heap.size w ((w.alloc (.cells #[.int .i64 a, .int .i64 b, .int .i64 c, .int .i64 d] 26)).alloc (.cells #[.int .i64 e, .int .i64 f, .int .i64 g, .int .i64 h] 26)) from ((Below.refl _ w).alloc (Nat.le_refl _) _).alloc (by simp) _)
  have BA := Lib.hid ((Blk.new w 26 [.int .i64 a, .int .i64 b, .int .i64 c, .int .i64 d] w.heap.size rfl).alloc (.cells #[.int .i64 e, .int .i64 f, .int .i64 g, .int .i64 h] 26))
  have BB := Lib.hid (Blk.new (w.alloc (.cells #[.int .i64 a, .int .i64 b, .int .i64 c, .int .i64 d] 26)) 26 [.int .i64 e, .int .i64 f, .int .i64 g, .int .i64 h] (w.heap.size + 1) (by simp))
  go_enter Tryz.func19, Tryz.ntmps19
  go_wp2
  generalize ((w.alloc (.cells #[.int .i64 a, .int .i64 b, .int .i64 c, .int .i64 d] 26)).alloc (.cells #[.int .i64 e, .int .i64 f, .int .i64 g, .int .i64 h] 26)) = W0 at *
  go_loopw [5, 8] (fun s i wr => ∃ k : Nat, k ≤ 4 ∧ i = .int .i64 (k : Int) ∧ s = .int .i64 (dmk a b c d e f g h k : Int) ∧ Hid (Blk wr w.heap.size [.int .i64 a, .int .i64 b, .int .i64 c, .int .i64 d]) ∧ Hid (Blk wr (w.heap.size + 1) [.int .i64 e, .int .i64 f, .int .i64 g, .int .i64 h]) ∧ Hid (Below w.heap.size w wr)) (fun _ i _ => 4 - (intOf i).toNat)
  case atStart => exact ⟨0, by omega, rfl, rfl, BA, BB, C⟩
  case round =>
    clear C BA BB
    obtain ⟨k, hk, rfl, rfl, BA, BB, C⟩ := hrel
    by_cases hlt : k < 4
    · have h4 : k = 0 ∨ k = 1 ∨ k = 2 ∨ k = 3 := by omega
      rcases h4 with rfl | rfl | rfl | rfl
      · skip
        have hm : dmk a b c d e f g h 0 < 2 ^ 0 := dmk_lt a b c d e f g h 0 (by decide)
        have HM := Lib.hid (show dmk a b c d e f g h 1 = dmk a b c d e f g h 0 + d1 a e 1 from (Nat.zero_add _).symm)
        generalize dmk a b c d e f g h 0 = m at *
        have K2 := Lib.hid (Blk.new wr 26 [.int .i64 a, .int .i64 b, .int .i64 c, .int .i64 d] wr.heap.size rfl)
        have hsz := C.out.size
        have hbw : Below wr.heap.size wr (wr.alloc (.cells #[.int .i64 a, .int .i64 b, .int .i64 c, .int .i64 d] 26)) := (Below.refl _ _).alloc (Nat.le_refl _) _
        have BA1 := Lib.hid (BA.out.keep hbw)
        have BB1 := Lib.hid (BB.out.keep hbw)
        have la := BA.out.lt
        have lb := BB.out.lt
        have hb3 : Below wr.heap.size wr (wr.alloc (.cells #[.int .i64 e, .int .i64 b, .int .i64 c, .int .i64 d] 26)) := (Below.refl _ _).alloc (Nat.le_refl _) _
        have K3 := Lib.hid (Blk.new wr 26 [.int .i64 e, .int .i64 b, .int .i64 c, .int .i64 d] wr.heap.size rfl)
        have A3 := Lib.hid (BA.out.keep hb3)
        have B3 := Lib.hid (BB.out.keep hb3)
        have C3 := Lib.hid (C.out.trans (hb3.mono hsz))
        have ka0 := BA.out.cells.2 0 _ rfl
        have ka1 := BA.out.cells.2 1 _ rfl
        have ka2 := BA.out.cells.2 2 _ rfl
        have ka3 := BA.out.cells.2 3 _ rfl
        have kb := BB1.out.cells.2 0 _ rfl
        have kf := K2.out.free 0
        have kx := K2.out.cells.2 0 _ rfl
        have r0 := K3.out.cells.2 0 _ rfl
        have r1 := K3.out.cells.2 1 _ rfl
        have r2 := K3.out.cells.2 2 _ rfl
        have r3 := K3.out.cells.2 3 _ rfl
        have s0 := A3.out.cells.2 0 _ rfl
        have s1 := A3.out.cells.2 1 _ rfl
        have s2 := A3.out.cells.2 2 _ rfl
        have s3 := A3.out.cells.2 3 _ rfl
        clear hbw hb3 la lb hsz
        by_cases hk : a = e
        · have HK := Lib.hid hk
          clear hk
          have hne : ∀ W, (binOp .neq 26 (.agg #[.int .i64 e, .int .i64 b, .int .i64 c, .int .i64 d]) (.agg #[.int .i64 a, .int .i64 b, .int .i64 c, .int .i64 d])).run Tryz.prog W = .ok (.bool false) W := fun W => neq_i4 26 3 e b c d a b c d true Tryz.underlying26 Tryz.underlying3 (by kernel_rfl) (by have h2 := HK.out; simp [h2]) W
          go_wp2
          go_roundw
          case rel => exact ⟨1, by omega, rfl, by rw [HM.out]; unfold d1; rw [if_pos HK.out] <;> rfl, A3, B3, C3⟩
          case measure => simp [intOf]
        · have HK := Lib.hid hk
          clear hk
          have hne : ∀ W, (binOp .neq 26 (.agg #[.int .i64 e, .int .i64 b, .int .i64 c, .int .i64 d]) (.agg #[.int .i64 a, .int .i64 b, .int .i64 c, .int .i64 d])).run Tryz.prog W = .ok (.bool true) W := fun W => neq_i4 26 3 e b c d a b c d false Tryz.underlying26 Tryz.underlying3 (by kernel_rfl) (by have h2 : ¬ e = a := fun h => HK.out h.symm; simp [h2]) W
          have hor : bits .or .i64 (m : Int) 1 = ((m + 1 : Nat) : Int) := or_bit m 0 (by decide) hm
          go_wp2_with fail
          generalize (wr.alloc (.cells #[.int .i64 e, .int .i64 b, .int .i64 c, .int .i64 d] 26)) = W3 at *
          refine (show Calls Tryz.prog 41 #[.int .i64 0] _ (fun e w' => e = .returned (.int .i64 1) ∧ Below _ _ w') from bit_any 0 W3 (by decide)).mono ?_
          rintro e' w' ⟨rfl, hb⟩
          have A4 := Lib.hid (A3.out.keep hb)
          have B4 := Lib.hid (B3.out.keep hb)
          have C4 := Lib.hid (C3.out.trans (hb.mono C3.out.size))
          clear hb
          go_wp2
          go_roundw
          case rel => exact ⟨1, by omega, rfl, by rw [HM.out]; unfold d1; rw [if_neg HK.out] <;> rfl, A4, B4, C4⟩
          case measure => simp [intOf]
      · skip
        have hm : dmk a b c d e f g h 1 < 2 ^ 1 := dmk_lt a b c d e f g h 1 (by decide)
        have HM := Lib.hid (show dmk a b c d e f g h 2 = dmk a b c d e f g h 1 + d1 b f 2 from rfl)
        generalize dmk a b c d e f g h 1 = m at *
        have K2 := Lib.hid (Blk.new wr 26 [.int .i64 a, .int .i64 b, .int .i64 c, .int .i64 d] wr.heap.size rfl)
        have hsz := C.out.size
        have hbw : Below wr.heap.size wr (wr.alloc (.cells #[.int .i64 a, .int .i64 b, .int .i64 c, .int .i64 d] 26)) := (Below.refl _ _).alloc (Nat.le_refl _) _
        have BA1 := Lib.hid (BA.out.keep hbw)
        have BB1 := Lib.hid (BB.out.keep hbw)
        have la := BA.out.lt
        have lb := BB.out.lt
        have hb3 : Below wr.heap.size wr (wr.alloc (.cells #[.int .i64 a, .int .i64 f, .int .i64 c, .int .i64 d] 26)) := (Below.refl _ _).alloc (Nat.le_refl _) _
        have K3 := Lib.hid (Blk.new wr 26 [.int .i64 a, .int .i64 f, .int .i64 c, .int .i64 d] wr.heap.size rfl)
        have A3 := Lib.hid (BA.out.keep hb3)
        have B3 := Lib.hid (BB.out.keep hb3)
        have C3 := Lib.hid (C.out.trans (hb3.mono hsz))
        have ka0 := BA.out.cells.2 0 _ rfl
        have ka1 := BA.out.cells.2 1 _ rfl
        have ka2 := BA.out.cells.2 2 _ rfl
        have ka3 := BA.out.cells.2 3 _ rfl
        have kb := BB1.out.cells.2 1 _ rfl
        have kf := K2.out.free 1
        have kx := K2.out.cells.2 1 _ rfl
        have r0 := K3.out.cells.2 0 _ rfl
        have r1 := K3.out.cells.2 1 _ rfl
        have r2 := K3.out.cells.2 2 _ rfl
        have r3 := K3.out.cells.2 3 _ rfl
        have s0 := A3.out.cells.2 0 _ rfl
        have s1 := A3.out.cells.2 1 _ rfl
        have s2 := A3.out.cells.2 2 _ rfl
        have s3 := A3.out.cells.2 3 _ rfl
        clear hbw hb3 la lb hsz
        by_cases hk : b = f
        · have HK := Lib.hid hk
          clear hk
          have hne : ∀ W, (binOp .neq 26 (.agg #[.int .i64 a, .int .i64 f, .int .i64 c, .int .i64 d]) (.agg #[.int .i64 a, .int .i64 b, .int .i64 c, .int .i64 d])).run Tryz.prog W = .ok (.bool false) W := fun W => neq_i4 26 3 a f c d a b c d true Tryz.underlying26 Tryz.underlying3 (by kernel_rfl) (by have h2 := HK.out; simp [h2]) W
          go_wp2
          go_roundw
          case rel => exact ⟨2, by omega, rfl, by rw [HM.out]; unfold d1; rw [if_pos HK.out] <;> rfl, A3, B3, C3⟩
          case measure => simp [intOf]
        · have HK := Lib.hid hk
          clear hk
          have hne : ∀ W, (binOp .neq 26 (.agg #[.int .i64 a, .int .i64 f, .int .i64 c, .int .i64 d]) (.agg #[.int .i64 a, .int .i64 b, .int .i64 c, .int .i64 d])).run Tryz.prog W = .ok (.bool true) W := fun W => neq_i4 26 3 a f c d a b c d false Tryz.underlying26 Tryz.underlying3 (by kernel_rfl) (by have h2 : ¬ f = b := fun h => HK.out h.symm; simp [h2]) W
          have hor : bits .or .i64 (m : Int) 2 = ((m + 2 : Nat) : Int) := or_bit m 1 (by decide) hm
          go_wp2_with fail
          generalize (wr.alloc (.cells #[.int .i64 a, .int .i64 f, .int .i64 c, .int .i64 d] 26)) = W3 at *
          refine (show Calls Tryz.prog 41 #[.int .i64 1] _ (fun e w' => e = .returned (.int .i64 2) ∧ Below _ _ w') from bit_any 1 W3 (by decide)).mono ?_
          rintro e' w' ⟨rfl, hb⟩
          have A4 := Lib.hid (A3.out.keep hb)
          have B4 := Lib.hid (B3.out.keep hb)
          have C4 := Lib.hid (C3.out.trans (hb.mono C3.out.size))
          clear hb
          go_wp2
          go_roundw
          case rel => exact ⟨2, by omega, rfl, by rw [HM.out]; unfold d1; rw [if_neg HK.out] <;> rfl, A4, B4, C4⟩
          case measure => simp [intOf]
      · skip
        have hm : dmk a b c d e f g h 2 < 2 ^ 2 := dmk_lt a b c d e f g h 2 (by decide)
        have HM := Lib.hid (show dmk a b c d e f g h 3 = dmk a b c d e f g h 2 + d1 c g 4 from rfl)
        generalize dmk a b c d e f g h 2 = m at *
        have K2 := Lib.hid (Blk.new wr 26 [.int .i64 a, .int .i64 b, .int .i64 c, .int .i64 d] wr.heap.size rfl)
        have hsz := C.out.size
        have hbw : Below wr.heap.size wr (wr.alloc (.cells #[.int .i64 a, .int .i64 b, .int .i64 c, .int .i64 d] 26)) := (Below.refl _ _).alloc (Nat.le_refl _) _
        have BA1 := Lib.hid (BA.out.keep hbw)
        have BB1 := Lib.hid (BB.out.keep hbw)
        have la := BA.out.lt
        have lb := BB.out.lt
        have hb3 : Below wr.heap.size wr (wr.alloc (.cells #[.int .i64 a, .int .i64 b, .int .i64 g, .int .i64 d] 26)) := (Below.refl _ _).alloc (Nat.le_refl _) _
        have K3 := Lib.hid (Blk.new wr 26 [.int .i64 a, .int .i64 b, .int .i64 g, .int .i64 d] wr.heap.size rfl)
        have A3 := Lib.hid (BA.out.keep hb3)
        have B3 := Lib.hid (BB.out.keep hb3)
        have C3 := Lib.hid (C.out.trans (hb3.mono hsz))
        have ka0 := BA.out.cells.2 0 _ rfl
        have ka1 := BA.out.cells.2 1 _ rfl
        have ka2 := BA.out.cells.2 2 _ rfl
        have ka3 := BA.out.cells.2 3 _ rfl
        have kb := BB1.out.cells.2 2 _ rfl
        have kf := K2.out.free 2
        have kx := K2.out.cells.2 2 _ rfl
        have r0 := K3.out.cells.2 0 _ rfl
        have r1 := K3.out.cells.2 1 _ rfl
        have r2 := K3.out.cells.2 2 _ rfl
        have r3 := K3.out.cells.2 3 _ rfl
        have s0 := A3.out.cells.2 0 _ rfl
        have s1 := A3.out.cells.2 1 _ rfl
        have s2 := A3.out.cells.2 2 _ rfl
        have s3 := A3.out.cells.2 3 _ rfl
        clear hbw hb3 la lb hsz
        by_cases hk : c = g
        · have HK := Lib.hid hk
          clear hk
          have hne : ∀ W, (binOp .neq 26 (.agg #[.int .i64 a, .int .i64 b, .int .i64 g, .int .i64 d]) (.agg #[.int .i64 a, .int .i64 b, .int .i64 c, .int .i64 d])).run Tryz.prog W = .ok (.bool false) W := fun W => neq_i4 26 3 a b g d a b c d true Tryz.underlying26 Tryz.underlying3 (by kernel_rfl) (by have h2 := HK.out; simp [h2]) W
          go_wp2
          go_roundw
          case rel => exact ⟨3, by omega, rfl, by rw [HM.out]; unfold d1; rw [if_pos HK.out] <;> rfl, A3, B3, C3⟩
          case measure => simp [intOf]
        · have HK := Lib.hid hk
          clear hk
          have hne : ∀ W, (binOp .neq 26 (.agg #[.int .i64 a, .int .i64 b, .int .i64 g, .int .i64 d]) (.agg #[.int .i64 a, .int .i64 b, .int .i64 c, .int .i64 d])).run Tryz.prog W = .ok (.bool true) W := fun W => neq_i4 26 3 a b g d a b c d false Tryz.underlying26 Tryz.underlying3 (by kernel_rfl) (by have h2 : ¬ g = c := fun h => HK.out h.symm; simp [h2]) W
          have hor : bits .or .i64 (m : Int) 4 = ((m + 4 : Nat) : Int) := or_bit m 2 (by decide) hm
          go_wp2_with fail
          generalize (wr.alloc (.cells #[.int .i64 a, .int .i64 b, .int .i64 g, .int .i64 d] 26)) = W3 at *
          refine (show Calls Tryz.prog 41 #[.int .i64 2] _ (fun e w' => e = .returned (.int .i64 4) ∧ Below _ _ w') from bit_any 2 W3 (by decide)).mono ?_
          rintro e' w' ⟨rfl, hb⟩
          have A4 := Lib.hid (A3.out.keep hb)
          have B4 := Lib.hid (B3.out.keep hb)
          have C4 := Lib.hid (C3.out.trans (hb.mono C3.out.size))
          clear hb
          go_wp2
          go_roundw
          case rel => exact ⟨3, by omega, rfl, by rw [HM.out]; unfold d1; rw [if_neg HK.out] <;> rfl, A4, B4, C4⟩
          case measure => simp [intOf]
      · skip
        have hm : dmk a b c d e f g h 3 < 2 ^ 3 := dmk_lt a b c d e f g h 3 (by decide)
        have HM := Lib.hid (show dmk a b c d e f g h 4 = dmk a b c d e f g h 3 + d1 d h 8 from rfl)
        generalize dmk a b c d e f g h 3 = m at *
        have K2 := Lib.hid (Blk.new wr 26 [.int .i64 a, .int .i64 b, .int .i64 c, .int .i64 d] wr.heap.size rfl)
        have hsz := C.out.size
        have hbw : Below wr.heap.size wr (wr.alloc (.cells #[.int .i64 a, .int .i64 b, .int .i64 c, .int .i64 d] 26)) := (Below.refl _ _).alloc (Nat.le_refl _) _
        have BA1 := Lib.hid (BA.out.keep hbw)
        have BB1 := Lib.hid (BB.out.keep hbw)
        have la := BA.out.lt
        have lb := BB.out.lt
        have hb3 : Below wr.heap.size wr (wr.alloc (.cells #[.int .i64 a, .int .i64 b, .int .i64 c, .int .i64 h] 26)) := (Below.refl _ _).alloc (Nat.le_refl _) _
        have K3 := Lib.hid (Blk.new wr 26 [.int .i64 a, .int .i64 b, .int .i64 c, .int .i64 h] wr.heap.size rfl)
        have A3 := Lib.hid (BA.out.keep hb3)
        have B3 := Lib.hid (BB.out.keep hb3)
        have C3 := Lib.hid (C.out.trans (hb3.mono hsz))
        have ka0 := BA.out.cells.2 0 _ rfl
        have ka1 := BA.out.cells.2 1 _ rfl
        have ka2 := BA.out.cells.2 2 _ rfl
        have ka3 := BA.out.cells.2 3 _ rfl
        have kb := BB1.out.cells.2 3 _ rfl
        have kf := K2.out.free 3
        have kx := K2.out.cells.2 3 _ rfl
        have r0 := K3.out.cells.2 0 _ rfl
        have r1 := K3.out.cells.2 1 _ rfl
        have r2 := K3.out.cells.2 2 _ rfl
        have r3 := K3.out.cells.2 3 _ rfl
        have s0 := A3.out.cells.2 0 _ rfl
        have s1 := A3.out.cells.2 1 _ rfl
        have s2 := A3.out.cells.2 2 _ rfl
        have s3 := A3.out.cells.2 3 _ rfl
        clear hbw hb3 la lb hsz
        by_cases hk : d = h
        · have HK := Lib.hid hk
          clear hk
          have hne : ∀ W, (binOp .neq 26 (.agg #[.int .i64 a, .int .i64 b, .int .i64 c, .int .i64 h]) (.agg #[.int .i64 a, .int .i64 b, .int .i64 c, .int .i64 d])).run Tryz.prog W = .ok (.bool false) W := fun W => neq_i4 26 3 a b c h a b c d true Tryz.underlying26 Tryz.underlying3 (by kernel_rfl) (by have h2 := HK.out; simp [h2]) W
          go_wp2
          go_roundw
          case rel => exact ⟨4, by omega, rfl, by rw [HM.out]; unfold d1; rw [if_pos HK.out] <;> rfl, A3, B3, C3⟩
          case measure => simp [intOf]
        · have HK := Lib.hid hk
          clear hk
          have hne : ∀ W, (binOp .neq 26 (.agg #[.int .i64 a, .int .i64 b, .int .i64 c, .int .i64 h]) (.agg #[.int .i64 a, .int .i64 b, .int .i64 c, .int .i64 d])).run Tryz.prog W = .ok (.bool true) W := fun W => neq_i4 26 3 a b c h a b c d false Tryz.underlying26 Tryz.underlying3 (by kernel_rfl) (by have h2 : ¬ h = d := fun h => HK.out h.symm; simp [h2]) W
          have hor : bits .or .i64 (m : Int) 8 = ((m + 8 : Nat) : Int) := or_bit m 3 (by decide) hm
          go_wp2_with fail
          generalize (wr.alloc (.cells #[.int .i64 a, .int .i64 b, .int .i64 c, .int .i64 h] 26)) = W3 at *
          refine (show Calls Tryz.prog 41 #[.int .i64 3] _ (fun e w' => e = .returned (.int .i64 8) ∧ Below _ _ w') from bit_any 3 W3 (by decide)).mono ?_
          rintro e' w' ⟨rfl, hb⟩
          have A4 := Lib.hid (A3.out.keep hb)
          have B4 := Lib.hid (B3.out.keep hb)
          have C4 := Lib.hid (C3.out.trans (hb.mono C3.out.size))
          clear hb
          go_wp2
          go_roundw
          case rel => exact ⟨4, by omega, rfl, by rw [HM.out]; unfold d1; rw [if_neg HK.out] <;> rfl, A4, B4, C4⟩
          case measure => simp [intOf]
    · have hk4 : k = 4 := by omega
      subst hk4
      go_wp2
      go_ret
      exact ⟨rfl, C.out⟩
end Go.Proofs.YtkjghoomdefbbaaGreatDoor
end
section
namespace Go.Proofs.YtkjghoomdefbbaaGreatDoor
open Go.RowKit
set_option linter.unusedVariables false
set_option linter.unusedSimpArgs false
attribute [local irreducible] setN

def eK : En := ⟨[107], ⟨3, 0, 0, false, [], [], [], 1⟩⟩
theorem fit_eK : FitE eK := ⟨by decide, ⟨by decide, by decide, by decide⟩⟩
def aZ2 : Ar := ⟨2, [], []⟩
def aK1 : Ar := ⟨2, [eK], [0]⟩
theorem fit_aZ2 : FitA aZ2 := ⟨by decide, by decide, fun e he => by simp [aZ2] at he⟩
theorem fit_aK1 : FitA aK1 := ⟨by decide, by decide, fun e he => by
  simp only [aK1, List.mem_cons, List.not_mem_nil, or_false] at he
  subst he; exact fit_eK⟩
theorem w_dnew (w : World) : Calls Tryz.prog 33 #[.int .i64 2] w fun e w' => ∃ v', e = .returned (.tuple #[v', .int .i64 0]) ∧ isAr aZ2 v' w' ∧ Below w.heap.size w w' := anew_any 2 w
theorem w_djoin (v u : Value) (w : World) (hv : isAr aZ2 v w) (hu : isEn eK u w) : Calls Tryz.prog 29 #[v, u] w fun e w' => ∃ v', e = .returned (.tuple #[v', .bool true, .int .i64 0]) ∧ isAr aK1 v' w' ∧ Below w.heap.size w w' := by
  have h := ajoin_any aZ2 eK v u w hv hu fit_aZ2 fit_eK
  rwa [show joinAF aZ2 eK = aK1 by kernel_rfl, show joinAB aZ2 eK = true by kernel_rfl, show joinAE aZ2 eK = 0 by kernel_rfl] at h
theorem w_dput (u : Value) (w : World) (hu : isEn eK u w) : Calls Tryz.prog 31 #[u] w fun e w' => e = .returned (.tuple #[txt (putEn eK), .int .i64 0]) ∧ Below w.heap.size w w' := by
  have h := eput_any eK u w hu fit_eK
  rwa [show putF eK = putEn eK by kernel_rfl, show chkE eK = 0 by kernel_rfl] at h
theorem w_bucket (w : World) : Calls Tryz.prog 17 #[.int .i64 3, .string ⟨#[107]⟩] w fun e w' => e = .returned (.int .i64 0) ∧ Below w.heap.size w w' := by
  have h := bucket_any 3 [107] w (by decide)
  rwa [show bucketN 3 [107] = 0 by kernel_rfl] at h
theorem w_sumsA (v : Value) (w : World) (hv : isAr aZ2 v w) : Calls Tryz.prog 18 #[v] w fun e w' => e = .returned (.agg #[.int .i64 0, .int .i64 0, .int .i64 0, .int .i64 0]) ∧ Below w.heap.size w w' := by
  have h := sums_any aZ2 v w hv fit_aZ2
  rwa [show sumsV aZ2 = .agg #[.int .i64 0, .int .i64 0, .int .i64 0, .int .i64 0] by kernel_rfl] at h
theorem w_sumsK (v : Value) (w : World) (hv : isAr aK1 v w) : Calls Tryz.prog 18 #[v] w fun e w' => e = .returned (.agg #[.int .i64 3264677171, .int .i64 0, .int .i64 0, .int .i64 0]) ∧ Below w.heap.size w w' := by
  have h := sums_any aK1 v w hv fit_aK1
  rwa [show sumsV aK1 = .agg #[.int .i64 3264677171, .int .i64 0, .int .i64 0, .int .i64 0] by kernel_rfl] at h
theorem w_differ (w : World) : Calls Tryz.prog 19 #[.agg #[.int .i64 3264677171, .int .i64 0, .int .i64 0, .int .i64 0], .agg #[.int .i64 0, .int .i64 0, .int .i64 0, .int .i64 0]] w fun e w' => e = .returned (.int .i64 1) ∧ Below w.heap.size w w' := by
  have h := differ_any 3264677171 0 0 0 0 0 0 0 w
  rwa [show dmk 3264677171 0 0 0 0 0 0 0 4 = 1 by kernel_rfl] at h
theorem w_crc (w : World) : Calls Tryz.prog 32 #[txt (putEn eK)] w fun e w' => e = .returned (.int .i64 3264677171) ∧ Below w.heap.size w w' := by
  have h := sum_any (putEn eK) w (by rw [length_putEn (by decide)]; decide)
  refine h.mono ?_
  rintro e w' ⟨rfl, rfl⟩
  exact ⟨by rw [show crcN (putEn eK) = 3264677171 by kernel_rfl]; rfl, Below.refl _ _⟩
theorem w_in (mask most : Int) (n : Nat) (v : Value) (w : World) (hv : isAr aK1 v w) (hn : (inA aK1 mask most).length = n) : Calls Tryz.prog 15 #[v, .int .i64 mask, .int .i64 most] w fun e w' => ∃ a c, e = .returned (.slice a n c) ∧ Below w.heap.size w w' := by
  refine (in_any aK1 mask most v w hv fit_aK1).mono ?_
  rintro e w' ⟨v', rfl, hv', hb⟩
  obtain ⟨a, c, e⟩ := hv'.len
  exact ⟨a, c, by rw [e, hn], hb⟩
def t16 : List UInt8 := putQ [1, 2, 3, 4]
theorem t16_len : t16.length = 16 := by kernel_rfl
theorem w_put4 (w : World) : Calls Tryz.prog 20 #[.agg #[.int .i64 1, .int .i64 2, .int .i64 3, .int .i64 4]] w fun e w' => e = .returned (.tuple #[txt t16, .int .i64 0]) ∧ Below w.heap.size w w' := by
  have h := dgput_any 1 2 3 4 w (by decide)
  rwa [show putQE [1, 2, 3, 4] = 0 by kernel_rfl] at h
theorem w_put4n (w : World) : Calls Tryz.prog 20 #[.agg #[.int .i64 (-1), .int .i64 0, .int .i64 0, .int .i64 0]] w fun e w' => e = .returned (.tuple #[.string ⟨#[]⟩, .int .i64 1]) ∧ Below w.heap.size w w' := by
  have h := dgput_any (-1) 0 0 0 w (by decide)
  rwa [show putQE [-1, 0, 0, 0] = 1 by kernel_rfl, show putQ [-1, 0, 0, 0] = [] by kernel_rfl] at h
theorem w_get4 (w : World) : Calls Tryz.prog 22 #[txt t16] w fun e w' => e = .returned (.tuple #[.agg #[.int .i64 1, .int .i64 2, .int .i64 3, .int .i64 4], .int .i64 0]) ∧ Below w.heap.size w w' := by
  have h := dgget_yes t16 w t16_len
  rwa [show ((sums4 t16).map (fun x => Value.int .i64 x)).toArray = #[.int .i64 1, .int .i64 2, .int .i64 3, .int .i64 4] by kernel_rfl] at h
theorem w_get0 (w : World) : Calls Tryz.prog 22 #[.string ⟨#[]⟩] w fun e w' => e = .returned (.tuple #[.agg #[.int .i64 0, .int .i64 0, .int .i64 0, .int .i64 0], .int .i64 2]) ∧ Below w.heap.size w w' := dgget_no [] w (by decide) (by decide)
theorem w_litK (W : World) : Kept (Below W.heap.size W (W.alloc (.cells #[.string ⟨#[107]⟩, .int .i64 3, .int .i64 0, .int .i64 0, .bool false, .string ⟨#[]⟩, .slice none 0 0, .slice none 0 0, .int .u64 1] 48))) ∧ Kept (VarN (W.alloc (.cells #[.string ⟨#[107]⟩, .int .i64 3, .int .i64 0, .int .i64 0, .bool false, .string ⟨#[]⟩, .slice none 0 0, .slice none 0 0, .int .u64 1] 48)) W.heap.size eK) ∧ Kept (isEn eK (.agg #[.string ⟨#[107]⟩, .int .i64 3, .int .i64 0, .int .i64 0, .bool false, .string ⟨#[]⟩, .slice none 0 0, .slice none 0 0, .int .u64 1]) (W.alloc (.cells #[.string ⟨#[107]⟩, .int .i64 3, .int .i64 0, .int .i64 0, .bool false, .string ⟨#[]⟩, .slice none 0 0, .slice none 0 0, .int .u64 1] 48))) := by
  obtain ⟨h1, h2⟩ := ebox W eK (.slice none 0 0) (.slice none 0 0) (.inl ⟨rfl, rfl⟩) (.inl ⟨rfl, rfl⟩) W.heap.size rfl
  exact ⟨h1, h2, ⟨⟨_, _, rfl, .inl ⟨rfl, rfl⟩, .inl ⟨rfl, rfl⟩⟩⟩⟩
theorem snew (w : World) (a b c d : Int) (n : Nat) (hn : n = w.heap.size) : Kept (CellsN (w.alloc (.cells #[.int .i64 0, .int .i64 0, .int .i64 0, .int .i64 0] 26)) n [.int .i64 0, .int .i64 0, .int .i64 0, .int .i64 0]) ∧ Kept (Free5 (w.alloc (.cells #[.int .i64 0, .int .i64 0, .int .i64 0, .int .i64 0] 26)) n) ∧
    Kept (Below w.heap.size w (setN (w.alloc (.cells #[.int .i64 0, .int .i64 0, .int .i64 0, .int .i64 0] 26)) n 0 [.int .i64 a, .int .i64 b, .int .i64 c, .int .i64 d])) ∧ Kept (Blk (setN (w.alloc (.cells #[.int .i64 0, .int .i64 0, .int .i64 0, .int .i64 0] 26)) n 0 [.int .i64 a, .int .i64 b, .int .i64 c, .int .i64 d]) n [.int .i64 a, .int .i64 b, .int .i64 c, .int .i64 d]) ∧ Kept (Ones [.int .i64 a, .int .i64 b, .int .i64 c, .int .i64 d]) := by
  have hB := Blk.new w 26 [.int .i64 0, .int .i64 0, .int .i64 0, .int .i64 0] n hn
  exact ⟨⟨hB.cells⟩, ⟨hB.free⟩, ⟨below_setN (by omega) _ 0 _ (lit_below w _)⟩, ⟨hB.all_ rfl⟩, ⟨⟨rfl, rfl, rfl, rfl, trivial⟩⟩⟩
noncomputable def wk9Ops : Array Oper := regionOf Tryz.f9 9
set_option maxRecDepth 100000 in
set_option maxHeartbeats 2000000 in
theorem wk9_region (Q : Exit → Act → World → Prop) (a0 : Act) (w0 : World) (hsz : a0.tmps.size = 141) (g h : Nat) (vs vi : Value) (e10 : a0.tmps.getD 10 undef = .pointer (some ⟨g, 0, none⟩)) (e1 : a0.tmps.getD 1 undef = .pointer (some ⟨h, 0, none⟩)) (HG : CellsN w0 g [.int .i64 3264677171, .int .i64 0, .int .i64 0, .int .i64 0]) (HH : CellsN w0 h [.int .i64 aZ2.cap, vs, vi]) (hA : isAr aZ2 (.agg #[.int .i64 aZ2.cap, vs, vi]) w0)
    (hQ : ∀ (g : Nat → Value) (w : World), g 11 = .int .i64 1 → Below w0.heap.size w0 w → Q .normal { tmps := [47, 48, 49, 50, 11].foldl (fun t s => t.setIfInBounds s (g s)) a0.tmps, defers := a0.defers } w) :
    (Code.region 9 wk9Ops true).wp Tryz.prog Q a0 w0 := by
  refine wp_region_flow mixed (by rw [hsz]; kernel_rfl) ?_
  rw [show wk9Ops.size = 5 by kernel_rfl]
  refine ⟨isVal (.agg #[.int .i64 3264677171, .int .i64 0, .int .i64 0, .int .i64 0]), step_loadN 26 (.tmp 10) (g) [.int .i64 3264677171, .int .i64 0, .int .i64 0, .int .i64 0] (by kernel_rfl) (wanted_none (by kernel_rfl)) (knows_old 10 (.pointer (some ⟨g, 0, none⟩)) (by kernel_rfl) e10) size_a4 agg_a4 (HG), ?_⟩
  refine ⟨isVal (.agg #[.int .i64 aZ2.cap, vs, vi]), step_loadN 25 (.tmp 1) (h) [.int .i64 aZ2.cap, vs, vi] (by kernel_rfl) (wanted_none (by kernel_rfl)) (knows_old 1 (.pointer (some ⟨h, 0, none⟩)) (by kernel_rfl) e1) size_ar agg_ar (HH), ?_⟩
  refine ⟨isVal (.agg #[.int .i64 0, .int .i64 0, .int .i64 0, .int .i64 0]), step_call 18 #[.tmp 48] #[25] #[.agg #[.int .i64 aZ2.cap, vs, vi]] (by kernel_rfl) (wanted_none (by kernel_rfl)) (stable_val _) (args1 (.tmp 48) (.agg #[.int .i64 aZ2.cap, vs, vi]) (knows_new (V := isVal (.agg #[.int .i64 aZ2.cap, vs, vi])) 48 1 (by kernel_rfl) (by kernel_rfl) (by kernel_rfl))) (enters_of Tryz.func18 (by kernel_rfl) rfl) (by intro w' hb; exact (w_sumsA _ w' (stable_ar _ _ _ _ hA hb)).mono (by rintro e w2 ⟨rfl, hb2⟩; exact ⟨_, rfl, rfl, hb2⟩)), ?_⟩
  refine ⟨isVal (.int .i64 1), step_call 19 #[.tmp 47, .tmp 49] #[26, 26] #[.agg #[.int .i64 3264677171, .int .i64 0, .int .i64 0, .int .i64 0], .agg #[.int .i64 0, .int .i64 0, .int .i64 0, .int .i64 0]] (by kernel_rfl) (wanted_none (by kernel_rfl)) (stable_val _) (args2 (.tmp 47) (.tmp 49) (.agg #[.int .i64 3264677171, .int .i64 0, .int .i64 0, .int .i64 0]) (.agg #[.int .i64 0, .int .i64 0, .int .i64 0, .int .i64 0]) (knows_new (V := isVal (.agg #[.int .i64 3264677171, .int .i64 0, .int .i64 0, .int .i64 0])) 47 0 (by kernel_rfl) (by kernel_rfl) (by kernel_rfl)) (knows_new (V := isVal (.agg #[.int .i64 0, .int .i64 0, .int .i64 0, .int .i64 0])) 49 2 (by kernel_rfl) (by kernel_rfl) (by kernel_rfl))) (enters_of Tryz.func19 (by kernel_rfl) rfl) (by intro w' hb; exact (w_differ w').mono (by rintro e w2 ⟨rfl, hb2⟩; exact ⟨_, rfl, rfl, hb2⟩)), ?_⟩
  refine ⟨isVal (.int .i64 1), step_assign (.tmp 50) (by kernel_rfl) (wanted_none (by kernel_rfl)) (stable_val _) (knows_new (V := isVal (.int .i64 1)) 50 3 (by kernel_rfl) (by kernel_rfl) (by kernel_rfl)), ?_⟩
  intro a w hkp hb hd
  rw [kept_of hkp [some 47, some 48, some 49, some 50, some 11] [47, 48, 49, 50, 11] (by kernel_rfl) (by decide)]
  have d11 := fdone_of (hd 4 (by rw [show wk9Ops.size = 5 by kernel_rfl]; decide)) (t := 11) (V := isVal (.int .i64 1)) (by kernel_rfl) (by kernel_rfl)
  exact hQ (fun s => a.tmps.getD s undef) w d11 hb
end Go.Proofs.YtkjghoomdefbbaaGreatDoor
end
section
namespace Go.Proofs.YtkjghoomdefbbaaGreatDoor
open Go.RowKit
set_option linter.unusedVariables false
set_option linter.unusedSimpArgs false
attribute [local irreducible] setN eK aZ2 aK1 t16 putEn

theorem eql_t {P : Program} {t : TypeId} {k : IntKind} (x y : Int) (h : x = y) (w : World) : (binOp .eql t (.int k x) (.int k y)).run P w = .ok (.bool true) w := by simp [go_sem, h]
theorem sub_v {P : Program} {t : TypeId} (x y z : Int) (h : x - y = z) (h0 : -4611686018427387904 ≤ z) (h1 : z ≤ 4611686018427387904) (w : World) : (binOp .sub t (.int .i64 x) (.int .i64 y)).run P w = .ok (.int .i64 z) w := by
  subst h
  simp [go_sem]
  rw [IntKind.wrap_i64]
  omega
theorem agg_in (w : World) : (isAgg 3).run Tryz.prog w = .ok false w := by simp [isAgg, run_underlying Tryz.underlying3]
def isLen (n : Nat) : VP := fun v _ => ∃ a c, v = .slice a n c
theorem stable_len (n : Nat) : Stable (isLen n) := fun _ _ _ h _ => h
theorem built_n : Tryz.prog.built 26 [] = some #[.int .i64 0, .int .i64 0, .int .i64 0, .int .i64 0] := by kernel_rfl
theorem built_1 : Tryz.prog.built 26 [(0, .int .i64 1), (1, .int .i64 2), (2, .int .i64 3), (3, .int .i64 4)] = some #[.int .i64 1, .int .i64 2, .int .i64 3, .int .i64 4] := by kernel_rfl
section
variable {P : Program} {ops : Array Oper} {base : World} {a0 : Act} {Q : Exit → Act → World → Prop} {kn : Nat → VP} {i : Nat} {V : VP}
theorem step_lenP (t : TypeId) (x : Operand) (n : Nat) {e : TypeId} (hop : (ops[i]?).map (·.op) = some (.call { callee := .builtin .len, args := #[x], argTypes := #[t] })) (hw : Wanted ops a0 kn i) (hx : Knows ops a0 kn i x (isLen n))
    (hu : P.underlying t = some (.slice e)) : FStep P ops base a0 Q kn i (isVal (.int .i64 (n : Int))) :=
  step_pure (.int .i64 (n : Int)) hop hw fun o a w ho hk hd => by
    obtain ⟨b, c, e1⟩ := hx a w hk hd
    unfold execOp
    rw [ho]
    simp only [resolve, Sem.run_bind, Sem.run_pure, Result.andThen_ok, invoke, builtin, List.map_toArray, List.map_cons, List.map_nil, e1]
    simp [Builtin.len_, run_underlying hu]
    try rfl
theorem step_at0 (t e : TypeId) (x y : Operand) (n g : Nat) (hop : (ops[i]?).map (·.op) = some (.indexAddr t x y)) (hw : Wanted ops a0 kn i) (hx : Knows ops a0 kn i x (isVal (.pointer (some ⟨g, 0, none⟩)))) (hy : Knows ops a0 kn i y (isVal (.int .i64 0)))
    (ht : P.underlying t = some (.array n e)) (hs : P.cellsOf e = 1) (hi : (P.info? e).map (·.size) = some 1) (hk : 0 < n) : FStep P ops base a0 Q kn i (isVal (.pointer (some ⟨g, 0, none⟩))) :=
  step_pure _ hop hw fun o a w ho hk' hd => by
    have e1 : a.eval x = .pointer (some ⟨g, 0, none⟩) := hx a w hk' hd
    have e2 : a.eval y = .int .i64 0 := hy a w hk' hd
    unfold execOp
    rw [ho]
    simp only [e1, e2, Sem.run_bind]
    obtain ⟨ie, hie, hz⟩ := Option.map_eq_some_iff.1 hi
    have hsz : (sizeOf e).run P w = .ok 1 w := by simp [sizeOf, typeInfo, hie, hz]
    simp [Instr.indexAt, run_underlying ht, Instr.sureAddr, asIntOf, hsz, hk, Addr.add]
end
noncomputable def wk14Ops : Array Oper := regionOf Tryz.f9 14
set_option maxRecDepth 100000 in
set_option maxHeartbeats 2000000 in
theorem wk14_region (Q : Exit → Act → World → Prop) (a0 : Act) (w0 : World) (hsz : a0.tmps.size = 141) (g h b l : Nat) (vs vi us ui : Value) (e10 : a0.tmps.getD 10 undef = .pointer (some ⟨g, 0, none⟩)) (e1 : a0.tmps.getD 1 undef = .pointer (some ⟨h, 0, none⟩)) (e4 : a0.tmps.getD 4 undef = .pointer (some ⟨b, 0, none⟩)) (e14 : a0.tmps.getD 14 undef = .pointer (some ⟨l, 0, none⟩)) (e6 : a0.tmps.getD 6 undef = .int .i64 0) (e9 : a0.tmps.getD 9 undef = .int .i64 0) (e7 : a0.tmps.getD 7 undef = .string ⟨(putEn eK).toArray⟩) (e11 : a0.tmps.getD 11 undef = .int .i64 1) (e12 : a0.tmps.getD 12 undef = .string ⟨t16.toArray⟩) (e13 : a0.tmps.getD 13 undef = .int .i64 0) (e15 : a0.tmps.getD 15 undef = .int .i64 0) (e17 : a0.tmps.getD 17 undef = .int .i64 1) (e19 : a0.tmps.getD 19 undef = .int .i64 2) (HG : CellsN w0 g [.int .i64 3264677171, .int .i64 0, .int .i64 0, .int .i64 0]) (HH : CellsN w0 h [.int .i64 aZ2.cap, vs, vi]) (HK : CellsN w0 b [.int .i64 aK1.cap, us, ui]) (HL : CellsN w0 l [.int .i64 1, .int .i64 2, .int .i64 3, .int .i64 4]) (hA : isAr aZ2 (.agg #[.int .i64 aZ2.cap, vs, vi]) w0) (hK : isAr aK1 (.agg #[.int .i64 aK1.cap, us, ui]) w0)
    (hQ : ∀ (g : Nat → Value) (w : World), g 0 = .bool true → Below w0.heap.size w0 w → Q .normal { tmps := [70, 71, 72, 73, 74, 75, 76, 77, 78, 79, 80, 81, 82, 83, 84, 85, 86, 87, 88, 89, 90, 91, 92, 93, 94, 95, 96, 97, 98, 99, 100, 101, 102, 103, 104, 105, 106, 107, 108, 109, 110, 111, 112, 113, 114, 115, 116, 117, 118, 119, 120, 121, 122, 123, 124, 125, 126, 127, 128, 129, 130, 131, 132, 133, 134, 135, 136, 137, 138, 139, 140, 0].foldl (fun t s => t.setIfInBounds s (g s)) a0.tmps, defers := a0.defers } w) :
    (Code.region 14 wk14Ops true).wp Tryz.prog Q a0 w0 := by
  refine wp_region_flow mixed (by rw [hsz]; kernel_rfl) ?_
  rw [show wk14Ops.size = 72 by kernel_rfl]
  refine ⟨isVal (.int .i64 0), step_move (.tmp 6) (by kernel_rfl) (wanted_none (by kernel_rfl)) (stable_val _) (knows_old 6 (.int .i64 0) (by kernel_rfl) e6), ?_⟩
  refine ⟨isVal (.bool true), step_bin .eql 35 35 (.tmp 70) (.const (.int .i64 0)) (.int .i64 0) (.int .i64 0) (.bool true) (by kernel_rfl) (wanted_none (by kernel_rfl)) (knows_new (V := isVal (.int .i64 0)) 70 0 (by kernel_rfl) (by kernel_rfl) (by kernel_rfl)) (knows_const _) (fun _ => rfl) (eql_t _ _ (by (have h16 := t16_len; omega))), ?_⟩
  refine ⟨isVal (.bool true), step_move (.tmp 71) (by kernel_rfl) (wanted_none (by kernel_rfl)) (stable_val _) (knows_new (V := isVal (.bool true)) 71 1 (by kernel_rfl) (by kernel_rfl) (by kernel_rfl)), ?_⟩
  refine ⟨isVal (.agg #[.int .i64 aZ2.cap, vs, vi]), step_loadN 25 (.tmp 1) (h) [.int .i64 aZ2.cap, vs, vi] (by kernel_rfl) (wanted_some 2 72 true (by kernel_rfl) (by kernel_rfl) (by kernel_rfl) (by kernel_rfl)) (knows_old 1 (.pointer (some ⟨h, 0, none⟩)) (by kernel_rfl) e1) size_ar agg_ar (HH), ?_⟩
  refine ⟨isVal (.agg #[.int .i64 0, .int .i64 0, .int .i64 0, .int .i64 0]), step_call 18 #[.tmp 73] #[25] #[.agg #[.int .i64 aZ2.cap, vs, vi]] (by kernel_rfl) (wanted_some 2 72 true (by kernel_rfl) (by kernel_rfl) (by kernel_rfl) (by kernel_rfl)) (stable_val _) (args1 (.tmp 73) (.agg #[.int .i64 aZ2.cap, vs, vi]) (knows_new (V := isVal (.agg #[.int .i64 aZ2.cap, vs, vi])) 73 3 (by kernel_rfl) (by kernel_rfl) (by kernel_rfl))) (enters_of Tryz.func18 (by kernel_rfl) rfl) (by intro w' hb; exact (w_sumsA _ w' (stable_ar _ _ _ _ hA hb)).mono (by rintro e w2 ⟨rfl, hb2⟩; exact ⟨_, rfl, rfl, hb2⟩)), ?_⟩
  refine ⟨isVal (.agg #[.int .i64 0, .int .i64 0, .int .i64 0, .int .i64 0]), step_buildP 26 #[] (by kernel_rfl) (wanted_some 2 72 true (by kernel_rfl) (by kernel_rfl) (by kernel_rfl) (by kernel_rfl)) (stable_val _) (by
    intro a w hk hd
    exact ⟨_, by simpa [] using (built_n), rfl⟩), ?_⟩
  refine ⟨isVal (.bool true), step_bin .eql 26 26 (.tmp 74) (.tmp 75) (.agg #[.int .i64 0, .int .i64 0, .int .i64 0, .int .i64 0]) (.agg #[.int .i64 0, .int .i64 0, .int .i64 0, .int .i64 0]) (.bool true) (by kernel_rfl) (wanted_some 2 72 true (by kernel_rfl) (by kernel_rfl) (by kernel_rfl) (by kernel_rfl)) (knows_new (V := isVal (.agg #[.int .i64 0, .int .i64 0, .int .i64 0, .int .i64 0])) 74 4 (by kernel_rfl) (by kernel_rfl) (by kernel_rfl)) (knows_new (V := isVal (.agg #[.int .i64 0, .int .i64 0, .int .i64 0, .int .i64 0])) 75 5 (by kernel_rfl) (by kernel_rfl) (by kernel_rfl)) (fun _ => rfl) (fun W => eql_i4 26 3 0 0 0 0 0 0 0 0 true Tryz.underlying26 Tryz.underlying3 (by kernel_rfl) (by simp) W), ?_⟩
  refine ⟨isVal (.bool true), step_pick (.tmp 72) (.tmp 76) (.const (.bool false)) true (by kernel_rfl) (wanted_none (by kernel_rfl)) (stable_val _) (knows_new (V := isVal (.bool true)) 72 2 (by kernel_rfl) (by kernel_rfl) (by kernel_rfl)) (knows_new (V := isVal (.bool true)) 76 6 (by kernel_rfl) (by kernel_rfl) (by kernel_rfl)), ?_⟩
  refine ⟨isVal (.bool true), step_move (.tmp 77) (by kernel_rfl) (wanted_none (by kernel_rfl)) (stable_val _) (knows_new (V := isVal (.bool true)) 77 7 (by kernel_rfl) (by kernel_rfl) (by kernel_rfl)), ?_⟩
  refine ⟨isVal (.int .i64 0), step_move (.tmp 9) (by kernel_rfl) (wanted_some 8 78 true (by kernel_rfl) (by kernel_rfl) (by kernel_rfl) (by kernel_rfl)) (stable_val _) (knows_old 9 (.int .i64 0) (by kernel_rfl) e9), ?_⟩
  refine ⟨isVal (.pointer (some ⟨g, 0, none⟩)), step_at0 26 3 (.tmp 10) (.tmp 79) 4 g (by kernel_rfl) (wanted_some 8 78 true (by kernel_rfl) (by kernel_rfl) (by kernel_rfl) (by kernel_rfl)) (knows_old 10 (.pointer (some ⟨g, 0, none⟩)) (by kernel_rfl) e10) (knows_new (V := isVal (.int .i64 0)) 79 9 (by kernel_rfl) (by kernel_rfl) (by kernel_rfl)) Tryz.underlying26 (by kernel_rfl) (by kernel_rfl) (by omega), ?_⟩
  refine ⟨isVal (.int .i64 3264677171), step_read 3 (.tmp 80) ⟨g, 0, none⟩ (.int .i64 3264677171) (by kernel_rfl) (wanted_some 8 78 true (by kernel_rfl) (by kernel_rfl) (by kernel_rfl) (by kernel_rfl)) (knows_new (V := isVal (.pointer (some ⟨g, 0, none⟩))) 80 10 (by kernel_rfl) (by kernel_rfl) (by kernel_rfl)) ((HG).2 0 _ rfl) (HG).1 (agg_in), ?_⟩
  refine ⟨isVal (.string ⟨(putEn eK).toArray⟩), step_move (.tmp 7) (by kernel_rfl) (wanted_some 8 78 true (by kernel_rfl) (by kernel_rfl) (by kernel_rfl) (by kernel_rfl)) (stable_val _) (knows_old 7 (.string ⟨(putEn eK).toArray⟩) (by kernel_rfl) e7), ?_⟩
  refine ⟨isVal (.int .i64 3264677171), step_call 32 #[.tmp 82] #[9] #[.string ⟨(putEn eK).toArray⟩] (by kernel_rfl) (wanted_some 8 78 true (by kernel_rfl) (by kernel_rfl) (by kernel_rfl) (by kernel_rfl)) (stable_val _) (args1 (.tmp 82) (.string ⟨(putEn eK).toArray⟩) (knows_new (V := isVal (.string ⟨(putEn eK).toArray⟩)) 82 12 (by kernel_rfl) (by kernel_rfl) (by kernel_rfl))) (enters_of Tryz.func32 (by kernel_rfl) rfl) (by intro w' hb; exact (w_crc w').mono (by rintro e w2 ⟨rfl, hb2⟩; exact ⟨_, rfl, rfl, hb2⟩)), ?_⟩
  refine ⟨isVal (.bool true), step_bin .eql 3 3 (.tmp 81) (.tmp 83) (.int .i64 3264677171) (.int .i64 3264677171) (.bool true) (by kernel_rfl) (wanted_some 8 78 true (by kernel_rfl) (by kernel_rfl) (by kernel_rfl) (by kernel_rfl)) (knows_new (V := isVal (.int .i64 3264677171)) 81 11 (by kernel_rfl) (by kernel_rfl) (by kernel_rfl)) (knows_new (V := isVal (.int .i64 3264677171)) 83 13 (by kernel_rfl) (by kernel_rfl) (by kernel_rfl)) (fun _ => rfl) (eql_t _ _ (by (have h16 := t16_len; omega))), ?_⟩
  refine ⟨isVal (.bool true), step_pick (.tmp 78) (.tmp 84) (.const (.bool false)) true (by kernel_rfl) (wanted_none (by kernel_rfl)) (stable_val _) (knows_new (V := isVal (.bool true)) 78 8 (by kernel_rfl) (by kernel_rfl) (by kernel_rfl)) (knows_new (V := isVal (.bool true)) 84 14 (by kernel_rfl) (by kernel_rfl) (by kernel_rfl)), ?_⟩
  refine ⟨isVal (.bool true), step_move (.tmp 85) (by kernel_rfl) (wanted_none (by kernel_rfl)) (stable_val _) (knows_new (V := isVal (.bool true)) 85 15 (by kernel_rfl) (by kernel_rfl) (by kernel_rfl)), ?_⟩
  refine ⟨isVal (.int .i64 1), step_move (.tmp 11) (by kernel_rfl) (wanted_some 16 86 true (by kernel_rfl) (by kernel_rfl) (by kernel_rfl) (by kernel_rfl)) (stable_val _) (knows_old 11 (.int .i64 1) (by kernel_rfl) e11), ?_⟩
  refine ⟨isVal (.int .i64 0), step_move (.tmp 9) (by kernel_rfl) (wanted_some 16 86 true (by kernel_rfl) (by kernel_rfl) (by kernel_rfl) (by kernel_rfl)) (stable_val _) (knows_old 9 (.int .i64 0) (by kernel_rfl) e9), ?_⟩
  refine ⟨isVal (.int .u64 0), step_conv 3 55 (.tmp 88) (.int .i64 0) (.int .u64 0) (by kernel_rfl) (wanted_some 16 86 true (by kernel_rfl) (by kernel_rfl) (by kernel_rfl) (by kernel_rfl)) (knows_new (V := isVal (.int .i64 0)) 88 18 (by kernel_rfl) (by kernel_rfl) (by kernel_rfl)) (fun W => by kernel_rfl), ?_⟩
  refine ⟨isVal (.int .i64 1), step_bin .shl 3 55 (.const (.int .i64 1)) (.tmp 89) (.int .i64 1) (.int .u64 0) (.int .i64 1) (by kernel_rfl) (wanted_some 16 86 true (by kernel_rfl) (by kernel_rfl) (by kernel_rfl) (by kernel_rfl)) (knows_const _) (knows_new (V := isVal (.int .u64 0)) 89 19 (by kernel_rfl) (by kernel_rfl) (by kernel_rfl)) (fun _ => rfl) (fun W => by kernel_rfl), ?_⟩
  refine ⟨isVal (.bool true), step_bin .eql 3 3 (.tmp 87) (.tmp 90) (.int .i64 1) (.int .i64 1) (.bool true) (by kernel_rfl) (wanted_some 16 86 true (by kernel_rfl) (by kernel_rfl) (by kernel_rfl) (by kernel_rfl)) (knows_new (V := isVal (.int .i64 1)) 87 17 (by kernel_rfl) (by kernel_rfl) (by kernel_rfl)) (knows_new (V := isVal (.int .i64 1)) 90 20 (by kernel_rfl) (by kernel_rfl) (by kernel_rfl)) (fun _ => rfl) (eql_t _ _ (by (have h16 := t16_len; omega))), ?_⟩
  refine ⟨isVal (.bool true), step_pick (.tmp 86) (.tmp 91) (.const (.bool false)) true (by kernel_rfl) (wanted_none (by kernel_rfl)) (stable_val _) (knows_new (V := isVal (.bool true)) 86 16 (by kernel_rfl) (by kernel_rfl) (by kernel_rfl)) (knows_new (V := isVal (.bool true)) 91 21 (by kernel_rfl) (by kernel_rfl) (by kernel_rfl)), ?_⟩
  refine ⟨isVal (.bool true), step_move (.tmp 92) (by kernel_rfl) (wanted_none (by kernel_rfl)) (stable_val _) (knows_new (V := isVal (.bool true)) 92 22 (by kernel_rfl) (by kernel_rfl) (by kernel_rfl)), ?_⟩
  refine ⟨isVal (.agg #[.int .i64 aK1.cap, us, ui]), step_loadN 25 (.tmp 4) (b) [.int .i64 aK1.cap, us, ui] (by kernel_rfl) (wanted_some 23 93 true (by kernel_rfl) (by kernel_rfl) (by kernel_rfl) (by kernel_rfl)) (knows_old 4 (.pointer (some ⟨b, 0, none⟩)) (by kernel_rfl) e4) size_ar agg_ar (HK), ?_⟩
  refine ⟨isVal (.int .i64 1), step_move (.tmp 11) (by kernel_rfl) (wanted_some 23 93 true (by kernel_rfl) (by kernel_rfl) (by kernel_rfl) (by kernel_rfl)) (stable_val _) (knows_old 11 (.int .i64 1) (by kernel_rfl) e11), ?_⟩
  refine ⟨(isLen 1), step_call 15 #[.tmp 94, .tmp 95, .const (.int .i64 5)] #[25, 3, 3] #[.agg #[.int .i64 aK1.cap, us, ui], .int .i64 1, .int .i64 5] (by kernel_rfl) (wanted_some 23 93 true (by kernel_rfl) (by kernel_rfl) (by kernel_rfl) (by kernel_rfl)) (stable_len 1) (args3 (.tmp 94) (.tmp 95) (.const (.int .i64 5)) (.agg #[.int .i64 aK1.cap, us, ui]) (.int .i64 1) (.int .i64 5) (knows_new (V := isVal (.agg #[.int .i64 aK1.cap, us, ui])) 94 24 (by kernel_rfl) (by kernel_rfl) (by kernel_rfl)) (knows_new (V := isVal (.int .i64 1)) 95 25 (by kernel_rfl) (by kernel_rfl) (by kernel_rfl)) (knows_const _)) (enters_of Tryz.func15 (by kernel_rfl) rfl) (by intro w' hb; exact (w_in 1 5 1 _ w' (stable_ar _ _ _ _ hK hb) (by kernel_rfl)).mono (by rintro e w2 ⟨a, c, rfl, hb2⟩; exact ⟨_, rfl, ⟨a, c, rfl⟩, hb2⟩)), ?_⟩
  refine ⟨isVal (.int .i64 1), step_lenP 22 (.tmp 96) 1 (by kernel_rfl) (wanted_some 23 93 true (by kernel_rfl) (by kernel_rfl) (by kernel_rfl) (by kernel_rfl)) (knows_new (V := (isLen 1)) 96 26 (by kernel_rfl) (by kernel_rfl) (by kernel_rfl)) Tryz.underlying22, ?_⟩
  refine ⟨isVal (.bool true), step_bin .eql 3 3 (.tmp 97) (.const (.int .i64 1)) (.int .i64 1) (.int .i64 1) (.bool true) (by kernel_rfl) (wanted_some 23 93 true (by kernel_rfl) (by kernel_rfl) (by kernel_rfl) (by kernel_rfl)) (knows_new (V := isVal (.int .i64 1)) 97 27 (by kernel_rfl) (by kernel_rfl) (by kernel_rfl)) (knows_const _) (fun _ => rfl) (eql_t _ _ (by (have h16 := t16_len; omega))), ?_⟩
  refine ⟨isVal (.bool true), step_pick (.tmp 93) (.tmp 98) (.const (.bool false)) true (by kernel_rfl) (wanted_none (by kernel_rfl)) (stable_val _) (knows_new (V := isVal (.bool true)) 93 23 (by kernel_rfl) (by kernel_rfl) (by kernel_rfl)) (knows_new (V := isVal (.bool true)) 98 28 (by kernel_rfl) (by kernel_rfl) (by kernel_rfl)), ?_⟩
  refine ⟨isVal (.bool true), step_move (.tmp 99) (by kernel_rfl) (wanted_none (by kernel_rfl)) (stable_val _) (knows_new (V := isVal (.bool true)) 99 29 (by kernel_rfl) (by kernel_rfl) (by kernel_rfl)), ?_⟩
  refine ⟨isVal (.agg #[.int .i64 aK1.cap, us, ui]), step_loadN 25 (.tmp 4) (b) [.int .i64 aK1.cap, us, ui] (by kernel_rfl) (wanted_some 30 100 true (by kernel_rfl) (by kernel_rfl) (by kernel_rfl) (by kernel_rfl)) (knows_old 4 (.pointer (some ⟨b, 0, none⟩)) (by kernel_rfl) e4) size_ar agg_ar (HK), ?_⟩
  refine ⟨isVal (.int .i64 1), step_move (.tmp 11) (by kernel_rfl) (wanted_some 30 100 true (by kernel_rfl) (by kernel_rfl) (by kernel_rfl) (by kernel_rfl)) (stable_val _) (knows_old 11 (.int .i64 1) (by kernel_rfl) e11), ?_⟩
  refine ⟨isVal (.int .i64 14), step_bin .sub 3 3 (.const (.int .i64 15)) (.tmp 102) (.int .i64 15) (.int .i64 1) (.int .i64 14) (by kernel_rfl) (wanted_some 30 100 true (by kernel_rfl) (by kernel_rfl) (by kernel_rfl) (by kernel_rfl)) (knows_const _) (knows_new (V := isVal (.int .i64 1)) 102 32 (by kernel_rfl) (by kernel_rfl) (by kernel_rfl)) (fun _ => rfl) (sub_v 15 1 14 (by (have h16 := t16_len; omega)) (by (have h16 := t16_len; omega)) (by (have h16 := t16_len; omega))), ?_⟩
  refine ⟨(isLen 0), step_call 15 #[.tmp 101, .tmp 103, .const (.int .i64 5)] #[25, 3, 3] #[.agg #[.int .i64 aK1.cap, us, ui], .int .i64 14, .int .i64 5] (by kernel_rfl) (wanted_some 30 100 true (by kernel_rfl) (by kernel_rfl) (by kernel_rfl) (by kernel_rfl)) (stable_len 0) (args3 (.tmp 101) (.tmp 103) (.const (.int .i64 5)) (.agg #[.int .i64 aK1.cap, us, ui]) (.int .i64 14) (.int .i64 5) (knows_new (V := isVal (.agg #[.int .i64 aK1.cap, us, ui])) 101 31 (by kernel_rfl) (by kernel_rfl) (by kernel_rfl)) (knows_new (V := isVal (.int .i64 14)) 103 33 (by kernel_rfl) (by kernel_rfl) (by kernel_rfl)) (knows_const _)) (enters_of Tryz.func15 (by kernel_rfl) rfl) (by intro w' hb; exact (w_in 14 5 0 _ w' (stable_ar _ _ _ _ hK hb) (by kernel_rfl)).mono (by rintro e w2 ⟨a, c, rfl, hb2⟩; exact ⟨_, rfl, ⟨a, c, rfl⟩, hb2⟩)), ?_⟩
  refine ⟨isVal (.int .i64 0), step_lenP 22 (.tmp 104) 0 (by kernel_rfl) (wanted_some 30 100 true (by kernel_rfl) (by kernel_rfl) (by kernel_rfl) (by kernel_rfl)) (knows_new (V := (isLen 0)) 104 34 (by kernel_rfl) (by kernel_rfl) (by kernel_rfl)) Tryz.underlying22, ?_⟩
  refine ⟨isVal (.bool true), step_bin .eql 3 3 (.tmp 105) (.const (.int .i64 0)) (.int .i64 0) (.int .i64 0) (.bool true) (by kernel_rfl) (wanted_some 30 100 true (by kernel_rfl) (by kernel_rfl) (by kernel_rfl) (by kernel_rfl)) (knows_new (V := isVal (.int .i64 0)) 105 35 (by kernel_rfl) (by kernel_rfl) (by kernel_rfl)) (knows_const _) (fun _ => rfl) (eql_t _ _ (by (have h16 := t16_len; omega))), ?_⟩
  refine ⟨isVal (.bool true), step_pick (.tmp 100) (.tmp 106) (.const (.bool false)) true (by kernel_rfl) (wanted_none (by kernel_rfl)) (stable_val _) (knows_new (V := isVal (.bool true)) 100 30 (by kernel_rfl) (by kernel_rfl) (by kernel_rfl)) (knows_new (V := isVal (.bool true)) 106 36 (by kernel_rfl) (by kernel_rfl) (by kernel_rfl)), ?_⟩
  refine ⟨isVal (.bool true), step_move (.tmp 107) (by kernel_rfl) (wanted_none (by kernel_rfl)) (stable_val _) (knows_new (V := isVal (.bool true)) 107 37 (by kernel_rfl) (by kernel_rfl) (by kernel_rfl)), ?_⟩
  refine ⟨isVal (.agg #[.int .i64 aK1.cap, us, ui]), step_loadN 25 (.tmp 4) (b) [.int .i64 aK1.cap, us, ui] (by kernel_rfl) (wanted_some 38 108 true (by kernel_rfl) (by kernel_rfl) (by kernel_rfl) (by kernel_rfl)) (knows_old 4 (.pointer (some ⟨b, 0, none⟩)) (by kernel_rfl) e4) size_ar agg_ar (HK), ?_⟩
  refine ⟨isVal (.int .i64 1), step_move (.tmp 11) (by kernel_rfl) (wanted_some 38 108 true (by kernel_rfl) (by kernel_rfl) (by kernel_rfl) (by kernel_rfl)) (stable_val _) (knows_old 11 (.int .i64 1) (by kernel_rfl) e11), ?_⟩
  refine ⟨(isLen 0), step_call 15 #[.tmp 109, .tmp 110, .const (.int .i64 0)] #[25, 3, 3] #[.agg #[.int .i64 aK1.cap, us, ui], .int .i64 1, .int .i64 0] (by kernel_rfl) (wanted_some 38 108 true (by kernel_rfl) (by kernel_rfl) (by kernel_rfl) (by kernel_rfl)) (stable_len 0) (args3 (.tmp 109) (.tmp 110) (.const (.int .i64 0)) (.agg #[.int .i64 aK1.cap, us, ui]) (.int .i64 1) (.int .i64 0) (knows_new (V := isVal (.agg #[.int .i64 aK1.cap, us, ui])) 109 39 (by kernel_rfl) (by kernel_rfl) (by kernel_rfl)) (knows_new (V := isVal (.int .i64 1)) 110 40 (by kernel_rfl) (by kernel_rfl) (by kernel_rfl)) (knows_const _)) (enters_of Tryz.func15 (by kernel_rfl) rfl) (by intro w' hb; exact (w_in 1 0 0 _ w' (stable_ar _ _ _ _ hK hb) (by kernel_rfl)).mono (by rintro e w2 ⟨a, c, rfl, hb2⟩; exact ⟨_, rfl, ⟨a, c, rfl⟩, hb2⟩)), ?_⟩
  refine ⟨isVal (.int .i64 0), step_lenP 22 (.tmp 111) 0 (by kernel_rfl) (wanted_some 38 108 true (by kernel_rfl) (by kernel_rfl) (by kernel_rfl) (by kernel_rfl)) (knows_new (V := (isLen 0)) 111 41 (by kernel_rfl) (by kernel_rfl) (by kernel_rfl)) Tryz.underlying22, ?_⟩
  refine ⟨isVal (.bool true), step_bin .eql 3 3 (.tmp 112) (.const (.int .i64 0)) (.int .i64 0) (.int .i64 0) (.bool true) (by kernel_rfl) (wanted_some 38 108 true (by kernel_rfl) (by kernel_rfl) (by kernel_rfl) (by kernel_rfl)) (knows_new (V := isVal (.int .i64 0)) 112 42 (by kernel_rfl) (by kernel_rfl) (by kernel_rfl)) (knows_const _) (fun _ => rfl) (eql_t _ _ (by (have h16 := t16_len; omega))), ?_⟩
  refine ⟨isVal (.bool true), step_pick (.tmp 108) (.tmp 113) (.const (.bool false)) true (by kernel_rfl) (wanted_none (by kernel_rfl)) (stable_val _) (knows_new (V := isVal (.bool true)) 108 38 (by kernel_rfl) (by kernel_rfl) (by kernel_rfl)) (knows_new (V := isVal (.bool true)) 113 43 (by kernel_rfl) (by kernel_rfl) (by kernel_rfl)), ?_⟩
  refine ⟨isVal (.bool true), step_move (.tmp 114) (by kernel_rfl) (wanted_none (by kernel_rfl)) (stable_val _) (knows_new (V := isVal (.bool true)) 114 44 (by kernel_rfl) (by kernel_rfl) (by kernel_rfl)), ?_⟩
  refine ⟨isVal (.string ⟨t16.toArray⟩), step_move (.tmp 12) (by kernel_rfl) (wanted_some 45 115 true (by kernel_rfl) (by kernel_rfl) (by kernel_rfl) (by kernel_rfl)) (stable_val _) (knows_old 12 (.string ⟨t16.toArray⟩) (by kernel_rfl) e12), ?_⟩
  refine ⟨isVal (.int .i64 (t16.length : Int)), step_len 9 (.tmp 116) (.string ⟨t16.toArray⟩) (.int .i64 (t16.length : Int)) (by kernel_rfl) (wanted_some 45 115 true (by kernel_rfl) (by kernel_rfl) (by kernel_rfl) (by kernel_rfl)) (knows_new (V := isVal (.string ⟨t16.toArray⟩)) 116 46 (by kernel_rfl) (by kernel_rfl) (by kernel_rfl)) (len_str t16), ?_⟩
  refine ⟨isVal (.bool true), step_bin .eql 3 3 (.tmp 117) (.const (.int .i64 16)) (.int .i64 (t16.length : Int)) (.int .i64 16) (.bool true) (by kernel_rfl) (wanted_some 45 115 true (by kernel_rfl) (by kernel_rfl) (by kernel_rfl) (by kernel_rfl)) (knows_new (V := isVal (.int .i64 (t16.length : Int))) 117 47 (by kernel_rfl) (by kernel_rfl) (by kernel_rfl)) (knows_const _) (fun _ => rfl) (eql_t _ _ (by (have h16 := t16_len; omega))), ?_⟩
  refine ⟨isVal (.bool true), step_pick (.tmp 115) (.tmp 118) (.const (.bool false)) true (by kernel_rfl) (wanted_none (by kernel_rfl)) (stable_val _) (knows_new (V := isVal (.bool true)) 115 45 (by kernel_rfl) (by kernel_rfl) (by kernel_rfl)) (knows_new (V := isVal (.bool true)) 118 48 (by kernel_rfl) (by kernel_rfl) (by kernel_rfl)), ?_⟩
  refine ⟨isVal (.bool true), step_move (.tmp 119) (by kernel_rfl) (wanted_none (by kernel_rfl)) (stable_val _) (knows_new (V := isVal (.bool true)) 119 49 (by kernel_rfl) (by kernel_rfl) (by kernel_rfl)), ?_⟩
  refine ⟨isVal (.int .i64 0), step_move (.tmp 13) (by kernel_rfl) (wanted_some 50 120 true (by kernel_rfl) (by kernel_rfl) (by kernel_rfl) (by kernel_rfl)) (stable_val _) (knows_old 13 (.int .i64 0) (by kernel_rfl) e13), ?_⟩
  refine ⟨isVal (.bool true), step_bin .eql 35 35 (.tmp 121) (.const (.int .i64 0)) (.int .i64 0) (.int .i64 0) (.bool true) (by kernel_rfl) (wanted_some 50 120 true (by kernel_rfl) (by kernel_rfl) (by kernel_rfl) (by kernel_rfl)) (knows_new (V := isVal (.int .i64 0)) 121 51 (by kernel_rfl) (by kernel_rfl) (by kernel_rfl)) (knows_const _) (fun _ => rfl) (eql_t _ _ (by (have h16 := t16_len; omega))), ?_⟩
  refine ⟨isVal (.bool true), step_pick (.tmp 120) (.tmp 122) (.const (.bool false)) true (by kernel_rfl) (wanted_none (by kernel_rfl)) (stable_val _) (knows_new (V := isVal (.bool true)) 120 50 (by kernel_rfl) (by kernel_rfl) (by kernel_rfl)) (knows_new (V := isVal (.bool true)) 122 52 (by kernel_rfl) (by kernel_rfl) (by kernel_rfl)), ?_⟩
  refine ⟨isVal (.bool true), step_move (.tmp 123) (by kernel_rfl) (wanted_none (by kernel_rfl)) (stable_val _) (knows_new (V := isVal (.bool true)) 123 53 (by kernel_rfl) (by kernel_rfl) (by kernel_rfl)), ?_⟩
  refine ⟨isVal (.agg #[.int .i64 1, .int .i64 2, .int .i64 3, .int .i64 4]), step_loadN 26 (.tmp 14) (l) [.int .i64 1, .int .i64 2, .int .i64 3, .int .i64 4] (by kernel_rfl) (wanted_some 54 124 true (by kernel_rfl) (by kernel_rfl) (by kernel_rfl) (by kernel_rfl)) (knows_old 14 (.pointer (some ⟨l, 0, none⟩)) (by kernel_rfl) e14) size_a4 agg_a4 (HL), ?_⟩
  refine ⟨isVal (.agg #[.int .i64 1, .int .i64 2, .int .i64 3, .int .i64 4]), step_buildP 26 #[(0, .const (.int .i64 1)), (1, .const (.int .i64 2)), (2, .const (.int .i64 3)), (3, .const (.int .i64 4))] (by kernel_rfl) (wanted_some 54 124 true (by kernel_rfl) (by kernel_rfl) (by kernel_rfl) (by kernel_rfl)) (stable_val _) (by
    intro a w hk hd
    have e0 : a.eval (.const (.int .i64 1)) = (.int .i64 1) := (knows_const _) a w hk hd
    have e1 : a.eval (.const (.int .i64 2)) = (.int .i64 2) := (knows_const _) a w hk hd
    have e2 : a.eval (.const (.int .i64 3)) = (.int .i64 3) := (knows_const _) a w hk hd
    have e3 : a.eval (.const (.int .i64 4)) = (.int .i64 4) := (knows_const _) a w hk hd
    exact ⟨_, by simpa [e0, e1, e2, e3] using (built_1), rfl⟩), ?_⟩
  refine ⟨isVal (.bool true), step_bin .eql 26 26 (.tmp 125) (.tmp 126) (.agg #[.int .i64 1, .int .i64 2, .int .i64 3, .int .i64 4]) (.agg #[.int .i64 1, .int .i64 2, .int .i64 3, .int .i64 4]) (.bool true) (by kernel_rfl) (wanted_some 54 124 true (by kernel_rfl) (by kernel_rfl) (by kernel_rfl) (by kernel_rfl)) (knows_new (V := isVal (.agg #[.int .i64 1, .int .i64 2, .int .i64 3, .int .i64 4])) 125 55 (by kernel_rfl) (by kernel_rfl) (by kernel_rfl)) (knows_new (V := isVal (.agg #[.int .i64 1, .int .i64 2, .int .i64 3, .int .i64 4])) 126 56 (by kernel_rfl) (by kernel_rfl) (by kernel_rfl)) (fun _ => rfl) (fun W => eql_i4 26 3 1 2 3 4 1 2 3 4 true Tryz.underlying26 Tryz.underlying3 (by kernel_rfl) (by simp) W), ?_⟩
  refine ⟨isVal (.bool true), step_pick (.tmp 124) (.tmp 127) (.const (.bool false)) true (by kernel_rfl) (wanted_none (by kernel_rfl)) (stable_val _) (knows_new (V := isVal (.bool true)) 124 54 (by kernel_rfl) (by kernel_rfl) (by kernel_rfl)) (knows_new (V := isVal (.bool true)) 127 57 (by kernel_rfl) (by kernel_rfl) (by kernel_rfl)), ?_⟩
  refine ⟨isVal (.bool true), step_move (.tmp 128) (by kernel_rfl) (wanted_none (by kernel_rfl)) (stable_val _) (knows_new (V := isVal (.bool true)) 128 58 (by kernel_rfl) (by kernel_rfl) (by kernel_rfl)), ?_⟩
  refine ⟨isVal (.int .i64 0), step_move (.tmp 15) (by kernel_rfl) (wanted_some 59 129 true (by kernel_rfl) (by kernel_rfl) (by kernel_rfl) (by kernel_rfl)) (stable_val _) (knows_old 15 (.int .i64 0) (by kernel_rfl) e15), ?_⟩
  refine ⟨isVal (.bool true), step_bin .eql 35 35 (.tmp 130) (.const (.int .i64 0)) (.int .i64 0) (.int .i64 0) (.bool true) (by kernel_rfl) (wanted_some 59 129 true (by kernel_rfl) (by kernel_rfl) (by kernel_rfl) (by kernel_rfl)) (knows_new (V := isVal (.int .i64 0)) 130 60 (by kernel_rfl) (by kernel_rfl) (by kernel_rfl)) (knows_const _) (fun _ => rfl) (eql_t _ _ (by (have h16 := t16_len; omega))), ?_⟩
  refine ⟨isVal (.bool true), step_pick (.tmp 129) (.tmp 131) (.const (.bool false)) true (by kernel_rfl) (wanted_none (by kernel_rfl)) (stable_val _) (knows_new (V := isVal (.bool true)) 129 59 (by kernel_rfl) (by kernel_rfl) (by kernel_rfl)) (knows_new (V := isVal (.bool true)) 131 61 (by kernel_rfl) (by kernel_rfl) (by kernel_rfl)), ?_⟩
  refine ⟨isVal (.bool true), step_move (.tmp 132) (by kernel_rfl) (wanted_none (by kernel_rfl)) (stable_val _) (knows_new (V := isVal (.bool true)) 132 62 (by kernel_rfl) (by kernel_rfl) (by kernel_rfl)), ?_⟩
  refine ⟨isVal (.int .i64 1), step_move (.tmp 17) (by kernel_rfl) (wanted_some 63 133 true (by kernel_rfl) (by kernel_rfl) (by kernel_rfl) (by kernel_rfl)) (stable_val _) (knows_old 17 (.int .i64 1) (by kernel_rfl) e17), ?_⟩
  refine ⟨isVal (.bool true), step_bin .eql 35 35 (.tmp 134) (.const (.int .i64 1)) (.int .i64 1) (.int .i64 1) (.bool true) (by kernel_rfl) (wanted_some 63 133 true (by kernel_rfl) (by kernel_rfl) (by kernel_rfl) (by kernel_rfl)) (knows_new (V := isVal (.int .i64 1)) 134 64 (by kernel_rfl) (by kernel_rfl) (by kernel_rfl)) (knows_const _) (fun _ => rfl) (eql_t _ _ (by (have h16 := t16_len; omega))), ?_⟩
  refine ⟨isVal (.bool true), step_pick (.tmp 133) (.tmp 135) (.const (.bool false)) true (by kernel_rfl) (wanted_none (by kernel_rfl)) (stable_val _) (knows_new (V := isVal (.bool true)) 133 63 (by kernel_rfl) (by kernel_rfl) (by kernel_rfl)) (knows_new (V := isVal (.bool true)) 135 65 (by kernel_rfl) (by kernel_rfl) (by kernel_rfl)), ?_⟩
  refine ⟨isVal (.bool true), step_move (.tmp 136) (by kernel_rfl) (wanted_none (by kernel_rfl)) (stable_val _) (knows_new (V := isVal (.bool true)) 136 66 (by kernel_rfl) (by kernel_rfl) (by kernel_rfl)), ?_⟩
  refine ⟨isVal (.int .i64 2), step_move (.tmp 19) (by kernel_rfl) (wanted_some 67 137 true (by kernel_rfl) (by kernel_rfl) (by kernel_rfl) (by kernel_rfl)) (stable_val _) (knows_old 19 (.int .i64 2) (by kernel_rfl) e19), ?_⟩
  refine ⟨isVal (.bool true), step_bin .eql 35 35 (.tmp 138) (.const (.int .i64 2)) (.int .i64 2) (.int .i64 2) (.bool true) (by kernel_rfl) (wanted_some 67 137 true (by kernel_rfl) (by kernel_rfl) (by kernel_rfl) (by kernel_rfl)) (knows_new (V := isVal (.int .i64 2)) 138 68 (by kernel_rfl) (by kernel_rfl) (by kernel_rfl)) (knows_const _) (fun _ => rfl) (eql_t _ _ (by (have h16 := t16_len; omega))), ?_⟩
  refine ⟨isVal (.bool true), step_pick (.tmp 137) (.tmp 139) (.const (.bool false)) true (by kernel_rfl) (wanted_none (by kernel_rfl)) (stable_val _) (knows_new (V := isVal (.bool true)) 137 67 (by kernel_rfl) (by kernel_rfl) (by kernel_rfl)) (knows_new (V := isVal (.bool true)) 139 69 (by kernel_rfl) (by kernel_rfl) (by kernel_rfl)), ?_⟩
  refine ⟨isVal (.bool true), step_assign (.tmp 140) (by kernel_rfl) (wanted_none (by kernel_rfl)) (stable_val _) (knows_new (V := isVal (.bool true)) 140 70 (by kernel_rfl) (by kernel_rfl) (by kernel_rfl)), ?_⟩
  intro a w hkp hb hd
  rw [kept_of hkp [some 70, some 71, some 72, some 73, some 74, some 75, some 76, some 77, some 78, some 79, some 80, some 81, some 82, some 83, some 84, some 85, some 86, some 87, some 88, some 89, some 90, some 91, some 92, some 93, some 94, some 95, some 96, some 97, some 98, some 99, some 100, some 101, some 102, some 103, some 104, some 105, some 106, some 107, some 108, some 109, some 110, some 111, some 112, some 113, some 114, some 115, some 116, some 117, some 118, some 119, some 120, some 121, some 122, some 123, some 124, some 125, some 126, some 127, some 128, some 129, some 130, some 131, some 132, some 133, some 134, some 135, some 136, some 137, some 138, some 139, some 140, some 0] [70, 71, 72, 73, 74, 75, 76, 77, 78, 79, 80, 81, 82, 83, 84, 85, 86, 87, 88, 89, 90, 91, 92, 93, 94, 95, 96, 97, 98, 99, 100, 101, 102, 103, 104, 105, 106, 107, 108, 109, 110, 111, 112, 113, 114, 115, 116, 117, 118, 119, 120, 121, 122, 123, 124, 125, 126, 127, 128, 129, 130, 131, 132, 133, 134, 135, 136, 137, 138, 139, 140, 0] (by kernel_rfl) (by decide)]
  have d0 := fdone_of (hd 71 (by rw [show wk14Ops.size = 72 by kernel_rfl]; decide)) (t := 0) (V := isVal (.bool true)) (by kernel_rfl) (by kernel_rfl)
  exact hQ (fun s => a.tmps.getD s undef) w d0 hb
set_option maxRecDepth 100000 in
set_option maxHeartbeats 4000000 in
theorem dgworks_any (w : World) : Calls Tryz.prog 9 #[] w fun e w' => e = .returned (.bool true) ∧ Below w.heap.size w w' := by
  have hB := Kept.mk (Below.refl w.heap.size w)
  have he0 : ∀ W, (binOp .eql 26 (.agg #[.int .i64 0, .int .i64 0, .int .i64 0, .int .i64 0]) (.agg #[.int .i64 0, .int .i64 0, .int .i64 0, .int .i64 0])).run Tryz.prog W = .ok (.bool true) W := fun W => eql_i4 26 3 0 0 0 0 0 0 0 0 true Tryz.underlying26 Tryz.underlying3 (by kernel_rfl) (by simp) W
  have he1 : ∀ W, (binOp .eql 26 (.agg #[.int .i64 1, .int .i64 2, .int .i64 3, .int .i64 4]) (.agg #[.int .i64 1, .int .i64 2, .int .i64 3, .int .i64 4])).run Tryz.prog W = .ok (.bool true) W := fun W => eql_i4 26 3 1 2 3 4 1 2 3 4 true Tryz.underlying26 Tryz.underlying3 (by kernel_rfl) (by simp) W
  go_enter Tryz.func9, Tryz.ntmps9
  go_wp2_with fail
  ((with_reducible refine (w_dnew _).mono ?_); rintro e U ⟨v', rfl, ⟨p', m', rfl, hp', hm'⟩, hb1⟩)
  obtain ⟨K1, K2, K3, K4, K5⟩ := anew U aZ2 p' m' hp' hm' U.heap.size rfl
  clear hp' hm'
  replace hB := Kept.mk (hB.out.trans ((hb1).mono hB.out.size))
  clear hb1
  go_wp2_with (have hz0 := K1; refine wpList_storeN 25 rfl (.tmp 1) (.tmp 22) rfl U.heap.size [.int .i64 aZ2.cap, p', m'] size_ar rfl rfl K1.out rfl K2.out K5.out ?_; replace hB := Kept.mk (hB.out.trans ((K3.out).mono hB.out.size)); have Va := Kept.mk K4.out; clear hz0 K1 K2 K3 K4 K5; generalize setN (U.alloc (.cells #[.int .i64 0, .slice none 0 0, .slice none 0 0] 25)) U.heap.size 0 [.int .i64 aZ2.cap, p', m'] = W1 at *; generalize U.heap.size = ga at *; obtain ⟨qa, ra, xa, sa, ia, ka0, ka1, ka2⟩ := Va.out.open_; have Xa := Kept.mk xa; have Sa := Kept.mk sa; have Ia := Kept.mk ia; clear xa sa ia; obtain ⟨hBx, Vx, Xx2⟩ := w_litK W1; have kw0 := (hBx.out.cell (p := ⟨ga, 0, none⟩) Va.out.lt).trans ka0; have kw1 := (hBx.out.cell (p := ⟨ga, 1, none⟩) Va.out.lt).trans ka1; have kw2 := (hBx.out.cell (p := ⟨ga, 2, none⟩) Va.out.lt).trans ka2)
  have Xa2 := Kept.mk (stable_ar _ _ _ _ Xa.out hBx.out)
  replace hB := Kept.mk (hB.out.trans (hBx.out.mono hB.out.size))
  replace Va := Kept.mk (Va.out.keep hBx.out)
  clear hBx kw0 kw1 kw2
  clear Xa Sa Ia ka0 ka1 ka2
  generalize W1.heap.size = gx at *
  generalize (W1.alloc (.cells #[.string ⟨#[107]⟩, .int .i64 3, .int .i64 0, .int .i64 0, .bool false, .string ⟨#[]⟩, .slice none 0 0, .slice none 0 0, .int .u64 1] 48)) = W2 at *
  ((with_reducible refine (w_djoin _ _ _ Xa2.out Xx2.out).mono ?_); rintro e U ⟨v', rfl, ⟨p', m', rfl, hp', hm'⟩, hb1⟩)
  obtain ⟨K1, K2, K3, K4, K5⟩ := anew U aK1 p' m' hp' hm' U.heap.size rfl
  clear hp' hm'
  replace hB := Kept.mk (hB.out.trans ((hb1).mono hB.out.size))
  replace Va := Kept.mk (Va.out.keep (hb1))
  replace Vx := Kept.mk (Vx.out.keep (hb1))
  clear hb1
  go_wp2_with (have hz0 := K1; refine wpList_storeN 25 rfl (.tmp 4) (.tmp 30) rfl U.heap.size [.int .i64 aK1.cap, p', m'] size_ar rfl rfl K1.out rfl K2.out K5.out ?_; replace hB := Kept.mk (hB.out.trans ((K3.out).mono hB.out.size)); replace Va := Kept.mk (Va.out.keep (K3.out)); replace Vx := Kept.mk (Vx.out.keep (K3.out)); have Vb := Kept.mk K4.out; clear hz0 K1 K2 K3 K4 K5; generalize setN (U.alloc (.cells #[.int .i64 0, .slice none 0 0, .slice none 0 0] 25)) U.heap.size 0 [.int .i64 aK1.cap, p', m'] = W3 at *; generalize U.heap.size = gb at *; obtain ⟨qx, rx, xx, yx, kx0, kx1, kx2, kx3, kx4, kx5, kx6, kx7, kx8⟩ := Vx.out.open_; have Xx := Kept.mk xx; have Yx := Kept.mk yx; clear xx yx)
  ((with_reducible refine (w_dput _ _ Xx.out).mono ?_); rintro e W4 ⟨rfl, hb1⟩)
  clear Xx Yx kx0 kx1 kx2 kx3 kx4 kx5 kx6 kx7 kx8
  replace hB := Kept.mk (hB.out.trans ((hb1).mono hB.out.size))
  replace Va := Kept.mk (Va.out.keep (hb1))
  replace Vx := Kept.mk (Vx.out.keep (hb1))
  replace Vb := Kept.mk (Vb.out.keep (hb1))
  clear hb1
  go_wp2_with fail
  ((with_reducible refine (w_bucket _).mono ?_); rintro e W5 ⟨rfl, hb1⟩)
  replace hB := Kept.mk (hB.out.trans ((hb1).mono hB.out.size))
  replace Va := Kept.mk (Va.out.keep (hb1))
  replace Vx := Kept.mk (Vx.out.keep (hb1))
  replace Vb := Kept.mk (Vb.out.keep (hb1))
  clear hb1
  obtain ⟨qb, rb, xb, sb, ib, kb0, kb1, kb2⟩ := Vb.out.open_
  have Xb := Kept.mk xb
  have Sb := Kept.mk sb
  have Ib := Kept.mk ib
  clear xb sb ib
  go_wp2_with fail
  ((with_reducible refine (w_sumsK _ _ Xb.out).mono ?_); rintro e U ⟨rfl, hb1⟩)
  obtain ⟨K1, K2, K3, K4, K5⟩ := snew U (3264677171) (0) (0) (0) U.heap.size rfl
  clear Xb Sb Ib kb0 kb1 kb2
  replace hB := Kept.mk (hB.out.trans ((hb1).mono hB.out.size))
  replace Va := Kept.mk (Va.out.keep (hb1))
  replace Vx := Kept.mk (Vx.out.keep (hb1))
  replace Vb := Kept.mk (Vb.out.keep (hb1))
  clear hb1
  go_wp2_with (have hz0 := K1; refine wpList_storeN 26 rfl (.tmp 10) (.tmp 46) rfl U.heap.size [.int .i64 3264677171, .int .i64 0, .int .i64 0, .int .i64 0] size_a4 rfl rfl K1.out rfl K2.out K5.out ?_; replace hB := Kept.mk (hB.out.trans ((K3.out).mono hB.out.size)); replace Va := Kept.mk (Va.out.keep (K3.out)); replace Vx := Kept.mk (Vx.out.keep (K3.out)); replace Vb := Kept.mk (Vb.out.keep (K3.out)); have Vs := Kept.mk K4.out; clear hz0 K1 K2 K3 K4 K5; generalize setN (U.alloc (.cells #[.int .i64 0, .int .i64 0, .int .i64 0, .int .i64 0] 26)) U.heap.size 0 [.int .i64 3264677171, .int .i64 0, .int .i64 0, .int .i64 0] = W6 at *; generalize U.heap.size = gs at *; obtain ⟨qa, ra, xa, sa, ia, ka0, ka1, ka2⟩ := Va.out.open_; have Xa := Kept.mk xa; have Sa := Kept.mk sa; have Ia := Kept.mk ia; clear xa sa ia)
  refine wk9_region _ _ _ rfl gs ga _ _ rfl rfl Vs.out.cells ?HH Xa.out ?_
  case HH => exact ⟨Va.out.lt, fun j x hx => by match j, hx with | 0, h => exact ka0 ▸ h | 1, h => exact ka1 ▸ h | 2, h => exact ka2 ▸ h | n + 3, h => simp at h⟩
  intro f9 W9 d11 hb1
  simp only [List.foldl_cons, List.foldl_nil, d11]
  generalize f9 47 = y47
  generalize f9 48 = y48
  generalize f9 49 = y49
  generalize f9 50 = y50
  clear d11
  try simp only [List.setIfInBounds_toArray, List.set_cons_succ, List.set_cons_zero]
  clear Xa Sa Ia ka0 ka1 ka2
  replace hB := Kept.mk (hB.out.trans ((hb1).mono hB.out.size))
  replace Va := Kept.mk (Va.out.keep (hb1))
  replace Vx := Kept.mk (Vx.out.keep (hb1))
  replace Vb := Kept.mk (Vb.out.keep (hb1))
  replace Vs := Kept.mk (Vs.out.keep (hb1))
  clear hb1
  go_wp2_with fail
  ((with_reducible refine (w_put4 _).mono ?_); rintro e W8 ⟨rfl, hb1⟩)
  replace hB := Kept.mk (hB.out.trans ((hb1).mono hB.out.size))
  replace Va := Kept.mk (Va.out.keep (hb1))
  replace Vx := Kept.mk (Vx.out.keep (hb1))
  replace Vb := Kept.mk (Vb.out.keep (hb1))
  replace Vs := Kept.mk (Vs.out.keep (hb1))
  clear hb1
  go_wp2_with fail
  ((with_reducible refine (w_get4 _).mono ?_); rintro e U ⟨rfl, hb1⟩)
  obtain ⟨K1, K2, K3, K4, K5⟩ := snew U (1) (2) (3) (4) U.heap.size rfl
  replace hB := Kept.mk (hB.out.trans ((hb1).mono hB.out.size))
  replace Va := Kept.mk (Va.out.keep (hb1))
  replace Vx := Kept.mk (Vx.out.keep (hb1))
  replace Vb := Kept.mk (Vb.out.keep (hb1))
  replace Vs := Kept.mk (Vs.out.keep (hb1))
  clear hb1
  go_wp2_with (have hz0 := K1; refine wpList_storeN 26 rfl (.tmp 14) (.tmp 59) rfl U.heap.size [.int .i64 1, .int .i64 2, .int .i64 3, .int .i64 4] size_a4 rfl rfl K1.out rfl K2.out K5.out ?_; replace hB := Kept.mk (hB.out.trans ((K3.out).mono hB.out.size)); replace Va := Kept.mk (Va.out.keep (K3.out)); replace Vx := Kept.mk (Vx.out.keep (K3.out)); replace Vb := Kept.mk (Vb.out.keep (K3.out)); replace Vs := Kept.mk (Vs.out.keep (K3.out)); have Vl := Kept.mk K4.out; clear hz0 K1 K2 K3 K4 K5; generalize setN (U.alloc (.cells #[.int .i64 0, .int .i64 0, .int .i64 0, .int .i64 0] 26)) U.heap.size 0 [.int .i64 1, .int .i64 2, .int .i64 3, .int .i64 4] = W9 at *; generalize U.heap.size = gl at *)
  ((with_reducible refine (w_put4n _).mono ?_); rintro e W10 ⟨rfl, hb1⟩)
  replace hB := Kept.mk (hB.out.trans ((hb1).mono hB.out.size))
  replace Va := Kept.mk (Va.out.keep (hb1))
  replace Vx := Kept.mk (Vx.out.keep (hb1))
  replace Vb := Kept.mk (Vb.out.keep (hb1))
  replace Vs := Kept.mk (Vs.out.keep (hb1))
  replace Vl := Kept.mk (Vl.out.keep (hb1))
  clear hb1
  go_wp2_with fail
  ((with_reducible refine (w_get0 _).mono ?_); rintro e U ⟨rfl, hb1⟩)
  obtain ⟨K1, K2, K3, K4, K5⟩ := snew U (0) (0) (0) (0) U.heap.size rfl
  replace hB := Kept.mk (hB.out.trans ((hb1).mono hB.out.size))
  replace Va := Kept.mk (Va.out.keep (hb1))
  replace Vx := Kept.mk (Vx.out.keep (hb1))
  replace Vb := Kept.mk (Vb.out.keep (hb1))
  replace Vs := Kept.mk (Vs.out.keep (hb1))
  replace Vl := Kept.mk (Vl.out.keep (hb1))
  clear hb1
  go_wp2_with (have hz0 := K1; refine wpList_storeN 26 rfl (.tmp 18) (.tmp 68) rfl U.heap.size [.int .i64 0, .int .i64 0, .int .i64 0, .int .i64 0] size_a4 rfl rfl K1.out rfl K2.out K5.out ?_; replace hB := Kept.mk (hB.out.trans ((K3.out).mono hB.out.size)); replace Va := Kept.mk (Va.out.keep (K3.out)); replace Vx := Kept.mk (Vx.out.keep (K3.out)); replace Vb := Kept.mk (Vb.out.keep (K3.out)); replace Vs := Kept.mk (Vs.out.keep (K3.out)); replace Vl := Kept.mk (Vl.out.keep (K3.out)); have Vz := Kept.mk K4.out; clear hz0 K1 K2 K3 K4 K5; generalize setN (U.alloc (.cells #[.int .i64 0, .int .i64 0, .int .i64 0, .int .i64 0] 26)) U.heap.size 0 [.int .i64 0, .int .i64 0, .int .i64 0, .int .i64 0] = W11 at *; generalize U.heap.size = gz at *; obtain ⟨qa, ra, xa, sa, ia, ka0, ka1, ka2⟩ := Va.out.open_; have Xa := Kept.mk xa; have Sa := Kept.mk sa; have Ia := Kept.mk ia; clear xa sa ia)
  obtain ⟨qb, rb, xb, sb, ib, kb0, kb1, kb2⟩ := Vb.out.open_
  have Xb := Kept.mk xb
  have Sb := Kept.mk sb
  have Ib := Kept.mk ib
  clear xb sb ib
  refine wk14_region _ _ _ rfl gs ga gb gl _ _ _ _ rfl rfl rfl rfl rfl rfl rfl rfl rfl rfl rfl rfl rfl Vs.out.cells ?HH ?HB Vl.out.cells Xa.out Xb.out ?_
  case HH => exact ⟨Va.out.lt, fun j x hx => by match j, hx with | 0, h => exact ka0 ▸ h | 1, h => exact ka1 ▸ h | 2, h => exact ka2 ▸ h | n + 3, h => simp at h⟩
  case HB => exact ⟨Vb.out.lt, fun j x hx => by match j, hx with | 0, h => exact kb0 ▸ h | 1, h => exact kb1 ▸ h | 2, h => exact kb2 ▸ h | n + 3, h => simp at h⟩
  intro f9 W9 d0 hb1
  simp only [List.foldl_cons, List.foldl_nil, d0]
  generalize f9 70 = y70
  generalize f9 71 = y71
  generalize f9 72 = y72
  generalize f9 73 = y73
  generalize f9 74 = y74
  generalize f9 75 = y75
  generalize f9 76 = y76
  generalize f9 77 = y77
  generalize f9 78 = y78
  generalize f9 79 = y79
  generalize f9 80 = y80
  generalize f9 81 = y81
  generalize f9 82 = y82
  generalize f9 83 = y83
  generalize f9 84 = y84
  generalize f9 85 = y85
  generalize f9 86 = y86
  generalize f9 87 = y87
  generalize f9 88 = y88
  generalize f9 89 = y89
  generalize f9 90 = y90
  generalize f9 91 = y91
  generalize f9 92 = y92
  generalize f9 93 = y93
  generalize f9 94 = y94
  generalize f9 95 = y95
  generalize f9 96 = y96
  generalize f9 97 = y97
  generalize f9 98 = y98
  generalize f9 99 = y99
  generalize f9 100 = y100
  generalize f9 101 = y101
  generalize f9 102 = y102
  generalize f9 103 = y103
  generalize f9 104 = y104
  generalize f9 105 = y105
  generalize f9 106 = y106
  generalize f9 107 = y107
  generalize f9 108 = y108
  generalize f9 109 = y109
  generalize f9 110 = y110
  generalize f9 111 = y111
  generalize f9 112 = y112
  generalize f9 113 = y113
  generalize f9 114 = y114
  generalize f9 115 = y115
  generalize f9 116 = y116
  generalize f9 117 = y117
  generalize f9 118 = y118
  generalize f9 119 = y119
  generalize f9 120 = y120
  generalize f9 121 = y121
  generalize f9 122 = y122
  generalize f9 123 = y123
  generalize f9 124 = y124
  generalize f9 125 = y125
  generalize f9 126 = y126
  generalize f9 127 = y127
  generalize f9 128 = y128
  generalize f9 129 = y129
  generalize f9 130 = y130
  generalize f9 131 = y131
  generalize f9 132 = y132
  generalize f9 133 = y133
  generalize f9 134 = y134
  generalize f9 135 = y135
  generalize f9 136 = y136
  generalize f9 137 = y137
  generalize f9 138 = y138
  generalize f9 139 = y139
  generalize f9 140 = y140
  clear d0
  try simp only [List.setIfInBounds_toArray, List.set_cons_succ, List.set_cons_zero]
  clear Xa Sa Ia ka0 ka1 ka2 Xb Sb Ib kb0 kb1 kb2
  replace hB := Kept.mk (hB.out.trans (hb1.mono hB.out.size))
  clear hb1
  go_wp2
  go_ret
  exact ⟨rfl, hB.out⟩
end Go.Proofs.YtkjghoomdefbbaaGreatDoor
end
section
namespace Go.Proofs.YtkjghoomdefbbaaGreatDoor
set_option linter.unusedVariables false

theorem pairL_pad : ∀ (a b : List UInt8), pairL (· ^^^ ·) a b = pairL (· ^^^ ·) a (b ++ List.replicate (a.length - b.length) 0)
  | [], _ => by simp [pairL]
  | x :: a, [] => by
    have : ∀ l : List UInt8, pairL (· ^^^ ·) l (List.replicate l.length 0) = l := by
      intro l
      induction l with
      | nil => rfl
      | cons y l ih => simp [pairL, List.replicate_succ]; exact ih
    rw [List.nil_append, List.length_nil, Nat.sub_zero, this]; rfl
  | x :: a, y :: b => by
    rw [List.cons_append, pairL, pairL, List.length_cons, List.length_cons, Nat.add_sub_add_right, ← pairL_pad a b]
/-- What is turned in four bytes that stand next to each other comes to nothing where nothing is turned alone. -/
theorem turned (n : Nat) (t q : List UInt8) (k : Nat) (hq : q.length = 4) (hk : k + 4 ≤ t.length) (hn : n < 4294967296) :
    (onL n (pairL (· ^^^ ·) t (List.replicate k 0 ++ q)) = onL n t) ↔ getN q = 0 := by
  rw [pairL_pad]
  have hlen : t.length = (List.replicate k 0 ++ q ++ List.replicate (t.length - (List.replicate k (0 : UInt8) ++ q).length) 0).length := by
    simp [hq]; omega
  have h := onL_xor t _ n 0 hlen
  rw [Nat.xor_zero] at h
  rw [h]
  generalize t.length - (List.replicate k (0 : UInt8) ++ q).length = r
  rw [onL_append, onL_append, onL_zeros k, stps_zero, onL_getN q, onL_zeros r, hq, Nat.zero_xor, ← stps_add]
  have hg : getN q < 4294967296 := by have := getN_lt q; rw [hq] at this; exact this
  have ht := onL_lt t hn
  constructor
  · intro e
    have e2 := congrArg (onL n t ^^^ ·) e
    simp only [← Nat.xor_assoc, Nat.xor_self, Nat.zero_xor] at e2
    exact stps_nil _ hg e2
  · intro e
    rw [e, stps_zero, Nat.xor_zero]
end Go.Proofs.YtkjghoomdefbbaaGreatDoor
end
section
namespace Go.Proofs.YtkjghoomdefbbaaGreatDoor
open Go.RowKit
set_option linter.unusedVariables false

def encB (l : List UInt8) : List Value := l.map fun b => .int .u8 (b.toNat : Int)
/-- The slice v holds just the bytes l, in a block of the call's own. -/
def OwnB (w : World) (base : Nat) (e : TypeId) (v : Value) (l : List UInt8) : Prop := w.ownsRow base e 1 v l.length (encB l)

theorem OwnB.nil (w : World) (base : Nat) (e : TypeId) : OwnB w base e (.slice none 0 0) [] := World.ownsRow_nil _ _ _ _
theorem OwnB.back {P : Program} {w : World} {base : Nat} {e : TypeId} {v : Value} {l : List UInt8} (h : OwnB w base e v l) (src dst : TypeId)
    (hs : P.underlying src = some (.slice e)) (he : P.underlying e = some (.int .u8)) (hd : P.underlying dst = some .string) :
    (convert src dst v).run P w = .ok (.string ⟨l.toArray⟩) w := by
  obtain ⟨h1, ⟨rfl, h0⟩ | ⟨g, cap, cur, rfl, _, hh, _, _, hcs, ht⟩⟩ := h
  · have : l = [] := List.eq_nil_of_length_eq_zero h0
    subst this
    exact run_convert_bytes_nil (w := w) src e hs he 0 0 dst hd
  · refine run_convert_bytes_back w src dst e ⟨g, 0, none⟩ cap l hs he hd (fun j hj => ?_)
    have hc : w.cell? ⟨g, j, none⟩ = cur[j]? := cell_of_row w g j cur e (0, 0) hh
    have hj2 : cur.toList[j]? = some (.int .u8 (l[j].toNat : Int)) := by
      have := congrArg (fun x => x[j]?) ht
      simp only [Nat.mul_one] at this
      rw [List.getElem?_take_of_lt hj] at this
      rw [this]
      simp [encB, hj]
    have e1 : (⟨g, 0, none⟩ : Addr).add j = ⟨g, j, none⟩ := by
      by_cases e0 : j = 0
      · subst e0; simp [Addr.add]
      · simp [Addr.add, e0]
    rw [e1, hc, ← Array.getElem?_toList, hj2]
end Go.Proofs.YtkjghoomdefbbaaGreatDoor
end
section
namespace Go.Proofs.YtkjghoomdefbbaaGreatDoor
open Go.RowKit
set_option linter.unusedVariables false

/-- What is left of a number, byte by byte. -/
def leftN (m k : Nat) : Nat := m / 256 ^ k
end Go.Proofs.YtkjghoomdefbbaaGreatDoor
end
section
namespace Go.Proofs.YtkjghoomdefbbaaGreatDoor
open Go.RowKit
set_option linter.unusedVariables false

end Go.Proofs.YtkjghoomdefbbaaGreatDoor
end
section
namespace Go.Proofs.YtkjghoomdefbbaaGreatDoor
open Go.RowKit
set_option linter.unusedVariables false
set_option linter.unusedSimpArgs false

end Go.Proofs.YtkjghoomdefbbaaGreatDoor
end
section
namespace Go.Proofs.YtkjghoomdefbbaaGreatDoor
open Go.RowKit
set_option linter.unusedVariables false
set_option linter.unusedSimpArgs false

def OutI (N : Nat) (v : Value) (xs : List Int) (w : World) : Prop := w.ownsRow N 3 1 v xs.length (xs.map intC)
theorem OutI.keep {N : Nat} {v : Value} {xs : List Int} {w w' : World} (h : OutI N v xs w) (hb : Below w.heap.size w w') : OutI N v xs w' := own_grow h hb
theorem OutI.low {N N' : Nat} {v : Value} {xs : List Int} {w : World} (h : OutI N v xs w) (hN : N' ≤ N) : OutI N' v xs w := own_low h hN
theorem OutI.cells {N : Nat} {v : Value} {xs : List Int} {w : World} (h : OutI N v xs w) : isCells (xs.map intC) v w := by
  refine isOwn.cells (B := N) (e := 3) ?_
  unfold isOwn
  rw [List.length_map]
  exact h
theorem OutI.len {N : Nat} {v : Value} {xs : List Int} {w : World} (h : OutI N v xs w) : ∃ a c, v = .slice a xs.length c := by
  obtain ⟨_, ⟨rfl, h0⟩ | ⟨g, cap, cur, rfl, _⟩⟩ := h
  · exact ⟨_, _, by rw [h0]⟩
  · exact ⟨_, _, rfl⟩
def SrcI (u : Value) (ys : List Int) (w : World) : Prop := (u = .slice none 0 0 ∧ ys = []) ∨ ∃ (a : Addr) (c : Nat), u = .slice (some a) ys.length c ∧ ∀ (j : Nat) (x : Int), ys[j]? = some x → w.cell? (a.add j) = some (intC x)
section
variable {ops : Array Oper} {rest : List Oper} {o : Oper} {a : Act} {w : World} {Q : Exit → Act → World → Prop}
end
theorem SrcI.keep {u : Value} {ys : List Int} {w w' : World} (h : SrcI u ys w) (hb : Below w.heap.size w w') : SrcI u ys w' := by
  rcases h with h | ⟨a, c, e, hc⟩
  · exact .inl h
  · exact .inr ⟨a, c, e, fun j x hx => (hb.cell (World.block_lt_of_cell? w _ (hc j x hx))).trans (hc j x hx)⟩
end Go.Proofs.YtkjghoomdefbbaaGreatDoor
end
section
namespace Go.Proofs.YtkjghoomdefbbaaGreatDoor
open Go.RowKit
set_option linter.unusedVariables false
set_option linter.unusedSimpArgs false
attribute [local irreducible] setN

noncomputable def rix1Ops : Array Oper := regionOf Tryz.f64 6
noncomputable def rix2Ops : Array Oper := regionOf Tryz.f64 6
noncomputable def rsl1Ops : Array Oper := regionOf Tryz.f62 9
end Go.Proofs.YtkjghoomdefbbaaGreatDoor
end
section
namespace Go.Proofs.YtkjghoomdefbbaaGreatDoor
open Go.RowKit
set_option linter.unusedVariables false
set_option linter.unusedSimpArgs false
attribute [local irreducible] setN

def IdxPost (l : List En) (w : World) (e : Ending) (w' : World) : Prop := ∃ v', e = .returned v' ∧ OutI w.heap.size v' (idxM l) w' ∧ Below w.heap.size w w'
end Go.Proofs.YtkjghoomdefbbaaGreatDoor
end
section
namespace Go.Proofs.YtkjghoomdefbbaaGreatDoor
open Go.RowKit
set_option linter.unusedVariables false
set_option linter.unusedSimpArgs false
attribute [local irreducible] setN

end Go.Proofs.YtkjghoomdefbbaaGreatDoor
end
section
namespace Go.Proofs.YtkjghoomdefbbaaGreatDoor
open Go.RowKit
set_option linter.unusedVariables false
set_option linter.unusedSimpArgs false
attribute [local irreducible] setN

def eX : En := ⟨[98], ⟨3, 0, 0, false, [], [], [], 1⟩⟩
def eY : En := ⟨[97], ⟨3, 0, 0, false, [], [], [], 2⟩⟩
def eZ : En := ⟨[98], ⟨3, 0, 0, false, [], [], [], 3⟩⟩
def eW : En := ⟨[99], ⟨3, 0, 0, false, [], [], [], 1⟩⟩
def aA : Ar := ⟨2, [], []⟩
def aB : Ar := ⟨2, [eX], [0]⟩
def aC : Ar := ⟨2, [eX, eY], [1, 0]⟩
def aD : Ar := ⟨2, [eZ, eY], [1, 0]⟩
end Go.Proofs.YtkjghoomdefbbaaGreatDoor
end
section
namespace Go.Proofs.YtkjghoomdefbbaaGreatDoor
open Go.RowKit
set_option linter.unusedVariables false
set_option linter.unusedSimpArgs false
attribute [local irreducible] setN eX eY eZ eW zeroE aA aB aC aD

end Go.Proofs.YtkjghoomdefbbaaGreatDoor
end
section
namespace Go.Proofs.YtkjghoomdefbbaaGreatDoor
open Go.RowKit Go.ChangeShapes Go.WideShapes
set_option linter.unusedVariables false
set_option linter.unusedSimpArgs false

structure CameE (E : En) : Prop where
  key : E.key.length ≤ maxLen
  val : CameV E.val
/-- Few. -/
def fewE (E : En) : Bool := fewV E.val && decide ((E.key.length : Int) ≤ 100)
theorem fewE_fit {E : En} (h : fewE E = true) : FitE E := by
  unfold fewE at h
  rw [Bool.and_eq_true, decide_eq_true_eq] at h
  exact ⟨by omega, few_fit h.1⟩
set_option maxRecDepth 100000 in
set_option maxHeartbeats 2000000 in
theorem efew_any (E : En) (v : Value) (w : World) (hv : isEn E v w) (hk : E.key.length ≤ maxLen) : Calls Tryz.prog 28 #[v] w fun e w' => e = .returned (.bool (fewE E)) ∧ Below w.heap.size w w' := by
  have hs : (⟨E.key.toArray⟩ : ByteArray).size = E.key.length := by simp [ByteArray.size]
  have HF := Kept.mk (show fewE E = (fewV E.val && decide ((E.key.length : Int) ≤ 100)) from rfl)
  obtain ⟨pe, me, rfl, hpe, hme⟩ := hv
  obtain ⟨hB, Ve⟩ := ebox w E pe me hpe hme (w.heap.size) (by simp)
  clear hpe hme
  obtain ⟨qe, re, xe, ye, ke0, ke1, ke2, ke3, ke4, ke5, ke6, ke7, ke8⟩ := Ve.out.open_
  have Xe := Kept.mk xe
  have Ye := Kept.mk ye
  clear xe ye
  go_enter Tryz.func28, Tryz.ntmps28
  go_wp2_with fail
  refine (vfew_any E.val _ _ Ye.out).mono ?_
  rintro e W1 ⟨rfl, hb1⟩
  replace hB := Kept.mk (hB.out.trans (hb1.mono hB.out.size))
  replace Ve := Kept.mk (Ve.out.keep hb1)
  clear hb1 Xe Ye ke0 ke1 ke2 ke3 ke4 ke5 ke6 ke7 ke8
  obtain ⟨_, _, _, _, ke0, _⟩ := Ve.out.open_
  cases hz : fewV E.val with
  | false =>
    rw [hz] at HF
    go_wp2
    go_ret
    exact ⟨by rw [HF.out]; rfl, hB.out⟩
  | true =>
    rw [hz] at HF
    go_wp2
    go_ret
    exact ⟨by rw [HF.out]; rfl, hB.out⟩
end Go.Proofs.YtkjghoomdefbbaaGreatDoor
end
section
namespace Go.Proofs.YtkjghoomdefbbaaGreatDoor
open Go.RowKit
set_option linter.unusedVariables false
set_option linter.unusedSimpArgs false

def fewL (l : List En) (m : Int) : Bool := decide ((l.length : Int) ≤ m) && l.all fewE
def fewA (A : Ar) : Bool := fewL A.slots 12 && decide ((A.index.length : Int) ≤ 40)
theorem fewL_len {l : List En} {m : Int} (h : fewL l m = true) : (l.length : Int) ≤ m := by
  unfold fewL at h
  rw [Bool.and_eq_true, decide_eq_true_eq] at h
  exact h.1
theorem fewL_fit {l : List En} {m : Int} (h : fewL l m = true) : ∀ e ∈ l, FitE e := by
  unfold fewL at h
  rw [Bool.and_eq_true, List.all_eq_true] at h
  exact fun e he => fewE_fit (h.2 e he)
theorem fewA_fit {A : Ar} (h : fewA A = true) : FitA A := by
  unfold fewA at h
  rw [Bool.and_eq_true, decide_eq_true_eq] at h
  have := fewL_len h.1
  exact ⟨by omega, by omega, fewL_fit h.1⟩
theorem fewA_slots {A : Ar} (h : fewA A = true) : A.slots.length ≤ 12 := by
  unfold fewA at h
  rw [Bool.and_eq_true] at h
  have := fewL_len h.1
  omega
set_option maxRecDepth 100000 in
set_option maxHeartbeats 2000000 in
theorem entries_any (l : List En) (m : Int) (v : Value) (w : World) (hv : isEns l v w) (hk : ∀ e ∈ l, e.key.length ≤ maxLen) (hl : l.length ≤ maxLen) (hm0 : 0 ≤ m) (hm : m ≤ 1000) : Calls Tryz.prog 24 #[v, .int .i64 m] w fun e w' => e = .returned (.bool (fewL l m)) ∧ Below w.heap.size w w' := by
  rcases hv.cases_ with ⟨a, cap, rfl, rfl⟩ | ⟨b, off, cap, rfl, hb0, hc⟩
  · have HE := Kept.mk (show fewL [] m = true from by unfold fewL; simp [hm0])
    go_enter Tryz.func24, Tryz.ntmps24
    go_wp2
    go_loopw [5] (fun i wr => i = .int .i64 0 ∧ Kept (Below w.heap.size w wr)) (fun i _ => 0)
    case atStart => exact ⟨rfl, ⟨Below.refl _ _⟩⟩
    case round =>
      obtain ⟨rfl, B⟩ := hrel
      go_wp2
      go_ret
      exact ⟨by rw [HE.out]; rfl, B.out⟩
  · have HC := Kept.mk hc
    have HK := Kept.mk hk
    clear hc hv hk
    generalize hn : l.length = n at hl
    have hl2 : (n : Int) ≤ 9223372036854775807 := by have : maxLen = 9223372036854775807 := rfl; omega
    go_enter Tryz.func24, Tryz.ntmps24
    go_wp2
    go_loopw [5] (fun i wr => ∃ k : Nat, k ≤ n ∧ (k : Int) ≤ m + 1 ∧ i = .int .i64 (k : Int) ∧ Kept (Below w.heap.size w wr) ∧ Kept (∀ j E, j < k → l[j]? = some E → fewE E = true)) (fun i _ => n - (intOf i).toNat)
    case atStart => exact ⟨0, Nat.zero_le _, by omega, rfl, ⟨Below.refl _ _⟩, ⟨fun j E h => absurd h (Nat.not_lt_zero _)⟩⟩
    case round =>
      obtain ⟨k, hk, hk1, rfl, B, A⟩ := hrel
      by_cases hlt : k < n
      · have hlt' : (k : Int) < (n : Int) := by omega
        by_cases hkm : (k : Int) ≤ m
        · obtain ⟨E, hE⟩ : ∃ E, l[k]? = some E := ⟨_, List.getElem?_eq_getElem (by omega)⟩
          obtain ⟨vp, vm, x0, y0, kc0, kc1, kc2, kc3, kc4, kc5, kc6, kc7, kc8⟩ := (HC.out k E hE).keep B.out hb0 |>.open_
          have X := Kept.mk x0
          have FE := Kept.mk (HK.out E (List.mem_of_getElem? hE))
          have HE := Kept.mk hE
          clear x0 y0 hE
          go_wp2_with fail
          refine (efew_any E _ _ X.out FE.out).mono ?_
          rintro e W1 ⟨rfl, hb⟩
          replace B := Kept.mk (B.out.trans (hb.mono B.out.size))
          clear hb X kc0 kc1 kc2 kc3 kc4 kc5 kc6 kc7 kc8
          cases hok : fewE E with
          | true =>
            have HO := Kept.mk hok
            clear hok
            go_wp2
            go_roundw
            case rel =>
              refine ⟨k + 1, by omega, by omega, by go_num, B, ⟨fun j E' hj h => ?_⟩⟩
              by_cases e : j = k
              · subst e; rw [HE.out] at h; injection h with h; rw [← h]; exact HO.out
              · exact A.out j E' (by omega) h
            case measure => simp [intOf]; omega
          | false =>
            have HR := Kept.mk (show fewL l m = false by unfold fewL; rw [show l.all fewE = false by rw [List.all_eq_false]; exact ⟨E, List.mem_of_getElem? HE.out, by simp [hok]⟩]; simp)
            clear hok
            go_wp2
            go_ret
            exact ⟨by rw [HR.out]; rfl, B.out⟩
        · have HR := Kept.mk (show fewL l m = false by unfold fewL; rw [decide_eq_false (by rw [hn]; omega)]; rfl)
          have hnm : ¬ (n : Int) ≤ m := by omega
          go_wp2
          go_ret
          exact ⟨by rw [HR.out]; rfl, B.out⟩
      · have hlt' : ¬ (k : Int) < (n : Int) := by omega
        have HA : l.all fewE = true := by
          rw [List.all_eq_true]; intro x hx
          obtain ⟨j, hj⟩ := List.getElem?_of_mem hx
          have := (List.getElem?_eq_some_iff.1 hj).1
          exact A.out j x (by omega) hj
        have HR := Kept.mk (show fewL l m = decide ((n : Int) ≤ m) by unfold fewL; rw [HA, Bool.and_true, hn])
        clear HA
        by_cases hnm : (n : Int) ≤ m
        · rw [decide_eq_true hnm] at HR
          go_wp2
          go_ret
          exact ⟨by rw [HR.out]; rfl, B.out⟩
        · rw [decide_eq_false hnm] at HR
          go_wp2
          go_ret
          exact ⟨by rw [HR.out]; rfl, B.out⟩
set_option maxRecDepth 100000 in
set_option maxHeartbeats 2000000 in
theorem afew_any (A : Ar) (v : Value) (w : World) (hv : isAr A v w) (hk : ∀ e ∈ A.slots, e.key.length ≤ maxLen) (hl : A.slots.length ≤ maxLen) (hi0 : A.index.length ≤ maxLen) : Calls Tryz.prog 10 #[v] w fun e w' => e = .returned (.bool (fewA A)) ∧ Below w.heap.size w w' := by
  obtain ⟨vs, vi, rfl, hs, hi⟩ := hv
  obtain ⟨hB, Va⟩ := abox w A vs vi hs hi w.heap.size rfl
  clear hs hi
  obtain ⟨qa, ra, xa, sa, ia, ka0, ka1, ka2⟩ := Va.out.open_
  have SA := Kept.mk sa
  clear xa sa ia
  have HC := Kept.mk (show fewA A = (fewL A.slots 12 && decide ((A.index.length : Int) ≤ 40)) from rfl)
  have hi2 : (A.index.length : Int) ≤ 9223372036854775807 := by have : maxLen = 9223372036854775807 := rfl; omega
  go_enter Tryz.func10, Tryz.ntmps10
  go_wp2_with fail
  refine (entries_any A.slots 12 _ _ SA.out hk hl (by decide) (by decide)).mono ?_
  rintro e W1 ⟨rfl, hb⟩
  replace hB := Kept.mk (hB.out.trans (hb.mono hB.out.size))
  replace Va := Kept.mk (Va.out.keep hb)
  clear hb ka0 ka1 ka2 SA
  cases hr : fewL A.slots 12 with
  | false =>
    rw [hr, Bool.false_and] at HC
    go_wp2
    go_ret
    exact ⟨by rw [HC.out]; rfl, hB.out⟩
  | true =>
    rw [hr, Bool.true_and] at HC
    obtain ⟨qb, rb, xb, sb, ib, kb0, kb1, kb2⟩ := Va.out.open_
    obtain ⟨ba, bc, rfl⟩ := ib.len
    rw [List.length_map] at kb2
    clear xb sb ib
    generalize A.index.length = n at *
    go_wp2
    go_ret
    exact ⟨by rw [HC.out]; rfl, hB.out⟩
end Go.Proofs.YtkjghoomdefbbaaGreatDoor
end
section
namespace Go.Proofs.YtkjghoomdefbbaaGreatDoor
open Go.RowKit Go.ChangeShapes Go.WideShapes
set_option linter.unusedVariables false
set_option linter.unusedSimpArgs false

section
variable {W : World} {H : Type} {enc : TypeId × Value → H} {base : Nat} {spare : Nat → Bool} {held : Bool} {n : Nat}
set_option maxRecDepth 100000 in
set_option maxHeartbeats 2000000 in
theorem open_encells {cs : List Value} {z : DataW H × List MemPlace} (hf0 : DataW.trod enc Tryz.prog W base spare held n 48 cs = some z) :
    ∃ (E : En) (vp vm : Value), cs = [.string ⟨E.key.toArray⟩, .int .i64 E.val.kind, .int .i64 E.val.time, .int .i64 E.val.node, .bool E.val.dead, .string ⟨E.val.text.toArray⟩, vp, vm, .int .u64 (E.val.flags.toNat : Int)] ∧ isCells (E.val.plus.map intC) vp W ∧ isCells (E.val.minus.map intC) vm W ∧ CameE E := by
  obtain ⟨xs0, n0, _, hxe0, hsz, hxl0, hg0⟩ := DataW.trod_struct Tryz.underlying48 hf0
  have hl : cs.length = 9 := hsz.trans (by kernel_rfl)
  match cs, hl with
  | [v8, v0, v1, v2, v3, v4, v5, v6, v7], _ =>
    obtain ⟨z0, ez0⟩ : ∃ y, xs0[0]? = some y := ⟨_, List.getElem?_eq_getElem (by rw [hxl0]; decide)⟩
    obtain ⟨z1, ez1⟩ : ∃ y, xs0[1]? = some y := ⟨_, List.getElem?_eq_getElem (by rw [hxl0]; decide)⟩
    have g8 := hg0 0 _ rfl
    have hf := hg0 1 _ rfl
    have c2 : Tryz.prog.cellsOf 23 = 1 := by kernel_rfl
    have c3 : Tryz.prog.cellsOf 3 = 1 := by kernel_rfl
    have c4 : Tryz.prog.cellsOf 9 = 1 := by kernel_rfl
    have c5 : Tryz.prog.cellsOf 4 = 1 := by kernel_rfl
    have c6 : Tryz.prog.cellsOf 44 = 1 := by kernel_rfl
    have c7 : Tryz.prog.cellsOf 46 = 8 := by kernel_rfl
    have g8a : DataW.trod enc Tryz.prog W base spare held n0 9 (List.take (Tryz.prog.cellsOf 9) [v8, v0, v1, v2, v3, v4, v5, v6, v7]) = xs0[0]? := g8
    have hfa : DataW.trod enc Tryz.prog W base spare held n0 46 (List.take (Tryz.prog.cellsOf 46) [v0, v1, v2, v3, v4, v5, v6, v7]) = xs0[1]? := hf
    rw [ez0, c4] at g8a
    rw [ez1, c7] at hfa
    replace g8 : DataW.trod enc Tryz.prog W base spare held n0 9 [v8] = some z0 := g8a
    replace hf : DataW.trod enc Tryz.prog W base spare held n0 46 [v0, v1, v2, v3, v4, v5, v6, v7] = some z1 := hfa
    obtain ⟨key, h8, _, w8⟩ := DataW.trod_string Tryz.underlying9 g8
    obtain ⟨xs, n, _, hxe, _, hxl, hg⟩ := DataW.trod_struct Tryz.underlying46 hf
    have at_ : ∀ i, i < 8 → ∃ y, xs[i]? = some y := fun i hi => ⟨_, List.getElem?_eq_getElem (by rw [hxl]; exact hi)⟩
    obtain ⟨y0, e0⟩ := at_ 0 (by decide)
    obtain ⟨y1, e1⟩ := at_ 1 (by decide)
    obtain ⟨y2, e2⟩ := at_ 2 (by decide)
    obtain ⟨y3, e3⟩ := at_ 3 (by decide)
    obtain ⟨y4, e4⟩ := at_ 4 (by decide)
    obtain ⟨y5, e5⟩ := at_ 5 (by decide)
    obtain ⟨y6, e6⟩ := at_ 6 (by decide)
    obtain ⟨y7, e7⟩ := at_ 7 (by decide)
    have g0 := hg 0 _ rfl
    have g1 := hg 1 _ rfl
    have g2 := hg 2 _ rfl
    have g3 := hg 3 _ rfl
    have g4 := hg 4 _ rfl
    have g5 := hg 5 _ rfl
    have g6 := hg 6 _ rfl
    have g7 := hg 7 _ rfl
    have q0 : DataW.trod enc Tryz.prog W base spare held n 3 (List.take (Tryz.prog.cellsOf 3) [v0, v1, v2, v3, v4, v5, v6, v7]) = xs[0]? := g0
    rw [e0, c3] at q0
    replace g0 : DataW.trod enc Tryz.prog W base spare held n 3 [v0] = some y0 := q0
    have q1 : DataW.trod enc Tryz.prog W base spare held n 3 (List.take (Tryz.prog.cellsOf 3) [v1, v2, v3, v4, v5, v6, v7]) = xs[1]? := g1
    rw [e1, c3] at q1
    replace g1 : DataW.trod enc Tryz.prog W base spare held n 3 [v1] = some y1 := q1
    have q2 : DataW.trod enc Tryz.prog W base spare held n 3 (List.take (Tryz.prog.cellsOf 3) [v2, v3, v4, v5, v6, v7]) = xs[2]? := g2
    rw [e2, c3] at q2
    replace g2 : DataW.trod enc Tryz.prog W base spare held n 3 [v2] = some y2 := q2
    have q3 : DataW.trod enc Tryz.prog W base spare held n 4 (List.take (Tryz.prog.cellsOf 4) [v3, v4, v5, v6, v7]) = xs[3]? := g3
    rw [e3, c5] at q3
    replace g3 : DataW.trod enc Tryz.prog W base spare held n 4 [v3] = some y3 := q3
    have q4 : DataW.trod enc Tryz.prog W base spare held n 9 (List.take (Tryz.prog.cellsOf 9) [v4, v5, v6, v7]) = xs[4]? := g4
    rw [e4, c4] at q4
    replace g4 : DataW.trod enc Tryz.prog W base spare held n 9 [v4] = some y4 := q4
    have q5 : DataW.trod enc Tryz.prog W base spare held n 23 (List.take (Tryz.prog.cellsOf 23) [v5, v6, v7]) = xs[5]? := g5
    rw [e5, c2] at q5
    replace g5 : DataW.trod enc Tryz.prog W base spare held n 23 [v5] = some y5 := q5
    have q6 : DataW.trod enc Tryz.prog W base spare held n 23 (List.take (Tryz.prog.cellsOf 23) [v6, v7]) = xs[6]? := g6
    rw [e6, c2] at q6
    replace g6 : DataW.trod enc Tryz.prog W base spare held n 23 [v6] = some y6 := q6
    have q7 : DataW.trod enc Tryz.prog W base spare held n 44 (List.take (Tryz.prog.cellsOf 44) [v7]) = xs[7]? := g7
    rw [e7, c6] at q7
    replace g7 : DataW.trod enc Tryz.prog W base spare held n 44 [v7] = some y7 := q7
    obtain ⟨kind, h0, _, w0⟩ := DataW.trod_int Tryz.underlying3 g0
    obtain ⟨time, h1, _, w1⟩ := DataW.trod_int Tryz.underlying3 g1
    obtain ⟨node, h2, _, w2⟩ := DataW.trod_int Tryz.underlying3 g2
    obtain ⟨dead, h3, _⟩ := DataW.trod_bool Tryz.underlying4 g3
    obtain ⟨text, h4, _, w4⟩ := DataW.trod_string Tryz.underlying9 g4
    obtain ⟨plus, hp, hpn, hpw⟩ := open_row g5
    obtain ⟨minus, hm, hmn, hmw⟩ := open_row g6
    obtain ⟨flags, h7, _, w7⟩ := DataW.trod_int Tryz.underlying44 g7
    injection h8 with h8 _
    injection h0 with h0 _
    injection h1 with h1 _
    injection h2 with h2 _
    injection h3 with h3 _
    injection h4 with h4 _
    injection h7 with h7 _
    subst h0 h1 h2 h3 h4 h7 h8
    have b7 := wf_u64 w7
    have f7 : ((UInt64.ofNat flags.toNat).toNat : Int) = flags := by
      rw [UInt64.toNat_ofNat_of_lt' (by show flags.toNat < 18446744073709551616; omega)]
      omega
    refine ⟨⟨key.data.toList, ⟨kind, time, node, dead, text.data.toList, plus, minus, UInt64.ofNat flags.toNat⟩⟩, v5, v6, ?_, hp, hm, ⟨by simpa using w8, ⟨w0, w1, w2, by simpa using w4, hpw, hmw, hpn, hmn⟩⟩⟩
    show [Value.string key, .int .i64 kind, .int .i64 time, .int .i64 node, .bool dead, .string text, v5, v6, .int .u64 flags] = [.string ⟨key.data.toList.toArray⟩, .int .i64 kind, .int .i64 time, .int .i64 node, .bool dead, .string ⟨text.data.toList.toArray⟩, v5, v6, .int .u64 ((UInt64.ofNat flags.toNat).toNat : Int)]
    rw [f7, ← str_eta, ← str_eta]
set_option maxRecDepth 100000 in
set_option maxHeartbeats 2000000 in
theorem open_ens {v : Value} {y : DataW H × List MemPlace} (g : DataW.trod enc Tryz.prog W base spare held n 22 [v] = some y) :
    ∃ l : List En, isEns l v W ∧ l.length ≤ maxLen ∧ ∀ e ∈ l, CameE e := by
  have c9 : Tryz.prog.cellsOf 48 = 9 := by kernel_rfl
  rcases Go.Deep.open_slice Tryz.underlying22 g with ⟨hc, _⟩ | ⟨a, len, cap, m, n', D, Pl, hc, _, hl, hm, hmm, _, hx⟩
  · injection hc with hc _
    subst hc
    exact ⟨[], .inl ⟨rfl, rfl⟩, Nat.zero_le _, (fun s hs => by simp at hs)⟩
  · injection hc with hc _
    subst hc
    have hle : len ≤ m := by rw [hmm]; split <;> omega
    rw [c9] at hx
    haveI : Inhabited En := ⟨⟨[], ⟨0, 0, 0, false, [], [], [], 0⟩⟩⟩
    obtain ⟨f, hf⟩ := Go.Deep.choose_lt (α := En) (n := len) (p := fun i E => (∃ vp vm, (∀ (j : Nat) (x : Value), [.string ⟨E.key.toArray⟩, .int .i64 E.val.kind, .int .i64 E.val.time, .int .i64 E.val.node, .bool E.val.dead, .string ⟨E.val.text.toArray⟩, vp, vm, .int .u64 (E.val.flags.toNat : Int)][j]? = some x → W.cell? (a.add (i * 9 + j)) = some x) ∧ isCells (E.val.plus.map intC) vp W ∧ isCells (E.val.minus.map intC) vm W) ∧ CameE E) (fun i hi => by
      obtain ⟨cs', h1, h2⟩ := hx i (by omega)
      obtain ⟨_, hlen, hcell⟩ := World.cells?_some h1
      obtain ⟨E, vp, vm, rfl, hp, hm', hE⟩ := open_encells h2
      refine ⟨E, ⟨vp, vm, fun j x hj => ?_, hp, hm'⟩, hE⟩
      have hj9 : j < 9 := by have := (List.getElem?_eq_some_iff.1 hj).1; simpa using this
      have := hcell j hj9
      rw [Go.Deep.add_add] at this
      rw [this, hj])
    refine ⟨(List.range len).map f, ?_, by simp; omega, fun e he => ?_⟩
    · cases hlen : len with
      | zero => exact .inr (.inl ⟨a, cap, rfl, rfl⟩)
      | succ k =>
        rw [← hlen]
        obtain ⟨⟨vp, vm, h0, _⟩, _⟩ := hf 0 (by omega)
        have h00 := h0 0 _ rfl
        have e0 : a.add (0 * 9 + 0) = a := by simp [Addr.add]
        rw [e0] at h00
        have ha := spot_none h00
        refine .inr (.inr ⟨a.block, a.off, cap, by rw [← ha]; simp, ?_, fun j E hE => ?_⟩)
        · simp only [World.cell?] at h00
          split at h00
          · rename_i h; exact (Array.getElem?_eq_some_iff.1 h).1
          · simp at h00
        · have hj : j < len := by have := (List.getElem?_eq_some_iff.1 hE).1; simpa using this
          rw [List.getElem?_map, List.getElem?_range hj] at hE
          simp only [Option.map_some, Option.some.injEq] at hE
          subst hE
          obtain ⟨⟨vp, vm, hcj, hp, hm'⟩, _⟩ := hf j hj
          refine ⟨vp, vm, fun k' x hx' => ?_, hp, hm'⟩
          have := hcj k' x hx'
          rw [ha, add_plain] at this
          rw [Nat.add_assoc]
          exact this
    · obtain ⟨i, hi, rfl⟩ := List.mem_map.1 he
      exact (hf i (by simpa using hi)).2
end
structure CameA (A : Ar) : Prop where
  cap : (Lit.int .i64 A.cap).wf = true
  slots : A.slots.length ≤ maxLen
  ents : ∀ e ∈ A.slots, CameE e
  index : A.index.length ≤ maxLen
  idx : ∀ x ∈ A.index, (Lit.int .i64 x).wf = true
theorem CameA.keys {A : Ar} (h : CameA A) : ∀ e ∈ A.slots, e.key.length ≤ maxLen := fun e he => (h.ents e he).key
set_option maxRecDepth 100000 in
set_option maxHeartbeats 2000000 in
theorem open_ar {W : World} {H : Type} {enc : TypeId × Value → H} {base b0 : Nat} {spare : Nat → Bool} {held : Bool} {v : Value} {d : DataW H} {p : List MemPlace} (hv : Value.okWide Tryz.prog W .any b0 25 v)
    (h : DataW.Trod enc Tryz.prog W base spare held 25 v d p) : ∃ A : Ar, isAr A v W ∧ CameA A := by
  obtain ⟨⟨l⟩, rfl, hsz⟩ := okWide_struct Tryz.underlying25 hv
  have hl : l.length = 3 := hsz.trans (by kernel_rfl)
  match l, hl with
  | [v0, v1, v2], _ =>
    obtain ⟨fuel0, hf0⟩ := h
    obtain ⟨xs, n, _, hxe, _, hxl, hg⟩ := DataW.trod_struct Tryz.underlying25 hf0
    have at_ : ∀ i, i < 3 → ∃ y, xs[i]? = some y := fun i hi => ⟨_, List.getElem?_eq_getElem (by rw [hxl]; exact hi)⟩
    obtain ⟨y0, e0⟩ := at_ 0 (by decide)
    obtain ⟨y1, e1⟩ := at_ 1 (by decide)
    obtain ⟨y2, e2⟩ := at_ 2 (by decide)
    have c1 : Tryz.prog.cellsOf 22 = 1 := by kernel_rfl
    have c2 : Tryz.prog.cellsOf 23 = 1 := by kernel_rfl
    have c3 : Tryz.prog.cellsOf 3 = 1 := by kernel_rfl
    have g0 := hg 0 _ rfl
    have g1 := hg 1 _ rfl
    have g2 := hg 2 _ rfl
    have q0 : DataW.trod enc Tryz.prog W base spare held n 3 (List.take (Tryz.prog.cellsOf 3) [v0, v1, v2]) = xs[0]? := g0
    rw [e0, c3] at q0
    replace g0 : DataW.trod enc Tryz.prog W base spare held n 3 [v0] = some y0 := q0
    have q1 : DataW.trod enc Tryz.prog W base spare held n 22 (List.take (Tryz.prog.cellsOf 22) [v1, v2]) = xs[1]? := g1
    rw [e1, c1] at q1
    replace g1 : DataW.trod enc Tryz.prog W base spare held n 22 [v1] = some y1 := q1
    have q2 : DataW.trod enc Tryz.prog W base spare held n 23 (List.take (Tryz.prog.cellsOf 23) [v2]) = xs[2]? := g2
    rw [e2, c2] at q2
    replace g2 : DataW.trod enc Tryz.prog W base spare held n 23 [v2] = some y2 := q2
    obtain ⟨cap, h0, _, w0⟩ := DataW.trod_int Tryz.underlying3 g0
    injection h0 with h0 _
    subst h0
    obtain ⟨sl, hs, hsn, hsc⟩ := open_ens g1
    obtain ⟨ix, hi, hin, hiw⟩ := open_row g2
    exact ⟨⟨cap, sl, ix⟩, ⟨v1, v2, rfl, hs, hi⟩, ⟨w0, hsn, hsc, hin, hiw⟩⟩
set_option maxRecDepth 100000 in
set_option maxHeartbeats 2000000 in
theorem open_el {W : World} {H : Type} {enc : TypeId × Value → H} {base b0 : Nat} {spare : Nat → Bool} {held : Bool} {v : Value} {d : DataW H} {p : List MemPlace} (hv : Value.okWide Tryz.prog W .any b0 22 v)
    (h : DataW.Trod enc Tryz.prog W base spare held 22 v d p) : ∃ l : List En, isEns l v W ∧ l.length ≤ maxLen ∧ ∀ e ∈ l, CameE e := by
  obtain ⟨fuel0, hf0⟩ := h
  have hc : ∃ cs, DataW.trod enc Tryz.prog W base spare held fuel0 22 [v] = some cs := by
    cases v with
    | agg cs =>
      exfalso
      rcases Go.Deep.open_slice Tryz.underlying22 hf0 with ⟨hc, _⟩ | ⟨a, len, cap, m, n', D, Pl, hc, _⟩
      all_goals (simp only [Value.okWide, Tryz.underlying22] at hv; first | (obtain ⟨_, h, _⟩ := hv; cases h) | (rcases hv with h | ⟨_, _, _, h, _⟩ <;> cases h) | cases hv)
    | _ => exact ⟨_, hf0⟩
  obtain ⟨cs, hc⟩ := hc
  exact open_ens hc
end Go.Proofs.YtkjghoomdefbbaaGreatDoor
end
section
namespace Go.Proofs.YtkjghoomdefbbaaGreatDoor
open Go.RowKit
set_option linter.unusedVariables false
set_option linter.unusedSimpArgs false

theorem ga_merge (A : Ar) (L : List En) (G : Ar) (n o : Int) (v u : Value) (w : World) (hv : isAr A v w) (hu : isEns L u w) (hF : FitA A) (hL : ∀ e ∈ L, FitE e) (hLn : L.length ≤ 500) (hG : mergeF A L = G) (hn : (mergeN A L : Int) = n) (ho : (mergeO A L : Int) = o) : Calls Tryz.prog 25 #[v, u] w fun e w' => ∃ v', e = .returned (.tuple #[v', .int .i64 n, .int .i64 o]) ∧ isAr G v' w' ∧ Below w.heap.size w w' := by
  subst hG hn ho; exact amerge_any A L v u w hv hu hF hL hLn
theorem below_bad {A B : Ar} (h : okA A = false ∨ okA B = false) : belowA A B = false := by
  unfold belowA
  rcases h with h | h <;> simp [h]
end Go.Proofs.YtkjghoomdefbbaaGreatDoor
end
section
namespace Go.Proofs.YtkjghoomdefbbaaGreatDoor
open Go.RowKit
set_option linter.unusedVariables false
set_option linter.unusedSimpArgs false
attribute [local irreducible] setN

noncomputable def rck0Ops : Array Oper := regionOf Tryz.f35 1
noncomputable def rck1Ops : Array Oper := regionOf Tryz.f35 1
noncomputable def rck2Ops : Array Oper := regionOf Tryz.f35 1
noncomputable def rck3Ops : Array Oper := regionOf Tryz.f35 1
noncomputable def rck4Ops : Array Oper := regionOf Tryz.f35 1
end Go.Proofs.YtkjghoomdefbbaaGreatDoor
end
section
namespace Go.Proofs.YtkjghoomdefbbaaGreatDoor
open Go.RowKit
set_option linter.unusedVariables false
set_option linter.unusedSimpArgs false
attribute [local irreducible] setN

end Go.Proofs.YtkjghoomdefbbaaGreatDoor
end
section
namespace Go.Proofs.YtkjghoomdefbbaaGreatDoor
open Go.RowKit
set_option linter.unusedVariables false
set_option linter.unusedSimpArgs false
attribute [local irreducible] setN

noncomputable def rd1Ops : Array Oper := regionOf Tryz.f68 2
noncomputable def rd2Ops : Array Oper := regionOf Tryz.f68 4
noncomputable def rd3Ops : Array Oper := regionOf Tryz.f68 5
noncomputable def rpuOps : Array Oper := regionOf Tryz.f36 3
end Go.Proofs.YtkjghoomdefbbaaGreatDoor
end
section
namespace Go.Proofs.YtkjghoomdefbbaaGreatDoor
open Go.RowKit
set_option linter.unusedVariables false
set_option linter.unusedSimpArgs false
attribute [local irreducible] setN

noncomputable def rsm8Ops : Array Oper := regionOf Tryz.f12 8
end Go.Proofs.YtkjghoomdefbbaaGreatDoor
end
section
namespace Go.Proofs.YtkjghoomdefbbaaGreatDoor
open Go.RowKit
set_option linter.unusedVariables false
set_option linter.unusedSimpArgs false
attribute [local irreducible] setN

end Go.Proofs.YtkjghoomdefbbaaGreatDoor
end
section
namespace Go.Proofs.YtkjghoomdefbbaaGreatDoor
open Go.RowKit
set_option linter.unusedVariables false
set_option linter.unusedSimpArgs false
attribute [local irreducible] setN

noncomputable def rin7Ops : Array Oper := regionOf Tryz.f16 7
end Go.Proofs.YtkjghoomdefbbaaGreatDoor
end
section
namespace Go.Proofs.YtkjghoomdefbbaaGreatDoor
open Go.RowKit
set_option linter.unusedVariables false
set_option linter.unusedSimpArgs false

end Go.Proofs.YtkjghoomdefbbaaGreatDoor
end
section
namespace Go.Proofs.YtkjghoomdefbbaaGreatDoor
open Go.RowKit
set_option linter.unusedVariables false
set_option linter.unusedSimpArgs false
attribute [local irreducible] setN

end Go.Proofs.YtkjghoomdefbbaaGreatDoor
end
section
namespace Go.Proofs.YtkjghoomdefbbaaGreatDoor
open Go.RowKit
set_option linter.unusedVariables false
set_option linter.unusedSimpArgs false

def getQ (s : List UInt8) : List Int := if s.length = 16 then sums4 s else [0, 0, 0, 0]
def getQE (s : List UInt8) : Int := if s.length = 16 then 0 else 2
def eqI4 (W : World) : Prop := True
theorem eq_i4 (a b c d : Int) (W : World) : (binOp .eql 26 (.agg #[.int .i64 a, .int .i64 b, .int .i64 c, .int .i64 d]) (.agg #[.int .i64 a, .int .i64 b, .int .i64 c, .int .i64 d])).run Tryz.prog W = .ok (.bool true) W := eql_i4 26 3 a b c d a b c d true Tryz.underlying26 Tryz.underlying3 (by kernel_rfl) (by simp) W
theorem gd_sums (A : Ar) (a b c d : Int) (v : Value) (w : World) (hv : isAr A v w) (hF : FitA A) (h : sumsV A = .agg #[.int .i64 a, .int .i64 b, .int .i64 c, .int .i64 d]) : Calls Tryz.prog 18 #[v] w fun e w' => e = .returned (.agg #[.int .i64 a, .int .i64 b, .int .i64 c, .int .i64 d]) ∧ Below w.heap.size w w' := by
  rw [← h]; exact sums_any A v w hv hF
theorem gd_differ (a b c d e f g h : Int) (m : Nat) (w : World) (hm : dmk a b c d e f g h 4 = m) : Calls Tryz.prog 19 #[.agg #[.int .i64 a, .int .i64 b, .int .i64 c, .int .i64 d], .agg #[.int .i64 e, .int .i64 f, .int .i64 g, .int .i64 h]] w fun E w' => E = .returned (.int .i64 (m : Int)) ∧ Below w.heap.size w w' := by
  subst hm; exact differ_any a b c d e f g h w
end Go.Proofs.YtkjghoomdefbbaaGreatDoor
end
section
namespace Go.Proofs.YtkjghoomdefbbaaGreatDoor
open Go.RowKit
set_option linter.unusedVariables false
set_option linter.unusedSimpArgs false
attribute [local irreducible] setN

theorem resame_val (X Y : En) (z : Bool) (v u : Value) (w : World) (hv : isEn X v w) (hu : isEn Y u w) (hX : FitE X) (hY : FitE Y) (hz : decide (X = Y) = z) : Calls Tryz.prog 38 #[v, u] w fun e w' => ∃ x, e = .returned x ∧ isVal (.bool z) x w' ∧ Below w.heap.size w w' :=
  (resame_any X Y v u w hv hu hX.val hY.val).mono (by rintro e w' ⟨rfl, h⟩; exact ⟨_, rfl, by rw [hz]; rfl, h⟩)
noncomputable def rallOps : Array Oper := regionOf Tryz.f14 6
set_option maxRecDepth 100000 in
set_option maxHeartbeats 2000000 in
theorem rall_region (Q : Exit → Act → World → Prop) (a0 : Act) (w0 : World) (hsz : a0.tmps.size = 27) (k n bs os cs bt ot ct : Nat) (z : Bool) (X Y : En) (xp xm yp ym : Value) (e5 : a0.tmps.getD 5 undef = .int .i64 (k : Int)) (e0 : a0.tmps.getD 0 undef = .slice (some ⟨bs, os, none⟩) n cs) (e1 : a0.tmps.getD 1 undef = .slice (some ⟨bt, ot, none⟩) n ct) (hk : k < n) (hbs : bs < w0.heap.size) (hbt : bt < w0.heap.size) (hxc : ∀ (j : Nat) (x : Value), [.string ⟨X.key.toArray⟩, .int .i64 X.val.kind, .int .i64 X.val.time, .int .i64 X.val.node, .bool X.val.dead, .string ⟨X.val.text.toArray⟩, xp, xm, .int .u64 (X.val.flags.toNat : Int)][j]? = some x → w0.cell? ⟨bs, os + k * 9 + j, none⟩ = some x) (hyc : ∀ (j : Nat) (x : Value), [.string ⟨Y.key.toArray⟩, .int .i64 Y.val.kind, .int .i64 Y.val.time, .int .i64 Y.val.node, .bool Y.val.dead, .string ⟨Y.val.text.toArray⟩, yp, ym, .int .u64 (Y.val.flags.toNat : Int)][j]? = some x → w0.cell? ⟨bt, ot + k * 9 + j, none⟩ = some x) (hxp : isCells (X.val.plus.map intC) xp w0) (hxm : isCells (X.val.minus.map intC) xm w0) (hyp : isCells (Y.val.plus.map intC) yp w0) (hym : isCells (Y.val.minus.map intC) ym w0) (fX : FitE X) (fY : FitE Y) (hz : decide (X = Y) = z)
    (hQ : ∀ (g : Nat → Value) (w : World), g 26 = .bool !z → Below w0.heap.size w0 w → Q .normal { tmps := [17, 18, 19, 20, 21, 22, 23, 24, 25, 26].foldl (fun t s => t.setIfInBounds s (g s)) a0.tmps, defers := a0.defers } w) :
    (Code.region 6 rallOps true).wp Tryz.prog Q a0 w0 := by
  refine wp_region_flow mixed (by rw [hsz]; kernel_rfl) ?_
  rw [show rallOps.size = 10 by kernel_rfl]
  refine ⟨isVal (.slice (some ⟨bs, os, none⟩) n cs), step_move (.tmp 0) (by kernel_rfl) (wanted_none (by kernel_rfl)) (stable_val _) (knows_old 0 (.slice (some ⟨bs, os, none⟩) n cs) (by kernel_rfl) e0), ?_⟩
  refine ⟨isVal (.int .i64 (k : Int)), step_move (.tmp 5) (by kernel_rfl) (wanted_none (by kernel_rfl)) (stable_val _) (knows_old 5 (.int .i64 (k : Int)) (by kernel_rfl) e5), ?_⟩
  refine ⟨isVal (.pointer (some ⟨bs, os + k * 9, none⟩)), step_placeE 22 48 (.tmp 17) (.tmp 18) bs (os) (n) (cs) (k) (os + k * 9) (by kernel_rfl) (wanted_none (by kernel_rfl)) (knows_new (V := isVal (.slice (some ⟨bs, os, none⟩) n cs)) 17 0 (by kernel_rfl) (by kernel_rfl) (by kernel_rfl)) (knows_new (V := isVal (.int .i64 (k : Int))) 18 1 (by kernel_rfl) (by kernel_rfl) (by kernel_rfl)) Tryz.underlying22 (by kernel_rfl) (⟨hk, rfl⟩), ?_⟩
  refine ⟨isVal (.agg #[.string ⟨X.key.toArray⟩, .int .i64 X.val.kind, .int .i64 X.val.time, .int .i64 X.val.node, .bool X.val.dead, .string ⟨X.val.text.toArray⟩, xp, xm, .int .u64 (X.val.flags.toNat : Int)]), step_loadA 48 (.tmp 19) (bs) (os + k * 9) [.string ⟨X.key.toArray⟩, .int .i64 X.val.kind, .int .i64 X.val.time, .int .i64 X.val.node, .bool X.val.dead, .string ⟨X.val.text.toArray⟩, xp, xm, .int .u64 (X.val.flags.toNat : Int)] (by kernel_rfl) (wanted_none (by kernel_rfl)) (knows_new (V := isVal (.pointer (some ⟨bs, os + k * 9, none⟩))) 19 2 (by kernel_rfl) (by kernel_rfl) (by kernel_rfl)) size_en agg_en (⟨hbs, hxc⟩), ?_⟩
  refine ⟨isVal (.slice (some ⟨bt, ot, none⟩) n ct), step_move (.tmp 1) (by kernel_rfl) (wanted_none (by kernel_rfl)) (stable_val _) (knows_old 1 (.slice (some ⟨bt, ot, none⟩) n ct) (by kernel_rfl) e1), ?_⟩
  refine ⟨isVal (.int .i64 (k : Int)), step_move (.tmp 5) (by kernel_rfl) (wanted_none (by kernel_rfl)) (stable_val _) (knows_old 5 (.int .i64 (k : Int)) (by kernel_rfl) e5), ?_⟩
  refine ⟨isVal (.pointer (some ⟨bt, ot + k * 9, none⟩)), step_placeE 22 48 (.tmp 21) (.tmp 22) bt (ot) (n) (ct) (k) (ot + k * 9) (by kernel_rfl) (wanted_none (by kernel_rfl)) (knows_new (V := isVal (.slice (some ⟨bt, ot, none⟩) n ct)) 21 4 (by kernel_rfl) (by kernel_rfl) (by kernel_rfl)) (knows_new (V := isVal (.int .i64 (k : Int))) 22 5 (by kernel_rfl) (by kernel_rfl) (by kernel_rfl)) Tryz.underlying22 (by kernel_rfl) (⟨hk, rfl⟩), ?_⟩
  refine ⟨isVal (.agg #[.string ⟨Y.key.toArray⟩, .int .i64 Y.val.kind, .int .i64 Y.val.time, .int .i64 Y.val.node, .bool Y.val.dead, .string ⟨Y.val.text.toArray⟩, yp, ym, .int .u64 (Y.val.flags.toNat : Int)]), step_loadA 48 (.tmp 23) (bt) (ot + k * 9) [.string ⟨Y.key.toArray⟩, .int .i64 Y.val.kind, .int .i64 Y.val.time, .int .i64 Y.val.node, .bool Y.val.dead, .string ⟨Y.val.text.toArray⟩, yp, ym, .int .u64 (Y.val.flags.toNat : Int)] (by kernel_rfl) (wanted_none (by kernel_rfl)) (knows_new (V := isVal (.pointer (some ⟨bt, ot + k * 9, none⟩))) 23 6 (by kernel_rfl) (by kernel_rfl) (by kernel_rfl)) size_en agg_en (⟨hbt, hyc⟩), ?_⟩
  refine ⟨isVal (.bool z), step_call 38 #[.tmp 20, .tmp 24] #[48, 48] #[.agg #[.string ⟨X.key.toArray⟩, .int .i64 X.val.kind, .int .i64 X.val.time, .int .i64 X.val.node, .bool X.val.dead, .string ⟨X.val.text.toArray⟩, xp, xm, .int .u64 (X.val.flags.toNat : Int)], .agg #[.string ⟨Y.key.toArray⟩, .int .i64 Y.val.kind, .int .i64 Y.val.time, .int .i64 Y.val.node, .bool Y.val.dead, .string ⟨Y.val.text.toArray⟩, yp, ym, .int .u64 (Y.val.flags.toNat : Int)]] (by kernel_rfl) (wanted_none (by kernel_rfl)) (stable_val _) (args2 (.tmp 20) (.tmp 24) (.agg #[.string ⟨X.key.toArray⟩, .int .i64 X.val.kind, .int .i64 X.val.time, .int .i64 X.val.node, .bool X.val.dead, .string ⟨X.val.text.toArray⟩, xp, xm, .int .u64 (X.val.flags.toNat : Int)]) (.agg #[.string ⟨Y.key.toArray⟩, .int .i64 Y.val.kind, .int .i64 Y.val.time, .int .i64 Y.val.node, .bool Y.val.dead, .string ⟨Y.val.text.toArray⟩, yp, ym, .int .u64 (Y.val.flags.toNat : Int)]) (knows_new (V := isVal (.agg #[.string ⟨X.key.toArray⟩, .int .i64 X.val.kind, .int .i64 X.val.time, .int .i64 X.val.node, .bool X.val.dead, .string ⟨X.val.text.toArray⟩, xp, xm, .int .u64 (X.val.flags.toNat : Int)])) 20 3 (by kernel_rfl) (by kernel_rfl) (by kernel_rfl)) (knows_new (V := isVal (.agg #[.string ⟨Y.key.toArray⟩, .int .i64 Y.val.kind, .int .i64 Y.val.time, .int .i64 Y.val.node, .bool Y.val.dead, .string ⟨Y.val.text.toArray⟩, yp, ym, .int .u64 (Y.val.flags.toNat : Int)])) 24 7 (by kernel_rfl) (by kernel_rfl) (by kernel_rfl))) (enters_of Tryz.func38 (by kernel_rfl) rfl) (by intro w' hb; exact resame_val X Y z _ _ w' (en_mk hxp hxm hb) (en_mk hyp hym hb) fX fY hz), ?_⟩
  refine ⟨isVal (.bool !z), step_un .not 4 (.tmp 25) (.bool z) (.bool !z) (by kernel_rfl) (wanted_none (by kernel_rfl)) (knows_new (V := isVal (.bool z)) 25 8 (by kernel_rfl) (by kernel_rfl) (by kernel_rfl)) (fun _ => rfl), ?_⟩
  intro a w hkp hb hd
  rw [kept_of hkp [some 17, some 18, some 19, some 20, some 21, some 22, some 23, some 24, some 25, some 26] [17, 18, 19, 20, 21, 22, 23, 24, 25, 26] (by kernel_rfl) (by decide)]
  have d26 := fdone_of (hd 9 (by rw [show rallOps.size = 10 by kernel_rfl]; decide)) (t := 26) (V := isVal (.bool !z)) (by kernel_rfl) (by kernel_rfl)
  exact hQ (fun s => a.tmps.getD s undef) w d26 hb
set_option maxRecDepth 100000 in
set_option maxHeartbeats 2000000 in
theorem refAll_any (l m : List En) (v u : Value) (w : World) (hv : isEns l v w) (hu : isEns m u w) (hl : l.length ≤ 1000) (hm : m.length ≤ 1000) (fl : ∀ e ∈ l, FitE e) (fm : ∀ e ∈ m, FitE e) : Calls Tryz.prog 14 #[v, u] w fun e w' => e = .returned (.bool (decide (l = m))) ∧ Below w.heap.size w w' := by
  obtain ⟨va, vc, rfl⟩ := hv.len
  obtain ⟨ua, uc, rfl⟩ := hu.len
  by_cases hlen : l.length = m.length
  · have HV := Kept.mk hv
    have HU := Kept.mk hu
    have FL := Kept.mk fl
    have FM := Kept.mk fm
    clear hv hu fl fm
    generalize hn : l.length = n at *
    generalize hmn : m.length = n2 at *
    subst hlen
    have HN := Kept.mk (And.intro hn hmn)
    clear hn hmn
    go_enter Tryz.func14, Tryz.ntmps14
    go_wp2
    go_loopw [5] (fun i wr => ∃ k : Nat, k ≤ n ∧ i = .int .i64 (k : Int) ∧ Kept (Below w.heap.size w wr) ∧ Kept (∀ j, j < k → l[j]? = m[j]?)) (fun i _ => n - (intOf i).toNat)
    case atStart => exact ⟨0, Nat.zero_le _, rfl, ⟨Below.refl _ _⟩, ⟨fun j h => absurd h (Nat.not_lt_zero _)⟩⟩
    case round =>
      obtain ⟨k, hk, rfl, B, A⟩ := hrel
      by_cases hlt : k < n
      · have hlt' : (k : Int) < (n : Int) := by omega
        obtain ⟨X, hX⟩ : ∃ X, l[k]? = some X := ⟨_, List.getElem?_eq_getElem (by have := HN.out.1; omega)⟩
        obtain ⟨Y, hY⟩ : ∃ Y, m[k]? = some Y := ⟨_, List.getElem?_eq_getElem (by have := HN.out.2; omega)⟩
        obtain ⟨bs, os, cs, hvs, hbs, xp, xm, hxc, hxp, hxm⟩ := HV.out.get hX
        injection hvs with h1 hz1 h2
        clear hz1
        subst h1 h2
        obtain ⟨bt, ot, ct, hvt, hbt, yp, ym, hyc, hyp, hym⟩ := HU.out.get hY
        injection hvt with h1 hz1 h2
        clear hz1
        subst h1 h2
        have FX := Kept.mk (FL.out X (List.mem_of_getElem? hX))
        have FY := Kept.mk (FM.out Y (List.mem_of_getElem? hY))
        have HXY := Kept.mk (And.intro hX hY)
        have HXC := Kept.mk hxc
        have HYC := Kept.mk hyc
        obtain ⟨z, hz⟩ : ∃ z, decide (X = Y) = z := ⟨_, rfl⟩
        have HZ := Kept.mk hz
        have hsw := B.out.size
        clear hX hY hz hxc hyc
        go_wp2
        refine rall_region _ _ _ rfl k n bs os vc bt ot uc z X Y xp xm yp ym rfl rfl rfl hlt (by omega) (by omega) (fun j x hx => (B.out.cell (p := ⟨bs, os + k * 9 + j, none⟩) hbs).trans (HXC.out j x hx)) (fun j x hx => (B.out.cell (p := ⟨bt, ot + k * 9 + j, none⟩) hbt).trans (HYC.out j x hx)) (stable_cells _ _ _ _ hxp B.out) (stable_cells _ _ _ _ hxm B.out) (stable_cells _ _ _ _ hyp B.out) (stable_cells _ _ _ _ hym B.out) FX.out FY.out HZ.out ?_
        intro f9 W9 d26 hb9
        simp only [List.foldl_cons, List.foldl_nil, d26]
        generalize f9 17 = y17
        generalize f9 18 = y18
        generalize f9 19 = y19
        generalize f9 20 = y20
        generalize f9 21 = y21
        generalize f9 22 = y22
        generalize f9 23 = y23
        generalize f9 24 = y24
        generalize f9 25 = y25
        clear d26
        simp only [List.setIfInBounds_toArray, List.set_cons_succ, List.set_cons_zero]
        replace B := Kept.mk (B.out.trans (hb9.mono hsw))
        clear hb9
        cases z with
        | true =>
          have HQ := Kept.mk (of_decide_eq_true HZ.out)
          go_wp2
          go_roundw
          case rel =>
            refine ⟨k + 1, by omega, by go_num, B, ⟨fun j hj => ?_⟩⟩
            by_cases e : j = k
            · subst e; rw [HXY.out.1, HXY.out.2, HQ.out]
            · exact A.out j (by omega)
          case measure => simp [intOf]; omega
        | false =>
          have HE := Kept.mk (show decide (l = m) = false from decide_eq_false (fun e => by
            have := HXY.out.1; rw [e, HXY.out.2] at this; injection this with this
            exact (of_decide_eq_false HZ.out) this.symm))
          go_wp2
          go_ret
          exact ⟨by rw [HE.out]; rfl, B.out⟩
      · have hlt' : ¬ (k : Int) < (n : Int) := by omega
        have HE := Kept.mk (show decide (l = m) = true from decide_eq_true (List.ext_getElem? (fun j => by
          by_cases hj : j < k
          · exact A.out j hj
          · rw [List.getElem?_eq_none (by have := HN.out.1; omega), List.getElem?_eq_none (by have := HN.out.2; omega)])))
        go_wp2
        go_ret
        exact ⟨by rw [HE.out]; rfl, B.out⟩
  · have HE := Kept.mk (show decide (l = m) = false from decide_eq_false (fun e => hlen (by rw [e])))
    clear hv hu fl fm
    generalize l.length = n at *
    generalize m.length = n2 at *
    have hl1 : ((n : Int) == (n2 : Int)) = false := by simp; omega
    have hl2 : ((n : Int) != (n2 : Int)) = true := by simp; omega
    go_enter Tryz.func14, Tryz.ntmps14
    go_wp2
    go_ret
    exact ⟨by rw [HE.out]; rfl, Below.refl _ _⟩
end Go.Proofs.YtkjghoomdefbbaaGreatDoor
end
