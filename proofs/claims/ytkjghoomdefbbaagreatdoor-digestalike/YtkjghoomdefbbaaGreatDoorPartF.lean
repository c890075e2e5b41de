/- Joined texts: contracts of the program's functions, and the mathematics that they lean on. -/
import Derived.Test.YtkjghoomdefbbaaGreatDoorPartE
import Derived.SizedLaws
import Derived.SliceStrings
import Derived.Carry
import Derived.WideMake
import Derived.RangeFuncRecord
section
namespace Go.Proofs.YtkjghoomdefbbaaGreatDoor
open Go.RowKit Go.Shelf
set_option linter.unusedVariables false
set_option linter.unusedSimpArgs false
attribute [local irreducible] setN
attribute [local go_sem] Oper.semAt_some

set_option maxRecDepth 100000 in
set_option maxHeartbeats 2000000 in
theorem chunk_new (A : Ar) (at_ n : Int) (v : Value) (w : World) (hv : isAr A v w) (hF : FitA A) : Calls Tryz.prog 71 #[v, .int .i64 at_, .int .i64 n] w fun e W' => ∃ v', e = .returned v' ∧ isEnsN w.heap.size (chunkA A at_ n) v' W' ∧ Below w.heap.size w W' := by
  obtain ⟨vs, vi, rfl, hs, hi⟩ := hv
  by_cases hneg : at_ < 0
  · have e0 : chunkA A at_ n = [] := by unfold chunkA; rw [if_pos hneg]
    have HB := Kept.mk (Blk.new (w.alloc (.cells #[.int .i64 A.cap, vs, vi] 25)) 3 [.int .i64 at_] (w.heap.size + 1) (by simp))
    have HB2 := Kept.mk (HB.out.alloc (.cells #[.int .i64 n] 3))
    have ka := HB2.out.cells.2 0 _ rfl
    have hB0 := Kept.mk (show Below w.heap.size w (((w.alloc (.cells #[.int .i64 A.cap, vs, vi] 25)).alloc (.cells #[.int .i64 at_] 3)).alloc (.cells #[.int .i64 n] 3)) from (((Below.refl _ w).alloc (Nat.le_refl _) _).alloc (by simp) _).alloc (by simp; omega) _)
    clear HB HB2
    rw [e0]
    go_enter Tryz.func71, Tryz.ntmps71
    go_wp2
    go_ret
    first
    | exact ⟨_, rfl, ensN_nil _ _, hB0.out⟩
    | exact ⟨ensN_nil _ _, hB0.out⟩
  have hat : ¬ at_ < 0 := hneg
  refine (callsIn_wide (n := 5)).1 ?_
  refine callsIn_of_wp_marks Tryz.func71 rfl trivial ?_ rfl
  simp only [Tryz.ntmps71, List.size_toArray, List.length_cons, List.length_nil, Nat.reduceAdd, Nat.reduceSub, Array.replicate_succ, Array.replicate_zero, List.push_toArray, List.append_toArray, List.nil_append, List.cons_append]
  gi_wp2_with (refine ⟨trivial, (placec_call _ A vs vi _).mono ?_⟩; rintro e w' ⟨rfl, rfl⟩)
  have f1 := hF.slots
  have hB0 : Below w.heap.size w (((((w.alloc (.cells #[.int .i64 A.cap, vs, vi] 25)).alloc (.cells #[.int .i64 at_] 3)).alloc (.cells #[.int .i64 n] 3)).alloc (.cells #[.slice none 0 0] 22)).alloc (.cells #[.int .i64 A.cap, vs, vi] 25)) := (((((Below.refl _ w).alloc (Nat.le_refl _) _).alloc (by simp) _).alloc (by simp; omega) _).alloc (by simp; omega) _).alloc (by simp; omega) _
  have hIt : ItA A vs vi w w.heap.size (w.heap.size + 1 + 1 + 1 + 1) (((((w.alloc (.cells #[.int .i64 A.cap, vs, vi] 25)).alloc (.cells #[.int .i64 at_] 3)).alloc (.cells #[.int .i64 n] 3)).alloc (.cells #[.slice none 0 0] 22)).alloc (.cells #[.int .i64 A.cap, vs, vi] 25)) := ⟨by simp; omega, by simp, fun b hb => hB0.block b hb, by
    have := heap_alloc_new ((((w.alloc (.cells #[.int .i64 A.cap, vs, vi] 25)).alloc (.cells #[.int .i64 at_] 3)).alloc (.cells #[.int .i64 n] 3)).alloc (.cells #[.slice none 0 0] 22)) (.cells #[.int .i64 A.cap, vs, vi] 25)
    simpa using this⟩
  have hst : Blk (((((w.alloc (.cells #[.int .i64 A.cap, vs, vi] 25)).alloc (.cells #[.int .i64 at_] 3)).alloc (.cells #[.int .i64 n] 3)).alloc (.cells #[.slice none 0 0] 22)).alloc (.cells #[.int .i64 A.cap, vs, vi] 25)) (w.heap.size + 1 + 1 + 1) [.slice none 0 0] := (Blk.new (((w.alloc (.cells #[.int .i64 A.cap, vs, vi] 25)).alloc (.cells #[.int .i64 at_] 3)).alloc (.cells #[.int .i64 n] 3)) 22 [.slice none 0 0] (w.heap.size + 1 + 1 + 1) (by simp)).alloc _
  have hba : Blk (((((w.alloc (.cells #[.int .i64 A.cap, vs, vi] 25)).alloc (.cells #[.int .i64 at_] 3)).alloc (.cells #[.int .i64 n] 3)).alloc (.cells #[.slice none 0 0] 22)).alloc (.cells #[.int .i64 A.cap, vs, vi] 25)) (w.heap.size + 1) [.int .i64 at_] := (((Blk.new (w.alloc (.cells #[.int .i64 A.cap, vs, vi] 25)) 3 [.int .i64 at_] (w.heap.size + 1) (by simp)).alloc _).alloc _).alloc _
  have hbn : Blk (((((w.alloc (.cells #[.int .i64 A.cap, vs, vi] 25)).alloc (.cells #[.int .i64 at_] 3)).alloc (.cells #[.int .i64 n] 3)).alloc (.cells #[.slice none 0 0] 22)).alloc (.cells #[.int .i64 A.cap, vs, vi] 25)) (w.heap.size + 1 + 1) [.int .i64 n] := ((Blk.new ((w.alloc (.cells #[.int .i64 A.cap, vs, vi] 25)).alloc (.cells #[.int .i64 at_] 3)) 3 [.int .i64 n] (w.heap.size + 1 + 1) (by simp)).alloc _).alloc _
  have hI0 : ICk A at_ n w [] (((((w.alloc (.cells #[.int .i64 A.cap, vs, vi] 25)).alloc (.cells #[.int .i64 at_] 3)).alloc (.cells #[.int .i64 n] 3)).alloc (.cells #[.slice none 0 0] 22)).alloc (.cells #[.int .i64 A.cap, vs, vi] 25)) := ⟨.slice none 0 0, [], ⟨hst, World.ownsRow_nil _ _ _ _, (fun q hq => by cases hq), (fun q hq => by cases hq), (fun q hq => by cases hq)⟩, rfl, hB0, by simp, hba, hbn⟩
  have hsz : (((((w.alloc (.cells #[.int .i64 A.cap, vs, vi] 25)).alloc (.cells #[.int .i64 at_] 3)).alloc (.cells #[.int .i64 n] 3)).alloc (.cells #[.slice none 0 0] 22)).alloc (.cells #[.int .i64 A.cap, vs, vi] 25)).heap.size = w.heap.size + 5 := by simp
  try simp only [World.size_alloc] at hIt
  try simp only [World.size_alloc]
  generalize (((((w.alloc (.cells #[.int .i64 A.cap, vs, vi] 25)).alloc (.cells #[.int .i64 at_] 3)).alloc (.cells #[.int .i64 n] 3)).alloc (.cells #[.slice none 0 0] 22)).alloc (.cells #[.int .i64 A.cap, vs, vi] 25)) = W0 at *
  refine wpIn_rangeFunc_ownH rfl (by decide) (gf := 104) (lb := #[.pointer (some ⟨w.heap.size + 1 + 1 + 1 + 1, 0, none⟩)]) rfl trivial (enters_of Tryz.func104 (by kernel_rfl) rfl)
    (placec_stops 4 (by omega) (w.heap.size + 1 + 1 + 1 + 1) A vs vi w W0 hs hi hF hIt) (kpA_t _ _) (kpA_put _ _ _ (by omega) (by omega)) (Below.refl _ _) (fun _ => rfl)
    (ICk A at_ n w) (fun _ _ _ => False) (ick_own A at_ n w _ (by omega)) (fun _ _ _ _ _ hs _ _ => hs) hI0 (AxCk A at_ n vs vi w)
    (fun x a' _ W W' row ⟨h, e, hb, hh, hu⟩ hg hr => ⟨h, e, blk_own (by simp) hb hg hr, hh, fun u hc => hu u (by rw [← hc]; exact (World.cell?_of_block (a := ⟨w.heap.size + 1 + 1 + 1, 0, none⟩) (iall_b1 (b := w.heap.size + 1 + 1 + 1) hg hr hb (by have := hb.lt; omega))).symm)⟩) ?assign ?body ?done ?stop
  case assign =>
    intro l pre x W K hIp hK
    have hp := x.2.2.1
    have hm := x.2.2.2
    obtain ⟨v0, ps0, hO0, _, hBw, hNw, _, _⟩ := id hIp
    obtain ⟨K1, K2, K3, K4, K5⟩ := enew W x.1.2.1 x.1.2.2.1 x.1.2.2.2 (stable_cells _ _ _ _ hp hBw) (stable_cells _ _ _ _ hm hBw) W.heap.size rfl
    have HH := Kept.mk ((Blk.new W 48 [.string ⟨#[]⟩, .int .i64 0, .int .i64 0, .int .i64 0, .bool false, .string ⟨#[]⟩, .slice none 0 0, .slice none 0 0, .int .u64 0] W.heap.size rfl).all_ (l := [.string ⟨x.1.2.1.key.toArray⟩, .int .i64 x.1.2.1.val.kind, .int .i64 x.1.2.1.val.time, .int .i64 x.1.2.1.val.node, .bool x.1.2.1.val.dead, .string ⟨x.1.2.1.val.text.toArray⟩, x.1.2.2.1, x.1.2.2.2, .int .u64 (x.1.2.1.val.flags.toNat : Int)]) rfl)
    have hun : ∀ u, (setN (W.alloc (.cells #[.string ⟨#[]⟩, .int .i64 0, .int .i64 0, .int .i64 0, .bool false, .string ⟨#[]⟩, .slice none 0 0, .slice none 0 0, .int .u64 0] 48)) W.heap.size 0 [.string ⟨x.1.2.1.key.toArray⟩, .int .i64 x.1.2.1.val.kind, .int .i64 x.1.2.1.val.time, .int .i64 x.1.2.1.val.node, .bool x.1.2.1.val.dead, .string ⟨x.1.2.1.val.text.toArray⟩, x.1.2.2.1, x.1.2.2.2, .int .u64 (x.1.2.1.val.flags.toNat : Int)]).cell? ⟨w.heap.size + 1 + 1 + 1, 0, none⟩ = some u → u.ownBlock ≠ some W.heap.size := fun u hc e => by
      have h1 := (K3.out.cell (p := ⟨w.heap.size + 1 + 1 + 1, 0, none⟩) (show w.heap.size + 1 + 1 + 1 < W.heap.size by omega)).symm.trans hc
      rw [hO0.st.cells.2 0 _ rfl] at h1
      injection h1 with h1
      subst h1
      have := (hO0.own.lt _ e).2
      omega
    have hK2 := hK _ _ (keeps_below K3.out) (kpA_below K3.out (by omega) (by omega)) (ick_keep hIp K3.out) ⟨W.heap.size, rfl, HH.out, hNw, hun⟩
    have HK := Kept.mk hK2
    clear hK2 hK hp hm
    simp only [encE]
    gi_wp2_with (have hz0 := K1; refine wpListIn_storeN (fun _ => trivial) 48 rfl (.tmp 9) (.tmp 15) rfl W.heap.size [.string ⟨x.1.2.1.key.toArray⟩, .int .i64 x.1.2.1.val.kind, .int .i64 x.1.2.1.val.time, .int .i64 x.1.2.1.val.node, .bool x.1.2.1.val.dead, .string ⟨x.1.2.1.val.text.toArray⟩, x.1.2.2.1, x.1.2.2.2, .int .u64 (x.1.2.1.val.flags.toNat : Int)] size_en rfl rfl K1.out rfl K2.out K5.out ?_; clear hz0 K1 K2 K5)
    exact HK.out
  case body =>
    rintro l pre x a' W hl _ hIp ⟨h, rfl, hbl, hh, hu⟩ hlt
    obtain ⟨v, ps, hO, hpm, hBw, hNw, hba1, hbn1⟩ := hIp
    obtain ⟨hx1, hx2, hx3⟩ := x.2
    have hps : ps.length ≤ 1000 := by
      have h1 := congrArg List.length hpm
      have h2 := ckL_le at_ n (pre.map (·.1))
      rw [List.length_map] at h1 h2
      omega
    have FE := hF.ents _ (List.mem_of_getElem? hx1)
    have hp := stable_cells _ _ _ _ hx2 hBw
    have hm := stable_cells _ _ _ _ hx3 hBw
    have op := cells_lt hx2
    have om := cells_lt hx3
    have hvs : ∀ s, v.ownBlock = some s → w.heap.size + 5 ≤ s ∧ s < W.heap.size := hO.own.lt
    have hob : ∀ s, v.ownBlock = some s → ∀ o : Obj, W.heap[s]? = some o → o.isCells = true := by
      intro s hs o ho
      obtain ⟨_, ⟨rfl, _⟩ | ⟨g, cap, cur, rfl, _, hg', _⟩⟩ := hO.own
      · cases hs
      · have : g = s := by injection hs
        subst this
        rw [hg'] at ho
        injection ho with ho
        subst ho
        rfl
    have kat := hba1.cells.2 0 _ rfl
    have kn := hbn1.cells.2 0 _ rfl
    have kv := hO.st.cells.2 0 _ rfl
    obtain ⟨va, vc, hve⟩ : ∃ a c, v = .slice a ps.length c := by
      obtain ⟨_, ⟨rfl, h0⟩ | ⟨g, cap, cur, rfl, _⟩⟩ := hO.own
      · exact ⟨_, _, by rw [h0]⟩
      · exact ⟨_, _, rfl⟩
    rw [hve] at kv
    have hpl : (ps.length : Int) = ((ckL at_ n (pre.map (·.1))).length : Int) := by have h1 := congrArg List.length hpm; rw [List.length_map] at h1; omega
    have no : ¬ (at_ ≤ (x.1.1 : Int) ∧ (ps.length : Int) < n) → KeepsFrom (w.heap.size + 5) W W ∧ KpA w.heap.size (w.heap.size + 1 + 1 + 1 + 1) W W ∧ ICk A at_ n w (pre ++ [x]) W := fun hc => ⟨⟨Nat.le_refl _, fun k o _ hk _ => hk⟩, ⟨Nat.le_refl _, fun _ _ => rfl⟩, ⟨v, ps, hO, by rw [hpm, List.map_append]; exact (show ckL at_ n (pre.map (·.1)) = ckL at_ n (pre.map (·.1) ++ [x.1]) by rw [ckL_snoc, ckStep, if_neg (by rw [← hpl]; exact hc)]), hBw, hNw, hba1, hbn1⟩⟩
    by_cases hc1 : at_ ≤ (x.1.1 : Int)
    · by_cases hc2 : (ps.length : Int) < n
      · have hcond : at_ ≤ (x.1.1 : Int) ∧ ((ckL at_ n (pre.map (·.1))).length : Int) < n := ⟨hc1, by rw [← hpl]; exact hc2⟩
        clear no
        gi_wp2_with fail
        refine ckapp_region _ _ _ ?hout rfl (w.heap.size + 1 + 1 + 1) h (w.heap.size + 5) ps.length [v] x.1.2.1 v x.1.2.2.1 x.1.2.2.2 (flatE ps) rfl rfl hO.st rfl hbl hp hm FE hO.own hps hNw (fun s hs => ⟨by have := (hvs s hs).1; omega, fun e => ?hne, op.imp id (fun h2 e => by have := h2 s e; have := (hvs s hs).1; omega), om.imp id (fun h2 e => by have := h2 s e; have := (hvs s hs).1; omega)⟩) ?hfin
        case hout => rintro ⟨a2, w2, hh2⟩; first | exact hh2 | exact hh2.elim | (simp [ownPostG] at hh2) | exact True.intro
        case hne => exact hu v (hO.st.cells.2 0 _ rfl) (by rw [hs, e])
        case hfin =>
          intro y v2 vp vm W2 h1 h2 h3 h4 h5 h6 h7 h8 h9
          have hO2 := hO.push (by omega) hNw x.1.2.1 v2 vp vm h1 h2 h3 h4 h5 h6 h7 h8 h9
          have hB2 := hBw.trans (h9.below (fun b hb => by rcases hb with rfl | hb; (· omega); (· have := (hvs b hb).1; omega)) (by omega))
          have hpost : KeepsFrom W0.heap.size W W2 ∧ KpA w.heap.size (w.heap.size + 1 + 1 + 1 + 1) W W2 ∧ ICk A at_ n w (pre ++ [x]) W2 := by
            refine ⟨⟨h9.size, fun k o hB hk ho => (h9.block k (Array.getElem?_eq_some_iff.1 hk).1 (fun e => ?_)).trans hk⟩, ⟨h9.size, fun b hb => h9.block b (by omega) (fun e => ?_)⟩, ⟨v2, _, hO2, by rw [List.map_append, hpm, List.map_append]; exact (show ckL at_ n (pre.map (·.1)) ++ [x.1.2.1] = ckL at_ n (pre.map (·.1) ++ [x.1]) by rw [ckL_snoc, ckStep, if_pos hcond]), hB2, Nat.le_trans hNw h9.size, h9.blk hba1 (by rintro (e | e); (· omega); (· have := (hvs _ e).1; omega)), h9.blk hbn1 (by rintro (e | e); (· omega); (· have := (hvs _ e).1; omega))⟩⟩
            · rcases e with rfl | e
              · omega
              · rw [hob k e o hk] at ho; cases ho
            · rcases e with e | e
              · omega
              · have := (hvs b e).1; omega
          first | exact hpost | (gi_wp2; exact hpost) | exact True.intro
      · have hpost := no (fun h => hc2 h.2)
        gi_wp2
        exact hpost
    · have hpost := no (fun h => hc1 h.1)
      gi_wp2
      exact hpost
  case done =>
    rintro D ys W hD hys ⟨v, ps, hO, hpm, hBw, hNw, hba1, hbn1⟩ hK
    have hc := hO.st.cells.2 0 _ rfl
    have hen := Kept.mk (show isEnsN w.heap.size (chunkA A at_ n) v (W.putObj D (.deferred none)) by
      have h2 := (out_own (B := W0.heap.size) (by omega) hO (grownBy_putObj' W D (.deferred none)) (fun r e => by cases e; exact ⟨hD, _, hK, rfl⟩)).ensN (N := w.heap.size) (by omega)
      rw [hpm] at h2
      obtain ⟨y1, y2⟩ := hys
      unfold chunkA
      rw [if_neg (by omega)]
      cases hok : okA A with
      | true =>
        rw [hok, if_pos rfl] at y1 y2
        rw [ckL_spec at_ n (by omega) A.slots A.slots.length (ys.map (·.1)) (Nat.le_refl _) (by rw [List.map_map]; exact y1) (by rw [List.map_map, List.take_of_length_le (Nat.le_refl _)]; exact y2), List.take_of_length_le (Nat.le_refl _)] at h2
        exact h2
      | false =>
        rw [hok, if_neg (by decide)] at y1
        have : ys = [] := by have := congrArg List.length y1; simpa using this
        subst this
        exact h2)
    have hbl := Kept.mk (hBw.trans (belowK_b (w := w) (Nat.le_refl _) W D _ (.deferred none) (by omega) hK rfl rfl))
    gi_wp2
    refine ⟨by simp, .inl ⟨_, _, rfl, run_takeDeferred hK, ?_⟩⟩
    exact ⟨_, results_tmp rfl _ _ _, v, rfl, hen.out, hbl.out⟩
  case stop =>
    rintro D c pre W _ _ h _
    exact h.elim
end Go.Proofs.YtkjghoomdefbbaaGreatDoor
end
section
namespace Go.Proofs.YtkjghoomdefbbaaGreatDoor
open Go.RowKit
set_option linter.unusedVariables false
set_option linter.unusedSimpArgs false

section
variable {P : Program} {ops : Array Oper} {base : World} {a0 : Act} {Q : Exit → Act → World → Prop} {s0 : Nat} {ups : List Nat} {kn0 kn1 : Nat → VP}

/-- What is known where: ahead of operation s0, and behind it. -/
def PhaseInv (ops : Array Oper) (base : World) (s0 : Nat) (kn0 kn1 : Nat → VP) (listed : Array Bool) (a : Act) (w : World) : Prop :=
  (listed.getD s0 false = false ∧ Below base.heap.size base w ∧ ∀ j, listed.getD j false = true → FDone ops kn0 a w j) ∨
  (listed.getD s0 false = true ∧ ∃ w1, Below base.heap.size base w1 ∧ Below w1.heap.size w1 w ∧ ∀ j, listed.getD j false = true → FDone ops kn1 a w j)

end
end Go.Proofs.YtkjghoomdefbbaaGreatDoor
end
section
namespace Go.Proofs.YtkjghoomdefbbaaGreatDoor
open Go.RowKit
set_option linter.unusedVariables false
set_option linter.unusedSimpArgs false

def anyV : VP := fun _ _ => True
/-- A new variable of type T, as it was laid down. -/
def isNewS (T : TypeId) (z : List Value) (B : Nat) : VP := fun v w => ∃ g, v = .pointer (some ⟨g, 0, none⟩) ∧ B ≤ g ∧ w.heap[g]? = some (.cells z.toArray T (0, 0))
def isTup2 (K : VP) (e : Value) : VP := fun v w => ∃ x, v = .tuple #[x, e] ∧ K x w
def isTup3 (K : VP) (e f : Value) : VP := fun v w => ∃ x, v = .tuple #[x, e, f] ∧ K x w
section
variable {P : Program} {ops : Array Oper} {base : World} {a0 : Act} {Q : Exit → Act → World → Prop} {kn : Nat → VP} {i : Nat} {K : VP}
end
section
variable {P : Program} {ops : Array Oper} {base : World} {a0 : Act} {Q : Exit → Act → World → Prop} {s0 : Nat} {kn0 kn1 : Nat → VP}
end
end Go.Proofs.YtkjghoomdefbbaaGreatDoor
end
section
namespace Go.Proofs.YtkjghoomdefbbaaGreatDoor
open Go.RowKit
set_option linter.unusedVariables false
set_option linter.unusedSimpArgs false

/-- An arena whose rows are of their types. -/
def isArT (N : Nat) (A : Ar) : VP := fun v w => ∃ vs vi ps, v = .agg #[.int .i64 A.cap, vs, vi] ∧ w.ownsRow N 48 9 vs ps.length (flatE ps) ∧ ps.map (·.1) = A.slots ∧ w.ownsRow N 3 1 vi A.index.length (A.index.map intC) ∧ RowsOk ps w
theorem isArT.ar {N : Nat} {A : Ar} {v : Value} {w : World} (h : isArT N A v w) : isAr A v w := by
  obtain ⟨vs, vi, ps, rfl, h1, h2, h3, h4⟩ := h
  refine ⟨vs, vi, rfl, by rw [← h2]; exact own_ens h1 h4, isOwn.cells (B := N) (e := 3) ?_⟩
  unfold isOwn
  rw [List.length_map]
  exact h3
end Go.Proofs.YtkjghoomdefbbaaGreatDoor
end
section
namespace Go.Proofs.YtkjghoomdefbbaaGreatDoor
open Go.RowKit Go.ChangeShapes Go.WideShapes
set_option linter.unusedVariables false
set_option linter.unusedSimpArgs false

theorem spot_none {w : World} {a : Addr} {v : Value} (h : w.cell? a = some v) : a = ⟨a.block, a.off, none⟩ := by
  obtain ⟨b, o, s⟩ := a
  cases s with
  | none => rfl
  | some s =>
    simp only [World.cell?] at h
    split at h <;> simp at h
theorem add_plain (b o i : Nat) : (⟨b, o, none⟩ : Addr).add i = ⟨b, o + i, none⟩ := by
  by_cases e : i = 0
  · subst e; simp [Addr.add]
  · simp [Addr.add, e]
/-- A row that came in. -/
theorem cells_came {w : World} {a : Addr} {len cap : Nat} (cs : List Value) (hl : cs.length = len) (hc : ∀ (i : Nat) (x : Value), cs[i]? = some x → w.cell? (a.add i) = some x) : isCells cs (.slice (some a) len cap) w := by
  cases cs with
  | nil => subst hl; exact .inr (.inl ⟨a, cap, rfl, rfl⟩)
  | cons x cs =>
    have h0 := hc 0 x rfl
    have e0 : a.add 0 = a := by simp [Addr.add]
    rw [e0] at h0
    have ha := spot_none h0
    rw [ha] at hc ⊢
    subst hl
    refine .inr (.inr ⟨a.block, a.off, cap, rfl, ?_, fun j y hy => ?_⟩)
    · simp only [World.cell?] at h0
      split at h0
      · rename_i h; exact (Array.getElem?_eq_some_iff.1 h).1
      · simp at h0
    · have := hc j y hy
      rwa [add_plain] at this
section
variable {W : World} {H : Type} {enc : TypeId × Value → H} {base : Nat} {spare : Nat → Bool} {held : Bool} {n : Nat}
theorem open_row {v : Value} {y : DataW H × List MemPlace} (g : DataW.trod enc Tryz.prog W base spare held n 23 [v] = some y) :
    ∃ l : List Int, isCells (l.map intC) v W ∧ l.length ≤ maxLen ∧ (∀ x ∈ l, (Lit.int .i64 x).wf = true) := by
  rcases open_ints Tryz.underlying23 Tryz.underlying3 (by kernel_rfl) g with ⟨hc, _⟩ | ⟨a, len, cap, zs, hc, _, hl, hm, hz, hx0, hcell, hs⟩
  · injection hc with hc _
    subst hc
    exact ⟨[], .inl ⟨rfl, rfl⟩, Nat.zero_le _, (fun s hs => by simp at hs)⟩
  · injection hc with hc _
    subst hc
    have hle : len ≤ zs.length := by rw [hz]; split <;> omega
    refine ⟨zs.take len, cells_came _ (by simp; omega) (fun i x hx => ?_), by simp; omega, (fun s h => hs s (List.mem_of_mem_take h))⟩
    have hi : i < len := by have := (List.getElem?_eq_some_iff.1 hx).1; simp at this; omega
    rw [hcell i (by omega)]
    rw [List.getElem?_map, List.getElem?_take, if_pos hi, List.getElem?_eq_getElem (by omega : i < zs.length)] at hx
    simp only [Option.map_some, Option.some.injEq] at hx
    rw [← hx]
    simp [List.getD_eq_getElem?_getD, show i < zs.length by omega, intC]
end
theorem wf_u64 {x : Int} (h : (Lit.int .u64 x).wf = true) : 0 ≤ x ∧ x ≤ 18446744073709551615 := by
  unfold Lit.wf at h
  rw [Bool.and_eq_true] at h
  exact ⟨of_decide_eq_true h.1, of_decide_eq_true h.2⟩
/-- What a value that came in is. -/
structure CameV (A : Va) : Prop where
  kind : (Lit.int .i64 A.kind).wf = true
  time : (Lit.int .i64 A.time).wf = true
  node : (Lit.int .i64 A.node).wf = true
  text : A.text.length ≤ maxLen
  plus : ∀ x ∈ A.plus, (Lit.int .i64 x).wf = true
  minus : ∀ x ∈ A.minus, (Lit.int .i64 x).wf = true
  np : A.plus.length ≤ maxLen
  nm : A.minus.length ≤ maxLen
end Go.Proofs.YtkjghoomdefbbaaGreatDoor
end
section
namespace Go.Proofs.YtkjghoomdefbbaaGreatDoor
open Go.RowKit
set_option linter.unusedVariables false
set_option linter.unusedSimpArgs false
attribute [local irreducible] setN

def noCountB (A : Va) : Bool := decide (A.plus.length + A.minus.length = 0)
def noRegB (A : Va) : Bool := (A.time == 0) && (A.node == 0) && !A.dead && A.text.isEmpty
end Go.Proofs.YtkjghoomdefbbaaGreatDoor
end
section
namespace Go.Proofs.YtkjghoomdefbbaaGreatDoor
open Go.RowKit
set_option linter.unusedVariables false
set_option linter.unusedSimpArgs false

noncomputable def refIntsops : Array Oper := regionOf Tryz.f63 6
set_option maxRecDepth 100000 in
theorem refInts_region (Q : Exit → Act → World → Prop) (a0 : Act) (w0 : World) (hsz : a0.tmps.size = 26) (b1 o1 c1 b2 o2 c2 n j : Nat) (x y : Int) (z : Bool)
    (e0 : a0.tmps.getD 0 undef = .slice (some ⟨b1, o1, none⟩) n c1) (e1 : a0.tmps.getD 1 undef = .slice (some ⟨b2, o2, none⟩) n c2) (e5 : a0.tmps.getD 5 undef = .int .i64 (j : Int)) (hj : j < n)
    (p1 : w0.cell? ⟨b1, o1 + j, none⟩ = some (.int .i64 x)) (l1 : b1 < w0.heap.size) (p2 : w0.cell? ⟨b2, o2 + j, none⟩ = some (.int .i64 y)) (l2 : b2 < w0.heap.size) (hz : (x != y) = z)
    (hQ : ∀ (f : Nat → Value) (w : World), f 25 = .bool z → Below w0.heap.size w0 w → Q .normal { tmps := [17, 18, 19, 20, 21, 22, 23, 24, 25].foldl (fun t s => t.setIfInBounds s (f s)) a0.tmps, defers := a0.defers } w) :
    (Code.region 6 refIntsops true).wp Tryz.prog Q a0 w0 := by
  refine wp_region_flow mixed (by rw [hsz]; kernel_rfl) ?_
  rw [show refIntsops.size = 9 by kernel_rfl]
  refine ⟨isVal (.slice (some ⟨b1, o1, none⟩) n c1), step_move (.tmp 0) (by kernel_rfl) (wanted_none (by kernel_rfl)) (stable_val _) (knows_old 0 (.slice (some ⟨b1, o1, none⟩) n c1) (by kernel_rfl) e0), ?_⟩
  refine ⟨isVal (.int .i64 (j : Int)), step_move (.tmp 5) (by kernel_rfl) (wanted_none (by kernel_rfl)) (stable_val _) (knows_old 5 (.int .i64 (j : Int)) (by kernel_rfl) e5), ?_⟩
  refine ⟨isVal (.pointer (some ⟨b1, o1 + j, none⟩)), step_place 23 3 (.tmp 17) (.tmp 18) b1 o1 n c1 j (by kernel_rfl) (wanted_none (by kernel_rfl)) (knows_new (V := isVal (.slice (some ⟨b1, o1, none⟩) n c1)) 17 0 (by kernel_rfl) (by kernel_rfl) (by kernel_rfl)) (knows_new (V := isVal (.int .i64 (j : Int))) 18 1 (by kernel_rfl) (by kernel_rfl) (by kernel_rfl)) Tryz.underlying23 (by kernel_rfl) hj, ?_⟩
  refine ⟨isVal (.int .i64 x), step_read 3 (.tmp 19) ⟨b1, o1 + j, none⟩ (.int .i64 x) (by kernel_rfl) (wanted_none (by kernel_rfl)) (knows_new (V := isVal (.pointer (some ⟨b1, o1 + j, none⟩))) 19 2 (by kernel_rfl) (by kernel_rfl) (by kernel_rfl)) p1 l1 agg_int, ?_⟩
  refine ⟨isVal (.slice (some ⟨b2, o2, none⟩) n c2), step_move (.tmp 1) (by kernel_rfl) (wanted_none (by kernel_rfl)) (stable_val _) (knows_old 1 (.slice (some ⟨b2, o2, none⟩) n c2) (by kernel_rfl) e1), ?_⟩
  refine ⟨isVal (.int .i64 (j : Int)), step_move (.tmp 5) (by kernel_rfl) (wanted_none (by kernel_rfl)) (stable_val _) (knows_old 5 (.int .i64 (j : Int)) (by kernel_rfl) e5), ?_⟩
  refine ⟨isVal (.pointer (some ⟨b2, o2 + j, none⟩)), step_place 23 3 (.tmp 21) (.tmp 22) b2 o2 n c2 j (by kernel_rfl) (wanted_none (by kernel_rfl)) (knows_new (V := isVal (.slice (some ⟨b2, o2, none⟩) n c2)) 21 4 (by kernel_rfl) (by kernel_rfl) (by kernel_rfl)) (knows_new (V := isVal (.int .i64 (j : Int))) 22 5 (by kernel_rfl) (by kernel_rfl) (by kernel_rfl)) Tryz.underlying23 (by kernel_rfl) hj, ?_⟩
  refine ⟨isVal (.int .i64 y), step_read 3 (.tmp 23) ⟨b2, o2 + j, none⟩ (.int .i64 y) (by kernel_rfl) (wanted_none (by kernel_rfl)) (knows_new (V := isVal (.pointer (some ⟨b2, o2 + j, none⟩))) 23 6 (by kernel_rfl) (by kernel_rfl) (by kernel_rfl)) p2 l2 agg_int, ?_⟩
  refine ⟨isVal (.bool z), step_bin .neq 3 3 (.tmp 20) (.tmp 24) (.int .i64 x) (.int .i64 y) (.bool z) (by kernel_rfl) (wanted_none (by kernel_rfl)) (knows_new (V := isVal (.int .i64 x)) 20 3 (by kernel_rfl) (by kernel_rfl) (by kernel_rfl)) (knows_new (V := isVal (.int .i64 y)) 24 7 (by kernel_rfl) (by kernel_rfl) (by kernel_rfl)) (fun _ => rfl) (neq_int _ _ _ _ _ hz), ?_⟩
  intro a w hkp hb hd
  rw [kept_of hkp ((List.range 9).map fun i => some (i + 17)) [17, 18, 19, 20, 21, 22, 23, 24, 25] (by kernel_rfl) (by decide)]
  exact hQ (fun s => a.tmps.getD s undef) w (fdone_of (hd 8 (by rw [show refIntsops.size = 9 by kernel_rfl]; decide)) (t := 25) (V := isVal (.bool z)) (by kernel_rfl) (by kernel_rfl)) hb
set_option maxRecDepth 20000 in
set_option maxHeartbeats 1000000 in
theorem refInts_any (l m : List (Int)) (v u : Value) (w : World) (hv : isCells (l.map intC) v w) (hu : isCells (m.map intC) u w) (h1 : l.length ≤ 1000000000) (h2 : m.length ≤ 1000000000) :
    Calls Tryz.prog 63 #[v, u] w fun e w' => e = .returned (.bool (decide (l = m))) ∧ Below w.heap.size w w' := by
  by_cases hlen : l.length = m.length
  case neg =>
    obtain ⟨a, cap, rfl⟩ := hv.len
    obtain ⟨b, cap2, rfl⟩ := hu.len
    rw [List.length_map, List.length_map]
    have HN := Kept.mk (show decide (l = m) = false by simp; rintro rfl; exact hlen rfl)
    have d1 : ((l.length : Int) != (m.length : Int)) = true := by simp [bne]; omega
    clear hv hu hlen
    go_enter Tryz.func63, Tryz.ntmps63
    go_wp2
    go_ret
    exact ⟨by rw [HN.out]; rfl, Below.refl _ _⟩
  by_cases h0 : l = []
  · subst h0
    obtain rfl : m = [] := List.eq_nil_of_length_eq_zero (by simpa using hlen.symm)
    obtain ⟨a, cap, rfl⟩ := hv.len
    obtain ⟨b, cap2, rfl⟩ := hu.len
    clear hv hu
    simp only [List.map_nil, List.length_nil]
    go_enter Tryz.func63, Tryz.ntmps63
    go_wp2
    go_loop [5] (fun i => i = .int .i64 0) (fun _ => 0)
    case atStart => rfl
    case round =>
      subst hrel
      go_wp2
      go_ret
      exact ⟨by simp, Below.refl _ _⟩
  · have hl0 : 0 < l.length := List.length_pos_iff.2 h0
    obtain ⟨b1, o1, c1, hv', l1, hc1⟩ := hv.some_ (by simpa using hl0)
    obtain ⟨b2, o2, c2, hu', l2, hc2⟩ := hu.some_ (by rw [List.length_map]; omega)
    rw [List.length_map] at hv' hu'
    subst hv' hu'
    have HM := Kept.mk hlen
    have hmn : m.length = l.length := hlen.symm
    rw [hmn]
    obtain ⟨n, hn⟩ : ∃ n, n = l.length := ⟨_, rfl⟩
    have HN := Kept.mk hn
    rw [← hn] at h1 hl0 ⊢
    have HC1 := Kept.mk hc1
    have HC2 := Kept.mk hc2
    have hB : Below w.heap.size w w := Below.refl _ _
    clear hv hu hlen hmn hn hc1 hc2 h0
    go_enter Tryz.func63, Tryz.ntmps63
    go_wp2
    go_loopw [5] (fun i wr => ∃ j : Nat, j ≤ n ∧ i = .int .i64 (j : Int) ∧ Kept (l.take j = m.take j) ∧ Below w.heap.size w wr) (fun i _ => n - (intOf i).toNat)
    case atStart => exact ⟨0, Nat.zero_le _, rfl, ⟨rfl⟩, hB⟩
    case round =>
      clear hB
      obtain ⟨j, hj, rfl, HT, hB⟩ := hrel
      by_cases hlt : j < n
      · have d1 : decide ((j : Int) < (n : Int)) = true := by simpa using hlt
        have HA := Kept.mk (show j < l.length by rw [← HN.out]; exact hlt)
        have HB := Kept.mk (show j < m.length by rw [← HM.out, ← HN.out]; exact hlt)
        have q1 := Kept.mk ((hB.cell (p := ⟨b1, o1 + j, none⟩) l1).trans (HC1.out j _ (get_map intC l j HA.out)))
        have q2 := Kept.mk ((hB.cell (p := ⟨b2, o2 + j, none⟩) l2).trans (HC2.out j _ (get_map intC m j HB.out)))
        cases hz : (l[j]'HA.out != m[j]'HB.out) with
        | true =>
          have HR := Kept.mk (show decide (l = m) = false by
            simp only [decide_eq_false_iff_not]
            rintro rfl
            simp at hz)
          have HZ := Kept.mk hz
          clear hz
          go_wp2_with fail
          refine refInts_region _ _ _ rfl b1 o1 c1 b2 o2 c2 n j _ _ true rfl rfl rfl hlt q1.out (Nat.lt_of_lt_of_le l1 hB.size) q2.out (Nat.lt_of_lt_of_le l2 hB.size) HZ.out ?_
          clear q1 q2 HZ
          intro f9 W9 hg hb9
          replace hB := hB.trans (hb9.mono hB.size)
          clear hb9
          simp only [List.foldl_cons, List.foldl_nil, hg]
          generalize f9 17 = y17
          generalize f9 18 = y18
          generalize f9 19 = y19
          generalize f9 20 = y20
          generalize f9 21 = y21
          generalize f9 22 = y22
          generalize f9 23 = y23
          generalize f9 24 = y24
          clear hg
          simp only [List.setIfInBounds_toArray, List.set_cons_succ, List.set_cons_zero]
          go_wp2
          go_ret
          exact ⟨by rw [HR.out]; rfl, hB⟩
        | false =>
          have HR := Kept.mk (show l.take (j + 1) = m.take (j + 1) by
            rw [List.take_succ_eq_append_getElem HA.out, List.take_succ_eq_append_getElem HB.out, HT.out]
            simp at hz
            rw [hz])
          have HZ := Kept.mk hz
          clear hz HT
          go_wp2_with fail
          refine refInts_region _ _ _ rfl b1 o1 c1 b2 o2 c2 n j _ _ false rfl rfl rfl hlt q1.out (Nat.lt_of_lt_of_le l1 hB.size) q2.out (Nat.lt_of_lt_of_le l2 hB.size) HZ.out ?_
          clear q1 q2 HZ
          intro f9 W9 hg hb9
          replace hB := hB.trans (hb9.mono hB.size)
          clear hb9
          simp only [List.foldl_cons, List.foldl_nil, hg]
          generalize f9 17 = y17
          generalize f9 18 = y18
          generalize f9 19 = y19
          generalize f9 20 = y20
          generalize f9 21 = y21
          generalize f9 22 = y22
          generalize f9 23 = y23
          generalize f9 24 = y24
          clear hg
          simp only [List.setIfInBounds_toArray, List.set_cons_succ, List.set_cons_zero]
          go_wp2
          go_roundw
          case rel => exact ⟨j + 1, by omega, by go_num, HR, hB⟩
          case measure => simp [intOf]; omega
      · have d1 : decide ((j : Int) < (n : Int)) = false := by simp; omega
        have HR := Kept.mk (show decide (l = m) = true by
          have h := HT.out
          rw [List.take_of_length_le (by rw [← HN.out]; omega), List.take_of_length_le (by rw [← HM.out, ← HN.out]; omega)] at h
          simpa using h)
        go_wp2
        go_ret
        exact ⟨by rw [HR.out]; rfl, hB⟩
end Go.Proofs.YtkjghoomdefbbaaGreatDoor
end
section
namespace Go.Proofs.YtkjghoomdefbbaaGreatDoor
open Go.RowKit
set_option linter.unusedVariables false
set_option linter.unusedSimpArgs false
attribute [local irreducible] setN

theorem same_split2 (A B : Va) : decide (A = B) = ((A.kind == B.kind) && (A.time == B.time) && (A.node == B.node) && (A.dead == B.dead) && (A.text == B.text) && ((A.flags.toNat : Int) == (B.flags.toNat : Int)) && decide (A.plus = B.plus) && decide (A.minus = B.minus)) := by
  rw [same_split]
  generalize (A.kind == B.kind) = a
  generalize (A.time == B.time) = b
  generalize (A.node == B.node) = c
  generalize (A.dead == B.dead) = d
  generalize (A.text == B.text) = e
  generalize decide (A.plus = B.plus) = f
  generalize decide (A.minus = B.minus) = g
  generalize ((A.flags.toNat : Int) == (B.flags.toNat : Int)) = h
  cases a <;> cases b <;> cases c <;> cases d <;> cases e <;> cases f <;> cases g <;> cases h <;> rfl
set_option maxRecDepth 20000 in
set_option maxHeartbeats 2000000 in
theorem rsame_any (A B : Va) (v u : Value) (w : World) (hv : isVa A v w) (hu : isVa B u w) (hA : Fit A) (hC : Fit B) :
    Calls Tryz.prog 69 #[v, u] w fun e w' => e = .returned (.bool (decide (A = B))) ∧ Below w.heap.size w w' := by
  have hv0 := hv
  have hu0 := hu
  obtain ⟨pa, ma, rfl, hpa, hma⟩ := hv
  obtain ⟨pb, mb, rfl, hpb, hmb⟩ := hu
  obtain ⟨hB, Va⟩ := vbox w A pa ma hpa hma (w.heap.size) (by simp)
  obtain ⟨hBn, Vb⟩ := vbox (w.alloc (.cells #[.int .i64 A.kind, .int .i64 A.time, .int .i64 A.node, .bool A.dead, .string ⟨A.text.toArray⟩, pa, ma, .int .u64 (A.flags.toNat : Int)] 46)) B pb mb (stable_cells _ _ _ _ hpb hB.out) (stable_cells _ _ _ _ hmb hB.out) (w.heap.size + 1) (by simp)
  replace Va := Kept.mk (Va.out.keep hBn.out)
  replace hB := Kept.mk (hB.out.trans (hBn.out.mono hB.out.size))
  clear hBn
  clear hpa hma hpb hmb
  have HS := Kept.mk (same_split2 A B)
  have HA0 := Kept.mk (va_grow hv0 hB.out)
  have HU0 := Kept.mk (va_grow hu0 hB.out)
  clear hv0 hu0
  cases d0 : (A.kind == B.kind) with
  | false =>
    go_enter Tryz.func69, Tryz.ntmps69
    go_wp2
    all_goals go_ret
    all_goals exact ⟨by rw [HS.out, d0]; rfl, hB.out⟩
  | true =>
    cases d1 : (A.time == B.time) with
    | false =>
      go_enter Tryz.func69, Tryz.ntmps69
      go_wp2
      all_goals go_ret
      all_goals exact ⟨by rw [HS.out, d0, d1]; rfl, hB.out⟩
    | true =>
      cases d2 : (A.node == B.node) with
      | false =>
        go_enter Tryz.func69, Tryz.ntmps69
        go_wp2
        all_goals go_ret
        all_goals exact ⟨by rw [HS.out, d0, d1, d2]; rfl, hB.out⟩
      | true =>
        cases d3 : (A.dead == B.dead) with
        | false =>
          go_enter Tryz.func69, Tryz.ntmps69
          go_wp2
          all_goals go_ret
          all_goals exact ⟨by rw [HS.out, d0, d1, d2, d3]; rfl, hB.out⟩
        | true =>
          cases d4 : (A.text == B.text) with
          | false =>
            go_enter Tryz.func69, Tryz.ntmps69
            go_wp2
            all_goals go_ret
            all_goals exact ⟨by rw [HS.out, d0, d1, d2, d3, d4]; rfl, hB.out⟩
          | true =>
            cases d5 : ((A.flags.toNat : Int) == (B.flags.toNat : Int)) with
            | false =>
              go_enter Tryz.func69, Tryz.ntmps69
              go_wp2
              all_goals go_ret
              all_goals exact ⟨by rw [HS.out, d0, d1, d2, d3, d4, d5]; rfl, hB.out⟩
            | true =>
              go_enter Tryz.func69, Tryz.ntmps69
              go_wp2_with fail
              generalize (w.alloc (.cells #[.int .i64 A.kind, .int .i64 A.time, .int .i64 A.node, .bool A.dead, .string ⟨A.text.toArray⟩, pa, ma, .int .u64 (A.flags.toNat : Int)] 46)).alloc (.cells #[.int .i64 B.kind, .int .i64 B.time, .int .i64 B.node, .bool B.dead, .string ⟨B.text.toArray⟩, pb, mb, .int .u64 (B.flags.toNat : Int)] 46) = W0 at *
              obtain ⟨_, _, e1, e2, e3⟩ := HA0.out
              obtain ⟨_, _, e4, e5, e6⟩ := HU0.out
              cases e1
              cases e4
              ((with_reducible refine (refInts_any A.plus B.plus _ _ _ e2 e5 (by have := hA.plus; omega) (by have := hC.plus; omega)).mono ?_); rintro e W1 ⟨rfl, hb1⟩)
              replace hB := Kept.mk (hB.out.trans ((hb1).mono hB.out.size))
              replace Va := Kept.mk (Va.out.keep (hb1))
              replace Vb := Kept.mk (Vb.out.keep (hb1))
              clear hb1 e2 e3 e5 e6 HA0 HU0
              cases d6 : decide (A.plus = B.plus) with
              | false =>
                go_wp2
                all_goals go_ret
                all_goals exact ⟨by rw [HS.out, d0, d1, d2, d3, d4, d5, d6]; rfl, hB.out⟩
              | true =>
                obtain ⟨qa, ra, -, -, ma2, ka0, ka1, ka2, ka3, ka4, ka5, ka6, ka7⟩ := Va.out.open_
                obtain ⟨qb, rb, -, -, mb2, kb0, kb1, kb2, kb3, kb4, kb5, kb6, kb7⟩ := Vb.out.open_
                go_wp2_with fail
                ((with_reducible refine (refInts_any A.minus B.minus _ _ _ ma2.out mb2.out (by have := hA.minus; omega) (by have := hC.minus; omega)).mono ?_); rintro e W2 ⟨rfl, hb1⟩)
                clear ma2 mb2 ka0 ka1 ka2 ka3 ka4 ka5 ka6 ka7 kb0 kb1 kb2 kb3 kb4 kb5 kb6 kb7
                replace hB := Kept.mk (hB.out.trans ((hb1).mono hB.out.size))
                replace Va := Kept.mk (Va.out.keep (hb1))
                replace Vb := Kept.mk (Vb.out.keep (hb1))
                clear hb1
                obtain ⟨z, hz⟩ : ∃ z, z = decide (A.minus = B.minus) := ⟨_, rfl⟩
                rw [← hz] at HS ⊢
                clear hz
                go_wp2
                all_goals go_ret
                all_goals exact ⟨by rw [HS.out, d0, d1, d2, d3, d4, d5, d6]; rfl, hB.out⟩
end Go.Proofs.YtkjghoomdefbbaaGreatDoor
end
section
namespace Go.Proofs.YtkjghoomdefbbaaGreatDoor
open Go.RowKit
set_option linter.unusedVariables false
set_option linter.unusedSimpArgs false
attribute [local irreducible] setN

set_option maxRecDepth 100000 in
set_option maxHeartbeats 2000000 in
theorem resame_any (A B : En) (v u : Value) (w : World) (hv : isEn A v w) (hu : isEn B u w) (hA : Fit A.val) (hF : Fit B.val) : Calls Tryz.prog 38 #[v, u] w fun e w' => e = .returned (.bool (decide (A = B))) ∧ Below w.heap.size w w' := by
  have HS := Kept.mk (same_en A B)
  obtain ⟨pa, ma, rfl, hpa, hma⟩ := hv
  obtain ⟨pb, mb, rfl, hpb, hmb⟩ := hu
  obtain ⟨hB, Va⟩ := ebox w A pa ma hpa hma (w.heap.size) (by simp)
  obtain ⟨hBn, Vb⟩ := ebox (w.alloc (.cells #[.string ⟨A.key.toArray⟩, .int .i64 A.val.kind, .int .i64 A.val.time, .int .i64 A.val.node, .bool A.val.dead, .string ⟨A.val.text.toArray⟩, pa, ma, .int .u64 (A.val.flags.toNat : Int)] 48)) B pb mb (stable_cells _ _ _ _ hpb hB.out) (stable_cells _ _ _ _ hmb hB.out) (w.heap.size + 1) (by simp)
  replace Va := Kept.mk (Va.out.keep hBn.out)
  replace hB := Kept.mk (hB.out.trans (hBn.out.mono hB.out.size))
  clear hBn
  clear hpa hma hpb hmb
  obtain ⟨qa, ra, xa, ya, ka0, ka1, ka2, ka3, ka4, ka5, ka6, ka7, ka8⟩ := Va.out.open_
  have Xa := Kept.mk xa
  have Ya := Kept.mk ya
  clear xa ya
  obtain ⟨qb, rb, xb, yb, kb0, kb1, kb2, kb3, kb4, kb5, kb6, kb7, kb8⟩ := Vb.out.open_
  have Xb := Kept.mk xb
  have Yb := Kept.mk yb
  clear xb yb
  cases hk : (A.key == B.key) with
  | false =>
    go_enter Tryz.func38, Tryz.ntmps38
    go_wp2
    go_ret
    exact ⟨by rw [HS.out, hk]; rfl, hB.out⟩
  | true =>
    have HK := Kept.mk hk
    go_enter Tryz.func38, Tryz.ntmps38
    go_wp2_with fail
    refine (rsame_any A.val B.val _ _ _ Ya.out Yb.out hA hF).mono ?_
    rintro e W1 ⟨rfl, hb1⟩
    replace hB := Kept.mk (hB.out.trans (hb1.mono hB.out.size))
    clear hb1 Xa Xb Ya Yb Va Vb ka0 ka1 ka2 ka3 ka4 ka5 ka6 ka7 ka8 kb0 kb1 kb2 kb3 kb4 kb5 kb6 kb7 kb8
    generalize hz : decide (A.val = B.val) = z
    have HV := Kept.mk hz
    clear hz
    go_wp2
    go_ret
    exact ⟨by rw [HS.out, HK.out, HV.out]; rfl, hB.out⟩
end Go.Proofs.YtkjghoomdefbbaaGreatDoor
end
section
namespace Go.Proofs.YtkjghoomdefbbaaGreatDoor
open Go.RowKit
set_option linter.unusedVariables false
set_option linter.unusedSimpArgs false
attribute [local irreducible] setN

/-- An entry whose rows, if it has any, are new. -/
def isEnR (B : Nat) (E : En) : VP := fun v w => ∃ vp vm, v = .agg #[.string ⟨E.key.toArray⟩, .int .i64 E.val.kind, .int .i64 E.val.time, .int .i64 E.val.node, .bool E.val.dead, .string ⟨E.val.text.toArray⟩, vp, vm, .int .u64 (E.val.flags.toNat : Int)] ∧ isCells (E.val.plus.map intC) vp w ∧ isCells (E.val.minus.map intC) vm w ∧ (E.val.plus ≠ [] → NewB B vp) ∧ (E.val.minus ≠ [] → NewB B vm)
theorem isEnR.en {B : Nat} {E : En} {v : Value} {w : World} (h : isEnR B E v w) : isEn E v w := let ⟨p, m, e, h1, h2, _, _⟩ := h; ⟨p, m, e, h1, h2⟩
theorem isEnR.low {B B' : Nat} {E : En} {v : Value} {w : World} (h : isEnR B E v w) (hB : B' ≤ B) : isEnR B' E v w := let ⟨p, m, e, h1, h2, h3, h4⟩ := h; ⟨p, m, e, h1, h2, fun x => (h3 x).low hB, fun x => (h4 x).low hB⟩
structure JS3 (w W : World) (A B : En) (pa ma pb mb : Value) : Prop where
  hb : Below w.heap.size w W
  a : Blk W w.heap.size [.string ⟨A.key.toArray⟩, .int .i64 A.val.kind, .int .i64 A.val.time, .int .i64 A.val.node, .bool A.val.dead, .string ⟨A.val.text.toArray⟩, pa, ma, .int .u64 (A.val.flags.toNat : Int)]
  b : Blk W (w.heap.size + 1) [.string ⟨B.key.toArray⟩, .int .i64 B.val.kind, .int .i64 B.val.time, .int .i64 B.val.node, .bool B.val.dead, .string ⟨B.val.text.toArray⟩, pb, mb, .int .u64 (B.val.flags.toNat : Int)]
  r : Blk W (w.heap.size + 1 + 1) [.string ⟨#[]⟩, .int .i64 0, .int .i64 0, .int .i64 0, .bool false, .string ⟨#[]⟩, .slice none 0 0, .slice none 0 0, .int .u64 0]
theorem JS3.keep {w W W' : World} {A B : En} {pa ma pb mb : Value} (h : JS3 w W A B pa ma pb mb) (k : Below W.heap.size W W') : JS3 w W' A B pa ma pb mb :=
  ⟨h.hb.trans (k.mono h.hb.size), h.a.keep k, h.b.keep k, h.r.keep k⟩
end Go.Proofs.YtkjghoomdefbbaaGreatDoor
end
section
namespace Go.Proofs.YtkjghoomdefbbaaGreatDoor
open Go.RowKit
set_option linter.unusedVariables false
set_option linter.unusedSimpArgs false
attribute [local irreducible] setN

def VarR (B : Nat) (w : World) (g : Nat) (J : En) : Prop := ∃ vp vm, CellsN w g [.string ⟨J.key.toArray⟩, .int .i64 J.val.kind, .int .i64 J.val.time, .int .i64 J.val.node, .bool J.val.dead, .string ⟨J.val.text.toArray⟩, vp, vm, .int .u64 (J.val.flags.toNat : Int)] ∧ isCells (J.val.plus.map intC) vp w ∧ isCells (J.val.minus.map intC) vm w ∧ (J.val.plus ≠ [] → NewB B vp) ∧ (J.val.minus ≠ [] → NewB B vm)
theorem VarR.keep {B : Nat} {w w' : World} {g : Nat} {J : En} (h : VarR B w g J) (hb : Below w.heap.size w w') : VarR B w' g J :=
  let ⟨vp, vm, hc, hp, hm, np, nm⟩ := h; ⟨vp, vm, hc.keep hb hc.1, stable_cells _ _ _ _ hp hb, stable_cells _ _ _ _ hm hb, np, nm⟩
theorem OutV.slot {N : Nat} {v : Value} {ps : RowE} {w : World} (h : OutV N v ps w) {q : Nat} (hq : q < ps.length) : ∃ s cap cur, v = .slice (some ⟨s, 0, none⟩) ps.length cap ∧ w.heap[s]? = some (.cells cur 48 (0, 0)) ∧ cur.size = cap * 9 ∧ ps.length ≤ cap ∧ cap ≤ maxLen ∧ cur.toList.take (ps.length * 9) = flatE ps ∧ N ≤ s ∧ s < w.heap.size := by
  obtain ⟨_, ⟨_, h0⟩ | ⟨s, cap, cur, hv, hB, hg, hn, hc, hcs, ht⟩⟩ := h.own
  · omega
  · exact ⟨s, cap, cur, hv, hg, hcs, hn, hc, ht, hB, (Array.getElem?_eq_some_iff.1 hg).1⟩
set_option maxHeartbeats 1000000 in
theorem OutV.set {N : Nat} {w : World} {ps : RowE} {s cap q : Nat} {cur : Array Value} (J : En) (jp jm : Value) (h : OutV N (.slice (some ⟨s, 0, none⟩) ps.length cap) ps w) (hg : w.heap[s]? = some (.cells cur 48 (0, 0))) (hcs : cur.size = cap * 9) (hn : ps.length ≤ cap) (hc : cap ≤ maxLen) (ht : cur.toList.take (ps.length * 9) = flatE ps) (hB : N ≤ s) (hq : q < ps.length)
    (hp : isCells (J.val.plus.map intC) jp w) (hm : isCells (J.val.minus.map intC) jm w) (o : OffQ s (J, jp, jm)) : OutV N (.slice (some ⟨s, 0, none⟩) ps.length cap) (ps.set q (J, jp, jm)) (setN w s (q * 9) (enL J jp jm)) := by
  have bt := bt_setN (S := fun b => b = s) rfl (enL J jp jm) (q * 9) w
  have offs : ∀ p ∈ ps, OffQ s p := fun p hp => h.off p hp s rfl
  have hcur := heap_setCells (enL J jp jm) (q * 9) w cur hg
  rw [← setN_cells] at hcur
  refine ⟨⟨by rw [flatE_length, List.length_set], .inr ⟨s, cap, _, by rw [List.length_set], hB, hcur, by rw [List.length_set]; exact hn, hc, by rw [setL_size, hcs], ?_⟩⟩, ?_, ?_⟩
  · rw [List.length_set]
    apply List.ext_getElem?
    intro t
    by_cases htl : t < ps.length * 9
    · rw [List.getElem?_take_of_lt htl, Array.getElem?_toList, setL_get, flatE_set ps q _ hq]
      have h9 : (enL J jp jm).length = 9 := rfl
      have hm9 : ps.length * 9 ≤ cap * 9 := Nat.mul_le_mul_right _ hn
      by_cases h2 : q * 9 ≤ t ∧ t < q * 9 + 9
      · rw [if_pos (by omega), if_pos h2]
      · rw [if_neg (by omega), if_neg h2, ← ht, List.getElem?_take_of_lt htl, Array.getElem?_toList]
    · rw [List.getElem?_eq_none (by simp; omega), List.getElem?_eq_none (by rw [flatE_length, List.length_set]; omega)]
  · intro p hp'
    rcases List.mem_or_eq_of_mem_set hp' with hp' | rfl
    · obtain ⟨r1, r2⟩ := h.rows p hp'
      obtain ⟨o1, o2⟩ := offs p hp'
      exact ⟨bt.cells r1 (o1.imp id (fun h b hb e => h (by rw [hb, e]))), bt.cells r2 (o2.imp id (fun h b hb e => h (by rw [hb, e])))⟩
    · obtain ⟨o1, o2⟩ := o
      exact ⟨bt.cells hp (o1.imp id (fun h b hb e => h (by rw [hb, e]))), bt.cells hm (o2.imp id (fun h b hb e => h (by rw [hb, e])))⟩
  · intro p hp' b hb
    have e : some s = some b := hb
    injection e with e
    subst e
    rcases List.mem_or_eq_of_mem_set hp' with hp' | rfl
    · exact offs p hp'
    · exact o
end Go.Proofs.YtkjghoomdefbbaaGreatDoor
end
section
namespace Go.Proofs.YtkjghoomdefbbaaGreatDoor
open Go Go.RowKit Go.Shelf
set_option linter.unusedVariables false
set_option linter.unusedSimpArgs false
attribute [local irreducible] setN
attribute [local go_sem] Oper.semAt_some

/-- An element: a slot, its rows, and which blocks are the iterator's own. -/
abbrev Elb := En × Value × Value × Nat × Nat
def encBk (x : Elb) : Array Value := #[.int .i64 (bkE x.1 : Int), .agg #[.string ⟨x.1.key.toArray⟩, .int .i64 x.1.val.kind, .int .i64 x.1.val.time, .int .i64 x.1.val.node, .bool x.1.val.dead, .string ⟨x.1.val.text.toArray⟩, x.2.1, x.2.2.1, .int .u64 (x.1.val.flags.toNat : Int)]]
def KpB (x : Elb) (W W' : World) : Prop := W.heap.size ≤ W'.heap.size ∧ ∀ b, x.2.2.2.1 ≤ b → b < x.2.2.2.2 → (∃ o : Obj, W.heap[b]? = some o ∧ o.isCells = true) → W'.heap[b]? = W.heap[b]?
theorem kpB_t {x : Elb} {A B C : World} (h : KpB x A B) (k : KpB x B C) : KpB x A C :=
  ⟨Nat.le_trans h.1 k.1, fun b h1 h2 ⟨o, ho, hc⟩ => (k.2 b h1 h2 ⟨o, (h.2 b h1 h2 ⟨o, ho, hc⟩).trans ho, hc⟩).trans (h.2 b h1 h2 ⟨o, ho, hc⟩)⟩
theorem kpB_put {B0 : Nat} (x : Elb) (W : World) (l : Nat) (o o' : Obj) (_ : B0 ≤ l) (hl : W.heap[l]? = some o) (ho : o.isCells = false) (_ : o.isWalk = false) : KpB x W (W.putObj l o') := by
  refine ⟨by simp, fun b _ _ ⟨o2, h2, hc⟩ => World.putObj_heap_other (fun e => ?_)⟩
  subst e
  rw [hl] at h2
  injection h2 with h2
  rw [h2, hc] at ho
  cases ho
theorem kpB_below {x : Elb} {W W' : World} (h : Below W.heap.size W W') : KpB x W W' :=
  ⟨h.size, fun b _ _ ⟨o, ho, _⟩ => h.block b (Array.getElem?_eq_some_iff.1 ho).1⟩
theorem kpB_blk {x : Elb} {W W' : World} (h : W.heap.size ≤ W'.heap.size) (hb : ∀ b, x.2.2.2.1 ≤ b → b < x.2.2.2.2 → b < W.heap.size → W'.heap[b]? = W.heap[b]?) : KpB x W W' :=
  ⟨h, fun b h1 h2 ⟨o, ho, _⟩ => hb b h1 h2 (Array.getElem?_eq_some_iff.1 ho).1⟩
theorem kpB_cells {x : Elb} {W W' : World} (h : KpB x W W') {cs : List Value} {v : Value} (hc : isCells cs v W) (hn : NewB x.2.2.2.1 v) (hu : W.heap.size ≤ x.2.2.2.2) : isCells cs v W' := by
  rcases hc with h1 | h1 | ⟨b, off, cap, e, hlt, hcc⟩
  · exact .inl h1
  · exact .inr (.inl h1)
  · refine .inr (.inr ⟨b, off, cap, e, Nat.lt_of_lt_of_le hlt h.1, fun j y hy => ?_⟩)
    have hx := hcc j y hy
    have hob : ∃ o : Obj, W.heap[b]? = some o ∧ o.isCells = true := by
      obtain ⟨o, ho⟩ : ∃ o, W.heap[b]? = some o := ⟨_, Array.getElem?_eq_getElem hlt⟩
      exact ⟨o, ho, cell_cells hx ho⟩
    rw [World.cell?_of_block (a := ⟨b, off + j, none⟩) (h.2 b (hn b (by rw [e]; rfl)) (Nat.lt_of_lt_of_le hlt hu) hob)]
    exact hx
/-- What is known of an element at its yield. -/
structure PxB (L : List En) (B0 : Nat) (pre : List Elb) (x : Elb) (W : World) : Prop where
  at_ : L[pre.length]? = some x.1
  rp : isCells (x.1.val.plus.map intC) x.2.1 W
  rm : isCells (x.1.val.minus.map intC) x.2.2.1 W
  np : NewB x.2.2.2.1 x.2.1
  nm : NewB x.2.2.2.1 x.2.2.1
  up : x.1.val.plus.map intC = [] ∨ ∀ b, blk x.2.1 = some b → b < x.2.2.2.2
  um : x.1.val.minus.map intC = [] ∨ ∀ b, blk x.2.2.1 = some b → b < x.2.2.2.2
  one : ∀ y ∈ pre, y.2.2.2 = x.2.2.2
  lo : B0 ≤ x.2.2.2.1
  hi : x.2.2.2.2 ≤ W.heap.size
def SB (L : List En) (xs : List Elb) : Prop := xs.map (·.1) = L
def SpB (L : List En) (xs : List Elb) : Prop := ∃ k, xs.map (·.1) = L.take k
def PostB (L : List En) (J Jx : List Elb → World → Prop) (W' : World) : Prop := (∃ xs, SB L xs ∧ J xs W') ∨ (∃ pre, SpB L pre ∧ Jx pre W')
theorem abideB {J : List Elb → World → Prop} {B : Nat} (h : AbidesFrom B J) {p : List Elb} {W W' : World} (hJ : J p W) (hb : Below W.heap.size W W') : J p W' := h p W W' none hJ ⟨hb.os, hb.tape, hb.output, hb.size, fun k hk _ => hb.block k hk⟩ (fun r e => by cases e)
theorem chunk_len {A : Ar} (hF : FitA A) (a n : Int) : (chunkA A a n).length ≤ 1000 := by
  have := hF.slots
  unfold chunkA
  split
  · decide
  · split
    · simp only [List.length_take, List.length_drop]; omega
    · decide
theorem chunk_ok {A : Ar} {a n : Int} {e : En} (h : e ∈ chunkA A a n) : okE e = true := by
  unfold chunkA at h
  split at h
  · cases h
  · split at h
    · rename_i h2; exact (okA_iff.1 h2).ents e (List.mem_of_mem_drop (List.mem_of_mem_take h))
    · cases h
theorem okE_key {e : En} (h : okE e = true) : e.key.length ≤ 8 := by
  unfold okE at h
  simp only [Bool.and_eq_true, decide_eq_true_eq] at h
  exact h.1.2
theorem take_b {L : List En} {p : List Elb} {k : Nat} {E : En} (hp : p.map (·.1) = L.take k) (hE : L[k]? = some E) (ep em : Value) (m n : Nat) : (p ++ [(E, ep, em, m, n)]).map (·.1) = L.take (k + 1) := by
  rw [List.map_append, hp, List.take_add_one, hE]; rfl
set_option maxRecDepth 100000 in
set_option maxHeartbeats 2000000 in
theorem by1_in (m : Nat) (hm : 1 ≤ m) (Bs : Nat) (A : Ar) (vs vi : Value) (w0 : World) (HB : Blk w0 Bs [.int .i64 A.cap, vs, vi]) (hs : isEns A.slots vs w0) (hi : isCells (A.index.map intC) vi w0) (hF : FitA A) :
    SeqMade Fence.wide m Tryz.prog 70 #[.pointer (some ⟨Bs, 0, none⟩)] encBk (PxB (chunkA A 0 8) w0.heap.size) KpB (SB (chunkA A 0 8)) (SpB (chunkA A 0 8)) 1000 w0 := by
  intro l J Jx W hbW hJa hJxa hY h0
  have HBW := Kept.mk (HB.keep hbW)
  have k0 := HBW.out.cells.2 0 _ rfl
  have k1 := HBW.out.cells.2 1 _ rfl
  have k2 := HBW.out.cells.2 2 _ rfl
  have XA := Kept.mk (show isAr A (.agg #[.int .i64 A.cap, vs, vi]) W from stable_ar A _ _ _ ⟨vs, vi, rfl, hs, hi⟩ hbW)
  have HJ := Kept.mk h0
  have HN0 := Kept.mk hbW.size
  have HCH := Kept.mk (chunk_new A 0 8 _ _ XA.out hF)
  have HL := Kept.mk (show (∀ e ∈ chunkA A 0 8, okE e = true) ∧ (chunkA A 0 8).length ≤ 1000 from ⟨fun e he => chunk_ok he, chunk_len hF 0 8⟩)
  show CallsIn Fence.wide m Tryz.prog 70 #[.func (.yield l) #[] #[], .pointer (some ⟨Bs, 0, none⟩)] W fun e W' => (∃ v, e = .returned v) ∧ PostB (chunkA A 0 8) J Jx W'
  generalize chunkA A 0 8 = L at *
  clear hs hi HB hbW h0
  refine callsIn_of_wp Tryz.func70 rfl trivial ?_ rfl
  simp only [Tryz.ntmps70, List.size_toArray, List.length_cons, List.length_nil, Nat.reduceAdd, Nat.reduceSub, Array.replicate_succ, Array.replicate_zero, List.push_toArray, List.append_toArray, List.nil_append, List.cons_append]
  gi_wp2_with (refine ⟨trivial, (callsIn_wide.2 HCH.out).mono ?_⟩; rintro e W1 ⟨v', rfl, hen, hb1⟩; obtain ⟨ps, hpm, hO, hnw⟩ := hen; obtain ⟨va, vc, rfl⟩ := hO.len; have HPM := Kept.mk hpm; have HO := Kept.mk hO; have HNW := Kept.mk hnw; have HB1 := Kept.mk hb1; have HLN := Kept.mk (show ps.length = L.length by rw [← hpm, List.length_map]); have hlen : ps.length ≤ 1000 := (by have := HL.out.2; have := HLN.out; omega); generalize hN : ps.length = N at *; have HN := Kept.mk hN; clear hpm hO hnw hb1 hN k0 k1 k2 XA HBW HCH)
  generalize hX : ((zeroE, .slice none 0 0, .slice none 0 0, W.heap.size, W1.heap.size) : Elb) = X0
  have HX1 : Kept (X0.2.2.2 = (W.heap.size, W1.heap.size)) := ⟨by rw [← hX]⟩
  have HJ1 := Kept.mk (abideB hJa HJ.out HB1.out)
  clear hX HJ
  gi_loopw [8] (fun i wr => ∃ k : Nat, k ≤ N ∧ i = .int .i64 (k : Int) ∧ Kept (KpB X0 W1 wr) ∧ Kept (∃ p : List Elb, p.map (·.1) = L.take k ∧ (∀ y ∈ p, y.2.2.2 = X0.2.2.2) ∧ J p wr)) (fun i _ => N - (intOf i).toNat)
  case atStart => exact ⟨0, Nat.zero_le _, rfl, ⟨kpB_below (Below.refl _ _)⟩, ⟨[], rfl, (fun y hy => by cases hy), HJ1.out⟩⟩
  case round =>
    clear HJ1
    obtain ⟨k, hk, rfl, HK, HP⟩ := hrel
    by_cases hlt : k < N
    · have hlt' : (k : Int) < (N : Int) := by omega
      obtain ⟨s, cap, cur, ev, hg, hcs, hnc, hc, ht, hBs, hslt⟩ := HO.out.slot (q := k) (by rw [HN.out]; exact hlt)
      injection ev with ev1 ev2 ev3
      subst ev1 ev3
      clear ev2
      obtain ⟨⟨E, ep, em⟩, hq⟩ : ∃ q, ps[k]? = some q := ⟨_, List.getElem?_eq_getElem (by rw [HN.out]; exact hlt)⟩
      have hE : L[k]? = some E := by rw [← HPM.out, List.getElem?_map, hq]; rfl
      have hmem := List.mem_of_getElem? hq
      have hx1 : X0.2.2.2.1 = W.heap.size := congrArg Prod.fst HX1.out
      have hx2 : X0.2.2.2.2 = W1.heap.size := congrArg Prod.snd HX1.out
      have hsb : wr.heap[s]? = W1.heap[s]? := HK.out.2 s (by rw [hx1]; exact hBs) (by rw [hx2]; exact hslt) ⟨_, hg, rfl⟩
      have hc1 := cell_flat hg ht hq
      have hcell : ∀ (j : Nat) (x : Value), (enL E ep em)[j]? = some x → wr.cell? ⟨s, k * 9 + j, none⟩ = some x := fun j x hx => (World.cell?_of_block (a := ⟨s, k * 9 + j, none⟩) hsb).trans (hc1 j x hx)
      have hp0 := (HO.out.rows _ hmem).1
      have hm0 := (HO.out.rows _ hmem).2
      have hp := kpB_cells HK.out hp0 (by rw [hx1]; exact (HNW.out _ hmem).1) (by omega)
      have hmm := kpB_cells HK.out hm0 (by rw [hx1]; exact (HNW.out _ hmem).2) (by omega)
      obtain ⟨K1, K2, K3, K4, K5⟩ := enew wr E ep em hp hmm wr.heap.size rfl
      have HBE := Kept.mk ((Blk.new wr 48 [.string ⟨#[]⟩, .int .i64 0, .int .i64 0, .int .i64 0, .bool false, .string ⟨#[]⟩, .slice none 0 0, .slice none 0 0, .int .u64 0] wr.heap.size rfl).all_ (l := [.string ⟨E.key.toArray⟩, .int .i64 E.val.kind, .int .i64 E.val.time, .int .i64 E.val.node, .bool E.val.dead, .string ⟨E.val.text.toArray⟩, ep, em, .int .u64 (E.val.flags.toNat : Int)]) rfl)
      have HKL := Kept.mk (show E.key.length ≤ 1000 from by have := okE_key (HL.out.1 E (List.mem_of_getElem? hE)); omega)
      have HQE := Kept.mk hE
      have HPP := Kept.mk (And.intro (stable_cells _ _ _ _ hp K3.out) (stable_cells _ _ _ _ hmm K3.out))
      have HNN := Kept.mk (HNW.out _ hmem)
      have HUU := Kept.mk (And.intro (cells_lt hp0) (cells_lt hm0))
      have HK2 := Kept.mk (kpB_t HK.out (kpB_below K3.out))
      have kc0 : wr.cell? ⟨s, k * 9, none⟩ = _ := hcell 0 _ rfl
      have kc1 : wr.cell? ⟨s, k * 9 + 1, none⟩ = _ := hcell 1 _ rfl
      have kc2 : wr.cell? ⟨s, k * 9 + 2, none⟩ = _ := hcell 2 _ rfl
      have kc3 : wr.cell? ⟨s, k * 9 + 3, none⟩ = _ := hcell 3 _ rfl
      have kc4 : wr.cell? ⟨s, k * 9 + 4, none⟩ = _ := hcell 4 _ rfl
      have kc5 : wr.cell? ⟨s, k * 9 + 5, none⟩ = _ := hcell 5 _ rfl
      have kc6 : wr.cell? ⟨s, k * 9 + 6, none⟩ = _ := hcell 6 _ rfl
      have kc7 : wr.cell? ⟨s, k * 9 + 7, none⟩ = _ := hcell 7 _ rfl
      have kc8 : wr.cell? ⟨s, k * 9 + 8, none⟩ = _ := hcell 8 _ rfl
      clear hcell hc1 hp hmm hp0 hm0 hsb hg hcs hnc hc ht hBs hslt hq hE hmem hx1 hx2
      have HPW : Kept (∃ p : List Elb, p.map (·.1) = L.take k ∧ (∀ y ∈ p, y.2.2.2 = X0.2.2.2) ∧ J p (setN (wr.alloc (.cells #[.string ⟨#[]⟩, .int .i64 0, .int .i64 0, .int .i64 0, .bool false, .string ⟨#[]⟩, .slice none 0 0, .slice none 0 0, .int .u64 0] 48)) wr.heap.size 0 [.string ⟨E.key.toArray⟩, .int .i64 E.val.kind, .int .i64 E.val.time, .int .i64 E.val.node, .bool E.val.dead, .string ⟨E.val.text.toArray⟩, ep, em, .int .u64 (E.val.flags.toNat : Int)])) := ⟨by obtain ⟨p, e1, e2, e3⟩ := HP.out; exact ⟨p, e1, e2, abideB hJa e3 K3.out⟩⟩
      gi_wp2_with (have hz0 := K1; refine wpListIn_storeN (fun _ => trivial) 48 rfl (.tmp 4) (.tmp 11) rfl wr.heap.size [.string ⟨E.key.toArray⟩, .int .i64 E.val.kind, .int .i64 E.val.time, .int .i64 E.val.node, .bool E.val.dead, .string ⟨E.val.text.toArray⟩, ep, em, .int .u64 (E.val.flags.toNat : Int)] size_en rfl rfl K1.out rfl K2.out K5.out ?_; clear hz0 K1 K2 K5 kc0 kc1 kc2 kc3 kc4 kc5 kc6 kc7 kc8; generalize hWG : setN (wr.alloc (.cells #[.string ⟨#[]⟩, .int .i64 0, .int .i64 0, .int .i64 0, .bool false, .string ⟨#[]⟩, .slice none 0 0, .slice none 0 0, .int .u64 0] 48)) wr.heap.size 0 [.string ⟨E.key.toArray⟩, .int .i64 E.val.kind, .int .i64 E.val.time, .int .i64 E.val.node, .bool E.val.dead, .string ⟨E.val.text.toArray⟩, ep, em, .int .u64 (E.val.flags.toNat : Int)] = W2 at *)
      refine by_region _ ?hout _ _ rfl l wr.heap.size E ep em rfl rfl HBE.out HKL.out ?hC
      case hout => rintro ⟨a2, w2, hh2⟩; exact absurd (show ∃ v, Ending.outgrown = Ending.returned v from hh2.1) (by rintro ⟨v, hv⟩; cases hv)
      case hC =>
        intro y w hb
        obtain ⟨p, hp1, hp2, hpJ⟩ := HPW.out
        have hlp : p.length = k := by have := congrArg List.length hp1; rw [List.length_map, List.length_take] at this; have := HLN.out; omega
        have hx1 : X0.2.2.2.1 = W.heap.size := congrArg Prod.fst HX1.out
        have hx2 : X0.2.2.2.2 = W1.heap.size := congrArg Prod.snd HX1.out
        have hK3 := kpB_t HK2.out (kpB_below hb)
        refine (hY p (E, ep, em, X0.2.2.2.1, X0.2.2.2.2) w (abideB hJa hpJ hb) ⟨by rw [hlp]; exact HQE.out, stable_cells _ _ _ _ HPP.out.1 hb, stable_cells _ _ _ _ HPP.out.2 hb, by rw [hx1]; exact HNN.out.1, by rw [hx1]; exact HNN.out.2, by rw [hx2]; exact HUU.out.1, by rw [hx2]; exact HUU.out.2, hp2, by rw [hx1]; exact HN0.out, by rw [hx2]; exact hK3.1⟩ (by have := HL.out.2; have := HLN.out; omega)).mono ?_
        have hT := take_b (p := p) hp1 HQE.out ep em X0.2.2.2.1 X0.2.2.2.2
        have HT := Kept.mk (show (p ++ [(E, ep, em, X0.2.2.2.1, X0.2.2.2.2)]).map (·.1) = L.take (k + 1) ∧ (∀ y ∈ p ++ [(E, ep, em, X0.2.2.2.1, X0.2.2.2.2)], y.2.2.2 = X0.2.2.2) from ⟨hT, fun y hy => (List.mem_append.1 hy).elim (hp2 y) (fun hy => by rw [List.mem_singleton] at hy; subst hy; rfl)⟩)
        rintro e W3 (⟨rfl, hJ3, hk3⟩ | ⟨rfl, hJx3⟩)
        · have HK4 : Kept (KpB X0 W1 W3) := ⟨kpB_t hK3 hk3⟩
          have HP4 : Kept (∃ p : List Elb, p.map (·.1) = L.take (k + 1) ∧ (∀ y ∈ p, y.2.2.2 = X0.2.2.2) ∧ J p W3) := ⟨_, HT.out.1, HT.out.2, hJ3⟩
          clear hJ3 hk3 hK3 hb HPW hT HT hp1 hp2 hpJ HPP HNN HUU HK2 HK HP
          refine ⟨true, rfl, ?_⟩
          simp only [List.foldl_cons, List.foldl_nil]
          generalize y 12 = z12
          generalize y 13 = z13
          generalize y 14 = z14
          generalize y 15 = z15
          generalize y 16 = z16
          generalize y 17 = z17
          generalize y 18 = z18
          generalize y 19 = z19
          simp only [List.setIfInBounds_toArray, List.set_cons_succ, List.set_cons_zero]
          gi_wp2
          go_roundw
          case rel => exact ⟨k + 1, by omega, by go_num, HK4, HP4⟩
          case measure => simp [intOf]; omega
        · have HX : Kept (PostB L J Jx W3) := ⟨.inr ⟨_, ⟨k + 1, HT.out.1⟩, hJx3⟩⟩
          clear hJx3 hK3 hb HPW hT HT hp1 hp2 hpJ HPP HNN HUU HK2 HK HP
          refine ⟨false, rfl, ?_⟩
          simp only [List.foldl_cons, List.foldl_nil]
          generalize y 12 = z12
          generalize y 13 = z13
          generalize y 14 = z14
          generalize y 15 = z15
          generalize y 16 = z16
          generalize y 17 = z17
          generalize y 18 = z18
          generalize y 19 = z19
          simp only [List.setIfInBounds_toArray, List.set_cons_succ, List.set_cons_zero]
          gi_wp2
          refine bodyPost_ret (results_none rfl _ _ _) rfl ?_
          exact ⟨⟨_, rfl⟩, HX.out⟩
    · have hlt' : ¬ (k : Int) < (N : Int) := by omega
      obtain rfl : k = N := by omega
      have HX : Kept (PostB L J Jx wr) := ⟨by obtain ⟨p, e1, e2, e3⟩ := HP.out; exact .inl ⟨p, by unfold SB; rw [e1, HLN.out]; exact List.take_of_length_le (Nat.le_refl _), e3⟩⟩
      gi_wp2
      go_end0
      exact ⟨⟨_, rfl⟩, HX.out⟩
theorem by_any (A : Ar) (v : Value) (w : World) (vs vi : Value) (hv : v = .agg #[.int .i64 A.cap, vs, vi]) : Calls Tryz.prog 42 #[v] w fun e w' => e = .returned (.func (.func 70) #[] #[.pointer (some ⟨w.heap.size, 0, none⟩)]) ∧ w' = w.alloc (.cells #[.int .i64 A.cap, vs, vi] 25) := by
  subst hv
  go_enter Tryz.func42, Tryz.ntmps42
  go_wp2
  go_ret
  exact ⟨rfl, rfl⟩
end Go.Proofs.YtkjghoomdefbbaaGreatDoor
end
section
namespace Go.Proofs.YtkjghoomdefbbaaGreatDoor
open Go.RowKit
set_option linter.unusedVariables false
set_option linter.unusedSimpArgs false

def putT (l : List Int) : List UInt8 := l.flatMap (fun x => putS x 4)
theorem putS4_len (x : Int) : (putS x 4).length ≤ 4 := by
  unfold putS
  split
  · rw [length_putL]; decide
  · decide
theorem putT_len : ∀ l : List Int, (putT l).length ≤ 4 * l.length
  | [] => by decide
  | x :: r => by
    have h1 := putS4_len x
    have h2 := putT_len r
    have e : putT (x :: r) = putS x 4 ++ putT r := rfl
    rw [e, List.length_append, List.length_cons]
    omega
/-- Sums as bytes. -/
def putQ (l : List Int) : List UInt8 := if (l.all fun x => okPut x 4) = true then putT l else []
def putQE (l : List Int) : Int := if (l.all fun x => okPut x 4) = true then 0 else 1
theorem index_0 (a b c d : Int) (w : World) : (Instr.index 26 (.agg #[.int .i64 a, .int .i64 b, .int .i64 c, .int .i64 d]) (.int .i64 0)).run Tryz.prog w = .ok (.int .i64 a) w := by kernel_rfl
theorem index_1 (a b c d : Int) (w : World) : (Instr.index 26 (.agg #[.int .i64 a, .int .i64 b, .int .i64 c, .int .i64 d]) (.int .i64 1)).run Tryz.prog w = .ok (.int .i64 b) w := by kernel_rfl
theorem index_2 (a b c d : Int) (w : World) : (Instr.index 26 (.agg #[.int .i64 a, .int .i64 b, .int .i64 c, .int .i64 d]) (.int .i64 2)).run Tryz.prog w = .ok (.int .i64 c) w := by kernel_rfl
theorem index_3 (a b c d : Int) (w : World) : (Instr.index 26 (.agg #[.int .i64 a, .int .i64 b, .int .i64 c, .int .i64 d]) (.int .i64 3)).run Tryz.prog w = .ok (.int .i64 d) w := by kernel_rfl
set_option maxRecDepth 100000 in
set_option maxHeartbeats 2000000 in
theorem dgput_any (a b c d : Int) (w : World) (h : ∀ x ∈ [a, b, c, d], x ≤ 9223372036854775807) : Calls Tryz.prog 20 #[(.agg #[.int .i64 a, .int .i64 b, .int .i64 c, .int .i64 d])] w fun e w' => e = .returned (.tuple #[.string ⟨(putQ [a, b, c, d]).toArray⟩, .int .i64 (putQE [a, b, c, d])]) ∧ Below w.heap.size w w' := by
  have hb0 : Below w.heap.size w (w.alloc (.cells #[.int .i64 a, .int .i64 b, .int .i64 c, .int .i64 d] 26)) := (Below.refl _ w).alloc (Nat.le_refl _) _
  have B := Lib.hid hb0
  clear hb0
  go_enter Tryz.func20, Tryz.ntmps20
  go_wp2
  generalize (w.alloc (.cells #[.int .i64 a, .int .i64 b, .int .i64 c, .int .i64 d] 26)) = W0 at *
  go_loopw [4, 10] (fun s i wr => ∃ k : Nat, k ≤ 4 ∧ i = .int .i64 (k : Int) ∧ s = .string ⟨(putT ([a, b, c, d].take k)).toArray⟩ ∧ Hid (([a, b, c, d].take k).all (fun x => okPut x 4) = true) ∧ Hid (Below w.heap.size w wr)) (fun _ i _ => 4 - (intOf i).toNat)
  case atStart => exact ⟨0, by omega, rfl, rfl, Lib.hid rfl, B⟩
  case round =>
    clear B
    obtain ⟨k, hk, rfl, rfl, A, B⟩ := hrel
    by_cases hlt : k < 4
    · have h4 : k = 0 ∨ k = 1 ∨ k = 2 ∨ k = 3 := by omega
      rcases h4 with rfl | rfl | rfl | rfl
      · have HT := Lib.hid (show putT ([a]) = putT ([]) ++ putS a 4 by simp [putT])
        have hx9 := h a (by simp)
        have hp := putS4_len a
        have hq := putT_len ([])
        rw [show (List.take 0 [a, b, c, d] : List Int) = [] from rfl] at A ⊢
        have hq2 : ([] : List Int).length = 0 := rfl
        generalize putT ([]) = q at *
        have hcat := fun W => run_string_add_lists (P := Tryz.prog) W q (putS a 4) (by omega) (by omega)
        have hix := index_0 a b c d
        cases hx : okPut a 4 with
        | true =>
          have e1 : putE a 4 = 0 := by simp [putE, hx]
          go_wp2_with fail
          refine (put_any a 4 _ hx9).mono ?_
          rintro e w' ⟨rfl, hB⟩
          rw [e1]
          have HB2 := Lib.hid (B.out.trans (hB.mono B.out.size))
          clear hB
          generalize putS a 4 = p at *
          go_wp2
          go_roundw
          case rel => exact ⟨1, by omega, rfl, congrArg (fun l : List UInt8 => Value.string ⟨l.toArray⟩) HT.out.symm, Lib.hid (by have := A.out; simp_all), HB2⟩
          case measure => simp [intOf]
        | false =>
          have e1 : putE a 4 = 1 := by simp [putE, hx]
          have hno : ([a, b, c, d].all fun x => okPut x 4) = false := by simp [hx]
          go_wp2_with fail
          refine (put_any a 4 _ hx9).mono ?_
          rintro e w' ⟨rfl, hB⟩
          rw [e1]
          have HB2 := Lib.hid (B.out.trans (hB.mono B.out.size))
          clear hB hcat hp
          generalize putS a 4 = p at *
          go_wp2
          go_ret2
          exact ⟨by unfold putQ putQE; rw [hno]; rfl, HB2.out⟩
      · have HT := Lib.hid (show putT ([a, b]) = putT ([a]) ++ putS b 4 by simp [putT])
        have hx9 := h b (by simp)
        have hp := putS4_len b
        have hq := putT_len ([a])
        rw [show (List.take 1 [a, b, c, d] : List Int) = [a] from rfl] at A ⊢
        have hq2 : ([a] : List Int).length = 1 := rfl
        generalize putT ([a]) = q at *
        have hcat := fun W => run_string_add_lists (P := Tryz.prog) W q (putS b 4) (by omega) (by omega)
        have hix := index_1 a b c d
        cases hx : okPut b 4 with
        | true =>
          have e1 : putE b 4 = 0 := by simp [putE, hx]
          go_wp2_with fail
          refine (put_any b 4 _ hx9).mono ?_
          rintro e w' ⟨rfl, hB⟩
          rw [e1]
          have HB2 := Lib.hid (B.out.trans (hB.mono B.out.size))
          clear hB
          generalize putS b 4 = p at *
          go_wp2
          go_roundw
          case rel => exact ⟨2, by omega, rfl, congrArg (fun l : List UInt8 => Value.string ⟨l.toArray⟩) HT.out.symm, Lib.hid (by have := A.out; simp_all), HB2⟩
          case measure => simp [intOf]
        | false =>
          have e1 : putE b 4 = 1 := by simp [putE, hx]
          have hno : ([a, b, c, d].all fun x => okPut x 4) = false := by simp [hx]
          go_wp2_with fail
          refine (put_any b 4 _ hx9).mono ?_
          rintro e w' ⟨rfl, hB⟩
          rw [e1]
          have HB2 := Lib.hid (B.out.trans (hB.mono B.out.size))
          clear hB hcat hp
          generalize putS b 4 = p at *
          go_wp2
          go_ret2
          exact ⟨by unfold putQ putQE; rw [hno]; rfl, HB2.out⟩
      · have HT := Lib.hid (show putT ([a, b, c]) = putT ([a, b]) ++ putS c 4 by simp [putT])
        have hx9 := h c (by simp)
        have hp := putS4_len c
        have hq := putT_len ([a, b])
        rw [show (List.take 2 [a, b, c, d] : List Int) = [a, b] from rfl] at A ⊢
        have hq2 : ([a, b] : List Int).length = 2 := rfl
        generalize putT ([a, b]) = q at *
        have hcat := fun W => run_string_add_lists (P := Tryz.prog) W q (putS c 4) (by omega) (by omega)
        have hix := index_2 a b c d
        cases hx : okPut c 4 with
        | true =>
          have e1 : putE c 4 = 0 := by simp [putE, hx]
          go_wp2_with fail
          refine (put_any c 4 _ hx9).mono ?_
          rintro e w' ⟨rfl, hB⟩
          rw [e1]
          have HB2 := Lib.hid (B.out.trans (hB.mono B.out.size))
          clear hB
          generalize putS c 4 = p at *
          go_wp2
          go_roundw
          case rel => exact ⟨3, by omega, rfl, congrArg (fun l : List UInt8 => Value.string ⟨l.toArray⟩) HT.out.symm, Lib.hid (by have := A.out; simp_all), HB2⟩
          case measure => simp [intOf]
        | false =>
          have e1 : putE c 4 = 1 := by simp [putE, hx]
          have hno : ([a, b, c, d].all fun x => okPut x 4) = false := by simp [hx]
          go_wp2_with fail
          refine (put_any c 4 _ hx9).mono ?_
          rintro e w' ⟨rfl, hB⟩
          rw [e1]
          have HB2 := Lib.hid (B.out.trans (hB.mono B.out.size))
          clear hB hcat hp
          generalize putS c 4 = p at *
          go_wp2
          go_ret2
          exact ⟨by unfold putQ putQE; rw [hno]; rfl, HB2.out⟩
      · have HT := Lib.hid (show putT ([a, b, c, d]) = putT ([a, b, c]) ++ putS d 4 by simp [putT])
        have hx9 := h d (by simp)
        have hp := putS4_len d
        have hq := putT_len ([a, b, c])
        rw [show (List.take 3 [a, b, c, d] : List Int) = [a, b, c] from rfl] at A ⊢
        have hq2 : ([a, b, c] : List Int).length = 3 := rfl
        generalize putT ([a, b, c]) = q at *
        have hcat := fun W => run_string_add_lists (P := Tryz.prog) W q (putS d 4) (by omega) (by omega)
        have hix := index_3 a b c d
        cases hx : okPut d 4 with
        | true =>
          have e1 : putE d 4 = 0 := by simp [putE, hx]
          go_wp2_with fail
          refine (put_any d 4 _ hx9).mono ?_
          rintro e w' ⟨rfl, hB⟩
          rw [e1]
          have HB2 := Lib.hid (B.out.trans (hB.mono B.out.size))
          clear hB
          generalize putS d 4 = p at *
          go_wp2
          go_roundw
          case rel => exact ⟨4, by omega, rfl, congrArg (fun l : List UInt8 => Value.string ⟨l.toArray⟩) HT.out.symm, Lib.hid (by have := A.out; simp_all), HB2⟩
          case measure => simp [intOf]
        | false =>
          have e1 : putE d 4 = 1 := by simp [putE, hx]
          have hno : ([a, b, c, d].all fun x => okPut x 4) = false := by simp [hx]
          go_wp2_with fail
          refine (put_any d 4 _ hx9).mono ?_
          rintro e w' ⟨rfl, hB⟩
          rw [e1]
          have HB2 := Lib.hid (B.out.trans (hB.mono B.out.size))
          clear hB hcat hp
          generalize putS d 4 = p at *
          go_wp2
          go_ret2
          exact ⟨by unfold putQ putQE; rw [hno]; rfl, HB2.out⟩
    · have hk4 : k = 4 := by omega
      subst hk4
      have hall := A.out
      rw [show [a, b, c, d].take 4 = [a, b, c, d] from rfl] at hall ⊢
      go_wp2
      go_ret2
      exact ⟨by unfold putQ putQE; rw [hall]; rfl, B.out⟩
end Go.Proofs.YtkjghoomdefbbaaGreatDoor
end
section
namespace Go.Proofs.YtkjghoomdefbbaaGreatDoor
open Go.RowKit
set_option linter.unusedVariables false
set_option linter.unusedSimpArgs false
attribute [local irreducible] setN

def iv (l : List UInt8) (k : Nat) : Value := .int .i64 (getN ((l.drop (4 * k)).take 4) : Int)
/-- What stands in the variable behind k rounds. -/
def stG (l : List UInt8) : Nat → List Value
  | 0 => [.int .i64 0, .int .i64 0, .int .i64 0, .int .i64 0]
  | 1 => [iv l 0, .int .i64 0, .int .i64 0, .int .i64 0]
  | 2 => [iv l 0, iv l 1, .int .i64 0, .int .i64 0]
  | 3 => [iv l 0, iv l 1, iv l 2, .int .i64 0]
  | _ => [iv l 0, iv l 1, iv l 2, iv l 3]
theorem size_a4 : (Tryz.prog.info? 26).map (·.size) = some 4 := by kernel_rfl
theorem agg_a4 (w : World) : (isAgg 26).run Tryz.prog w = .ok true w := by simp [isAgg, run_underlying Tryz.underlying26]
def sums4 (l : List UInt8) : List Int := [(getN ((l.drop 0).take 4) : Int), (getN ((l.drop 4).take 4) : Int), (getN ((l.drop 8).take 4) : Int), (getN ((l.drop 12).take 4) : Int)]
set_option maxRecDepth 100000 in
set_option maxHeartbeats 2000000 in
theorem dgget_no (l : List UInt8) (w : World) (h : l.length ≠ 16) (hl : l.length ≤ 1000000000) : Calls Tryz.prog 22 #[.string ⟨l.toArray⟩] w fun e w' => e = .returned (.tuple #[.agg #[.int .i64 0, .int .i64 0, .int .i64 0, .int .i64 0], .int .i64 2]) ∧ Below w.heap.size w w' := by
  have B := Lib.hid (show Below w.heap.size w ((w.alloc (.cells #[.int .i64 0, .int .i64 0, .int .i64 0, .int .i64 0] 26)).alloc (.cells #[.int .i64 0, .int .i64 0, .int .i64 0, .int .i64 0] 26)) from ((Below.refl _ w).alloc (Nat.le_refl _) _).alloc (by simp) _)
  have BR := Lib.hid ((Blk.new w 26 [.int .i64 0, .int .i64 0, .int .i64 0, .int .i64 0] w.heap.size rfl).alloc (.cells #[.int .i64 0, .int .i64 0, .int .i64 0, .int .i64 0] 26))
  have BG := Lib.hid (Blk.new (w.alloc (.cells #[.int .i64 0, .int .i64 0, .int .i64 0, .int .i64 0] 26)) 26 [.int .i64 0, .int .i64 0, .int .i64 0, .int .i64 0] (w.heap.size + 1) (by simp))
  have hsz : (⟨l.toArray⟩ : ByteArray).size = l.length := size_mk l
  have hne : ((l.length : Int) != 16) = true := by simp; omega
  have hne2 : ¬ (l.length : Int) = 16 := by omega
  have k0 := BG.out.cells.2 0 _ rfl
  have k1 := BG.out.cells.2 1 _ rfl
  have k2 := BG.out.cells.2 2 _ rfl
  have k3 := BG.out.cells.2 3 _ rfl
  have KO : Hid (Ones [.int .i64 0, .int .i64 0, .int .i64 0, .int .i64 0]) := Lib.hid ⟨rfl, rfl, rfl, rfl, trivial⟩
  go_enter Tryz.func22, Tryz.ntmps22
  go_wp2_with (have hz0 := KO; refine wpList_storeN 26 rfl (.tmp 2) (.tmp 9) rfl w.heap.size [.int .i64 0, .int .i64 0, .int .i64 0, .int .i64 0] size_a4 rfl rfl BR.out.cells rfl BR.out.free KO.out ?_; clear hz0 KO k0 k1 k2 k3)
  exact bodyPost_ret (resultsN2 rfl _ _ w.heap.size [.int .i64 0, .int .i64 0, .int .i64 0, .int .i64 0] (.int .i64 2) size_a4 agg_a4 rfl rfl (BR.out.all_ (l := [.int .i64 0, .int .i64 0, .int .i64 0, .int .i64 0]) rfl).cells) rfl ⟨rfl, below_setN (Nat.le_refl _) _ 0 _ B.out⟩
set_option maxRecDepth 100000 in
set_option maxHeartbeats 2000000 in
theorem dgget_yes (l : List UInt8) (w : World) (h : l.length = 16) : Calls Tryz.prog 22 #[.string ⟨l.toArray⟩] w fun e w' => e = .returned (.tuple #[.agg ((sums4 l).map (fun x => Value.int .i64 x)).toArray, .int .i64 0]) ∧ Below w.heap.size w w' := by
  have B := Lib.hid (show Below w.heap.size w ((w.alloc (.cells #[.int .i64 0, .int .i64 0, .int .i64 0, .int .i64 0] 26)).alloc (.cells #[.int .i64 0, .int .i64 0, .int .i64 0, .int .i64 0] 26)) from ((Below.refl _ w).alloc (Nat.le_refl _) _).alloc (by simp) _)
  have BR := Lib.hid ((Blk.new w 26 [.int .i64 0, .int .i64 0, .int .i64 0, .int .i64 0] w.heap.size rfl).alloc (.cells #[.int .i64 0, .int .i64 0, .int .i64 0, .int .i64 0] 26))
  have BG := Lib.hid (Blk.new (w.alloc (.cells #[.int .i64 0, .int .i64 0, .int .i64 0, .int .i64 0] 26)) 26 [.int .i64 0, .int .i64 0, .int .i64 0, .int .i64 0] (w.heap.size + 1) (by simp))
  have hsz : (⟨l.toArray⟩ : ByteArray).size = 16 := (size_mk l).trans h
  go_enter Tryz.func22, Tryz.ntmps22
  go_wp2
  generalize ((w.alloc (.cells #[.int .i64 0, .int .i64 0, .int .i64 0, .int .i64 0] 26)).alloc (.cells #[.int .i64 0, .int .i64 0, .int .i64 0, .int .i64 0] 26)) = W0 at *
  clear hsz
  go_loopw [10] (fun i wr => ∃ k : Nat, k ≤ 4 ∧ i = .int .i64 (k : Int) ∧ Hid (Blk wr (w.heap.size + 1) (stG l k)) ∧ Hid (Blk wr w.heap.size [.int .i64 0, .int .i64 0, .int .i64 0, .int .i64 0]) ∧ Hid (Below w.heap.size w wr)) (fun i _ => 4 - (intOf i).toNat)
  case atStart => exact ⟨0, by omega, rfl, BG, BR, B⟩
  case round =>
    clear B BR BG
    obtain ⟨k, hk, rfl, BG, BR, B⟩ := hrel
    by_cases hlt : k < 4
    · have h4 : k = 0 ∨ k = 1 ∨ k = 2 ∨ k = 3 := by omega
      rcases h4 with rfl | rfl | rfl | rfl
      · have K := BG.out
        have hg := get_yes l 0 4 wr (by omega) (by omega) (by omega) (by omega)
        go_wp2_with fail
        refine hg.mono ?_
        rintro e w' ⟨rfl, hb⟩
        have BG2 := Lib.hid (((K : Blk wr _ [.int .i64 0, .int .i64 0, .int .i64 0, .int .i64 0]).keep hb).set 0 (iv l 0) (Nat.lt_of_lt_of_le (show 0 < 4 by decide) (Nat.le_refl 4)))
        have BR2 := Lib.hid (((BR.out : Blk wr _ [.int .i64 0, .int .i64 0, .int .i64 0, .int .i64 0]).keep hb).apart (show w.heap.size ≠ w.heap.size + 1 by omega) 0 (iv l 0))
        have B2 := Lib.hid ((B.out.trans (hb.mono B.out.size)).setCell (p := ⟨w.heap.size + 1, 0, none⟩) (show w.heap.size ≤ w.heap.size + 1 by omega) (iv l 0))
        have hf := (K.keep hb).free 0
        obtain ⟨x, hx⟩ : ∃ x, w'.cell? ⟨w.heap.size + 1, 0, none⟩ = some x := ⟨_, (K.keep hb).cells.2 0 _ rfl⟩
        clear hb K hg
        go_wp2
        go_roundw
        case rel => exact ⟨1, by omega, rfl, BG2, BR2, B2⟩
        case measure => simp [intOf]
      · have K := BG.out
        have hg := get_yes l 4 4 wr (by omega) (by omega) (by omega) (by omega)
        go_wp2_with fail
        refine hg.mono ?_
        rintro e w' ⟨rfl, hb⟩
        have BG2 := Lib.hid (((K : Blk wr _ [iv l 0, .int .i64 0, .int .i64 0, .int .i64 0]).keep hb).set 1 (iv l 1) (Nat.lt_of_lt_of_le (show 1 < 4 by decide) (Nat.le_refl 4)))
        have BR2 := Lib.hid (((BR.out : Blk wr _ [.int .i64 0, .int .i64 0, .int .i64 0, .int .i64 0]).keep hb).apart (show w.heap.size ≠ w.heap.size + 1 by omega) 1 (iv l 1))
        have B2 := Lib.hid ((B.out.trans (hb.mono B.out.size)).setCell (p := ⟨w.heap.size + 1, 1, none⟩) (show w.heap.size ≤ w.heap.size + 1 by omega) (iv l 1))
        have hf := (K.keep hb).free 1
        obtain ⟨x, hx⟩ : ∃ x, w'.cell? ⟨w.heap.size + 1, 1, none⟩ = some x := ⟨_, (K.keep hb).cells.2 1 _ rfl⟩
        clear hb K hg
        go_wp2
        go_roundw
        case rel => exact ⟨2, by omega, rfl, BG2, BR2, B2⟩
        case measure => simp [intOf]
      · have K := BG.out
        have hg := get_yes l 8 4 wr (by omega) (by omega) (by omega) (by omega)
        go_wp2_with fail
        refine hg.mono ?_
        rintro e w' ⟨rfl, hb⟩
        have BG2 := Lib.hid (((K : Blk wr _ [iv l 0, iv l 1, .int .i64 0, .int .i64 0]).keep hb).set 2 (iv l 2) (Nat.lt_of_lt_of_le (show 2 < 4 by decide) (Nat.le_refl 4)))
        have BR2 := Lib.hid (((BR.out : Blk wr _ [.int .i64 0, .int .i64 0, .int .i64 0, .int .i64 0]).keep hb).apart (show w.heap.size ≠ w.heap.size + 1 by omega) 2 (iv l 2))
        have B2 := Lib.hid ((B.out.trans (hb.mono B.out.size)).setCell (p := ⟨w.heap.size + 1, 2, none⟩) (show w.heap.size ≤ w.heap.size + 1 by omega) (iv l 2))
        have hf := (K.keep hb).free 2
        obtain ⟨x, hx⟩ : ∃ x, w'.cell? ⟨w.heap.size + 1, 2, none⟩ = some x := ⟨_, (K.keep hb).cells.2 2 _ rfl⟩
        clear hb K hg
        go_wp2
        go_roundw
        case rel => exact ⟨3, by omega, rfl, BG2, BR2, B2⟩
        case measure => simp [intOf]
      · have K := BG.out
        have hg := get_yes l 12 4 wr (by omega) (by omega) (by omega) (by omega)
        go_wp2_with fail
        refine hg.mono ?_
        rintro e w' ⟨rfl, hb⟩
        have BG2 := Lib.hid (((K : Blk wr _ [iv l 0, iv l 1, iv l 2, .int .i64 0]).keep hb).set 3 (iv l 3) (Nat.lt_of_lt_of_le (show 3 < 4 by decide) (Nat.le_refl 4)))
        have BR2 := Lib.hid (((BR.out : Blk wr _ [.int .i64 0, .int .i64 0, .int .i64 0, .int .i64 0]).keep hb).apart (show w.heap.size ≠ w.heap.size + 1 by omega) 3 (iv l 3))
        have B2 := Lib.hid ((B.out.trans (hb.mono B.out.size)).setCell (p := ⟨w.heap.size + 1, 3, none⟩) (show w.heap.size ≤ w.heap.size + 1 by omega) (iv l 3))
        have hf := (K.keep hb).free 3
        obtain ⟨x, hx⟩ : ∃ x, w'.cell? ⟨w.heap.size + 1, 3, none⟩ = some x := ⟨_, (K.keep hb).cells.2 3 _ rfl⟩
        clear hb K hg
        go_wp2
        go_roundw
        case rel => exact ⟨4, by omega, rfl, BG2, BR2, B2⟩
        case measure => simp [intOf]
    · have hk4 : k = 4 := by omega
      subst hk4
      have k0 := BG.out.cells.2 0 _ rfl
      have k1 := BG.out.cells.2 1 _ rfl
      have k2 := BG.out.cells.2 2 _ rfl
      have k3 := BG.out.cells.2 3 _ rfl
      have KO : Hid (Ones [iv l 0, iv l 1, iv l 2, iv l 3]) := Lib.hid ⟨rfl, rfl, rfl, rfl, trivial⟩
      go_wp2_with (have hz0 := KO; refine wpList_storeN 26 rfl (.tmp 2) (.tmp 23) rfl w.heap.size [iv l 0, iv l 1, iv l 2, iv l 3] size_a4 rfl rfl BR.out.cells rfl BR.out.free KO.out ?_; clear hz0 KO k0 k1 k2 k3)
      exact bodyPost_ret (resultsN2 rfl _ _ w.heap.size [iv l 0, iv l 1, iv l 2, iv l 3] (.int .i64 0) size_a4 agg_a4 rfl rfl (BR.out.all_ (l := [iv l 0, iv l 1, iv l 2, iv l 3]) rfl).cells) rfl ⟨rfl, below_setN (Nat.le_refl _) _ 0 _ B.out⟩
end Go.Proofs.YtkjghoomdefbbaaGreatDoor
end
section
namespace Go.Proofs.YtkjghoomdefbbaaGreatDoor
open Go.RowKit
set_option linter.unusedVariables false
set_option linter.unusedSimpArgs false

theorem run_insert {P : Program} (w : World) (mty kt et : TypeId) (r clock : Nat) (es : Array MapEntry) (k : Int) (val : Value) (hm : P.underlying mty = some (.map kt et)) (hk : P.underlying kt = some (.int .i64)) (hb : w.heap[r]? = some (.map es clock)) (hf : Instr.findNow (.int .i64) (.int .i64 k) es.toList 0 = some none) :
    (Instr.mapUpdate mty (.map (some r)) (.int .i64 k) val).run P w = .ok () (w.putObj r (.map (es.push { key := .int .i64 k, val := val, born := clock }) (clock + 1))) := by
  show _ = Result.ok () { w with heap := w.heap.setIfInBounds r (.map (es.push { key := .int .i64 k, val := val, born := clock }) (clock + 1)) }
  have hc : (Instr.checkKey false 10000 kt (.int .i64 k)).run P w = .ok () w := MapKept.run_checkKey (k := .int .i64 k) hk (by simp [MapKept.IsKey]) false 9999
  simp [Instr.mapUpdate, run_underlying hm, MapKept.run_getObj_map hb, hc, MapKept.run_findKey hk hf, MapKept.run_setObj_map _ hb, Result.andThen]
theorem run_find {P : Program} (w : World) (mty kt et : TypeId) (r clock i : Nat) (es : Array MapEntry) (k : Int) (val : Value) (hm : P.underlying mty = some (.map kt et)) (hk : P.underlying kt = some (.int .i64)) (hb : w.heap[r]? = some (.map es clock)) (hf : Instr.findNow (.int .i64) (.int .i64 k) es.toList 0 = some (some (i, val))) :
    (Instr.lookup mty (.map (some r)) (.int .i64 k) false).run P w = .ok val w := by
  have hc : (Instr.checkKey es.isEmpty 10000 kt (.int .i64 k)).run P w = .ok () w := MapKept.run_checkKey (k := .int .i64 k) hk (by simp [MapKept.IsKey]) _ 9999
  simp [Instr.lookup, run_underlying hm, MapKept.run_getObj_map hb, hc, MapKept.run_findKey hk hf, Result.andThen]
/-- The kinds' writers. -/
def kindsA (g : Nat) : Array MapEntry := #[{ key := .int .i64 1, val := .func (.func 88) #[ptr g] #[], born := 0 }, { key := .int .i64 2, val := .func (.func 89) #[ptr g] #[], born := 1 }, { key := .int .i64 3, val := .func (.func 90) #[ptr g] #[], born := 2 }]
def isKinds (g : Nat) : VP := fun v w => ∃ n, v = .map (some n) ∧ n < w.heap.size ∧ w.heap[n]? = some (.map (kindsA g) 3)
theorem stable_kinds (g : Nat) : Stable (isKinds g) := fun v w w' ⟨n, e, hn, hb⟩ h => ⟨n, e, Nat.lt_of_lt_of_le hn h.size, (h.block n hn).trans hb⟩
theorem put_below {B : Nat} {a w : World} (h : Below B a w) {r : Nat} (hr : B ≤ r) (o : Obj) : Below B a (w.putObj r o) :=
  ⟨h.os, h.tape, h.output, by simpa using h.size, fun k hk => by rw [World.putObj_heap_other (by omega)]; exact h.block k hk⟩
set_option maxRecDepth 100000 in
set_option maxHeartbeats 2000000 in
theorem kinds_any (g : Nat) (w : World) :
    Calls Tryz.prog 59 #[ptr g] w fun e w' => ∃ v, e = .returned v ∧ isKinds g v w' ∧ Below w.heap.size w w' := by
  have hmf : ∀ (fn : Fn) (first cap : Array Value) (w : World), (Instr.makeFunc fn first cap).run Tryz.prog w = .ok (.func fn first cap) w := fun _ _ _ _ => rfl
  have hmk := run_makeMap_plain (P := Tryz.prog) w 92
  have h1 : (w.alloc (.map #[] 0)).heap[w.heap.size]? = some (.map #[] 0) := (MapKept.heap_alloc w (.map #[] 0)).1
  have i1 : (Instr.mapUpdate 92 (.map (some w.heap.size)) (.int .i64 1) (.func (.func 88) #[ptr g] #[])).run Tryz.prog (w.alloc (.map #[] 0)) = .ok () ((w.alloc (.map #[] 0)).putObj w.heap.size (.map #[{ key := .int .i64 1, val := .func (.func 88) #[ptr g] #[], born := 0 }] 1)) := run_insert (P := Tryz.prog) (w.alloc (.map #[] 0)) 92 3 _ w.heap.size 0 #[] 1 (.func (.func 88) #[ptr g] #[]) Tryz.underlying92 Tryz.underlying3 h1 (by kernel_rfl)
  have h2 : ((w.alloc (.map #[] 0)).putObj w.heap.size (.map #[{ key := .int .i64 1, val := .func (.func 88) #[ptr g] #[], born := 0 }] 1)).heap[w.heap.size]? = some (.map #[{ key := .int .i64 1, val := .func (.func 88) #[ptr g] #[], born := 0 }] 1) := World.putObj_heap_same (by simp)
  have i2 : (Instr.mapUpdate 92 (.map (some w.heap.size)) (.int .i64 2) (.func (.func 89) #[ptr g] #[])).run Tryz.prog ((w.alloc (.map #[] 0)).putObj w.heap.size (.map #[{ key := .int .i64 1, val := .func (.func 88) #[ptr g] #[], born := 0 }] 1)) = .ok () (((w.alloc (.map #[] 0)).putObj w.heap.size (.map #[{ key := .int .i64 1, val := .func (.func 88) #[ptr g] #[], born := 0 }] 1)).putObj w.heap.size (.map #[{ key := .int .i64 1, val := .func (.func 88) #[ptr g] #[], born := 0 }, { key := .int .i64 2, val := .func (.func 89) #[ptr g] #[], born := 1 }] 2)) := run_insert (P := Tryz.prog) ((w.alloc (.map #[] 0)).putObj w.heap.size (.map #[{ key := .int .i64 1, val := .func (.func 88) #[ptr g] #[], born := 0 }] 1)) 92 3 _ w.heap.size 1 #[{ key := .int .i64 1, val := .func (.func 88) #[ptr g] #[], born := 0 }] 2 (.func (.func 89) #[ptr g] #[]) Tryz.underlying92 Tryz.underlying3 h2 (by kernel_rfl)
  have h3 : (((w.alloc (.map #[] 0)).putObj w.heap.size (.map #[{ key := .int .i64 1, val := .func (.func 88) #[ptr g] #[], born := 0 }] 1)).putObj w.heap.size (.map #[{ key := .int .i64 1, val := .func (.func 88) #[ptr g] #[], born := 0 }, { key := .int .i64 2, val := .func (.func 89) #[ptr g] #[], born := 1 }] 2)).heap[w.heap.size]? = some (.map #[{ key := .int .i64 1, val := .func (.func 88) #[ptr g] #[], born := 0 }, { key := .int .i64 2, val := .func (.func 89) #[ptr g] #[], born := 1 }] 2) := World.putObj_heap_same (by simp)
  have i3 : (Instr.mapUpdate 92 (.map (some w.heap.size)) (.int .i64 3) (.func (.func 90) #[ptr g] #[])).run Tryz.prog (((w.alloc (.map #[] 0)).putObj w.heap.size (.map #[{ key := .int .i64 1, val := .func (.func 88) #[ptr g] #[], born := 0 }] 1)).putObj w.heap.size (.map #[{ key := .int .i64 1, val := .func (.func 88) #[ptr g] #[], born := 0 }, { key := .int .i64 2, val := .func (.func 89) #[ptr g] #[], born := 1 }] 2)) = .ok () ((((w.alloc (.map #[] 0)).putObj w.heap.size (.map #[{ key := .int .i64 1, val := .func (.func 88) #[ptr g] #[], born := 0 }] 1)).putObj w.heap.size (.map #[{ key := .int .i64 1, val := .func (.func 88) #[ptr g] #[], born := 0 }, { key := .int .i64 2, val := .func (.func 89) #[ptr g] #[], born := 1 }] 2)).putObj w.heap.size (.map #[{ key := .int .i64 1, val := .func (.func 88) #[ptr g] #[], born := 0 }, { key := .int .i64 2, val := .func (.func 89) #[ptr g] #[], born := 1 }, { key := .int .i64 3, val := .func (.func 90) #[ptr g] #[], born := 2 }] 3)) := run_insert (P := Tryz.prog) (((w.alloc (.map #[] 0)).putObj w.heap.size (.map #[{ key := .int .i64 1, val := .func (.func 88) #[ptr g] #[], born := 0 }] 1)).putObj w.heap.size (.map #[{ key := .int .i64 1, val := .func (.func 88) #[ptr g] #[], born := 0 }, { key := .int .i64 2, val := .func (.func 89) #[ptr g] #[], born := 1 }] 2)) 92 3 _ w.heap.size 2 #[{ key := .int .i64 1, val := .func (.func 88) #[ptr g] #[], born := 0 }, { key := .int .i64 2, val := .func (.func 89) #[ptr g] #[], born := 1 }] 3 (.func (.func 90) #[ptr g] #[]) Tryz.underlying92 Tryz.underlying3 h3 (by kernel_rfl)
  have hf : ((((w.alloc (.map #[] 0)).putObj w.heap.size (.map #[{ key := .int .i64 1, val := .func (.func 88) #[ptr g] #[], born := 0 }] 1)).putObj w.heap.size (.map #[{ key := .int .i64 1, val := .func (.func 88) #[ptr g] #[], born := 0 }, { key := .int .i64 2, val := .func (.func 89) #[ptr g] #[], born := 1 }] 2)).putObj w.heap.size (.map #[{ key := .int .i64 1, val := .func (.func 88) #[ptr g] #[], born := 0 }, { key := .int .i64 2, val := .func (.func 89) #[ptr g] #[], born := 1 }, { key := .int .i64 3, val := .func (.func 90) #[ptr g] #[], born := 2 }] 3)).heap[w.heap.size]? = some (.map (kindsA g) 3) := World.putObj_heap_same (by simp)
  have hn : w.heap.size < ((((w.alloc (.map #[] 0)).putObj w.heap.size (.map #[{ key := .int .i64 1, val := .func (.func 88) #[ptr g] #[], born := 0 }] 1)).putObj w.heap.size (.map #[{ key := .int .i64 1, val := .func (.func 88) #[ptr g] #[], born := 0 }, { key := .int .i64 2, val := .func (.func 89) #[ptr g] #[], born := 1 }] 2)).putObj w.heap.size (.map #[{ key := .int .i64 1, val := .func (.func 88) #[ptr g] #[], born := 0 }, { key := .int .i64 2, val := .func (.func 89) #[ptr g] #[], born := 1 }, { key := .int .i64 3, val := .func (.func 90) #[ptr g] #[], born := 2 }] 3)).heap.size := by simp
  have HF := Kept.mk (show isKinds g (.map (some w.heap.size)) ((((w.alloc (.map #[] 0)).putObj w.heap.size (.map #[{ key := .int .i64 1, val := .func (.func 88) #[ptr g] #[], born := 0 }] 1)).putObj w.heap.size (.map #[{ key := .int .i64 1, val := .func (.func 88) #[ptr g] #[], born := 0 }, { key := .int .i64 2, val := .func (.func 89) #[ptr g] #[], born := 1 }] 2)).putObj w.heap.size (.map #[{ key := .int .i64 1, val := .func (.func 88) #[ptr g] #[], born := 0 }, { key := .int .i64 2, val := .func (.func 89) #[ptr g] #[], born := 1 }, { key := .int .i64 3, val := .func (.func 90) #[ptr g] #[], born := 2 }] 3)) from ⟨_, rfl, hn, hf⟩)
  have HB := Kept.mk (put_below (put_below (put_below ((Below.refl w.heap.size w).alloc (Nat.le_refl _) (.map #[] 0)) (Nat.le_refl _) _) (Nat.le_refl _) _) (Nat.le_refl _) _ : Below w.heap.size w ((((w.alloc (.map #[] 0)).putObj w.heap.size (.map #[{ key := .int .i64 1, val := .func (.func 88) #[ptr g] #[], born := 0 }] 1)).putObj w.heap.size (.map #[{ key := .int .i64 1, val := .func (.func 88) #[ptr g] #[], born := 0 }, { key := .int .i64 2, val := .func (.func 89) #[ptr g] #[], born := 1 }] 2)).putObj w.heap.size (.map #[{ key := .int .i64 1, val := .func (.func 88) #[ptr g] #[], born := 0 }, { key := .int .i64 2, val := .func (.func 89) #[ptr g] #[], born := 1 }, { key := .int .i64 3, val := .func (.func 90) #[ptr g] #[], born := 2 }] 3)))
  clear h1 h2 h3 hf hn
  generalize ((((w.alloc (.map #[] 0)).putObj w.heap.size (.map #[{ key := .int .i64 1, val := .func (.func 88) #[ptr g] #[], born := 0 }] 1)).putObj w.heap.size (.map #[{ key := .int .i64 1, val := .func (.func 88) #[ptr g] #[], born := 0 }, { key := .int .i64 2, val := .func (.func 89) #[ptr g] #[], born := 1 }] 2)).putObj w.heap.size (.map #[{ key := .int .i64 1, val := .func (.func 88) #[ptr g] #[], born := 0 }, { key := .int .i64 2, val := .func (.func 89) #[ptr g] #[], born := 1 }, { key := .int .i64 3, val := .func (.func 90) #[ptr g] #[], born := 2 }] 3)) = W3 at *
  generalize (((w.alloc (.map #[] 0)).putObj w.heap.size (.map #[{ key := .int .i64 1, val := .func (.func 88) #[ptr g] #[], born := 0 }] 1)).putObj w.heap.size (.map #[{ key := .int .i64 1, val := .func (.func 88) #[ptr g] #[], born := 0 }, { key := .int .i64 2, val := .func (.func 89) #[ptr g] #[], born := 1 }] 2)) = W2 at *
  generalize ((w.alloc (.map #[] 0)).putObj w.heap.size (.map #[{ key := .int .i64 1, val := .func (.func 88) #[ptr g] #[], born := 0 }] 1)) = W1 at *
  generalize (w.alloc (.map #[] 0)) = W0 at *
  go_enter Tryz.func59, Tryz.ntmps59
  go_wp2
  go_ret
  exact ⟨_, rfl, HF.out, HB.out⟩
end Go.Proofs.YtkjghoomdefbbaaGreatDoor
end
section
namespace Go.Proofs.YtkjghoomdefbbaaGreatDoor
open Go.RowKit
set_option linter.unusedVariables false
set_option linter.unusedSimpArgs false

theorem field_wr (g k : Nat) (hk : k < 1) (w : World) : (Instr.fieldAt 87 (.pointer (some ⟨g, 0, none⟩)) k).run Tryz.prog w = .ok (.pointer (some ⟨g, k, none⟩)) w := by
  obtain rfl : k = 0 := by omega
  simp [Instr.fieldAt, run_underlying Tryz.underlying87, Instr.sureAddr, fieldPlace, Addr.add]
theorem field_en (g k : Nat) (hk : k < 2) (w : World) : (Instr.fieldAt 48 (.pointer (some ⟨g, 0, none⟩)) k).run Tryz.prog w = .ok (.pointer (some ⟨g, k, none⟩)) w := by
  have h : k = 0 ∨ k = 1 := by omega
  rcases h with rfl | rfl <;> simp [Instr.fieldAt, run_underlying Tryz.underlying48, Instr.sureAddr, fieldPlace, Addr.add]
theorem field_va1 (g k : Nat) (hk : k < 8) (w : World) : (Instr.fieldAt 46 (.pointer (some ⟨g, 1, none⟩)) k).run Tryz.prog w = .ok (.pointer (some ⟨g, k + 1, none⟩)) w := by
  have h : k = 0 ∨ k = 1 ∨ k = 2 ∨ k = 3 ∨ k = 4 ∨ k = 5 ∨ k = 6 ∨ k = 7 := by omega
  rcases h with rfl | rfl | rfl | rfl | rfl | rfl | rfl | rfl <;> simp [Instr.fieldAt, run_underlying Tryz.underlying46, Instr.sureAddr, fieldPlace, Addr.add]
theorem loadCellsF {P : Program} (g o : Nat) (w : World) : ∀ (l : List Value) (k : Nat) (acc : Array Value), (∀ j x, l[j]? = some x → w.cell? ⟨g, o + (k + j), none⟩ = some x) → (loadCellsFrom ⟨g, o, none⟩ k l.length acc).run P w = .ok (acc ++ l.toArray) w
  | [], k, acc, _ => by simp [loadCellsFrom]
  | v :: r, k, acc, h => by
    have ea : (⟨g, o, none⟩ : Addr).add k = ⟨g, o + k, none⟩ := by
      by_cases e : k = 0
      · subst e; simp [Addr.add]
      · simp [Addr.add, e]
    have h0 : w.cell? ⟨g, o + k, none⟩ = some v := h 0 v rfl
    rw [List.length_cons]
    unfold loadCellsFrom
    rw [Sem.run_bind, ea]
    have hl : (load ⟨g, o + k, none⟩).run P w = .ok v w := by simp [h0]
    rw [hl, Result.andThen_ok, loadCellsF g o w r (k + 1) (acc.push v) (fun j x hx => by rw [show k + 1 + j = k + (j + 1) by omega]; exact h (j + 1) x (by simpa using hx))]
    simp
theorem loadO {P : Program} (t : TypeId) (g o : Nat) (w : World) (l : List Value) (hs : (P.info? t).map (·.size) = some l.length) (ha : ∀ w, (isAgg t).run P w = .ok true w) (h : ∀ (j : Nat) (x : Value), l[j]? = some x → w.cell? ⟨g, o + j, none⟩ = some x) : (loadVar t ⟨g, o, none⟩).run P w = .ok (.agg l.toArray) w := by
  obtain ⟨ie, hie, hz⟩ := Option.map_eq_some_iff.1 hs
  have hsz : (sizeOf t).run P w = .ok l.length w := by simp [sizeOf, typeInfo, hie, hz]
  have hc := loadCellsF (P := P) g o w l 0 #[] (fun j x hx => by rw [Nat.zero_add]; exact h j x hx)
  simp only [loadVar, Sem.run_bind, ha, Result.andThen_ok, if_true, hsz, loadCells, hc, Sem.run_pure]
  simp
section
variable {P : Program} {ops : Array Oper} {base : World} {a0 : Act} {Q : Exit → Act → World → Prop} {kn : Nat → VP} {i : Nat} {V : VP}
theorem step_nilP (x : Operand) (p : Addr) (hop : (ops[i]?).map (·.op) = some (.nilCheck x)) (hw : Wanted ops a0 kn i) (hx : Knows ops a0 kn i x (isVal (.pointer (some p)))) : FStep P ops base a0 Q kn i (isVal (.pointer (some p))) :=
  step_pure _ hop hw fun o a w ho hk' hd => by
    have e1 : a.eval x = _ := hx a w hk' hd
    unfold execOp
    rw [ho]
    simp [e1]
theorem step_loadO (t : TypeId) (x : Operand) (g : Nat) (y : Value) (l : List Value) (hop : (ops[i]?).map (·.op) = some (.load t x)) (hw : Wanted ops a0 kn i) (hx : Knows ops a0 kn i x (isVal (.pointer (some ⟨g, 1, none⟩))))
    (hs : (P.info? t).map (·.size) = some l.length) (ha : ∀ w, (isAgg t).run P w = .ok true w) (hc : CellsN base g (y :: l)) : FStep P ops base a0 Q kn i (isVal (.agg l.toArray)) :=
  step_mk (stable_val _) hw fun o ho a w hk hb hd => by
    have e1 : a.eval x = .pointer (some ⟨g, 1, none⟩) := hx a w hk hd
    have hc' := hc.keep hb hc.1
    have e2 := loadO (P := P) t g 1 w l hs ha (fun j x hx => by rw [Nat.add_comm]; exact hc'.2 (j + 1) x (by simpa using hx))
    unfold Oper.wp execOp
    rw [op_of hop ho]
    simp only [e1, Instr.loadAt, Instr.sureAddr, Sem.run_bind, Sem.run_pure, Result.andThen_ok, e2, Oper.upon]
    exact ⟨_, rfl, rfl, Below.refl _ _⟩
theorem step_find (t : TypeId) (x y : Operand) (g : Nat) (k : Int) (f : Value) (hop : (ops[i]?).map (·.op) = some (.lookup t x y false)) (hw : Wanted ops a0 kn i) (hx : Knows ops a0 kn i x (isKinds g)) (hy : Knows ops a0 kn i y (isVal (.int .i64 k)))
    (hr : ∀ v w, isKinds g v w → (Instr.lookup t v (.int .i64 k) false).run P w = .ok f w) : FStep P ops base a0 Q kn i (isVal f) :=
  step_mk (stable_val _) hw fun o ho a w hk hb hd => by
    have e1 : isKinds g (a.eval x) w := hx a w hk hd
    have e2 : a.eval y = .int .i64 k := hy a w hk hd
    unfold Oper.wp execOp
    rw [op_of hop ho]
    simp only [e2, Sem.run_bind, hr _ _ e1, Result.andThen_ok, Sem.run_pure, Oper.upon]
    exact ⟨_, rfl, rfl, Below.refl _ _⟩
end
theorem kind_at (g : Nat) (k : Int) (f : Value) (i : Nat) (hf : Instr.findNow (.int .i64) (.int .i64 k) (kindsA g).toList 0 = some (some (i, f))) : ∀ v w, isKinds g v w → (Instr.lookup 92 v (.int .i64 k) false).run Tryz.prog w = .ok f w := by
  rintro v w ⟨n, rfl, hn, hb⟩
  exact run_find w 92 3 _ n 3 i (kindsA g) k f Tryz.underlying92 Tryz.underlying3 hb hf
end Go.Proofs.YtkjghoomdefbbaaGreatDoor
end
section
namespace Go.Proofs.YtkjghoomdefbbaaGreatDoor
open Go.RowKit
set_option linter.unusedVariables false
set_option linter.unusedSimpArgs false
attribute [local irreducible] setN

theorem putS_nat (n : Int) (wd : Nat) (h0 : 0 ≤ n) (h1 : 1 ≤ wd) (h7 : wd ≤ 7) (hn : n.toNat < 256 ^ wd) : putS n (wd : Int) = putL n.toNat wd := by
  unfold putS okPut
  rw [if_pos, Int.toNat_natCast]
  simp only [isWidthB, Bool.and_eq_true, decide_eq_true_eq, Int.toNat_natCast]
  refine ⟨⟨⟨by omega, by omega⟩, h0⟩, ?_⟩
  have := Int.ofNat_lt.2 hn
  rw [Int.toNat_of_nonneg h0] at this
  simpa using this
theorem number_z (g : Nat) (t : List UInt8) (n : Int) (wd : Nat) (w : World) (h : At w g (txt t)) (ht : t.length ≤ 900) (h0 : 0 ≤ n) (hm : n ≤ 9223372036854775807) (h1 : 1 ≤ wd) (h7 : wd ≤ 7) (hn : n.toNat < 256 ^ wd) :
    Calls Tryz.prog 56 #[ptr g, .int .i64 n, .int .i64 (wd : Int)] w fun e w' => e = .returned unitV ∧ Wr g (txt (t ++ putL n.toNat wd)) w w' := by
  have e := putS_nat n wd h0 h1 h7 hn
  have := number_any g t n wd w h (by omega) hm (by rw [e, length_putL]; omega)
  rwa [e] at this
def bitI (b : Bool) : Int := (bitN b : Int)
set_option maxHeartbeats 400000 in
theorem digit_any (b : Bool) (w : World) : Calls Tryz.prog 108 #[.bool b] w fun e w' => e = .returned (.int .i64 (bitI b)) ∧ w = w' := by
  cases b with
  | true =>
    go_enter Tryz.func108, Tryz.ntmps108
    go_wp2
    go_ret
    exact ⟨rfl, rfl⟩
  | false =>
    go_enter Tryz.func108, Tryz.ntmps108
    go_wp2
    go_ret
    exact ⟨rfl, rfl⟩
theorem call_digit (b : Bool) (w : World) : Calls Tryz.prog 108 #[.bool b] w fun e w' => ∃ x, e = .returned x ∧ isVal (.int .i64 (bitI b)) x w' ∧ Below w.heap.size w w' :=
  (digit_any b w).mono (by rintro e w' ⟨rfl, rfl⟩; exact ⟨_, rfl, rfl, Below.refl _ _⟩)
noncomputable def wr1Ops : Array Oper := regionOf Tryz.f88 1
set_option maxRecDepth 100000 in
set_option maxHeartbeats 2000000 in
theorem wr1_region (Q : Exit → Act → World → Prop) (a0 : Act) (w0 : World) (hsz : a0.tmps.size = 36) (A : Va) (g b : Nat) (vp vm : Value) (e0 : a0.tmps.getD 0 undef = .pointer (some ⟨g, 0, none⟩)) (e3 : a0.tmps.getD 3 undef = .pointer (some ⟨b, 0, none⟩)) (hc : CellsN w0 b [.int .i64 A.kind, .int .i64 A.time, .int .i64 A.node, .bool A.dead, .string ⟨A.text.toArray⟩, vp, vm, .int .u64 (A.flags.toNat : Int)])
    (hC : ∀ (y : Nat → Value) (w : World), Below w0.heap.size w0 w → Calls Tryz.prog 56 #[.pointer (some ⟨g, 0, none⟩), .int .i64 A.time, .int .i64 4] w fun e w' => ∃ v, e = .returned v ∧ Q .normal { tmps := ([4, 5, 6, 7, 8, 9].foldl (fun t s => t.setIfInBounds s (y s)) a0.tmps).setIfInBounds 9 v, defers := a0.defers } w') :
    (Code.region 1 wr1Ops true).wp Tryz.prog Q a0 w0 := by
  refine wp_region_cov 5 mixed (by rw [hsz]; kernel_rfl) (by kernel_rfl) ?_
  rw [show wr1Ops.size - 5 = 1 by kernel_rfl]
  refine ⟨isVal (.pointer (some ⟨g, 0, none⟩)), step_move (.tmp 0) (by kernel_rfl) (wanted_none (by kernel_rfl)) (stable_val _) (knows_old 0 (.pointer (some ⟨g, 0, none⟩)) (by kernel_rfl) e0), ?_⟩
  refine ⟨isVal (.pointer (some ⟨g, 0, none⟩)), step_nilP (.tmp 4) ⟨g, 0, none⟩ (by kernel_rfl) (wanted_none (by kernel_rfl)) (knows_new (V := isVal (.pointer (some ⟨g, 0, none⟩))) 4 0 (by kernel_rfl) (by kernel_rfl) (by kernel_rfl)), ?_⟩
  refine ⟨isVal (.pointer (some ⟨g, 0, none⟩)), step_field 87 (.tmp 5) 0 ⟨g, 0, none⟩ ⟨g, 0, none⟩ (by kernel_rfl) (wanted_none (by kernel_rfl)) (knows_new (V := isVal (.pointer (some ⟨g, 0, none⟩))) 5 1 (by kernel_rfl) (by kernel_rfl) (by kernel_rfl)) (field_wr g 0 (by omega)), ?_⟩
  refine ⟨isVal (.pointer (some ⟨b, 1, none⟩)), step_field 46 (.tmp 3) 1 ⟨b, 0, none⟩ ⟨b, 1, none⟩ (by kernel_rfl) (wanted_none (by kernel_rfl)) (knows_old 3 (.pointer (some ⟨b, 0, none⟩)) (by kernel_rfl) e3) (field_va b 1 (by omega)), ?_⟩
  refine ⟨isVal (.int .i64 A.time), step_read 3 (.tmp 7) ⟨b, 1, none⟩ (.int .i64 A.time) (by kernel_rfl) (wanted_none (by kernel_rfl)) (knows_new (V := isVal (.pointer (some ⟨b, 1, none⟩))) 7 3 (by kernel_rfl) (by kernel_rfl) (by kernel_rfl)) (hc.2 1 _ rfl) hc.1 agg_int, ?_⟩
  intro a w hkp hb hd
  have d6 : a.eval (.tmp 6) = _ := fdone_of (hd 2 (by decide)) (t := 6) (V := isVal (.pointer (some ⟨g, 0, none⟩))) (by kernel_rfl) (by kernel_rfl)
  have d8 : a.eval (.tmp 8) = _ := fdone_of (hd 4 (by decide)) (t := 8) (V := isVal (.int .i64 A.time)) (by kernel_rfl) (by kernel_rfl)
  refine tail_call 56 #[.tmp 6, .tmp 8, .const (.int .i64 4)] #[85, 3, 3] #[.pointer (some ⟨g, 0, none⟩), .int .i64 A.time, .int .i64 4] 9 (by kernel_rfl) (by kernel_rfl) (by simp only [List.map_toArray, List.map_cons, List.map_nil, d6, d8]; try rfl) (enters_of Tryz.func56 (by kernel_rfl) rfl) ?_
  obtain ⟨y, ey⟩ := kept_ex hkp [some 4, some 5, some 6, some 7, some 8, some 9] [4, 5, 6, 7, 8, 9] (by kernel_rfl) (by decide)
  refine (hC y w hb).mono ?_
  rintro e w' ⟨v, rfl, hq⟩
  exact ⟨v, rfl, put_kept ey hq⟩
noncomputable def wr2Ops : Array Oper := regionOf Tryz.f88 2
set_option maxRecDepth 100000 in
set_option maxHeartbeats 2000000 in
theorem wr2_region (Q : Exit → Act → World → Prop) (a0 : Act) (w0 : World) (hsz : a0.tmps.size = 36) (A : Va) (g b : Nat) (vp vm : Value) (e0 : a0.tmps.getD 0 undef = .pointer (some ⟨g, 0, none⟩)) (e3 : a0.tmps.getD 3 undef = .pointer (some ⟨b, 0, none⟩)) (hc : CellsN w0 b [.int .i64 A.kind, .int .i64 A.time, .int .i64 A.node, .bool A.dead, .string ⟨A.text.toArray⟩, vp, vm, .int .u64 (A.flags.toNat : Int)])
    (hC : ∀ (y : Nat → Value) (w : World), Below w0.heap.size w0 w → Calls Tryz.prog 56 #[.pointer (some ⟨g, 0, none⟩), .int .i64 A.node, .int .i64 1] w fun e w' => ∃ v, e = .returned v ∧ Q .normal { tmps := ([10, 11, 12, 13, 14, 15].foldl (fun t s => t.setIfInBounds s (y s)) a0.tmps).setIfInBounds 15 v, defers := a0.defers } w') :
    (Code.region 2 wr2Ops true).wp Tryz.prog Q a0 w0 := by
  refine wp_region_cov 5 mixed (by rw [hsz]; kernel_rfl) (by kernel_rfl) ?_
  rw [show wr2Ops.size - 5 = 1 by kernel_rfl]
  refine ⟨isVal (.pointer (some ⟨g, 0, none⟩)), step_move (.tmp 0) (by kernel_rfl) (wanted_none (by kernel_rfl)) (stable_val _) (knows_old 0 (.pointer (some ⟨g, 0, none⟩)) (by kernel_rfl) e0), ?_⟩
  refine ⟨isVal (.pointer (some ⟨g, 0, none⟩)), step_nilP (.tmp 10) ⟨g, 0, none⟩ (by kernel_rfl) (wanted_none (by kernel_rfl)) (knows_new (V := isVal (.pointer (some ⟨g, 0, none⟩))) 10 0 (by kernel_rfl) (by kernel_rfl) (by kernel_rfl)), ?_⟩
  refine ⟨isVal (.pointer (some ⟨g, 0, none⟩)), step_field 87 (.tmp 11) 0 ⟨g, 0, none⟩ ⟨g, 0, none⟩ (by kernel_rfl) (wanted_none (by kernel_rfl)) (knows_new (V := isVal (.pointer (some ⟨g, 0, none⟩))) 11 1 (by kernel_rfl) (by kernel_rfl) (by kernel_rfl)) (field_wr g 0 (by omega)), ?_⟩
  refine ⟨isVal (.pointer (some ⟨b, 2, none⟩)), step_field 46 (.tmp 3) 2 ⟨b, 0, none⟩ ⟨b, 2, none⟩ (by kernel_rfl) (wanted_none (by kernel_rfl)) (knows_old 3 (.pointer (some ⟨b, 0, none⟩)) (by kernel_rfl) e3) (field_va b 2 (by omega)), ?_⟩
  refine ⟨isVal (.int .i64 A.node), step_read 3 (.tmp 13) ⟨b, 2, none⟩ (.int .i64 A.node) (by kernel_rfl) (wanted_none (by kernel_rfl)) (knows_new (V := isVal (.pointer (some ⟨b, 2, none⟩))) 13 3 (by kernel_rfl) (by kernel_rfl) (by kernel_rfl)) (hc.2 2 _ rfl) hc.1 agg_int, ?_⟩
  intro a w hkp hb hd
  have d12 : a.eval (.tmp 12) = _ := fdone_of (hd 2 (by decide)) (t := 12) (V := isVal (.pointer (some ⟨g, 0, none⟩))) (by kernel_rfl) (by kernel_rfl)
  have d14 : a.eval (.tmp 14) = _ := fdone_of (hd 4 (by decide)) (t := 14) (V := isVal (.int .i64 A.node)) (by kernel_rfl) (by kernel_rfl)
  refine tail_call 56 #[.tmp 12, .tmp 14, .const (.int .i64 1)] #[85, 3, 3] #[.pointer (some ⟨g, 0, none⟩), .int .i64 A.node, .int .i64 1] 15 (by kernel_rfl) (by kernel_rfl) (by simp only [List.map_toArray, List.map_cons, List.map_nil, d12, d14]; try rfl) (enters_of Tryz.func56 (by kernel_rfl) rfl) ?_
  obtain ⟨y, ey⟩ := kept_ex hkp [some 10, some 11, some 12, some 13, some 14, some 15] [10, 11, 12, 13, 14, 15] (by kernel_rfl) (by decide)
  refine (hC y w hb).mono ?_
  rintro e w' ⟨v, rfl, hq⟩
  exact ⟨v, rfl, put_kept ey hq⟩
noncomputable def wr3Ops : Array Oper := regionOf Tryz.f88 3
set_option maxRecDepth 100000 in
set_option maxHeartbeats 2000000 in
theorem wr3_region (Q : Exit → Act → World → Prop) (a0 : Act) (w0 : World) (hsz : a0.tmps.size = 36) (A : Va) (g b : Nat) (vp vm : Value) (e0 : a0.tmps.getD 0 undef = .pointer (some ⟨g, 0, none⟩)) (e3 : a0.tmps.getD 3 undef = .pointer (some ⟨b, 0, none⟩)) (hc : CellsN w0 b [.int .i64 A.kind, .int .i64 A.time, .int .i64 A.node, .bool A.dead, .string ⟨A.text.toArray⟩, vp, vm, .int .u64 (A.flags.toNat : Int)])
    (hC : ∀ (y : Nat → Value) (w : World), Below w0.heap.size w0 w → Calls Tryz.prog 56 #[.pointer (some ⟨g, 0, none⟩), .int .i64 (bitI A.dead), .int .i64 1] w fun e w' => ∃ v, e = .returned v ∧ Q .normal { tmps := ([16, 17, 18, 19, 20, 21, 22].foldl (fun t s => t.setIfInBounds s (y s)) a0.tmps).setIfInBounds 22 v, defers := a0.defers } w') :
    (Code.region 3 wr3Ops true).wp Tryz.prog Q a0 w0 := by
  refine wp_region_cov 6 mixed (by rw [hsz]; kernel_rfl) (by kernel_rfl) ?_
  rw [show wr3Ops.size - 6 = 1 by kernel_rfl]
  refine ⟨isVal (.pointer (some ⟨g, 0, none⟩)), step_move (.tmp 0) (by kernel_rfl) (wanted_none (by kernel_rfl)) (stable_val _) (knows_old 0 (.pointer (some ⟨g, 0, none⟩)) (by kernel_rfl) e0), ?_⟩
  refine ⟨isVal (.pointer (some ⟨g, 0, none⟩)), step_nilP (.tmp 16) ⟨g, 0, none⟩ (by kernel_rfl) (wanted_none (by kernel_rfl)) (knows_new (V := isVal (.pointer (some ⟨g, 0, none⟩))) 16 0 (by kernel_rfl) (by kernel_rfl) (by kernel_rfl)), ?_⟩
  refine ⟨isVal (.pointer (some ⟨g, 0, none⟩)), step_field 87 (.tmp 17) 0 ⟨g, 0, none⟩ ⟨g, 0, none⟩ (by kernel_rfl) (wanted_none (by kernel_rfl)) (knows_new (V := isVal (.pointer (some ⟨g, 0, none⟩))) 17 1 (by kernel_rfl) (by kernel_rfl) (by kernel_rfl)) (field_wr g 0 (by omega)), ?_⟩
  refine ⟨isVal (.pointer (some ⟨b, 3, none⟩)), step_field 46 (.tmp 3) 3 ⟨b, 0, none⟩ ⟨b, 3, none⟩ (by kernel_rfl) (wanted_none (by kernel_rfl)) (knows_old 3 (.pointer (some ⟨b, 0, none⟩)) (by kernel_rfl) e3) (field_va b 3 (by omega)), ?_⟩
  refine ⟨isVal (.bool A.dead), step_read 4 (.tmp 19) ⟨b, 3, none⟩ (.bool A.dead) (by kernel_rfl) (wanted_none (by kernel_rfl)) (knows_new (V := isVal (.pointer (some ⟨b, 3, none⟩))) 19 3 (by kernel_rfl) (by kernel_rfl) (by kernel_rfl)) (hc.2 3 _ rfl) hc.1 agg_bool, ?_⟩
  refine ⟨isVal (.int .i64 (bitI A.dead)), step_call 108 #[.tmp 20] #[4] #[.bool A.dead] (by kernel_rfl) (wanted_none (by kernel_rfl)) (stable_val _) (args1 (.tmp 20) (.bool A.dead) (knows_new (V := isVal (.bool A.dead)) 20 4 (by kernel_rfl) (by kernel_rfl) (by kernel_rfl))) (enters_of Tryz.func108 (by kernel_rfl) rfl) (by intro w hb; exact call_digit A.dead w), ?_⟩
  intro a w hkp hb hd
  have d18 : a.eval (.tmp 18) = _ := fdone_of (hd 2 (by decide)) (t := 18) (V := isVal (.pointer (some ⟨g, 0, none⟩))) (by kernel_rfl) (by kernel_rfl)
  have d21 : a.eval (.tmp 21) = _ := fdone_of (hd 5 (by decide)) (t := 21) (V := isVal (.int .i64 (bitI A.dead))) (by kernel_rfl) (by kernel_rfl)
  refine tail_call 56 #[.tmp 18, .tmp 21, .const (.int .i64 1)] #[85, 3, 3] #[.pointer (some ⟨g, 0, none⟩), .int .i64 (bitI A.dead), .int .i64 1] 22 (by kernel_rfl) (by kernel_rfl) (by simp only [List.map_toArray, List.map_cons, List.map_nil, d18, d21]; try rfl) (enters_of Tryz.func56 (by kernel_rfl) rfl) ?_
  obtain ⟨y, ey⟩ := kept_ex hkp [some 16, some 17, some 18, some 19, some 20, some 21, some 22] [16, 17, 18, 19, 20, 21, 22] (by kernel_rfl) (by decide)
  refine (hC y w hb).mono ?_
  rintro e w' ⟨v, rfl, hq⟩
  exact ⟨v, rfl, put_kept ey hq⟩
noncomputable def wr4Ops : Array Oper := regionOf Tryz.f88 4
set_option maxRecDepth 100000 in
set_option maxHeartbeats 2000000 in
theorem wr4_region (Q : Exit → Act → World → Prop) (a0 : Act) (w0 : World) (hsz : a0.tmps.size = 36) (A : Va) (g b : Nat) (vp vm : Value) (e0 : a0.tmps.getD 0 undef = .pointer (some ⟨g, 0, none⟩)) (e3 : a0.tmps.getD 3 undef = .pointer (some ⟨b, 0, none⟩)) (hc : CellsN w0 b [.int .i64 A.kind, .int .i64 A.time, .int .i64 A.node, .bool A.dead, .string ⟨A.text.toArray⟩, vp, vm, .int .u64 (A.flags.toNat : Int)])
    (hC : ∀ (y : Nat → Value) (w : World), Below w0.heap.size w0 w → Calls Tryz.prog 56 #[.pointer (some ⟨g, 0, none⟩), .int .i64 (A.text.length : Int), .int .i64 1] w fun e w' => ∃ v, e = .returned v ∧ Q .normal { tmps := ([23, 24, 25, 26, 27, 28, 29].foldl (fun t s => t.setIfInBounds s (y s)) a0.tmps).setIfInBounds 29 v, defers := a0.defers } w') :
    (Code.region 4 wr4Ops true).wp Tryz.prog Q a0 w0 := by
  refine wp_region_cov 6 mixed (by rw [hsz]; kernel_rfl) (by kernel_rfl) ?_
  rw [show wr4Ops.size - 6 = 1 by kernel_rfl]
  refine ⟨isVal (.pointer (some ⟨g, 0, none⟩)), step_move (.tmp 0) (by kernel_rfl) (wanted_none (by kernel_rfl)) (stable_val _) (knows_old 0 (.pointer (some ⟨g, 0, none⟩)) (by kernel_rfl) e0), ?_⟩
  refine ⟨isVal (.pointer (some ⟨g, 0, none⟩)), step_nilP (.tmp 23) ⟨g, 0, none⟩ (by kernel_rfl) (wanted_none (by kernel_rfl)) (knows_new (V := isVal (.pointer (some ⟨g, 0, none⟩))) 23 0 (by kernel_rfl) (by kernel_rfl) (by kernel_rfl)), ?_⟩
  refine ⟨isVal (.pointer (some ⟨g, 0, none⟩)), step_field 87 (.tmp 24) 0 ⟨g, 0, none⟩ ⟨g, 0, none⟩ (by kernel_rfl) (wanted_none (by kernel_rfl)) (knows_new (V := isVal (.pointer (some ⟨g, 0, none⟩))) 24 1 (by kernel_rfl) (by kernel_rfl) (by kernel_rfl)) (field_wr g 0 (by omega)), ?_⟩
  refine ⟨isVal (.pointer (some ⟨b, 4, none⟩)), step_field 46 (.tmp 3) 4 ⟨b, 0, none⟩ ⟨b, 4, none⟩ (by kernel_rfl) (wanted_none (by kernel_rfl)) (knows_old 3 (.pointer (some ⟨b, 0, none⟩)) (by kernel_rfl) e3) (field_va b 4 (by omega)), ?_⟩
  refine ⟨isVal (.string ⟨A.text.toArray⟩), step_read 9 (.tmp 26) ⟨b, 4, none⟩ (.string ⟨A.text.toArray⟩) (by kernel_rfl) (wanted_none (by kernel_rfl)) (knows_new (V := isVal (.pointer (some ⟨b, 4, none⟩))) 26 3 (by kernel_rfl) (by kernel_rfl) (by kernel_rfl)) (hc.2 4 _ rfl) hc.1 agg_str, ?_⟩
  refine ⟨isVal (.int .i64 (A.text.length : Int)), step_len 9 (.tmp 27) (.string ⟨A.text.toArray⟩) (.int .i64 (A.text.length : Int)) (by kernel_rfl) (wanted_none (by kernel_rfl)) (knows_new (V := isVal (.string ⟨A.text.toArray⟩)) 27 4 (by kernel_rfl) (by kernel_rfl) (by kernel_rfl)) (len_str A.text), ?_⟩
  intro a w hkp hb hd
  have d25 : a.eval (.tmp 25) = _ := fdone_of (hd 2 (by decide)) (t := 25) (V := isVal (.pointer (some ⟨g, 0, none⟩))) (by kernel_rfl) (by kernel_rfl)
  have d28 : a.eval (.tmp 28) = _ := fdone_of (hd 5 (by decide)) (t := 28) (V := isVal (.int .i64 (A.text.length : Int))) (by kernel_rfl) (by kernel_rfl)
  refine tail_call 56 #[.tmp 25, .tmp 28, .const (.int .i64 1)] #[85, 3, 3] #[.pointer (some ⟨g, 0, none⟩), .int .i64 (A.text.length : Int), .int .i64 1] 29 (by kernel_rfl) (by kernel_rfl) (by simp only [List.map_toArray, List.map_cons, List.map_nil, d25, d28]; try rfl) (enters_of Tryz.func56 (by kernel_rfl) rfl) ?_
  obtain ⟨y, ey⟩ := kept_ex hkp [some 23, some 24, some 25, some 26, some 27, some 28, some 29] [23, 24, 25, 26, 27, 28, 29] (by kernel_rfl) (by decide)
  refine (hC y w hb).mono ?_
  rintro e w' ⟨v, rfl, hq⟩
  exact ⟨v, rfl, put_kept ey hq⟩
noncomputable def wr5Ops : Array Oper := regionOf Tryz.f88 5
set_option maxRecDepth 100000 in
set_option maxHeartbeats 2000000 in
theorem wr5_region (Q : Exit → Act → World → Prop) (a0 : Act) (w0 : World) (hsz : a0.tmps.size = 36) (A : Va) (g b : Nat) (vp vm : Value) (e0 : a0.tmps.getD 0 undef = .pointer (some ⟨g, 0, none⟩)) (e3 : a0.tmps.getD 3 undef = .pointer (some ⟨b, 0, none⟩)) (hc : CellsN w0 b [.int .i64 A.kind, .int .i64 A.time, .int .i64 A.node, .bool A.dead, .string ⟨A.text.toArray⟩, vp, vm, .int .u64 (A.flags.toNat : Int)])
    (hC : ∀ (y : Nat → Value) (w : World), Below w0.heap.size w0 w → Calls Tryz.prog 57 #[.pointer (some ⟨g, 0, none⟩), .string ⟨A.text.toArray⟩] w fun e w' => ∃ v, e = .returned v ∧ Q .normal { tmps := ([30, 31, 32, 33, 34, 35].foldl (fun t s => t.setIfInBounds s (y s)) a0.tmps).setIfInBounds 35 v, defers := a0.defers } w') :
    (Code.region 5 wr5Ops true).wp Tryz.prog Q a0 w0 := by
  refine wp_region_cov 5 mixed (by rw [hsz]; kernel_rfl) (by kernel_rfl) ?_
  rw [show wr5Ops.size - 5 = 1 by kernel_rfl]
  refine ⟨isVal (.pointer (some ⟨g, 0, none⟩)), step_move (.tmp 0) (by kernel_rfl) (wanted_none (by kernel_rfl)) (stable_val _) (knows_old 0 (.pointer (some ⟨g, 0, none⟩)) (by kernel_rfl) e0), ?_⟩
  refine ⟨isVal (.pointer (some ⟨g, 0, none⟩)), step_nilP (.tmp 30) ⟨g, 0, none⟩ (by kernel_rfl) (wanted_none (by kernel_rfl)) (knows_new (V := isVal (.pointer (some ⟨g, 0, none⟩))) 30 0 (by kernel_rfl) (by kernel_rfl) (by kernel_rfl)), ?_⟩
  refine ⟨isVal (.pointer (some ⟨g, 0, none⟩)), step_field 87 (.tmp 31) 0 ⟨g, 0, none⟩ ⟨g, 0, none⟩ (by kernel_rfl) (wanted_none (by kernel_rfl)) (knows_new (V := isVal (.pointer (some ⟨g, 0, none⟩))) 31 1 (by kernel_rfl) (by kernel_rfl) (by kernel_rfl)) (field_wr g 0 (by omega)), ?_⟩
  refine ⟨isVal (.pointer (some ⟨b, 4, none⟩)), step_field 46 (.tmp 3) 4 ⟨b, 0, none⟩ ⟨b, 4, none⟩ (by kernel_rfl) (wanted_none (by kernel_rfl)) (knows_old 3 (.pointer (some ⟨b, 0, none⟩)) (by kernel_rfl) e3) (field_va b 4 (by omega)), ?_⟩
  refine ⟨isVal (.string ⟨A.text.toArray⟩), step_read 9 (.tmp 33) ⟨b, 4, none⟩ (.string ⟨A.text.toArray⟩) (by kernel_rfl) (wanted_none (by kernel_rfl)) (knows_new (V := isVal (.pointer (some ⟨b, 4, none⟩))) 33 3 (by kernel_rfl) (by kernel_rfl) (by kernel_rfl)) (hc.2 4 _ rfl) hc.1 agg_str, ?_⟩
  intro a w hkp hb hd
  have d32 : a.eval (.tmp 32) = _ := fdone_of (hd 2 (by decide)) (t := 32) (V := isVal (.pointer (some ⟨g, 0, none⟩))) (by kernel_rfl) (by kernel_rfl)
  have d34 : a.eval (.tmp 34) = _ := fdone_of (hd 4 (by decide)) (t := 34) (V := isVal (.string ⟨A.text.toArray⟩)) (by kernel_rfl) (by kernel_rfl)
  refine tail_call 57 #[.tmp 32, .tmp 34] #[85, 9] #[.pointer (some ⟨g, 0, none⟩), .string ⟨A.text.toArray⟩] 35 (by kernel_rfl) (by kernel_rfl) (by simp only [List.map_toArray, List.map_cons, List.map_nil, d32, d34]; try rfl) (enters_of Tryz.func57 (by kernel_rfl) rfl) ?_
  obtain ⟨y, ey⟩ := kept_ex hkp [some 30, some 31, some 32, some 33, some 34, some 35] [30, 31, 32, 33, 34, 35] (by kernel_rfl) (by decide)
  refine (hC y w hb).mono ?_
  rintro e w' ⟨v, rfl, hq⟩
  exact ⟨v, rfl, put_kept ey hq⟩
set_option maxRecDepth 100000 in
set_option maxHeartbeats 4000000 in
theorem wreg_any (A : Va) (g : Nat) (t : List UInt8) (v : Value) (w : World) (hv : isVa A v w) (h : At w g (txt t)) (ht : t.length ≤ 500) (hk : A.kind = 1) (hI : inReg A = true) :
    Calls Tryz.prog 88 #[ptr g, v] w fun e w' => e = .returned unitV ∧ Wr g (txt (t ++ dataL A)) w w' := by
  have HD := Kept.mk (data_reg hk)
  simp only [inReg, Bool.and_eq_true, decide_eq_true_eq] at hI
  obtain ⟨⟨⟨⟨t0, t1⟩, ⟨n0, n1⟩⟩, x8⟩, -⟩ := hI
  have hb2 : bitN A.dead ≤ 1 := by unfold bitN; split <;> omega
  have l1 := length_putL 4 A.time.toNat
  have l2 := length_putL 1 A.node.toNat
  have l3 := length_putL 1 (bitI A.dead).toNat
  have l4 := length_putL 1 (A.text.length : Int).toNat
  clear hk
  obtain ⟨vp, vm, rfl, hp, hm⟩ := hv
  have hg := h.lt
  have HW := Kept.mk ((Wr.refl h).alloc (.cells #[.int .i64 A.kind, .int .i64 A.time, .int .i64 A.node, .bool A.dead, .string ⟨A.text.toArray⟩, vp, vm, .int .u64 (A.flags.toNat : Int)] 46))
  have HV := Kept.mk (Blk.new w 46 [.int .i64 A.kind, .int .i64 A.time, .int .i64 A.node, .bool A.dead, .string ⟨A.text.toArray⟩, vp, vm, .int .u64 (A.flags.toNat : Int)] w.heap.size rfl)
  go_enter Tryz.func88, Tryz.ntmps88
  go_wp2_with fail
  generalize w.alloc (.cells #[.int .i64 A.kind, .int .i64 A.time, .int .i64 A.node, .bool A.dead, .string ⟨A.text.toArray⟩, vp, vm, .int .u64 (A.flags.toNat : Int)] 46) = W0 at *
  refine wr1_region _ _ _ rfl A g w.heap.size vp vm rfl rfl HV.out.cells ?_
  intro y9 W9 hb9
  replace HW := Kept.mk (HW.out.then_ hb9)
  replace HV := Kept.mk (HV.out.keep hb9)
  clear hb9
  refine (number_z g (t) A.time 4 W9 HW.out.at_ (by first | omega | (simp only [List.length_append]; omega)) (by omega) (by omega) (by omega) (by omega) (by show _ < 4294967296; omega)).mono ?_
  rintro e W1 ⟨rfl, hw⟩
  replace HW := Kept.mk (HW.out.trans hw)
  replace HV := Kept.mk (HV.out.wr hw (by omega))
  clear hw
  refine ⟨_, rfl, ?_⟩
  simp only [List.foldl_cons, List.foldl_nil]
  generalize y9 4 = z4
  generalize y9 5 = z5
  generalize y9 6 = z6
  generalize y9 7 = z7
  generalize y9 8 = z8
  generalize y9 9 = z9
  simp only [List.setIfInBounds_toArray, List.set_cons_succ, List.set_cons_zero]
  clear y9
  go_wp2_with fail
  refine wr2_region _ _ _ rfl A g w.heap.size vp vm rfl rfl HV.out.cells ?_
  intro y9 W9 hb9
  replace HW := Kept.mk (HW.out.then_ hb9)
  replace HV := Kept.mk (HV.out.keep hb9)
  clear hb9
  refine (number_z g (t ++ putL A.time.toNat 4) A.node 1 W9 HW.out.at_ (by first | omega | (simp only [List.length_append]; omega)) (by omega) (by omega) (by omega) (by omega) (by show _ < 256; omega)).mono ?_
  rintro e W2 ⟨rfl, hw⟩
  replace HW := Kept.mk (HW.out.trans hw)
  replace HV := Kept.mk (HV.out.wr hw (by omega))
  clear hw
  refine ⟨_, rfl, ?_⟩
  simp only [List.foldl_cons, List.foldl_nil]
  generalize y9 10 = z10
  generalize y9 11 = z11
  generalize y9 12 = z12
  generalize y9 13 = z13
  generalize y9 14 = z14
  generalize y9 15 = z15
  simp only [List.setIfInBounds_toArray, List.set_cons_succ, List.set_cons_zero]
  clear y9
  go_wp2_with fail
  refine wr3_region _ _ _ rfl A g w.heap.size vp vm rfl rfl HV.out.cells ?_
  intro y9 W9 hb9
  replace HW := Kept.mk (HW.out.then_ hb9)
  replace HV := Kept.mk (HV.out.keep hb9)
  clear hb9
  refine (number_z g ((t ++ putL A.time.toNat 4) ++ putL A.node.toNat 1) (bitI A.dead) 1 W9 HW.out.at_ (by first | omega | (simp only [List.length_append]; omega)) (by unfold bitI; omega) (by unfold bitI; omega) (by omega) (by omega) (by show (bitN A.dead) < 256; omega)).mono ?_
  rintro e W3 ⟨rfl, hw⟩
  replace HW := Kept.mk (HW.out.trans hw)
  replace HV := Kept.mk (HV.out.wr hw (by omega))
  clear hw
  refine ⟨_, rfl, ?_⟩
  simp only [List.foldl_cons, List.foldl_nil]
  generalize y9 16 = z16
  generalize y9 17 = z17
  generalize y9 18 = z18
  generalize y9 19 = z19
  generalize y9 20 = z20
  generalize y9 21 = z21
  generalize y9 22 = z22
  simp only [List.setIfInBounds_toArray, List.set_cons_succ, List.set_cons_zero]
  clear y9
  go_wp2_with fail
  refine wr4_region _ _ _ rfl A g w.heap.size vp vm rfl rfl HV.out.cells ?_
  intro y9 W9 hb9
  replace HW := Kept.mk (HW.out.then_ hb9)
  replace HV := Kept.mk (HV.out.keep hb9)
  clear hb9
  refine (number_z g (((t ++ putL A.time.toNat 4) ++ putL A.node.toNat 1) ++ putL (bitI A.dead).toNat 1) (A.text.length : Int) 1 W9 HW.out.at_ (by first | omega | (simp only [List.length_append]; omega)) (by omega) (by omega) (by omega) (by omega) (by show _ < 256; omega)).mono ?_
  rintro e W4 ⟨rfl, hw⟩
  replace HW := Kept.mk (HW.out.trans hw)
  replace HV := Kept.mk (HV.out.wr hw (by omega))
  clear hw
  refine ⟨_, rfl, ?_⟩
  simp only [List.foldl_cons, List.foldl_nil]
  generalize y9 23 = z23
  generalize y9 24 = z24
  generalize y9 25 = z25
  generalize y9 26 = z26
  generalize y9 27 = z27
  generalize y9 28 = z28
  generalize y9 29 = z29
  simp only [List.setIfInBounds_toArray, List.set_cons_succ, List.set_cons_zero]
  clear y9
  go_wp2_with fail
  refine wr5_region _ _ _ rfl A g w.heap.size vp vm rfl rfl HV.out.cells ?_
  intro y9 W9 hb9
  replace HW := Kept.mk (HW.out.then_ hb9)
  replace HV := Kept.mk (HV.out.keep hb9)
  clear hb9
  refine (add_any g ((((t ++ putL A.time.toNat 4) ++ putL A.node.toNat 1) ++ putL (bitI A.dead).toNat 1) ++ putL (A.text.length : Int).toNat 1) A.text W9 HW.out.at_ (by simp only [List.length_append]; omega) (by omega)).mono ?_
  rintro e W5 ⟨rfl, hw⟩
  replace HW := Kept.mk (HW.out.trans hw)
  replace HV := Kept.mk (HV.out.wr hw (by omega))
  clear hw
  refine ⟨_, rfl, ?_⟩
  simp only [List.foldl_cons, List.foldl_nil]
  generalize y9 30 = z30
  generalize y9 31 = z31
  generalize y9 32 = z32
  generalize y9 33 = z33
  generalize y9 34 = z34
  generalize y9 35 = z35
  simp only [List.setIfInBounds_toArray, List.set_cons_succ, List.set_cons_zero]
  clear y9
  go_wp2
  go_end0
  refine ⟨rfl, ?_⟩
  have := HW.out
  rw [HD.out]
  simpa only [List.append_assoc, bitI, Int.toNat_natCast] using this
theorem nums_app : ∀ (a b : List Int), numsL (a ++ b) = numsL a ++ numsL b
  | [], b => rfl
  | x :: r, b => by rw [List.cons_append, numsL, nums_app r b, numsL, List.append_assoc]
theorem nums_take (l : List Int) (k : Nat) (h : k < l.length) : numsL (l.take (k + 1)) = numsL (l.take k) ++ putL l[k].toNat 2 := by
  rw [List.take_succ_eq_append_getElem h, nums_app, numsL, numsL, List.append_nil]
set_option maxRecDepth 100000 in
set_option maxHeartbeats 4000000 in
theorem wrow_any (l : List Int) (g : Nat) (t : List UInt8) (v : Value) (w : World) (hv : isCells (l.map intC) v w) (hne : blk v ≠ some g) (h : At w g (txt t)) (ht : t.length ≤ 500) (hl : l.length ≤ 40) (hn : l.all okNum = true) :
    Calls Tryz.prog 109 #[ptr g, v] w fun e w' => e = .returned unitV ∧ Wr g (txt (t ++ numsL l)) w w' := by
  obtain ⟨a, cap, hva⟩ := hv.len
  rw [List.length_map] at hva
  subst hva
  have HV := Kept.mk hv
  have HN := Kept.mk hn
  have HG := Kept.mk hne
  have HW := Kept.mk (Wr.refl h)
  have hg := h.lt
  clear hv hn hne
  go_enter Tryz.func109, Tryz.ntmps109
  go_wp2
  go_loopw [8] (fun i wr => ∃ k : Nat, k ≤ l.length ∧ i = .int .i64 (k : Int) ∧ Kept (Wr g (txt (t ++ numsL (l.take k))) w wr)) (fun i _ => l.length - (intOf i).toNat)
  case atStart => exact ⟨0, Nat.zero_le _, rfl, ⟨by rw [List.take_zero, numsL, List.append_nil]; exact HW.out⟩⟩
  case round =>
    clear HW
    obtain ⟨k, hk, rfl, HW⟩ := hrel
    by_cases hlt : k < l.length
    · have HV1 := HV.out.wr HW.out HG.out
      obtain ⟨b, off, cap', hs, hb, hc⟩ := HV1.some_ (by rw [List.length_map]; omega)
      rw [List.length_map] at hs
      injection hs with h1 h2 h3
      subst h1 h3
      have hcell := hc k _ (get_map intC l k hlt)
      have hx2 : okNum l[k] = true := List.all_eq_true.1 HN.out _ (List.getElem_mem hlt)
      unfold okNum at hx2
      simp only [Bool.and_eq_true, decide_eq_true_eq] at hx2
      have HS := Kept.mk (nums_take l k hlt)
      obtain ⟨x, hx⟩ : ∃ x, x = l[k] := ⟨_, rfl⟩
      rw [← hx] at hcell HS hx2
      unfold intC at hcell
      clear hc hx HV1
      obtain ⟨b3, b4⟩ := hx2
      have hlen := length_nums (l.take k)
      have hlk : (l.take k).length ≤ 40 := by rw [List.length_take]; omega
      have d1 : decide ((k : Int) < (l.length : Int)) = true := by simpa using hlt
      go_wp2_with fail
      refine (number_z g (t ++ numsL (l.take k)) x 2 _ HW.out.at_ (by rw [List.length_append]; omega) b3 (by omega) (by omega) (by omega) (by show _ < 65536; omega)).mono ?_
      rintro e w2 ⟨rfl, hw⟩
      replace HW := Kept.mk (HW.out.trans hw)
      clear hw
      go_wp2
      go_roundw
      case rel => exact ⟨k + 1, by omega, by go_num, ⟨by rw [HS.out, ← List.append_assoc]; exact HW.out⟩⟩
      case measure => simp [intOf]; omega
    · have d1 : decide ((k : Int) < (l.length : Int)) = false := by simpa using hlt
      go_wp2
      go_end0
      refine ⟨rfl, ?_⟩
      have := HW.out
      rwa [List.take_of_length_le (by omega)] at this
set_option maxRecDepth 100000 in
set_option maxHeartbeats 4000000 in
theorem wcount_any (A : Va) (g : Nat) (t : List UInt8) (vp vm : Value) (w : World) (hp : isCells (A.plus.map intC) vp w) (hm : isCells (A.minus.map intC) vm w) (np : blk vp ≠ some g) (nm : blk vm ≠ some g) (h : At w g (txt t)) (ht : t.length ≤ 300) (hk : A.kind = 2) (hI : inCount A = true) :
    Calls Tryz.prog 89 #[ptr g, .agg #[.int .i64 A.kind, .int .i64 A.time, .int .i64 A.node, .bool A.dead, .string ⟨A.text.toArray⟩, vp, vm, .int .u64 (A.flags.toNat : Int)]] w fun e w' => e = .returned unitV ∧ Wr g (txt (t ++ dataL A)) w w' := by
  have HD := Kept.mk (data_count hk)
  simp only [inCount, okRow, Bool.and_eq_true, decide_eq_true_eq] at hI
  obtain ⟨⟨l1, a1⟩, ⟨l2, a2⟩⟩ := hI
  have hlen := length_nums A.plus
  clear hk
  have hg := h.lt
  have HW := Kept.mk ((Wr.refl h).alloc (.cells #[.int .i64 A.kind, .int .i64 A.time, .int .i64 A.node, .bool A.dead, .string ⟨A.text.toArray⟩, vp, vm, .int .u64 (A.flags.toNat : Int)] 46))
  have HV := Kept.mk (Blk.new w 46 [.int .i64 A.kind, .int .i64 A.time, .int .i64 A.node, .bool A.dead, .string ⟨A.text.toArray⟩, vp, vm, .int .u64 (A.flags.toNat : Int)] w.heap.size rfl)
  have HP := Kept.mk (stable_cells _ _ _ _ hp (lit_below w (.cells #[.int .i64 A.kind, .int .i64 A.time, .int .i64 A.node, .bool A.dead, .string ⟨A.text.toArray⟩, vp, vm, .int .u64 (A.flags.toNat : Int)] 46)))
  have HM := Kept.mk (stable_cells _ _ _ _ hm (lit_below w (.cells #[.int .i64 A.kind, .int .i64 A.time, .int .i64 A.node, .bool A.dead, .string ⟨A.text.toArray⟩, vp, vm, .int .u64 (A.flags.toNat : Int)] 46)))
  have NP := Kept.mk np
  have NM := Kept.mk nm
  clear hp hm np nm
  have kv5 := HV.out.cells.2 5 _ rfl
  go_enter Tryz.func89, Tryz.ntmps89
  go_wp2_with fail
  clear kv5
  generalize w.alloc (.cells #[.int .i64 A.kind, .int .i64 A.time, .int .i64 A.node, .bool A.dead, .string ⟨A.text.toArray⟩, vp, vm, .int .u64 (A.flags.toNat : Int)] 46) = W0 at *
  refine (wrow_any A.plus g t vp W0 HP.out NP.out HW.out.at_ (by omega) (by omega) a1).mono ?_
  rintro e W1 ⟨rfl, hw⟩
  replace HM := Kept.mk (HM.out.wr hw NM.out)
  replace HV := Kept.mk (HV.out.wr hw (by omega))
  replace HW := Kept.mk (HW.out.trans hw)
  clear hw HP
  have kv6 := HV.out.cells.2 6 _ rfl
  go_wp2_with fail
  clear kv6
  refine (wrow_any A.minus g (t ++ numsL A.plus) vm W1 HM.out NM.out HW.out.at_ (by rw [List.length_append]; omega) (by omega) a2).mono ?_
  rintro e W2 ⟨rfl, hw⟩
  replace HW := Kept.mk (HW.out.trans hw)
  clear hw HM HV
  go_wp2
  go_end0
  refine ⟨rfl, ?_⟩
  rw [HD.out, ← List.append_assoc]
  exact HW.out
theorem and_low (F : Nat) (h : F < 18446744073709551616) (t : TypeId) (w : World) : (binOp .and t (.int .u64 (F : Int)) (.int .u64 4294967295)).run Tryz.prog w = .ok (.int .u64 ((F % 4294967296 : Nat) : Int)) w := by
  have e : bits .and .u64 (F : Int) ((4294967295 : Nat) : Int) = ((F &&& 4294967295 : Nat) : Int) := u64_and_nat _ _ h (by omega)
  have e2 : F &&& 4294967295 = F % 4294967296 := Nat.and_two_pow_sub_one_eq_mod F 32
  rw [e2] at e
  simp [go_sem]
  exact e
theorem shr_half (F : Nat) (h : F < 18446744073709551616) (w : World) : (binOp .shr 44 (.int .u64 (F : Int)) (.int .u64 32)).run Tryz.prog w = .ok (.int .u64 ((F / 4294967296 : Nat) : Int)) w := by
  simp [go_sem]
theorem conv_int (F : Nat) (h : F < 4294967296) (w : World) : (convert 44 3 (.int .u64 (F : Int))).run Tryz.prog w = .ok (.int .i64 (F : Int)) w := by
  simp [convert, run_underlying Tryz.underlying44, run_underlying Tryz.underlying3, go_sem]
  exact IntWalk.i64_in _ (by omega)
noncomputable def wf1Ops : Array Oper := regionOf Tryz.f90 1
set_option maxRecDepth 100000 in
set_option maxHeartbeats 2000000 in
theorem wf1_region (Q : Exit → Act → World → Prop) (a0 : Act) (w0 : World) (hsz : a0.tmps.size = 20) (A : Va) (g b : Nat) (vp vm : Value) (e0 : a0.tmps.getD 0 undef = .pointer (some ⟨g, 0, none⟩)) (e3 : a0.tmps.getD 3 undef = .pointer (some ⟨b, 0, none⟩)) (hc : CellsN w0 b [.int .i64 A.kind, .int .i64 A.time, .int .i64 A.node, .bool A.dead, .string ⟨A.text.toArray⟩, vp, vm, .int .u64 (A.flags.toNat : Int)])
    (hC : ∀ (y : Nat → Value) (w : World), Below w0.heap.size w0 w → Calls Tryz.prog 56 #[.pointer (some ⟨g, 0, none⟩), .int .i64 ((A.flags.toNat % 4294967296 : Nat) : Int), .int .i64 4] w fun e w' => ∃ v, e = .returned v ∧ Q .normal { tmps := ([4, 5, 6, 7, 8, 9, 10, 11].foldl (fun t s => t.setIfInBounds s (y s)) a0.tmps).setIfInBounds 11 v, defers := a0.defers } w') :
    (Code.region 1 wf1Ops true).wp Tryz.prog Q a0 w0 := by
  refine wp_region_cov 7 mixed (by rw [hsz]; kernel_rfl) (by kernel_rfl) ?_
  rw [show wf1Ops.size - 7 = 1 by kernel_rfl]
  refine ⟨isVal (.pointer (some ⟨g, 0, none⟩)), step_move (.tmp 0) (by kernel_rfl) (wanted_none (by kernel_rfl)) (stable_val _) (knows_old 0 (.pointer (some ⟨g, 0, none⟩)) (by kernel_rfl) e0), ?_⟩
  refine ⟨isVal (.pointer (some ⟨g, 0, none⟩)), step_nilP (.tmp 4) ⟨g, 0, none⟩ (by kernel_rfl) (wanted_none (by kernel_rfl)) (knows_new (V := isVal (.pointer (some ⟨g, 0, none⟩))) 4 0 (by kernel_rfl) (by kernel_rfl) (by kernel_rfl)), ?_⟩
  refine ⟨isVal (.pointer (some ⟨g, 0, none⟩)), step_field 87 (.tmp 5) 0 ⟨g, 0, none⟩ ⟨g, 0, none⟩ (by kernel_rfl) (wanted_none (by kernel_rfl)) (knows_new (V := isVal (.pointer (some ⟨g, 0, none⟩))) 5 1 (by kernel_rfl) (by kernel_rfl) (by kernel_rfl)) (field_wr g 0 (by omega)), ?_⟩
  refine ⟨isVal (.pointer (some ⟨b, 7, none⟩)), step_field 46 (.tmp 3) 7 ⟨b, 0, none⟩ ⟨b, 7, none⟩ (by kernel_rfl) (wanted_none (by kernel_rfl)) (knows_old 3 (.pointer (some ⟨b, 0, none⟩)) (by kernel_rfl) e3) (field_va b 7 (by omega)), ?_⟩
  refine ⟨isVal (.int .u64 (A.flags.toNat : Int)), step_read 44 (.tmp 7) ⟨b, 7, none⟩ (.int .u64 (A.flags.toNat : Int)) (by kernel_rfl) (wanted_none (by kernel_rfl)) (knows_new (V := isVal (.pointer (some ⟨b, 7, none⟩))) 7 3 (by kernel_rfl) (by kernel_rfl) (by kernel_rfl)) (hc.2 7 _ rfl) hc.1 agg_u64, ?_⟩
  refine ⟨isVal (.int .u64 ((A.flags.toNat % 4294967296 : Nat) : Int)), step_bin .and 44 44 (.tmp 8) (.const (.int .u64 4294967295)) (.int .u64 (A.flags.toNat : Int)) (.int .u64 4294967295) (.int .u64 ((A.flags.toNat % 4294967296 : Nat) : Int)) (by kernel_rfl) (wanted_none (by kernel_rfl)) (knows_new (V := isVal (.int .u64 (A.flags.toNat : Int))) 8 4 (by kernel_rfl) (by kernel_rfl) (by kernel_rfl)) (knows_const _) (fun _ => rfl) (and_low _ A.flags.toNat_lt _), ?_⟩
  refine ⟨isVal (.int .i64 ((A.flags.toNat % 4294967296 : Nat) : Int)), step_conv 44 3 (.tmp 9) (.int .u64 ((A.flags.toNat % 4294967296 : Nat) : Int)) (.int .i64 ((A.flags.toNat % 4294967296 : Nat) : Int)) (by kernel_rfl) (wanted_none (by kernel_rfl)) (knows_new (V := isVal (.int .u64 ((A.flags.toNat % 4294967296 : Nat) : Int))) 9 5 (by kernel_rfl) (by kernel_rfl) (by kernel_rfl)) (conv_int _ (Nat.mod_lt _ (by omega))), ?_⟩
  intro a w hkp hb hd
  have d6 : a.eval (.tmp 6) = _ := fdone_of (hd 2 (by decide)) (t := 6) (V := isVal (.pointer (some ⟨g, 0, none⟩))) (by kernel_rfl) (by kernel_rfl)
  have d10 : a.eval (.tmp 10) = _ := fdone_of (hd 6 (by decide)) (t := 10) (V := isVal (.int .i64 ((A.flags.toNat % 4294967296 : Nat) : Int))) (by kernel_rfl) (by kernel_rfl)
  refine tail_call 56 #[.tmp 6, .tmp 10, .const (.int .i64 4)] #[85, 3, 3] #[.pointer (some ⟨g, 0, none⟩), .int .i64 ((A.flags.toNat % 4294967296 : Nat) : Int), .int .i64 4] 11 (by kernel_rfl) (by kernel_rfl) (by simp only [List.map_toArray, List.map_cons, List.map_nil, d6, d10]; try rfl) (enters_of Tryz.func56 (by kernel_rfl) rfl) ?_
  obtain ⟨y, ey⟩ := kept_ex hkp [some 4, some 5, some 6, some 7, some 8, some 9, some 10, some 11] [4, 5, 6, 7, 8, 9, 10, 11] (by kernel_rfl) (by decide)
  refine (hC y w hb).mono ?_
  rintro e w' ⟨v, rfl, hq⟩
  exact ⟨v, rfl, put_kept ey hq⟩
noncomputable def wf2Ops : Array Oper := regionOf Tryz.f90 2
set_option maxRecDepth 100000 in
set_option maxHeartbeats 2000000 in
theorem wf2_region (Q : Exit → Act → World → Prop) (a0 : Act) (w0 : World) (hsz : a0.tmps.size = 20) (A : Va) (g b : Nat) (vp vm : Value) (e0 : a0.tmps.getD 0 undef = .pointer (some ⟨g, 0, none⟩)) (e3 : a0.tmps.getD 3 undef = .pointer (some ⟨b, 0, none⟩)) (hc : CellsN w0 b [.int .i64 A.kind, .int .i64 A.time, .int .i64 A.node, .bool A.dead, .string ⟨A.text.toArray⟩, vp, vm, .int .u64 (A.flags.toNat : Int)])
    (hC : ∀ (y : Nat → Value) (w : World), Below w0.heap.size w0 w → Calls Tryz.prog 56 #[.pointer (some ⟨g, 0, none⟩), .int .i64 ((A.flags.toNat / 4294967296 : Nat) : Int), .int .i64 4] w fun e w' => ∃ v, e = .returned v ∧ Q .normal { tmps := ([12, 13, 14, 15, 16, 17, 18, 19].foldl (fun t s => t.setIfInBounds s (y s)) a0.tmps).setIfInBounds 19 v, defers := a0.defers } w') :
    (Code.region 2 wf2Ops true).wp Tryz.prog Q a0 w0 := by
  refine wp_region_cov 7 mixed (by rw [hsz]; kernel_rfl) (by kernel_rfl) ?_
  rw [show wf2Ops.size - 7 = 1 by kernel_rfl]
  refine ⟨isVal (.pointer (some ⟨g, 0, none⟩)), step_move (.tmp 0) (by kernel_rfl) (wanted_none (by kernel_rfl)) (stable_val _) (knows_old 0 (.pointer (some ⟨g, 0, none⟩)) (by kernel_rfl) e0), ?_⟩
  refine ⟨isVal (.pointer (some ⟨g, 0, none⟩)), step_nilP (.tmp 12) ⟨g, 0, none⟩ (by kernel_rfl) (wanted_none (by kernel_rfl)) (knows_new (V := isVal (.pointer (some ⟨g, 0, none⟩))) 12 0 (by kernel_rfl) (by kernel_rfl) (by kernel_rfl)), ?_⟩
  refine ⟨isVal (.pointer (some ⟨g, 0, none⟩)), step_field 87 (.tmp 13) 0 ⟨g, 0, none⟩ ⟨g, 0, none⟩ (by kernel_rfl) (wanted_none (by kernel_rfl)) (knows_new (V := isVal (.pointer (some ⟨g, 0, none⟩))) 13 1 (by kernel_rfl) (by kernel_rfl) (by kernel_rfl)) (field_wr g 0 (by omega)), ?_⟩
  refine ⟨isVal (.pointer (some ⟨b, 7, none⟩)), step_field 46 (.tmp 3) 7 ⟨b, 0, none⟩ ⟨b, 7, none⟩ (by kernel_rfl) (wanted_none (by kernel_rfl)) (knows_old 3 (.pointer (some ⟨b, 0, none⟩)) (by kernel_rfl) e3) (field_va b 7 (by omega)), ?_⟩
  refine ⟨isVal (.int .u64 (A.flags.toNat : Int)), step_read 44 (.tmp 15) ⟨b, 7, none⟩ (.int .u64 (A.flags.toNat : Int)) (by kernel_rfl) (wanted_none (by kernel_rfl)) (knows_new (V := isVal (.pointer (some ⟨b, 7, none⟩))) 15 3 (by kernel_rfl) (by kernel_rfl) (by kernel_rfl)) (hc.2 7 _ rfl) hc.1 agg_u64, ?_⟩
  refine ⟨isVal (.int .u64 ((A.flags.toNat / 4294967296 : Nat) : Int)), step_bin .shr 44 55 (.tmp 16) (.const (.int .u64 32)) (.int .u64 (A.flags.toNat : Int)) (.int .u64 32) (.int .u64 ((A.flags.toNat / 4294967296 : Nat) : Int)) (by kernel_rfl) (wanted_none (by kernel_rfl)) (knows_new (V := isVal (.int .u64 (A.flags.toNat : Int))) 16 4 (by kernel_rfl) (by kernel_rfl) (by kernel_rfl)) (knows_const _) (fun _ => rfl) (shr_half _ A.flags.toNat_lt), ?_⟩
  refine ⟨isVal (.int .i64 ((A.flags.toNat / 4294967296 : Nat) : Int)), step_conv 44 3 (.tmp 17) (.int .u64 ((A.flags.toNat / 4294967296 : Nat) : Int)) (.int .i64 ((A.flags.toNat / 4294967296 : Nat) : Int)) (by kernel_rfl) (wanted_none (by kernel_rfl)) (knows_new (V := isVal (.int .u64 ((A.flags.toNat / 4294967296 : Nat) : Int))) 17 5 (by kernel_rfl) (by kernel_rfl) (by kernel_rfl)) (conv_int _ (by have := A.flags.toNat_lt; omega)), ?_⟩
  intro a w hkp hb hd
  have d14 : a.eval (.tmp 14) = _ := fdone_of (hd 2 (by decide)) (t := 14) (V := isVal (.pointer (some ⟨g, 0, none⟩))) (by kernel_rfl) (by kernel_rfl)
  have d18 : a.eval (.tmp 18) = _ := fdone_of (hd 6 (by decide)) (t := 18) (V := isVal (.int .i64 ((A.flags.toNat / 4294967296 : Nat) : Int))) (by kernel_rfl) (by kernel_rfl)
  refine tail_call 56 #[.tmp 14, .tmp 18, .const (.int .i64 4)] #[85, 3, 3] #[.pointer (some ⟨g, 0, none⟩), .int .i64 ((A.flags.toNat / 4294967296 : Nat) : Int), .int .i64 4] 19 (by kernel_rfl) (by kernel_rfl) (by simp only [List.map_toArray, List.map_cons, List.map_nil, d14, d18]; try rfl) (enters_of Tryz.func56 (by kernel_rfl) rfl) ?_
  obtain ⟨y, ey⟩ := kept_ex hkp [some 12, some 13, some 14, some 15, some 16, some 17, some 18, some 19] [12, 13, 14, 15, 16, 17, 18, 19] (by kernel_rfl) (by decide)
  refine (hC y w hb).mono ?_
  rintro e w' ⟨v, rfl, hq⟩
  exact ⟨v, rfl, put_kept ey hq⟩
set_option maxRecDepth 100000 in
set_option maxHeartbeats 4000000 in
theorem wflags_any (A : Va) (g : Nat) (t : List UInt8) (v : Value) (w : World) (hv : isVa A v w) (h : At w g (txt t)) (ht : t.length ≤ 500) (hk : A.kind = 3) :
    Calls Tryz.prog 90 #[ptr g, v] w fun e w' => e = .returned unitV ∧ Wr g (txt (t ++ dataL A)) w w' := by
  have HD := Kept.mk (data_flags hk)
  have hF := A.flags.toNat_lt
  have l1 := length_putL 4 ((A.flags.toNat % 4294967296 : Nat) : Int).toNat
  clear hk
  obtain ⟨vp, vm, rfl, hp, hm⟩ := hv
  have hg := h.lt
  have HW := Kept.mk ((Wr.refl h).alloc (.cells #[.int .i64 A.kind, .int .i64 A.time, .int .i64 A.node, .bool A.dead, .string ⟨A.text.toArray⟩, vp, vm, .int .u64 (A.flags.toNat : Int)] 46))
  have HV := Kept.mk (Blk.new w 46 [.int .i64 A.kind, .int .i64 A.time, .int .i64 A.node, .bool A.dead, .string ⟨A.text.toArray⟩, vp, vm, .int .u64 (A.flags.toNat : Int)] w.heap.size rfl)
  go_enter Tryz.func90, Tryz.ntmps90
  go_wp2_with fail
  generalize w.alloc (.cells #[.int .i64 A.kind, .int .i64 A.time, .int .i64 A.node, .bool A.dead, .string ⟨A.text.toArray⟩, vp, vm, .int .u64 (A.flags.toNat : Int)] 46) = W0 at *
  refine wf1_region _ _ _ rfl A g w.heap.size vp vm rfl rfl HV.out.cells ?_
  intro y9 W9 hb9
  replace HW := Kept.mk (HW.out.then_ hb9)
  replace HV := Kept.mk (HV.out.keep hb9)
  clear hb9
  refine (number_z g (t) ((A.flags.toNat % 4294967296 : Nat) : Int) 4 W9 HW.out.at_ (by first | omega | (simp only [List.length_append]; omega)) (by omega) (by omega) (by omega) (by omega) (by show _ < 4294967296; omega)).mono ?_
  rintro e W1 ⟨rfl, hw⟩
  replace HW := Kept.mk (HW.out.trans hw)
  replace HV := Kept.mk (HV.out.wr hw (by omega))
  clear hw
  refine ⟨_, rfl, ?_⟩
  simp only [List.foldl_cons, List.foldl_nil]
  generalize y9 4 = z4
  generalize y9 5 = z5
  generalize y9 6 = z6
  generalize y9 7 = z7
  generalize y9 8 = z8
  generalize y9 9 = z9
  generalize y9 10 = z10
  generalize y9 11 = z11
  simp only [List.setIfInBounds_toArray, List.set_cons_succ, List.set_cons_zero]
  clear y9
  go_wp2_with fail
  refine wf2_region _ _ _ rfl A g w.heap.size vp vm rfl rfl HV.out.cells ?_
  intro y9 W9 hb9
  replace HW := Kept.mk (HW.out.then_ hb9)
  replace HV := Kept.mk (HV.out.keep hb9)
  clear hb9
  refine (number_z g (t ++ putL ((A.flags.toNat % 4294967296 : Nat) : Int).toNat 4) ((A.flags.toNat / 4294967296 : Nat) : Int) 4 W9 HW.out.at_ (by first | omega | (simp only [List.length_append]; omega)) (by omega) (by omega) (by omega) (by omega) (by show _ < 4294967296; omega)).mono ?_
  rintro e W2 ⟨rfl, hw⟩
  replace HW := Kept.mk (HW.out.trans hw)
  replace HV := Kept.mk (HV.out.wr hw (by omega))
  clear hw
  refine ⟨_, rfl, ?_⟩
  simp only [List.foldl_cons, List.foldl_nil]
  generalize y9 12 = z12
  generalize y9 13 = z13
  generalize y9 14 = z14
  generalize y9 15 = z15
  generalize y9 16 = z16
  generalize y9 17 = z17
  generalize y9 18 = z18
  generalize y9 19 = z19
  simp only [List.setIfInBounds_toArray, List.set_cons_succ, List.set_cons_zero]
  clear y9
  go_wp2
  go_end0
  refine ⟨rfl, ?_⟩
  have := HW.out
  rw [HD.out]
  simpa only [List.append_assoc, Int.toNat_natCast] using this
end Go.Proofs.YtkjghoomdefbbaaGreatDoor
end
section
namespace Go.Proofs.YtkjghoomdefbbaaGreatDoor
open Go.RowKit
set_option linter.unusedVariables false
set_option linter.unusedSimpArgs false
attribute [local irreducible] setN

theorem old_blk {cs : List Value} {v : Value} {w : World} (h : isCells cs v w) (h0 : 0 < cs.length) {g : Nat} (hg : w.heap.size ≤ g) : blk v ≠ some g := by
  obtain ⟨b, off, cap, rfl, hb, -⟩ := h.some_ h0
  intro e
  injection e with e
  have : b = g := e
  omega
noncomputable def pu1Ops : Array Oper := regionOf Tryz.f31 5
set_option maxRecDepth 100000 in
set_option maxHeartbeats 2000000 in
theorem pu1_region (Q : Exit → Act → World → Prop) (a0 : Act) (w0 : World) (hsz : a0.tmps.size = 54) (E : En) (g b : Nat) (vp vm : Value) (e5 : a0.tmps.getD 5 undef = .pointer (some ⟨g, 0, none⟩)) (e1 : a0.tmps.getD 1 undef = .pointer (some ⟨b, 0, none⟩)) (hc : CellsN w0 b [.string ⟨E.key.toArray⟩, .int .i64 E.val.kind, .int .i64 E.val.time, .int .i64 E.val.node, .bool E.val.dead, .string ⟨E.val.text.toArray⟩, vp, vm, .int .u64 (E.val.flags.toNat : Int)])
    (hC : ∀ (y : Nat → Value) (w : World), Below w0.heap.size w0 w → Calls Tryz.prog 56 #[.pointer (some ⟨g, 0, none⟩), .int .i64 E.val.kind, .int .i64 1] w fun e w' => ∃ v, e = .returned v ∧ Q .normal { tmps := ([13, 14, 15, 16, 17, 18, 19].foldl (fun t s => t.setIfInBounds s (y s)) a0.tmps).setIfInBounds 19 v, defers := a0.defers } w') :
    (Code.region 5 pu1Ops true).wp Tryz.prog Q a0 w0 := by
  refine wp_region_cov 6 mixed (by rw [hsz]; kernel_rfl) (by kernel_rfl) ?_
  rw [show pu1Ops.size - 6 = 1 by kernel_rfl]
  refine ⟨isVal (.pointer (some ⟨g, 0, none⟩)), step_move (.tmp 5) (by kernel_rfl) (wanted_none (by kernel_rfl)) (stable_val _) (knows_old 5 (.pointer (some ⟨g, 0, none⟩)) (by kernel_rfl) e5), ?_⟩
  refine ⟨isVal (.pointer (some ⟨g, 0, none⟩)), step_nilP (.tmp 13) ⟨g, 0, none⟩ (by kernel_rfl) (wanted_none (by kernel_rfl)) (knows_new (V := isVal (.pointer (some ⟨g, 0, none⟩))) 13 0 (by kernel_rfl) (by kernel_rfl) (by kernel_rfl)), ?_⟩
  refine ⟨isVal (.pointer (some ⟨g, 0, none⟩)), step_field 87 (.tmp 14) 0 ⟨g, 0, none⟩ ⟨g, 0, none⟩ (by kernel_rfl) (wanted_none (by kernel_rfl)) (knows_new (V := isVal (.pointer (some ⟨g, 0, none⟩))) 14 1 (by kernel_rfl) (by kernel_rfl) (by kernel_rfl)) (field_wr g 0 (by omega)), ?_⟩
  refine ⟨isVal (.pointer (some ⟨b, 1, none⟩)), step_field 48 (.tmp 1) 1 ⟨b, 0, none⟩ ⟨b, 1, none⟩ (by kernel_rfl) (wanted_none (by kernel_rfl)) (knows_old 1 (.pointer (some ⟨b, 0, none⟩)) (by kernel_rfl) e1) (field_en b 1 (by omega)), ?_⟩
  refine ⟨isVal (.pointer (some ⟨b, 1, none⟩)), step_field 46 (.tmp 16) 0 ⟨b, 1, none⟩ ⟨b, 1, none⟩ (by kernel_rfl) (wanted_none (by kernel_rfl)) (knows_new (V := isVal (.pointer (some ⟨b, 1, none⟩))) 16 3 (by kernel_rfl) (by kernel_rfl) (by kernel_rfl)) (field_va1 b 0 (by omega)), ?_⟩
  refine ⟨isVal (.int .i64 E.val.kind), step_read 3 (.tmp 17) ⟨b, 1, none⟩ (.int .i64 E.val.kind) (by kernel_rfl) (wanted_none (by kernel_rfl)) (knows_new (V := isVal (.pointer (some ⟨b, 1, none⟩))) 17 4 (by kernel_rfl) (by kernel_rfl) (by kernel_rfl)) (hc.2 1 _ rfl) hc.1 agg_int, ?_⟩
  intro a w hkp hb hd
  have d15 : a.eval (.tmp 15) = _ := fdone_of (hd 2 (by decide)) (t := 15) (V := isVal (.pointer (some ⟨g, 0, none⟩))) (by kernel_rfl) (by kernel_rfl)
  have d18 : a.eval (.tmp 18) = _ := fdone_of (hd 5 (by decide)) (t := 18) (V := isVal (.int .i64 E.val.kind)) (by kernel_rfl) (by kernel_rfl)
  refine tail_call 56 #[.tmp 15, .tmp 18, .const (.int .i64 1)] #[85, 3, 3] #[.pointer (some ⟨g, 0, none⟩), .int .i64 E.val.kind, .int .i64 1] 19 (by kernel_rfl) (by kernel_rfl) (by simp only [List.map_toArray, List.map_cons, List.map_nil, d15, d18]; try rfl) (enters_of Tryz.func56 (by kernel_rfl) rfl) ?_
  obtain ⟨y, ey⟩ := kept_ex hkp [some 13, some 14, some 15, some 16, some 17, some 18, some 19] [13, 14, 15, 16, 17, 18, 19] (by kernel_rfl) (by decide)
  refine (hC y w hb).mono ?_
  rintro e w' ⟨v, rfl, hq⟩
  exact ⟨v, rfl, put_kept ey hq⟩
noncomputable def pu2Ops : Array Oper := regionOf Tryz.f31 6
set_option maxRecDepth 100000 in
set_option maxHeartbeats 2000000 in
theorem pu2_region (Q : Exit → Act → World → Prop) (a0 : Act) (w0 : World) (hsz : a0.tmps.size = 54) (E : En) (g b : Nat) (vp vm : Value) (e5 : a0.tmps.getD 5 undef = .pointer (some ⟨g, 0, none⟩)) (e1 : a0.tmps.getD 1 undef = .pointer (some ⟨b, 0, none⟩)) (hc : CellsN w0 b [.string ⟨E.key.toArray⟩, .int .i64 E.val.kind, .int .i64 E.val.time, .int .i64 E.val.node, .bool E.val.dead, .string ⟨E.val.text.toArray⟩, vp, vm, .int .u64 (E.val.flags.toNat : Int)])
    (hC : ∀ (y : Nat → Value) (w : World), Below w0.heap.size w0 w → Calls Tryz.prog 56 #[.pointer (some ⟨g, 0, none⟩), .int .i64 (E.key.length : Int), .int .i64 1] w fun e w' => ∃ v, e = .returned v ∧ Q .normal { tmps := ([20, 21, 22, 23, 24, 25, 26].foldl (fun t s => t.setIfInBounds s (y s)) a0.tmps).setIfInBounds 26 v, defers := a0.defers } w') :
    (Code.region 6 pu2Ops true).wp Tryz.prog Q a0 w0 := by
  refine wp_region_cov 6 mixed (by rw [hsz]; kernel_rfl) (by kernel_rfl) ?_
  rw [show pu2Ops.size - 6 = 1 by kernel_rfl]
  refine ⟨isVal (.pointer (some ⟨g, 0, none⟩)), step_move (.tmp 5) (by kernel_rfl) (wanted_none (by kernel_rfl)) (stable_val _) (knows_old 5 (.pointer (some ⟨g, 0, none⟩)) (by kernel_rfl) e5), ?_⟩
  refine ⟨isVal (.pointer (some ⟨g, 0, none⟩)), step_nilP (.tmp 20) ⟨g, 0, none⟩ (by kernel_rfl) (wanted_none (by kernel_rfl)) (knows_new (V := isVal (.pointer (some ⟨g, 0, none⟩))) 20 0 (by kernel_rfl) (by kernel_rfl) (by kernel_rfl)), ?_⟩
  refine ⟨isVal (.pointer (some ⟨g, 0, none⟩)), step_field 87 (.tmp 21) 0 ⟨g, 0, none⟩ ⟨g, 0, none⟩ (by kernel_rfl) (wanted_none (by kernel_rfl)) (knows_new (V := isVal (.pointer (some ⟨g, 0, none⟩))) 21 1 (by kernel_rfl) (by kernel_rfl) (by kernel_rfl)) (field_wr g 0 (by omega)), ?_⟩
  refine ⟨isVal (.pointer (some ⟨b, 0, none⟩)), step_field 48 (.tmp 1) 0 ⟨b, 0, none⟩ ⟨b, 0, none⟩ (by kernel_rfl) (wanted_none (by kernel_rfl)) (knows_old 1 (.pointer (some ⟨b, 0, none⟩)) (by kernel_rfl) e1) (field_en b 0 (by omega)), ?_⟩
  refine ⟨isVal (.string ⟨E.key.toArray⟩), step_read 9 (.tmp 23) ⟨b, 0, none⟩ (.string ⟨E.key.toArray⟩) (by kernel_rfl) (wanted_none (by kernel_rfl)) (knows_new (V := isVal (.pointer (some ⟨b, 0, none⟩))) 23 3 (by kernel_rfl) (by kernel_rfl) (by kernel_rfl)) (hc.2 0 _ rfl) hc.1 agg_str, ?_⟩
  refine ⟨isVal (.int .i64 (E.key.length : Int)), step_len 9 (.tmp 24) (.string ⟨E.key.toArray⟩) (.int .i64 (E.key.length : Int)) (by kernel_rfl) (wanted_none (by kernel_rfl)) (knows_new (V := isVal (.string ⟨E.key.toArray⟩)) 24 4 (by kernel_rfl) (by kernel_rfl) (by kernel_rfl)) (len_str E.key), ?_⟩
  intro a w hkp hb hd
  have d22 : a.eval (.tmp 22) = _ := fdone_of (hd 2 (by decide)) (t := 22) (V := isVal (.pointer (some ⟨g, 0, none⟩))) (by kernel_rfl) (by kernel_rfl)
  have d25 : a.eval (.tmp 25) = _ := fdone_of (hd 5 (by decide)) (t := 25) (V := isVal (.int .i64 (E.key.length : Int))) (by kernel_rfl) (by kernel_rfl)
  refine tail_call 56 #[.tmp 22, .tmp 25, .const (.int .i64 1)] #[85, 3, 3] #[.pointer (some ⟨g, 0, none⟩), .int .i64 (E.key.length : Int), .int .i64 1] 26 (by kernel_rfl) (by kernel_rfl) (by simp only [List.map_toArray, List.map_cons, List.map_nil, d22, d25]; try rfl) (enters_of Tryz.func56 (by kernel_rfl) rfl) ?_
  obtain ⟨y, ey⟩ := kept_ex hkp [some 20, some 21, some 22, some 23, some 24, some 25, some 26] [20, 21, 22, 23, 24, 25, 26] (by kernel_rfl) (by decide)
  refine (hC y w hb).mono ?_
  rintro e w' ⟨v, rfl, hq⟩
  exact ⟨v, rfl, put_kept ey hq⟩
noncomputable def pu3Ops : Array Oper := regionOf Tryz.f31 7
set_option maxRecDepth 100000 in
set_option maxHeartbeats 2000000 in
theorem pu3_region (Q : Exit → Act → World → Prop) (a0 : Act) (w0 : World) (hsz : a0.tmps.size = 54) (E : En) (g b : Nat) (vp vm : Value) (e5 : a0.tmps.getD 5 undef = .pointer (some ⟨g, 0, none⟩)) (e1 : a0.tmps.getD 1 undef = .pointer (some ⟨b, 0, none⟩)) (hc : CellsN w0 b [.string ⟨E.key.toArray⟩, .int .i64 E.val.kind, .int .i64 E.val.time, .int .i64 E.val.node, .bool E.val.dead, .string ⟨E.val.text.toArray⟩, vp, vm, .int .u64 (E.val.flags.toNat : Int)])
    (hC : ∀ (y : Nat → Value) (w : World), Below w0.heap.size w0 w → Calls Tryz.prog 57 #[.pointer (some ⟨g, 0, none⟩), .string ⟨E.key.toArray⟩] w fun e w' => ∃ v, e = .returned v ∧ Q .normal { tmps := ([27, 28, 29, 30, 31, 32].foldl (fun t s => t.setIfInBounds s (y s)) a0.tmps).setIfInBounds 32 v, defers := a0.defers } w') :
    (Code.region 7 pu3Ops true).wp Tryz.prog Q a0 w0 := by
  refine wp_region_cov 5 mixed (by rw [hsz]; kernel_rfl) (by kernel_rfl) ?_
  rw [show pu3Ops.size - 5 = 1 by kernel_rfl]
  refine ⟨isVal (.pointer (some ⟨g, 0, none⟩)), step_move (.tmp 5) (by kernel_rfl) (wanted_none (by kernel_rfl)) (stable_val _) (knows_old 5 (.pointer (some ⟨g, 0, none⟩)) (by kernel_rfl) e5), ?_⟩
  refine ⟨isVal (.pointer (some ⟨g, 0, none⟩)), step_nilP (.tmp 27) ⟨g, 0, none⟩ (by kernel_rfl) (wanted_none (by kernel_rfl)) (knows_new (V := isVal (.pointer (some ⟨g, 0, none⟩))) 27 0 (by kernel_rfl) (by kernel_rfl) (by kernel_rfl)), ?_⟩
  refine ⟨isVal (.pointer (some ⟨g, 0, none⟩)), step_field 87 (.tmp 28) 0 ⟨g, 0, none⟩ ⟨g, 0, none⟩ (by kernel_rfl) (wanted_none (by kernel_rfl)) (knows_new (V := isVal (.pointer (some ⟨g, 0, none⟩))) 28 1 (by kernel_rfl) (by kernel_rfl) (by kernel_rfl)) (field_wr g 0 (by omega)), ?_⟩
  refine ⟨isVal (.pointer (some ⟨b, 0, none⟩)), step_field 48 (.tmp 1) 0 ⟨b, 0, none⟩ ⟨b, 0, none⟩ (by kernel_rfl) (wanted_none (by kernel_rfl)) (knows_old 1 (.pointer (some ⟨b, 0, none⟩)) (by kernel_rfl) e1) (field_en b 0 (by omega)), ?_⟩
  refine ⟨isVal (.string ⟨E.key.toArray⟩), step_read 9 (.tmp 30) ⟨b, 0, none⟩ (.string ⟨E.key.toArray⟩) (by kernel_rfl) (wanted_none (by kernel_rfl)) (knows_new (V := isVal (.pointer (some ⟨b, 0, none⟩))) 30 3 (by kernel_rfl) (by kernel_rfl) (by kernel_rfl)) (hc.2 0 _ rfl) hc.1 agg_str, ?_⟩
  intro a w hkp hb hd
  have d29 : a.eval (.tmp 29) = _ := fdone_of (hd 2 (by decide)) (t := 29) (V := isVal (.pointer (some ⟨g, 0, none⟩))) (by kernel_rfl) (by kernel_rfl)
  have d31 : a.eval (.tmp 31) = _ := fdone_of (hd 4 (by decide)) (t := 31) (V := isVal (.string ⟨E.key.toArray⟩)) (by kernel_rfl) (by kernel_rfl)
  refine tail_call 57 #[.tmp 29, .tmp 31] #[85, 9] #[.pointer (some ⟨g, 0, none⟩), .string ⟨E.key.toArray⟩] 32 (by kernel_rfl) (by kernel_rfl) (by simp only [List.map_toArray, List.map_cons, List.map_nil, d29, d31]; try rfl) (enters_of Tryz.func57 (by kernel_rfl) rfl) ?_
  obtain ⟨y, ey⟩ := kept_ex hkp [some 27, some 28, some 29, some 30, some 31, some 32] [27, 28, 29, 30, 31, 32] (by kernel_rfl) (by decide)
  refine (hC y w hb).mono ?_
  rintro e w' ⟨v, rfl, hq⟩
  exact ⟨v, rfl, put_kept ey hq⟩
noncomputable def pk1Ops : Array Oper := regionOf Tryz.f31 9
set_option maxRecDepth 100000 in
set_option maxHeartbeats 2000000 in
theorem pk1_region (Q : Exit → Act → World → Prop) (a0 : Act) (w0 : World) (hsz : a0.tmps.size = 54) (E : En) (g b : Nat) (vp vm : Value) (e5 : a0.tmps.getD 5 undef = .pointer (some ⟨g, 0, none⟩)) (e1 : a0.tmps.getD 1 undef = .pointer (some ⟨b, 0, none⟩)) (hc : CellsN w0 b [.string ⟨E.key.toArray⟩, .int .i64 E.val.kind, .int .i64 E.val.time, .int .i64 E.val.node, .bool E.val.dead, .string ⟨E.val.text.toArray⟩, vp, vm, .int .u64 (E.val.flags.toNat : Int)]) (hk : E.val.kind = 1)
    (hC : ∀ (y : Nat → Value) (w : World), Below w0.heap.size w0 w → Calls Tryz.prog 88 #[.pointer (some ⟨g, 0, none⟩), .agg #[.int .i64 E.val.kind, .int .i64 E.val.time, .int .i64 E.val.node, .bool E.val.dead, .string ⟨E.val.text.toArray⟩, vp, vm, .int .u64 (E.val.flags.toNat : Int)]] w fun e w' => ∃ v, e = .returned v ∧ Q .normal { tmps := ([37, 38, 39, 40, 41, 42, 43, 44, 45].foldl (fun t s => t.setIfInBounds s (y s)) a0.tmps).setIfInBounds 45 v, defers := a0.defers } w') :
    (Code.region 9 pk1Ops true).wp Tryz.prog Q a0 w0 := by
  refine wp_region_cov 8 mixed (by rw [hsz]; kernel_rfl) (by kernel_rfl) ?_
  rw [show pk1Ops.size - 8 = 1 by kernel_rfl]
  refine ⟨isVal (.pointer (some ⟨g, 0, none⟩)), step_move (.tmp 5) (by kernel_rfl) (wanted_none (by kernel_rfl)) (stable_val _) (knows_old 5 (.pointer (some ⟨g, 0, none⟩)) (by kernel_rfl) e5), ?_⟩
  refine ⟨(isKinds g), step_call 59 #[.tmp 37] #[84] #[.pointer (some ⟨g, 0, none⟩)] (by kernel_rfl) (wanted_none (by kernel_rfl)) (stable_kinds g) (args1 (.tmp 37) (.pointer (some ⟨g, 0, none⟩)) (knows_new (V := isVal (.pointer (some ⟨g, 0, none⟩))) 37 0 (by kernel_rfl) (by kernel_rfl) (by kernel_rfl))) (enters_of Tryz.func59 (by kernel_rfl) rfl) (by intro w hb; exact kinds_any g w), ?_⟩
  refine ⟨isVal (.pointer (some ⟨b, 1, none⟩)), step_field 48 (.tmp 1) 1 ⟨b, 0, none⟩ ⟨b, 1, none⟩ (by kernel_rfl) (wanted_none (by kernel_rfl)) (knows_old 1 (.pointer (some ⟨b, 0, none⟩)) (by kernel_rfl) e1) (field_en b 1 (by omega)), ?_⟩
  refine ⟨isVal (.pointer (some ⟨b, 1, none⟩)), step_field 46 (.tmp 39) 0 ⟨b, 1, none⟩ ⟨b, 1, none⟩ (by kernel_rfl) (wanted_none (by kernel_rfl)) (knows_new (V := isVal (.pointer (some ⟨b, 1, none⟩))) 39 2 (by kernel_rfl) (by kernel_rfl) (by kernel_rfl)) (field_va1 b 0 (by omega)), ?_⟩
  refine ⟨isVal (.int .i64 E.val.kind), step_read 3 (.tmp 40) ⟨b, 1, none⟩ (.int .i64 E.val.kind) (by kernel_rfl) (wanted_none (by kernel_rfl)) (knows_new (V := isVal (.pointer (some ⟨b, 1, none⟩))) 40 3 (by kernel_rfl) (by kernel_rfl) (by kernel_rfl)) (hc.2 1 _ rfl) hc.1 agg_int, ?_⟩
  refine ⟨isVal (.func (.func 88) #[.pointer (some ⟨g, 0, none⟩)] #[]), step_find 92 (.tmp 38) (.tmp 41) g _ (.func (.func 88) #[.pointer (some ⟨g, 0, none⟩)] #[]) (by kernel_rfl) (wanted_none (by kernel_rfl)) (knows_new (V := (isKinds g)) 38 1 (by kernel_rfl) (by kernel_rfl) (by kernel_rfl)) (knows_new (V := isVal (.int .i64 E.val.kind)) 41 4 (by kernel_rfl) (by kernel_rfl) (by kernel_rfl)) (by rw [hk]; exact kind_at g 1 _ 0 (by kernel_rfl)), ?_⟩
  refine ⟨isVal (.pointer (some ⟨b, 1, none⟩)), step_field 48 (.tmp 1) 1 ⟨b, 0, none⟩ ⟨b, 1, none⟩ (by kernel_rfl) (wanted_none (by kernel_rfl)) (knows_old 1 (.pointer (some ⟨b, 0, none⟩)) (by kernel_rfl) e1) (field_en b 1 (by omega)), ?_⟩
  refine ⟨isVal (.agg #[.int .i64 E.val.kind, .int .i64 E.val.time, .int .i64 E.val.node, .bool E.val.dead, .string ⟨E.val.text.toArray⟩, vp, vm, .int .u64 (E.val.flags.toNat : Int)]), step_loadO 46 (.tmp 43) (b) _ [.int .i64 E.val.kind, .int .i64 E.val.time, .int .i64 E.val.node, .bool E.val.dead, .string ⟨E.val.text.toArray⟩, vp, vm, .int .u64 (E.val.flags.toNat : Int)] (by kernel_rfl) (wanted_none (by kernel_rfl)) (knows_new (V := isVal (.pointer (some ⟨b, 1, none⟩))) 43 6 (by kernel_rfl) (by kernel_rfl) (by kernel_rfl)) size_va agg_va hc, ?_⟩
  intro a w hkp hb hd
  have d44 : a.eval (.tmp 44) = _ := fdone_of (hd 7 (by decide)) (t := 44) (V := isVal (.agg #[.int .i64 E.val.kind, .int .i64 E.val.time, .int .i64 E.val.node, .bool E.val.dead, .string ⟨E.val.text.toArray⟩, vp, vm, .int .u64 (E.val.flags.toNat : Int)])) (by kernel_rfl) (by kernel_rfl)
  have d42 : a.eval (.tmp 42) = _ := fdone_of (hd 5 (by decide)) (t := 42) (V := isVal (.func (.func 88) #[.pointer (some ⟨g, 0, none⟩)] #[])) (by kernel_rfl) (by kernel_rfl)
  refine tail_callV (.tmp 42) 88 #[.pointer (some ⟨g, 0, none⟩)] #[.tmp 44] #[46] #[.agg #[.int .i64 E.val.kind, .int .i64 E.val.time, .int .i64 E.val.node, .bool E.val.dead, .string ⟨E.val.text.toArray⟩, vp, vm, .int .u64 (E.val.flags.toNat : Int)]] 45 (by kernel_rfl) (by kernel_rfl) d42 (by simp only [List.map_toArray, List.map_cons, List.map_nil, d44, d42]) (enters_of Tryz.func88 (by kernel_rfl) rfl) ?_
  obtain ⟨y, ey⟩ := kept_ex hkp [some 37, some 38, some 39, some 40, some 41, some 42, some 43, some 44, some 45] [37, 38, 39, 40, 41, 42, 43, 44, 45] (by kernel_rfl) (by decide)
  refine (hC y w hb).mono ?_
  rintro e w' ⟨v, rfl, hq⟩
  exact ⟨v, rfl, put_kept ey hq⟩
noncomputable def pk2Ops : Array Oper := regionOf Tryz.f31 9
set_option maxRecDepth 100000 in
set_option maxHeartbeats 2000000 in
theorem pk2_region (Q : Exit → Act → World → Prop) (a0 : Act) (w0 : World) (hsz : a0.tmps.size = 54) (E : En) (g b : Nat) (vp vm : Value) (e5 : a0.tmps.getD 5 undef = .pointer (some ⟨g, 0, none⟩)) (e1 : a0.tmps.getD 1 undef = .pointer (some ⟨b, 0, none⟩)) (hc : CellsN w0 b [.string ⟨E.key.toArray⟩, .int .i64 E.val.kind, .int .i64 E.val.time, .int .i64 E.val.node, .bool E.val.dead, .string ⟨E.val.text.toArray⟩, vp, vm, .int .u64 (E.val.flags.toNat : Int)]) (hk : E.val.kind = 2)
    (hC : ∀ (y : Nat → Value) (w : World), Below w0.heap.size w0 w → Calls Tryz.prog 89 #[.pointer (some ⟨g, 0, none⟩), .agg #[.int .i64 E.val.kind, .int .i64 E.val.time, .int .i64 E.val.node, .bool E.val.dead, .string ⟨E.val.text.toArray⟩, vp, vm, .int .u64 (E.val.flags.toNat : Int)]] w fun e w' => ∃ v, e = .returned v ∧ Q .normal { tmps := ([37, 38, 39, 40, 41, 42, 43, 44, 45].foldl (fun t s => t.setIfInBounds s (y s)) a0.tmps).setIfInBounds 45 v, defers := a0.defers } w') :
    (Code.region 9 pk2Ops true).wp Tryz.prog Q a0 w0 := by
  refine wp_region_cov 8 mixed (by rw [hsz]; kernel_rfl) (by kernel_rfl) ?_
  rw [show pk2Ops.size - 8 = 1 by kernel_rfl]
  refine ⟨isVal (.pointer (some ⟨g, 0, none⟩)), step_move (.tmp 5) (by kernel_rfl) (wanted_none (by kernel_rfl)) (stable_val _) (knows_old 5 (.pointer (some ⟨g, 0, none⟩)) (by kernel_rfl) e5), ?_⟩
  refine ⟨(isKinds g), step_call 59 #[.tmp 37] #[84] #[.pointer (some ⟨g, 0, none⟩)] (by kernel_rfl) (wanted_none (by kernel_rfl)) (stable_kinds g) (args1 (.tmp 37) (.pointer (some ⟨g, 0, none⟩)) (knows_new (V := isVal (.pointer (some ⟨g, 0, none⟩))) 37 0 (by kernel_rfl) (by kernel_rfl) (by kernel_rfl))) (enters_of Tryz.func59 (by kernel_rfl) rfl) (by intro w hb; exact kinds_any g w), ?_⟩
  refine ⟨isVal (.pointer (some ⟨b, 1, none⟩)), step_field 48 (.tmp 1) 1 ⟨b, 0, none⟩ ⟨b, 1, none⟩ (by kernel_rfl) (wanted_none (by kernel_rfl)) (knows_old 1 (.pointer (some ⟨b, 0, none⟩)) (by kernel_rfl) e1) (field_en b 1 (by omega)), ?_⟩
  refine ⟨isVal (.pointer (some ⟨b, 1, none⟩)), step_field 46 (.tmp 39) 0 ⟨b, 1, none⟩ ⟨b, 1, none⟩ (by kernel_rfl) (wanted_none (by kernel_rfl)) (knows_new (V := isVal (.pointer (some ⟨b, 1, none⟩))) 39 2 (by kernel_rfl) (by kernel_rfl) (by kernel_rfl)) (field_va1 b 0 (by omega)), ?_⟩
  refine ⟨isVal (.int .i64 E.val.kind), step_read 3 (.tmp 40) ⟨b, 1, none⟩ (.int .i64 E.val.kind) (by kernel_rfl) (wanted_none (by kernel_rfl)) (knows_new (V := isVal (.pointer (some ⟨b, 1, none⟩))) 40 3 (by kernel_rfl) (by kernel_rfl) (by kernel_rfl)) (hc.2 1 _ rfl) hc.1 agg_int, ?_⟩
  refine ⟨isVal (.func (.func 89) #[.pointer (some ⟨g, 0, none⟩)] #[]), step_find 92 (.tmp 38) (.tmp 41) g _ (.func (.func 89) #[.pointer (some ⟨g, 0, none⟩)] #[]) (by kernel_rfl) (wanted_none (by kernel_rfl)) (knows_new (V := (isKinds g)) 38 1 (by kernel_rfl) (by kernel_rfl) (by kernel_rfl)) (knows_new (V := isVal (.int .i64 E.val.kind)) 41 4 (by kernel_rfl) (by kernel_rfl) (by kernel_rfl)) (by rw [hk]; exact kind_at g 2 _ 1 (by kernel_rfl)), ?_⟩
  refine ⟨isVal (.pointer (some ⟨b, 1, none⟩)), step_field 48 (.tmp 1) 1 ⟨b, 0, none⟩ ⟨b, 1, none⟩ (by kernel_rfl) (wanted_none (by kernel_rfl)) (knows_old 1 (.pointer (some ⟨b, 0, none⟩)) (by kernel_rfl) e1) (field_en b 1 (by omega)), ?_⟩
  refine ⟨isVal (.agg #[.int .i64 E.val.kind, .int .i64 E.val.time, .int .i64 E.val.node, .bool E.val.dead, .string ⟨E.val.text.toArray⟩, vp, vm, .int .u64 (E.val.flags.toNat : Int)]), step_loadO 46 (.tmp 43) (b) _ [.int .i64 E.val.kind, .int .i64 E.val.time, .int .i64 E.val.node, .bool E.val.dead, .string ⟨E.val.text.toArray⟩, vp, vm, .int .u64 (E.val.flags.toNat : Int)] (by kernel_rfl) (wanted_none (by kernel_rfl)) (knows_new (V := isVal (.pointer (some ⟨b, 1, none⟩))) 43 6 (by kernel_rfl) (by kernel_rfl) (by kernel_rfl)) size_va agg_va hc, ?_⟩
  intro a w hkp hb hd
  have d44 : a.eval (.tmp 44) = _ := fdone_of (hd 7 (by decide)) (t := 44) (V := isVal (.agg #[.int .i64 E.val.kind, .int .i64 E.val.time, .int .i64 E.val.node, .bool E.val.dead, .string ⟨E.val.text.toArray⟩, vp, vm, .int .u64 (E.val.flags.toNat : Int)])) (by kernel_rfl) (by kernel_rfl)
  have d42 : a.eval (.tmp 42) = _ := fdone_of (hd 5 (by decide)) (t := 42) (V := isVal (.func (.func 89) #[.pointer (some ⟨g, 0, none⟩)] #[])) (by kernel_rfl) (by kernel_rfl)
  refine tail_callV (.tmp 42) 89 #[.pointer (some ⟨g, 0, none⟩)] #[.tmp 44] #[46] #[.agg #[.int .i64 E.val.kind, .int .i64 E.val.time, .int .i64 E.val.node, .bool E.val.dead, .string ⟨E.val.text.toArray⟩, vp, vm, .int .u64 (E.val.flags.toNat : Int)]] 45 (by kernel_rfl) (by kernel_rfl) d42 (by simp only [List.map_toArray, List.map_cons, List.map_nil, d44, d42]) (enters_of Tryz.func89 (by kernel_rfl) rfl) ?_
  obtain ⟨y, ey⟩ := kept_ex hkp [some 37, some 38, some 39, some 40, some 41, some 42, some 43, some 44, some 45] [37, 38, 39, 40, 41, 42, 43, 44, 45] (by kernel_rfl) (by decide)
  refine (hC y w hb).mono ?_
  rintro e w' ⟨v, rfl, hq⟩
  exact ⟨v, rfl, put_kept ey hq⟩
noncomputable def pk3Ops : Array Oper := regionOf Tryz.f31 9
set_option maxRecDepth 100000 in
set_option maxHeartbeats 2000000 in
theorem pk3_region (Q : Exit → Act → World → Prop) (a0 : Act) (w0 : World) (hsz : a0.tmps.size = 54) (E : En) (g b : Nat) (vp vm : Value) (e5 : a0.tmps.getD 5 undef = .pointer (some ⟨g, 0, none⟩)) (e1 : a0.tmps.getD 1 undef = .pointer (some ⟨b, 0, none⟩)) (hc : CellsN w0 b [.string ⟨E.key.toArray⟩, .int .i64 E.val.kind, .int .i64 E.val.time, .int .i64 E.val.node, .bool E.val.dead, .string ⟨E.val.text.toArray⟩, vp, vm, .int .u64 (E.val.flags.toNat : Int)]) (hk : E.val.kind = 3)
    (hC : ∀ (y : Nat → Value) (w : World), Below w0.heap.size w0 w → Calls Tryz.prog 90 #[.pointer (some ⟨g, 0, none⟩), .agg #[.int .i64 E.val.kind, .int .i64 E.val.time, .int .i64 E.val.node, .bool E.val.dead, .string ⟨E.val.text.toArray⟩, vp, vm, .int .u64 (E.val.flags.toNat : Int)]] w fun e w' => ∃ v, e = .returned v ∧ Q .normal { tmps := ([37, 38, 39, 40, 41, 42, 43, 44, 45].foldl (fun t s => t.setIfInBounds s (y s)) a0.tmps).setIfInBounds 45 v, defers := a0.defers } w') :
    (Code.region 9 pk3Ops true).wp Tryz.prog Q a0 w0 := by
  refine wp_region_cov 8 mixed (by rw [hsz]; kernel_rfl) (by kernel_rfl) ?_
  rw [show pk3Ops.size - 8 = 1 by kernel_rfl]
  refine ⟨isVal (.pointer (some ⟨g, 0, none⟩)), step_move (.tmp 5) (by kernel_rfl) (wanted_none (by kernel_rfl)) (stable_val _) (knows_old 5 (.pointer (some ⟨g, 0, none⟩)) (by kernel_rfl) e5), ?_⟩
  refine ⟨(isKinds g), step_call 59 #[.tmp 37] #[84] #[.pointer (some ⟨g, 0, none⟩)] (by kernel_rfl) (wanted_none (by kernel_rfl)) (stable_kinds g) (args1 (.tmp 37) (.pointer (some ⟨g, 0, none⟩)) (knows_new (V := isVal (.pointer (some ⟨g, 0, none⟩))) 37 0 (by kernel_rfl) (by kernel_rfl) (by kernel_rfl))) (enters_of Tryz.func59 (by kernel_rfl) rfl) (by intro w hb; exact kinds_any g w), ?_⟩
  refine ⟨isVal (.pointer (some ⟨b, 1, none⟩)), step_field 48 (.tmp 1) 1 ⟨b, 0, none⟩ ⟨b, 1, none⟩ (by kernel_rfl) (wanted_none (by kernel_rfl)) (knows_old 1 (.pointer (some ⟨b, 0, none⟩)) (by kernel_rfl) e1) (field_en b 1 (by omega)), ?_⟩
  refine ⟨isVal (.pointer (some ⟨b, 1, none⟩)), step_field 46 (.tmp 39) 0 ⟨b, 1, none⟩ ⟨b, 1, none⟩ (by kernel_rfl) (wanted_none (by kernel_rfl)) (knows_new (V := isVal (.pointer (some ⟨b, 1, none⟩))) 39 2 (by kernel_rfl) (by kernel_rfl) (by kernel_rfl)) (field_va1 b 0 (by omega)), ?_⟩
  refine ⟨isVal (.int .i64 E.val.kind), step_read 3 (.tmp 40) ⟨b, 1, none⟩ (.int .i64 E.val.kind) (by kernel_rfl) (wanted_none (by kernel_rfl)) (knows_new (V := isVal (.pointer (some ⟨b, 1, none⟩))) 40 3 (by kernel_rfl) (by kernel_rfl) (by kernel_rfl)) (hc.2 1 _ rfl) hc.1 agg_int, ?_⟩
  refine ⟨isVal (.func (.func 90) #[.pointer (some ⟨g, 0, none⟩)] #[]), step_find 92 (.tmp 38) (.tmp 41) g _ (.func (.func 90) #[.pointer (some ⟨g, 0, none⟩)] #[]) (by kernel_rfl) (wanted_none (by kernel_rfl)) (knows_new (V := (isKinds g)) 38 1 (by kernel_rfl) (by kernel_rfl) (by kernel_rfl)) (knows_new (V := isVal (.int .i64 E.val.kind)) 41 4 (by kernel_rfl) (by kernel_rfl) (by kernel_rfl)) (by rw [hk]; exact kind_at g 3 _ 2 (by kernel_rfl)), ?_⟩
  refine ⟨isVal (.pointer (some ⟨b, 1, none⟩)), step_field 48 (.tmp 1) 1 ⟨b, 0, none⟩ ⟨b, 1, none⟩ (by kernel_rfl) (wanted_none (by kernel_rfl)) (knows_old 1 (.pointer (some ⟨b, 0, none⟩)) (by kernel_rfl) e1) (field_en b 1 (by omega)), ?_⟩
  refine ⟨isVal (.agg #[.int .i64 E.val.kind, .int .i64 E.val.time, .int .i64 E.val.node, .bool E.val.dead, .string ⟨E.val.text.toArray⟩, vp, vm, .int .u64 (E.val.flags.toNat : Int)]), step_loadO 46 (.tmp 43) (b) _ [.int .i64 E.val.kind, .int .i64 E.val.time, .int .i64 E.val.node, .bool E.val.dead, .string ⟨E.val.text.toArray⟩, vp, vm, .int .u64 (E.val.flags.toNat : Int)] (by kernel_rfl) (wanted_none (by kernel_rfl)) (knows_new (V := isVal (.pointer (some ⟨b, 1, none⟩))) 43 6 (by kernel_rfl) (by kernel_rfl) (by kernel_rfl)) size_va agg_va hc, ?_⟩
  intro a w hkp hb hd
  have d44 : a.eval (.tmp 44) = _ := fdone_of (hd 7 (by decide)) (t := 44) (V := isVal (.agg #[.int .i64 E.val.kind, .int .i64 E.val.time, .int .i64 E.val.node, .bool E.val.dead, .string ⟨E.val.text.toArray⟩, vp, vm, .int .u64 (E.val.flags.toNat : Int)])) (by kernel_rfl) (by kernel_rfl)
  have d42 : a.eval (.tmp 42) = _ := fdone_of (hd 5 (by decide)) (t := 42) (V := isVal (.func (.func 90) #[.pointer (some ⟨g, 0, none⟩)] #[])) (by kernel_rfl) (by kernel_rfl)
  refine tail_callV (.tmp 42) 90 #[.pointer (some ⟨g, 0, none⟩)] #[.tmp 44] #[46] #[.agg #[.int .i64 E.val.kind, .int .i64 E.val.time, .int .i64 E.val.node, .bool E.val.dead, .string ⟨E.val.text.toArray⟩, vp, vm, .int .u64 (E.val.flags.toNat : Int)]] 45 (by kernel_rfl) (by kernel_rfl) d42 (by simp only [List.map_toArray, List.map_cons, List.map_nil, d44, d42]) (enters_of Tryz.func90 (by kernel_rfl) rfl) ?_
  obtain ⟨y, ey⟩ := kept_ex hkp [some 37, some 38, some 39, some 40, some 41, some 42, some 43, some 44, some 45] [37, 38, 39, 40, 41, 42, 43, 44, 45] (by kernel_rfl) (by decide)
  refine (hC y w hb).mono ?_
  rintro e w' ⟨v, rfl, hq⟩
  exact ⟨v, rfl, put_kept ey hq⟩
set_option maxRecDepth 100000 in
set_option maxHeartbeats 4000000 in
theorem eput_bad (E : En) (v : Value) (w : World) (hv : isEn E v w) (hF : FitE E) (hok : okE E = false) : Calls Tryz.prog 31 #[v] w fun e w' => e = .returned (.tuple #[txt (putF E), .int .i64 (chkE E)]) ∧ Below w.heap.size w w' := by
  have HO := Kept.mk hok
  clear hok
  obtain ⟨vp, vm, rfl, hp, hm⟩ := hv
  have HB := Kept.mk (lit_below w (.cells #[.string ⟨E.key.toArray⟩, .int .i64 E.val.kind, .int .i64 E.val.time, .int .i64 E.val.node, .bool E.val.dead, .string ⟨E.val.text.toArray⟩, vp, vm, .int .u64 (E.val.flags.toNat : Int)] 48))
  have HV := Kept.mk (Blk.new w 48 [.string ⟨E.key.toArray⟩, .int .i64 E.val.kind, .int .i64 E.val.time, .int .i64 E.val.node, .bool E.val.dead, .string ⟨E.val.text.toArray⟩, vp, vm, .int .u64 (E.val.flags.toNat : Int)] w.heap.size rfl)
  have HP := Kept.mk hp
  have HM := Kept.mk hm
  clear hp hm
  have kv0 := HV.out.cells.2 0 _ rfl
  have kv1 := HV.out.cells.2 1 _ rfl
  have kv2 := HV.out.cells.2 2 _ rfl
  have kv3 := HV.out.cells.2 3 _ rfl
  have kv4 := HV.out.cells.2 4 _ rfl
  have kv5 := HV.out.cells.2 5 _ rfl
  have kv6 := HV.out.cells.2 6 _ rfl
  have kv7 := HV.out.cells.2 7 _ rfl
  have kv8 := HV.out.cells.2 8 _ rfl
  go_enter Tryz.func31, Tryz.ntmps31
  go_wp2_with fail
  clear kv0 kv1 kv2 kv3 kv4 kv5 kv6 kv7 kv8
  generalize w.alloc (.cells #[.string ⟨E.key.toArray⟩, .int .i64 E.val.kind, .int .i64 E.val.time, .int .i64 E.val.node, .bool E.val.dead, .string ⟨E.val.text.toArray⟩, vp, vm, .int .u64 (E.val.flags.toNat : Int)] 48) = W0 at *
  have hs0 := HV.out.lt
  refine (echeck_any E _ W0 ⟨vp, vm, rfl, stable_cells _ _ _ _ HP.out HB.out, stable_cells _ _ _ _ HM.out HB.out⟩ hF).mono ?_
  rintro e W1 ⟨rfl, hb⟩
  replace HV := Kept.mk (HV.out.keep hb)
  replace HB := Kept.mk (HB.out.trans (hb.mono HB.out.size))
  have hs1 := hb.size
  clear hb
  have hC : chkE E = 2 := by unfold chkE; rw [HO.out]; rfl
  rw [hC]
  have HC := Kept.mk hC
  clear hC
  go_wp2
  go_ret2
  have e1 : putF E = [] := by unfold putF; rw [HO.out]; rfl
  refine ⟨?_, HB.out⟩
  rw [e1, HC.out]
  rfl
set_option maxRecDepth 100000 in
set_option maxHeartbeats 4000000 in
theorem eput_1 (E : En) (v : Value) (w : World) (hv : isEn E v w) (hF : FitE E) (hok : okE E = true) (hk : E.val.kind = 1) : Calls Tryz.prog 31 #[v] w fun e w' => e = .returned (.tuple #[txt (putF E), .int .i64 (chkE E)]) ∧ Below w.heap.size w w' := by
  have HO := Kept.mk hok
  have HK := Kept.mk hk
  have hl := length_head hok
  have HL := Kept.mk (length_putEn hok)
  have hdl := (length_data_le (show okV E.val = true by unfold okE at hok; rw [Bool.and_eq_true] at hok; exact hok.2)).1
  have hkl : 1 ≤ E.key.length ∧ E.key.length ≤ 8 := by simp only [okE, Bool.and_eq_true, decide_eq_true_eq] at hok; exact hok.1
  have HI := Kept.mk (show inReg E.val = true by unfold okE okV kindN at hok; rw [if_pos hk] at hok; rw [Bool.and_eq_true] at hok; have h2 := hok.2; split at h2; rename_i h3; rw [Bool.and_eq_true] at h3; exact h3.1; simp at h2)
  have hkz : 0 ≤ E.val.kind ∧ E.val.kind ≤ 3 := by omega
  clear hok hk
  obtain ⟨vp, vm, rfl, hp, hm⟩ := hv
  have HB := Kept.mk (lit_below w (.cells #[.string ⟨E.key.toArray⟩, .int .i64 E.val.kind, .int .i64 E.val.time, .int .i64 E.val.node, .bool E.val.dead, .string ⟨E.val.text.toArray⟩, vp, vm, .int .u64 (E.val.flags.toNat : Int)] 48))
  have HV := Kept.mk (Blk.new w 48 [.string ⟨E.key.toArray⟩, .int .i64 E.val.kind, .int .i64 E.val.time, .int .i64 E.val.node, .bool E.val.dead, .string ⟨E.val.text.toArray⟩, vp, vm, .int .u64 (E.val.flags.toNat : Int)] w.heap.size rfl)
  have HP := Kept.mk hp
  have HM := Kept.mk hm
  clear hp hm
  have kv0 := HV.out.cells.2 0 _ rfl
  have kv1 := HV.out.cells.2 1 _ rfl
  have kv2 := HV.out.cells.2 2 _ rfl
  have kv3 := HV.out.cells.2 3 _ rfl
  have kv4 := HV.out.cells.2 4 _ rfl
  have kv5 := HV.out.cells.2 5 _ rfl
  have kv6 := HV.out.cells.2 6 _ rfl
  have kv7 := HV.out.cells.2 7 _ rfl
  have kv8 := HV.out.cells.2 8 _ rfl
  go_enter Tryz.func31, Tryz.ntmps31
  go_wp2_with fail
  clear kv0 kv1 kv2 kv3 kv4 kv5 kv6 kv7 kv8
  generalize w.alloc (.cells #[.string ⟨E.key.toArray⟩, .int .i64 E.val.kind, .int .i64 E.val.time, .int .i64 E.val.node, .bool E.val.dead, .string ⟨E.val.text.toArray⟩, vp, vm, .int .u64 (E.val.flags.toNat : Int)] 48) = W0 at *
  have hs0 := HV.out.lt
  refine (echeck_any E _ W0 ⟨vp, vm, rfl, stable_cells _ _ _ _ HP.out HB.out, stable_cells _ _ _ _ HM.out HB.out⟩ hF).mono ?_
  rintro e W1 ⟨rfl, hb⟩
  replace HV := Kept.mk (HV.out.keep hb)
  replace HB := Kept.mk (HB.out.trans (hb.mono HB.out.size))
  have hs1 := hb.size
  clear hb
  have hC : chkE E = 0 := by unfold chkE; rw [HO.out]; rfl
  rw [hC]
  have HC := Kept.mk hC
  clear hC
  go_wp2_with fail
  have HW := Kept.mk (Wr.refl (show At (W1.alloc (.cells #[.string ⟨#[]⟩] 87)) W1.heap.size (txt []) from (fun b => ⟨b.cells.2 0 _ rfl, b.free 0, b.lt⟩) (Blk.new W1 87 [.string ⟨#[]⟩] W1.heap.size rfl)))
  replace HV := Kept.mk (HV.out.alloc (.cells #[.string ⟨#[]⟩] 87))
  replace HB := Kept.mk (HB.out.alloc HB.out.size (.cells #[.string ⟨#[]⟩] 87))
  generalize hW2 : W1.alloc (.cells #[.string ⟨#[]⟩] 87) = W2 at *
  clear hW2
  generalize hg : W1.heap.size = g at *
  clear hg
  refine pu1_region _ _ _ rfl E g w.heap.size vp vm rfl rfl HV.out.cells ?_
  intro y9 W9 hb9
  replace HW := Kept.mk (HW.out.then_ hb9)
  replace HV := Kept.mk (HV.out.keep hb9)
  replace HB := Kept.mk (HB.out.trans (hb9.mono HB.out.size))
  have hs9 := hb9.size
  clear hb9
  refine (number_z g [] E.val.kind 1 W9 HW.out.at_ (by simp) hkz.1 (by omega) (by omega) (by omega) (by show _ < 256; omega)).mono ?_
  rintro e W3 ⟨rfl, hw⟩
  replace HW := Kept.mk (HW.out.trans hw)
  replace HV := Kept.mk (HV.out.wr hw (by omega))
  replace HB := Kept.mk (HB.out.trans (hw.below (by omega) (by have := HB.out.size; omega)))
  clear hw hs9
  refine ⟨_, rfl, ?_⟩
  simp only [List.foldl_cons, List.foldl_nil]
  generalize y9 13 = z13
  generalize y9 14 = z14
  generalize y9 15 = z15
  generalize y9 16 = z16
  generalize y9 17 = z17
  generalize y9 18 = z18
  generalize y9 19 = z19
  simp only [List.setIfInBounds_toArray, List.set_cons_succ, List.set_cons_zero]
  clear y9
  go_wp2_with fail
  rw [List.nil_append] at HW
  refine pu2_region _ _ _ rfl E g w.heap.size vp vm rfl rfl HV.out.cells ?_
  intro y9 W9 hb9
  replace HW := Kept.mk (HW.out.then_ hb9)
  replace HV := Kept.mk (HV.out.keep hb9)
  replace HB := Kept.mk (HB.out.trans (hb9.mono HB.out.size))
  have hs9 := hb9.size
  clear hb9
  refine (number_z g (putL E.val.kind.toNat 1) (E.key.length : Int) 1 W9 HW.out.at_ (by rw [length_putL]; omega) (by omega) (by omega) (by omega) (by omega) (by show _ < 256; omega)).mono ?_
  rintro e W4 ⟨rfl, hw⟩
  replace HW := Kept.mk (HW.out.trans hw)
  replace HV := Kept.mk (HV.out.wr hw (by omega))
  replace HB := Kept.mk (HB.out.trans (hw.below (by omega) (by have := HB.out.size; omega)))
  clear hw hs9
  refine ⟨_, rfl, ?_⟩
  simp only [List.foldl_cons, List.foldl_nil]
  generalize y9 20 = z20
  generalize y9 21 = z21
  generalize y9 22 = z22
  generalize y9 23 = z23
  generalize y9 24 = z24
  generalize y9 25 = z25
  generalize y9 26 = z26
  simp only [List.setIfInBounds_toArray, List.set_cons_succ, List.set_cons_zero]
  clear y9
  go_wp2_with fail
  refine pu3_region _ _ _ rfl E g w.heap.size vp vm rfl rfl HV.out.cells ?_
  intro y9 W9 hb9
  replace HW := Kept.mk (HW.out.then_ hb9)
  replace HV := Kept.mk (HV.out.keep hb9)
  replace HB := Kept.mk (HB.out.trans (hb9.mono HB.out.size))
  have hs9 := hb9.size
  clear hb9
  refine (add_any g (putL E.val.kind.toNat 1 ++ putL (E.key.length : Int).toNat 1) E.key W9 HW.out.at_ (by simp only [List.length_append, length_putL]; omega) (by omega)).mono ?_
  rintro e W5 ⟨rfl, hw⟩
  replace HW := Kept.mk (HW.out.trans hw)
  replace HV := Kept.mk (HV.out.wr hw (by omega))
  replace HB := Kept.mk (HB.out.trans (hw.below (by omega) (by have := HB.out.size; omega)))
  clear hw hs9
  refine ⟨_, rfl, ?_⟩
  simp only [List.foldl_cons, List.foldl_nil]
  generalize y9 27 = z27
  generalize y9 28 = z28
  generalize y9 29 = z29
  generalize y9 30 = z30
  generalize y9 31 = z31
  generalize y9 32 = z32
  simp only [List.setIfInBounds_toArray, List.set_cons_succ, List.set_cons_zero]
  clear y9
  go_wp2_with fail
  refine (fill_any g ((putL E.val.kind.toNat 1 ++ putL (E.key.length : Int).toNat 1) ++ E.key) 10 W5 HW.out.at_ (by simp only [List.length_append, length_putL]; omega) (by omega)).mono ?_
  rintro e W6 ⟨rfl, hw⟩
  replace HW := Kept.mk (HW.out.trans hw)
  replace HV := Kept.mk (HV.out.wr hw (by omega))
  replace HB := Kept.mk (HB.out.trans (hw.below (by omega) (by have := HB.out.size; omega)))
  clear hw
  have eh : ((putL E.val.kind.toNat 1 ++ putL (E.key.length : Int).toNat 1) ++ E.key) ++ zerosL (10 - ((putL E.val.kind.toNat 1 ++ putL (E.key.length : Int).toNat 1) ++ E.key).length) = headL E := by
    have e1 : 10 - ((putL E.val.kind.toNat 1 ++ putL (E.key.length : Int).toNat 1) ++ E.key).length = 8 - E.key.length := by simp only [List.length_append, length_putL]; omega
    rw [e1]
    unfold headL
    simp only [List.append_assoc, Int.toNat_natCast]
  rw [eh] at HW
  clear eh
  go_wp2_with fail
  refine pk1_region _ _ _ rfl E g w.heap.size vp vm rfl rfl HV.out.cells HK.out ?_
  intro y9 W9 hb9
  replace HW := Kept.mk (HW.out.then_ hb9)
  replace HV := Kept.mk (HV.out.keep hb9)
  replace HB := Kept.mk (HB.out.trans (hb9.mono HB.out.size))
  have hs9 := hb9.size
  clear hb9
  refine (wreg_any E.val g (headL E) _ W9 ⟨vp, vm, rfl, stable_cells _ _ _ _ HP.out HB.out, stable_cells _ _ _ _ HM.out HB.out⟩ HW.out.at_ (by omega) HK.out HI.out).mono ?_
  rintro e W7 ⟨rfl, hw⟩
  replace HW := Kept.mk (HW.out.trans hw)
  replace HV := Kept.mk (HV.out.wr hw (by omega))
  replace HB := Kept.mk (HB.out.trans (hw.below (by omega) (by have := HB.out.size; omega)))
  clear hw hs9
  refine ⟨_, rfl, ?_⟩
  simp only [List.foldl_cons, List.foldl_nil]
  generalize y9 37 = z37
  generalize y9 38 = z38
  generalize y9 39 = z39
  generalize y9 40 = z40
  generalize y9 41 = z41
  generalize y9 42 = z42
  generalize y9 43 = z43
  generalize y9 44 = z44
  generalize y9 45 = z45
  simp only [List.setIfInBounds_toArray, List.set_cons_succ, List.set_cons_zero]
  clear y9
  go_wp2_with fail
  refine (fill_any g (headL E ++ dataL E.val) 42 W7 HW.out.at_ (by rw [List.length_append]; omega) (by omega)).mono ?_
  rintro e W8 ⟨rfl, hw⟩
  replace HW := Kept.mk (HW.out.trans hw)
  replace HV := Kept.mk (HV.out.wr hw (by omega))
  replace HB := Kept.mk (HB.out.trans (hw.below (by omega) (by have := HB.out.size; omega)))
  clear hw
  have eh : (headL E ++ dataL E.val) ++ zerosL (42 - (headL E ++ dataL E.val).length) = putEn E := by
    have e1 : 42 - (headL E ++ dataL E.val).length = 32 - (dataL E.val).length := by rw [List.length_append]; omega
    rw [e1]
    unfold putEn
    rw [List.append_assoc]
  rw [eh] at HW
  clear eh
  have kc := HW.out.at_.cell
  go_wp2
  go_ret2
  refine ⟨?_, HB.out⟩
  have e1 : putF E = putEn E := by unfold putF; rw [HO.out]; rfl
  rw [e1, HC.out]
  rfl
set_option maxRecDepth 100000 in
set_option maxHeartbeats 4000000 in
theorem eput_2 (E : En) (v : Value) (w : World) (hv : isEn E v w) (hF : FitE E) (hok : okE E = true) (hk : E.val.kind = 2) : Calls Tryz.prog 31 #[v] w fun e w' => e = .returned (.tuple #[txt (putF E), .int .i64 (chkE E)]) ∧ Below w.heap.size w w' := by
  have HO := Kept.mk hok
  have HK := Kept.mk hk
  have hl := length_head hok
  have HL := Kept.mk (length_putEn hok)
  have hdl := (length_data_le (show okV E.val = true by unfold okE at hok; rw [Bool.and_eq_true] at hok; exact hok.2)).1
  have hkl : 1 ≤ E.key.length ∧ E.key.length ≤ 8 := by simp only [okE, Bool.and_eq_true, decide_eq_true_eq] at hok; exact hok.1
  have HI := Kept.mk (show inCount E.val = true by unfold okE okV kindN at hok; rw [if_neg (by rw [hk]; decide), if_pos hk] at hok; rw [Bool.and_eq_true] at hok; have h2 := hok.2; split at h2; rename_i h3; rw [Bool.and_eq_true] at h3; exact h3.1; simp at h2)
  have HI2 := Kept.mk (show E.val.plus.length = 8 ∧ E.val.minus.length = 8 by have := HI.out; simp only [inCount, okRow, Bool.and_eq_true, decide_eq_true_eq] at this; exact ⟨this.1.1, this.2.1⟩)
  have hkz : 0 ≤ E.val.kind ∧ E.val.kind ≤ 3 := by omega
  clear hok hk
  obtain ⟨vp, vm, rfl, hp, hm⟩ := hv
  have HB := Kept.mk (lit_below w (.cells #[.string ⟨E.key.toArray⟩, .int .i64 E.val.kind, .int .i64 E.val.time, .int .i64 E.val.node, .bool E.val.dead, .string ⟨E.val.text.toArray⟩, vp, vm, .int .u64 (E.val.flags.toNat : Int)] 48))
  have HV := Kept.mk (Blk.new w 48 [.string ⟨E.key.toArray⟩, .int .i64 E.val.kind, .int .i64 E.val.time, .int .i64 E.val.node, .bool E.val.dead, .string ⟨E.val.text.toArray⟩, vp, vm, .int .u64 (E.val.flags.toNat : Int)] w.heap.size rfl)
  have HP := Kept.mk hp
  have HM := Kept.mk hm
  clear hp hm
  have kv0 := HV.out.cells.2 0 _ rfl
  have kv1 := HV.out.cells.2 1 _ rfl
  have kv2 := HV.out.cells.2 2 _ rfl
  have kv3 := HV.out.cells.2 3 _ rfl
  have kv4 := HV.out.cells.2 4 _ rfl
  have kv5 := HV.out.cells.2 5 _ rfl
  have kv6 := HV.out.cells.2 6 _ rfl
  have kv7 := HV.out.cells.2 7 _ rfl
  have kv8 := HV.out.cells.2 8 _ rfl
  go_enter Tryz.func31, Tryz.ntmps31
  go_wp2_with fail
  clear kv0 kv1 kv2 kv3 kv4 kv5 kv6 kv7 kv8
  generalize w.alloc (.cells #[.string ⟨E.key.toArray⟩, .int .i64 E.val.kind, .int .i64 E.val.time, .int .i64 E.val.node, .bool E.val.dead, .string ⟨E.val.text.toArray⟩, vp, vm, .int .u64 (E.val.flags.toNat : Int)] 48) = W0 at *
  have hs0 := HV.out.lt
  refine (echeck_any E _ W0 ⟨vp, vm, rfl, stable_cells _ _ _ _ HP.out HB.out, stable_cells _ _ _ _ HM.out HB.out⟩ hF).mono ?_
  rintro e W1 ⟨rfl, hb⟩
  replace HV := Kept.mk (HV.out.keep hb)
  replace HB := Kept.mk (HB.out.trans (hb.mono HB.out.size))
  have hs1 := hb.size
  clear hb
  have hC : chkE E = 0 := by unfold chkE; rw [HO.out]; rfl
  rw [hC]
  have HC := Kept.mk hC
  clear hC
  go_wp2_with fail
  have HW := Kept.mk (Wr.refl (show At (W1.alloc (.cells #[.string ⟨#[]⟩] 87)) W1.heap.size (txt []) from (fun b => ⟨b.cells.2 0 _ rfl, b.free 0, b.lt⟩) (Blk.new W1 87 [.string ⟨#[]⟩] W1.heap.size rfl)))
  replace HV := Kept.mk (HV.out.alloc (.cells #[.string ⟨#[]⟩] 87))
  replace HB := Kept.mk (HB.out.alloc HB.out.size (.cells #[.string ⟨#[]⟩] 87))
  generalize hW2 : W1.alloc (.cells #[.string ⟨#[]⟩] 87) = W2 at *
  clear hW2
  generalize hg : W1.heap.size = g at *
  clear hg
  refine pu1_region _ _ _ rfl E g w.heap.size vp vm rfl rfl HV.out.cells ?_
  intro y9 W9 hb9
  replace HW := Kept.mk (HW.out.then_ hb9)
  replace HV := Kept.mk (HV.out.keep hb9)
  replace HB := Kept.mk (HB.out.trans (hb9.mono HB.out.size))
  have hs9 := hb9.size
  clear hb9
  refine (number_z g [] E.val.kind 1 W9 HW.out.at_ (by simp) hkz.1 (by omega) (by omega) (by omega) (by show _ < 256; omega)).mono ?_
  rintro e W3 ⟨rfl, hw⟩
  replace HW := Kept.mk (HW.out.trans hw)
  replace HV := Kept.mk (HV.out.wr hw (by omega))
  replace HB := Kept.mk (HB.out.trans (hw.below (by omega) (by have := HB.out.size; omega)))
  clear hw hs9
  refine ⟨_, rfl, ?_⟩
  simp only [List.foldl_cons, List.foldl_nil]
  generalize y9 13 = z13
  generalize y9 14 = z14
  generalize y9 15 = z15
  generalize y9 16 = z16
  generalize y9 17 = z17
  generalize y9 18 = z18
  generalize y9 19 = z19
  simp only [List.setIfInBounds_toArray, List.set_cons_succ, List.set_cons_zero]
  clear y9
  go_wp2_with fail
  rw [List.nil_append] at HW
  refine pu2_region _ _ _ rfl E g w.heap.size vp vm rfl rfl HV.out.cells ?_
  intro y9 W9 hb9
  replace HW := Kept.mk (HW.out.then_ hb9)
  replace HV := Kept.mk (HV.out.keep hb9)
  replace HB := Kept.mk (HB.out.trans (hb9.mono HB.out.size))
  have hs9 := hb9.size
  clear hb9
  refine (number_z g (putL E.val.kind.toNat 1) (E.key.length : Int) 1 W9 HW.out.at_ (by rw [length_putL]; omega) (by omega) (by omega) (by omega) (by omega) (by show _ < 256; omega)).mono ?_
  rintro e W4 ⟨rfl, hw⟩
  replace HW := Kept.mk (HW.out.trans hw)
  replace HV := Kept.mk (HV.out.wr hw (by omega))
  replace HB := Kept.mk (HB.out.trans (hw.below (by omega) (by have := HB.out.size; omega)))
  clear hw hs9
  refine ⟨_, rfl, ?_⟩
  simp only [List.foldl_cons, List.foldl_nil]
  generalize y9 20 = z20
  generalize y9 21 = z21
  generalize y9 22 = z22
  generalize y9 23 = z23
  generalize y9 24 = z24
  generalize y9 25 = z25
  generalize y9 26 = z26
  simp only [List.setIfInBounds_toArray, List.set_cons_succ, List.set_cons_zero]
  clear y9
  go_wp2_with fail
  refine pu3_region _ _ _ rfl E g w.heap.size vp vm rfl rfl HV.out.cells ?_
  intro y9 W9 hb9
  replace HW := Kept.mk (HW.out.then_ hb9)
  replace HV := Kept.mk (HV.out.keep hb9)
  replace HB := Kept.mk (HB.out.trans (hb9.mono HB.out.size))
  have hs9 := hb9.size
  clear hb9
  refine (add_any g (putL E.val.kind.toNat 1 ++ putL (E.key.length : Int).toNat 1) E.key W9 HW.out.at_ (by simp only [List.length_append, length_putL]; omega) (by omega)).mono ?_
  rintro e W5 ⟨rfl, hw⟩
  replace HW := Kept.mk (HW.out.trans hw)
  replace HV := Kept.mk (HV.out.wr hw (by omega))
  replace HB := Kept.mk (HB.out.trans (hw.below (by omega) (by have := HB.out.size; omega)))
  clear hw hs9
  refine ⟨_, rfl, ?_⟩
  simp only [List.foldl_cons, List.foldl_nil]
  generalize y9 27 = z27
  generalize y9 28 = z28
  generalize y9 29 = z29
  generalize y9 30 = z30
  generalize y9 31 = z31
  generalize y9 32 = z32
  simp only [List.setIfInBounds_toArray, List.set_cons_succ, List.set_cons_zero]
  clear y9
  go_wp2_with fail
  refine (fill_any g ((putL E.val.kind.toNat 1 ++ putL (E.key.length : Int).toNat 1) ++ E.key) 10 W5 HW.out.at_ (by simp only [List.length_append, length_putL]; omega) (by omega)).mono ?_
  rintro e W6 ⟨rfl, hw⟩
  replace HW := Kept.mk (HW.out.trans hw)
  replace HV := Kept.mk (HV.out.wr hw (by omega))
  replace HB := Kept.mk (HB.out.trans (hw.below (by omega) (by have := HB.out.size; omega)))
  clear hw
  have eh : ((putL E.val.kind.toNat 1 ++ putL (E.key.length : Int).toNat 1) ++ E.key) ++ zerosL (10 - ((putL E.val.kind.toNat 1 ++ putL (E.key.length : Int).toNat 1) ++ E.key).length) = headL E := by
    have e1 : 10 - ((putL E.val.kind.toNat 1 ++ putL (E.key.length : Int).toNat 1) ++ E.key).length = 8 - E.key.length := by simp only [List.length_append, length_putL]; omega
    rw [e1]
    unfold headL
    simp only [List.append_assoc, Int.toNat_natCast]
  rw [eh] at HW
  clear eh
  go_wp2_with fail
  refine pk2_region _ _ _ rfl E g w.heap.size vp vm rfl rfl HV.out.cells HK.out ?_
  intro y9 W9 hb9
  replace HW := Kept.mk (HW.out.then_ hb9)
  replace HV := Kept.mk (HV.out.keep hb9)
  replace HB := Kept.mk (HB.out.trans (hb9.mono HB.out.size))
  have hs9 := hb9.size
  clear hb9
  refine (wcount_any E.val g (headL E) vp vm W9 (stable_cells _ _ _ _ HP.out HB.out) (stable_cells _ _ _ _ HM.out HB.out) (old_blk HP.out (by rw [List.length_map, HI2.out.1]; omega) (by omega)) (old_blk HM.out (by rw [List.length_map, HI2.out.2]; omega) (by omega)) HW.out.at_ (by omega) HK.out HI.out).mono ?_
  rintro e W7 ⟨rfl, hw⟩
  replace HW := Kept.mk (HW.out.trans hw)
  replace HV := Kept.mk (HV.out.wr hw (by omega))
  replace HB := Kept.mk (HB.out.trans (hw.below (by omega) (by have := HB.out.size; omega)))
  clear hw hs9
  refine ⟨_, rfl, ?_⟩
  simp only [List.foldl_cons, List.foldl_nil]
  generalize y9 37 = z37
  generalize y9 38 = z38
  generalize y9 39 = z39
  generalize y9 40 = z40
  generalize y9 41 = z41
  generalize y9 42 = z42
  generalize y9 43 = z43
  generalize y9 44 = z44
  generalize y9 45 = z45
  simp only [List.setIfInBounds_toArray, List.set_cons_succ, List.set_cons_zero]
  clear y9
  go_wp2_with fail
  refine (fill_any g (headL E ++ dataL E.val) 42 W7 HW.out.at_ (by rw [List.length_append]; omega) (by omega)).mono ?_
  rintro e W8 ⟨rfl, hw⟩
  replace HW := Kept.mk (HW.out.trans hw)
  replace HV := Kept.mk (HV.out.wr hw (by omega))
  replace HB := Kept.mk (HB.out.trans (hw.below (by omega) (by have := HB.out.size; omega)))
  clear hw
  have eh : (headL E ++ dataL E.val) ++ zerosL (42 - (headL E ++ dataL E.val).length) = putEn E := by
    have e1 : 42 - (headL E ++ dataL E.val).length = 32 - (dataL E.val).length := by rw [List.length_append]; omega
    rw [e1]
    unfold putEn
    rw [List.append_assoc]
  rw [eh] at HW
  clear eh
  have kc := HW.out.at_.cell
  go_wp2
  go_ret2
  refine ⟨?_, HB.out⟩
  have e1 : putF E = putEn E := by unfold putF; rw [HO.out]; rfl
  rw [e1, HC.out]
  rfl
set_option maxRecDepth 100000 in
set_option maxHeartbeats 4000000 in
theorem eput_3 (E : En) (v : Value) (w : World) (hv : isEn E v w) (hF : FitE E) (hok : okE E = true) (hk : E.val.kind = 3) : Calls Tryz.prog 31 #[v] w fun e w' => e = .returned (.tuple #[txt (putF E), .int .i64 (chkE E)]) ∧ Below w.heap.size w w' := by
  have HO := Kept.mk hok
  have HK := Kept.mk hk
  have hl := length_head hok
  have HL := Kept.mk (length_putEn hok)
  have hdl := (length_data_le (show okV E.val = true by unfold okE at hok; rw [Bool.and_eq_true] at hok; exact hok.2)).1
  have hkl : 1 ≤ E.key.length ∧ E.key.length ≤ 8 := by simp only [okE, Bool.and_eq_true, decide_eq_true_eq] at hok; exact hok.1
  have hkz : 0 ≤ E.val.kind ∧ E.val.kind ≤ 3 := by omega
  clear hok hk
  obtain ⟨vp, vm, rfl, hp, hm⟩ := hv
  have HB := Kept.mk (lit_below w (.cells #[.string ⟨E.key.toArray⟩, .int .i64 E.val.kind, .int .i64 E.val.time, .int .i64 E.val.node, .bool E.val.dead, .string ⟨E.val.text.toArray⟩, vp, vm, .int .u64 (E.val.flags.toNat : Int)] 48))
  have HV := Kept.mk (Blk.new w 48 [.string ⟨E.key.toArray⟩, .int .i64 E.val.kind, .int .i64 E.val.time, .int .i64 E.val.node, .bool E.val.dead, .string ⟨E.val.text.toArray⟩, vp, vm, .int .u64 (E.val.flags.toNat : Int)] w.heap.size rfl)
  have HP := Kept.mk hp
  have HM := Kept.mk hm
  clear hp hm
  have kv0 := HV.out.cells.2 0 _ rfl
  have kv1 := HV.out.cells.2 1 _ rfl
  have kv2 := HV.out.cells.2 2 _ rfl
  have kv3 := HV.out.cells.2 3 _ rfl
  have kv4 := HV.out.cells.2 4 _ rfl
  have kv5 := HV.out.cells.2 5 _ rfl
  have kv6 := HV.out.cells.2 6 _ rfl
  have kv7 := HV.out.cells.2 7 _ rfl
  have kv8 := HV.out.cells.2 8 _ rfl
  go_enter Tryz.func31, Tryz.ntmps31
  go_wp2_with fail
  clear kv0 kv1 kv2 kv3 kv4 kv5 kv6 kv7 kv8
  generalize w.alloc (.cells #[.string ⟨E.key.toArray⟩, .int .i64 E.val.kind, .int .i64 E.val.time, .int .i64 E.val.node, .bool E.val.dead, .string ⟨E.val.text.toArray⟩, vp, vm, .int .u64 (E.val.flags.toNat : Int)] 48) = W0 at *
  have hs0 := HV.out.lt
  refine (echeck_any E _ W0 ⟨vp, vm, rfl, stable_cells _ _ _ _ HP.out HB.out, stable_cells _ _ _ _ HM.out HB.out⟩ hF).mono ?_
  rintro e W1 ⟨rfl, hb⟩
  replace HV := Kept.mk (HV.out.keep hb)
  replace HB := Kept.mk (HB.out.trans (hb.mono HB.out.size))
  have hs1 := hb.size
  clear hb
  have hC : chkE E = 0 := by unfold chkE; rw [HO.out]; rfl
  rw [hC]
  have HC := Kept.mk hC
  clear hC
  go_wp2_with fail
  have HW := Kept.mk (Wr.refl (show At (W1.alloc (.cells #[.string ⟨#[]⟩] 87)) W1.heap.size (txt []) from (fun b => ⟨b.cells.2 0 _ rfl, b.free 0, b.lt⟩) (Blk.new W1 87 [.string ⟨#[]⟩] W1.heap.size rfl)))
  replace HV := Kept.mk (HV.out.alloc (.cells #[.string ⟨#[]⟩] 87))
  replace HB := Kept.mk (HB.out.alloc HB.out.size (.cells #[.string ⟨#[]⟩] 87))
  generalize hW2 : W1.alloc (.cells #[.string ⟨#[]⟩] 87) = W2 at *
  clear hW2
  generalize hg : W1.heap.size = g at *
  clear hg
  refine pu1_region _ _ _ rfl E g w.heap.size vp vm rfl rfl HV.out.cells ?_
  intro y9 W9 hb9
  replace HW := Kept.mk (HW.out.then_ hb9)
  replace HV := Kept.mk (HV.out.keep hb9)
  replace HB := Kept.mk (HB.out.trans (hb9.mono HB.out.size))
  have hs9 := hb9.size
  clear hb9
  refine (number_z g [] E.val.kind 1 W9 HW.out.at_ (by simp) hkz.1 (by omega) (by omega) (by omega) (by show _ < 256; omega)).mono ?_
  rintro e W3 ⟨rfl, hw⟩
  replace HW := Kept.mk (HW.out.trans hw)
  replace HV := Kept.mk (HV.out.wr hw (by omega))
  replace HB := Kept.mk (HB.out.trans (hw.below (by omega) (by have := HB.out.size; omega)))
  clear hw hs9
  refine ⟨_, rfl, ?_⟩
  simp only [List.foldl_cons, List.foldl_nil]
  generalize y9 13 = z13
  generalize y9 14 = z14
  generalize y9 15 = z15
  generalize y9 16 = z16
  generalize y9 17 = z17
  generalize y9 18 = z18
  generalize y9 19 = z19
  simp only [List.setIfInBounds_toArray, List.set_cons_succ, List.set_cons_zero]
  clear y9
  go_wp2_with fail
  rw [List.nil_append] at HW
  refine pu2_region _ _ _ rfl E g w.heap.size vp vm rfl rfl HV.out.cells ?_
  intro y9 W9 hb9
  replace HW := Kept.mk (HW.out.then_ hb9)
  replace HV := Kept.mk (HV.out.keep hb9)
  replace HB := Kept.mk (HB.out.trans (hb9.mono HB.out.size))
  have hs9 := hb9.size
  clear hb9
  refine (number_z g (putL E.val.kind.toNat 1) (E.key.length : Int) 1 W9 HW.out.at_ (by rw [length_putL]; omega) (by omega) (by omega) (by omega) (by omega) (by show _ < 256; omega)).mono ?_
  rintro e W4 ⟨rfl, hw⟩
  replace HW := Kept.mk (HW.out.trans hw)
  replace HV := Kept.mk (HV.out.wr hw (by omega))
  replace HB := Kept.mk (HB.out.trans (hw.below (by omega) (by have := HB.out.size; omega)))
  clear hw hs9
  refine ⟨_, rfl, ?_⟩
  simp only [List.foldl_cons, List.foldl_nil]
  generalize y9 20 = z20
  generalize y9 21 = z21
  generalize y9 22 = z22
  generalize y9 23 = z23
  generalize y9 24 = z24
  generalize y9 25 = z25
  generalize y9 26 = z26
  simp only [List.setIfInBounds_toArray, List.set_cons_succ, List.set_cons_zero]
  clear y9
  go_wp2_with fail
  refine pu3_region _ _ _ rfl E g w.heap.size vp vm rfl rfl HV.out.cells ?_
  intro y9 W9 hb9
  replace HW := Kept.mk (HW.out.then_ hb9)
  replace HV := Kept.mk (HV.out.keep hb9)
  replace HB := Kept.mk (HB.out.trans (hb9.mono HB.out.size))
  have hs9 := hb9.size
  clear hb9
  refine (add_any g (putL E.val.kind.toNat 1 ++ putL (E.key.length : Int).toNat 1) E.key W9 HW.out.at_ (by simp only [List.length_append, length_putL]; omega) (by omega)).mono ?_
  rintro e W5 ⟨rfl, hw⟩
  replace HW := Kept.mk (HW.out.trans hw)
  replace HV := Kept.mk (HV.out.wr hw (by omega))
  replace HB := Kept.mk (HB.out.trans (hw.below (by omega) (by have := HB.out.size; omega)))
  clear hw hs9
  refine ⟨_, rfl, ?_⟩
  simp only [List.foldl_cons, List.foldl_nil]
  generalize y9 27 = z27
  generalize y9 28 = z28
  generalize y9 29 = z29
  generalize y9 30 = z30
  generalize y9 31 = z31
  generalize y9 32 = z32
  simp only [List.setIfInBounds_toArray, List.set_cons_succ, List.set_cons_zero]
  clear y9
  go_wp2_with fail
  refine (fill_any g ((putL E.val.kind.toNat 1 ++ putL (E.key.length : Int).toNat 1) ++ E.key) 10 W5 HW.out.at_ (by simp only [List.length_append, length_putL]; omega) (by omega)).mono ?_
  rintro e W6 ⟨rfl, hw⟩
  replace HW := Kept.mk (HW.out.trans hw)
  replace HV := Kept.mk (HV.out.wr hw (by omega))
  replace HB := Kept.mk (HB.out.trans (hw.below (by omega) (by have := HB.out.size; omega)))
  clear hw
  have eh : ((putL E.val.kind.toNat 1 ++ putL (E.key.length : Int).toNat 1) ++ E.key) ++ zerosL (10 - ((putL E.val.kind.toNat 1 ++ putL (E.key.length : Int).toNat 1) ++ E.key).length) = headL E := by
    have e1 : 10 - ((putL E.val.kind.toNat 1 ++ putL (E.key.length : Int).toNat 1) ++ E.key).length = 8 - E.key.length := by simp only [List.length_append, length_putL]; omega
    rw [e1]
    unfold headL
    simp only [List.append_assoc, Int.toNat_natCast]
  rw [eh] at HW
  clear eh
  go_wp2_with fail
  refine pk3_region _ _ _ rfl E g w.heap.size vp vm rfl rfl HV.out.cells HK.out ?_
  intro y9 W9 hb9
  replace HW := Kept.mk (HW.out.then_ hb9)
  replace HV := Kept.mk (HV.out.keep hb9)
  replace HB := Kept.mk (HB.out.trans (hb9.mono HB.out.size))
  have hs9 := hb9.size
  clear hb9
  refine (wflags_any E.val g (headL E) _ W9 ⟨vp, vm, rfl, stable_cells _ _ _ _ HP.out HB.out, stable_cells _ _ _ _ HM.out HB.out⟩ HW.out.at_ (by omega) HK.out).mono ?_
  rintro e W7 ⟨rfl, hw⟩
  replace HW := Kept.mk (HW.out.trans hw)
  replace HV := Kept.mk (HV.out.wr hw (by omega))
  replace HB := Kept.mk (HB.out.trans (hw.below (by omega) (by have := HB.out.size; omega)))
  clear hw hs9
  refine ⟨_, rfl, ?_⟩
  simp only [List.foldl_cons, List.foldl_nil]
  generalize y9 37 = z37
  generalize y9 38 = z38
  generalize y9 39 = z39
  generalize y9 40 = z40
  generalize y9 41 = z41
  generalize y9 42 = z42
  generalize y9 43 = z43
  generalize y9 44 = z44
  generalize y9 45 = z45
  simp only [List.setIfInBounds_toArray, List.set_cons_succ, List.set_cons_zero]
  clear y9
  go_wp2_with fail
  refine (fill_any g (headL E ++ dataL E.val) 42 W7 HW.out.at_ (by rw [List.length_append]; omega) (by omega)).mono ?_
  rintro e W8 ⟨rfl, hw⟩
  replace HW := Kept.mk (HW.out.trans hw)
  replace HV := Kept.mk (HV.out.wr hw (by omega))
  replace HB := Kept.mk (HB.out.trans (hw.below (by omega) (by have := HB.out.size; omega)))
  clear hw
  have eh : (headL E ++ dataL E.val) ++ zerosL (42 - (headL E ++ dataL E.val).length) = putEn E := by
    have e1 : 42 - (headL E ++ dataL E.val).length = 32 - (dataL E.val).length := by rw [List.length_append]; omega
    rw [e1]
    unfold putEn
    rw [List.append_assoc]
  rw [eh] at HW
  clear eh
  have kc := HW.out.at_.cell
  go_wp2
  go_ret2
  refine ⟨?_, HB.out⟩
  have e1 : putF E = putEn E := by unfold putF; rw [HO.out]; rfl
  rw [e1, HC.out]
  rfl
theorem eput_any (E : En) (v : Value) (w : World) (hv : isEn E v w) (hF : FitE E) : Calls Tryz.prog 31 #[v] w fun e w' => e = .returned (.tuple #[txt (putF E), .int .i64 (chkE E)]) ∧ Below w.heap.size w w' := by
  cases hok : okE E with
  | false => exact eput_bad E v w hv hF hok
  | true =>
    have hk := kind_lt (show okV E.val = true by unfold okE at hok; rw [Bool.and_eq_true] at hok; exact hok.2)
    have h : E.val.kind = 1 ∨ E.val.kind = 2 ∨ E.val.kind = 3 := by omega
    rcases h with h | h | h
    · exact eput_1 E v w hv hF hok h
    · exact eput_2 E v w hv hF hok h
    · exact eput_3 E v w hv hF hok h
end Go.Proofs.YtkjghoomdefbbaaGreatDoor
end
