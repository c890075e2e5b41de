/- Joined texts: contracts of the program's functions, and the mathematics that they lean on. -/
import Derived.Test.YtbgconagkgfplaaGreatPartF
import Derived.Laws.IdiomCopy
section
namespace Go.Proofs.YtbgconagkgfplaaGreat
open Go.RowKit Go.Shelf
set_option linter.unusedVariables false
set_option linter.unusedSimpArgs false
attribute [local irreducible] setN
section
attribute [local go_sem] Oper.semAt_some
set_option maxRecDepth 100000 in
set_option maxHeartbeats 2000000 in
theorem all_new (A : Ar) (v : Value) (w : World) (hv : isAr A v w) (hF : FitA A) : Calls Tryz.prog 42 #[v] w fun e W' => ∃ v', e = .returned v' ∧ isEnsN w.heap.size (allA A) v' W' ∧ Below w.heap.size w W' := by
  obtain ⟨vs, vi, rfl, hs, hi⟩ := hv
  refine (callsIn_wide (n := 5)).1 ?_
  refine callsIn_of_wp_marks Tryz.func42 rfl trivial ?_ rfl
  simp only [Tryz.ntmps42, List.size_toArray, List.length_cons, List.length_nil, Nat.reduceAdd, Nat.reduceSub, Array.replicate_succ, Array.replicate_zero, List.push_toArray, List.append_toArray, List.nil_append, List.cons_append]
  gi_wp2_with (refine ⟨trivial, (namec_call _ A vs vi _).mono ?_⟩; rintro e w' ⟨rfl, rfl⟩)
  have f1 := hF.slots
  have hB0 : Below w.heap.size w (((w.alloc (.cells #[.int .i64 A.cap, vs, vi] 25)).alloc (.cells #[.slice none 0 0] 22)).alloc (.cells #[.int .i64 A.cap, vs, vi] 25)) := (((Below.refl _ w).alloc (Nat.le_refl _) _).alloc (by simp) _).alloc (by simp; omega) _
  have hIt : ItA A vs vi w w.heap.size (w.heap.size + 1 + 1) (((w.alloc (.cells #[.int .i64 A.cap, vs, vi] 25)).alloc (.cells #[.slice none 0 0] 22)).alloc (.cells #[.int .i64 A.cap, vs, vi] 25)) := ⟨by simp; omega, by simp, fun b hb => hB0.block b hb, by
    have := heap_alloc_new ((w.alloc (.cells #[.int .i64 A.cap, vs, vi] 25)).alloc (.cells #[.slice none 0 0] 22)) (.cells #[.int .i64 A.cap, vs, vi] 25)
    simpa using this⟩
  have hst : Blk (((w.alloc (.cells #[.int .i64 A.cap, vs, vi] 25)).alloc (.cells #[.slice none 0 0] 22)).alloc (.cells #[.int .i64 A.cap, vs, vi] 25)) (w.heap.size + 1) [.slice none 0 0] := (Blk.new (w.alloc (.cells #[.int .i64 A.cap, vs, vi] 25)) 22 [.slice none 0 0] (w.heap.size + 1) (by simp)).alloc _
  have hI0 : IAll A w [] (((w.alloc (.cells #[.int .i64 A.cap, vs, vi] 25)).alloc (.cells #[.slice none 0 0] 22)).alloc (.cells #[.int .i64 A.cap, vs, vi] 25)) := ⟨.slice none 0 0, [], ⟨hst, World.ownsRow_nil _ _ _ _, (fun q hq => by cases hq), (fun q hq => by cases hq), (fun q hq => by cases hq)⟩, rfl, hB0, by simp⟩
  have hsz : (((w.alloc (.cells #[.int .i64 A.cap, vs, vi] 25)).alloc (.cells #[.slice none 0 0] 22)).alloc (.cells #[.int .i64 A.cap, vs, vi] 25)).heap.size = w.heap.size + 3 := by simp
  try simp only [World.size_alloc] at hIt
  try simp only [World.size_alloc]
  generalize (((w.alloc (.cells #[.int .i64 A.cap, vs, vi] 25)).alloc (.cells #[.slice none 0 0] 22)).alloc (.cells #[.int .i64 A.cap, vs, vi] 25)) = W0 at *
  refine wpIn_rangeFunc_ownH rfl (by decide) (gf := 123) (lb := #[.pointer (some ⟨w.heap.size + 1 + 1, 0, none⟩)]) rfl trivial (enters_of Tryz.func123 (by kernel_rfl) rfl)
    (namec_stops 4 (by omega) (w.heap.size + 1 + 1) A vs vi w W0 hs hi hF hIt) (kpA_t _ _) (kpA_put _ _ _ (by omega) (by omega)) (Below.refl _ _) (fun _ => rfl)
    (IAll A w) (fun _ _ _ => False) (iall_own A w _ (by omega)) (fun _ _ _ _ _ hs _ _ => hs) hI0 (AxAll A vs vi w)
    (fun x a' _ W W' row ⟨h, e, hb, hh, hu⟩ hg hr => ⟨h, e, blk_own (by simp) hb hg hr, hh, fun u hc => hu u (by rw [← hc]; exact (World.cell?_of_block (a := ⟨w.heap.size + 1, 0, none⟩) (iall_b1 (b := w.heap.size + 1) hg hr hb (by have := hb.lt; omega))).symm)⟩) ?assign ?body ?done ?stop
  case assign =>
    intro l pre x W K hIp hK
    have hp := x.2.2.1
    have hm := x.2.2.2
    obtain ⟨v0, ps0, hO0, _, hBw, hNw⟩ := id hIp
    obtain ⟨K1, K2, K3, K4, K5⟩ := enew W x.1.2.1 x.1.2.2.1 x.1.2.2.2 (stable_cells _ _ _ _ hp hBw) (stable_cells _ _ _ _ hm hBw) W.heap.size rfl
    have HH := Kept.mk ((Blk.new W 30 [.string ⟨#[]⟩, .int .i64 0, .int .i64 0, .int .i64 0, .bool false, .string ⟨#[]⟩, .slice none 0 0, .slice none 0 0, .int .u64 0] W.heap.size rfl).all_ (l := [.string ⟨x.1.2.1.key.toArray⟩, .int .i64 x.1.2.1.val.kind, .int .i64 x.1.2.1.val.time, .int .i64 x.1.2.1.val.node, .bool x.1.2.1.val.dead, .string ⟨x.1.2.1.val.text.toArray⟩, x.1.2.2.1, x.1.2.2.2, .int .u64 (x.1.2.1.val.flags.toNat : Int)]) rfl)
    have hun : ∀ u, (setN (W.alloc (.cells #[.string ⟨#[]⟩, .int .i64 0, .int .i64 0, .int .i64 0, .bool false, .string ⟨#[]⟩, .slice none 0 0, .slice none 0 0, .int .u64 0] 30)) W.heap.size 0 [.string ⟨x.1.2.1.key.toArray⟩, .int .i64 x.1.2.1.val.kind, .int .i64 x.1.2.1.val.time, .int .i64 x.1.2.1.val.node, .bool x.1.2.1.val.dead, .string ⟨x.1.2.1.val.text.toArray⟩, x.1.2.2.1, x.1.2.2.2, .int .u64 (x.1.2.1.val.flags.toNat : Int)]).cell? ⟨w.heap.size + 1, 0, none⟩ = some u → u.ownBlock ≠ some W.heap.size := fun u hc e => by
      have h1 := (K3.out.cell (p := ⟨w.heap.size + 1, 0, none⟩) (show w.heap.size + 1 < W.heap.size by omega)).symm.trans hc
      rw [hO0.st.cells.2 0 _ rfl] at h1
      injection h1 with h1
      subst h1
      have := (hO0.own.lt _ e).2
      omega
    have hK2 := hK _ _ (keeps_below K3.out) (kpA_below K3.out (by omega) (by omega)) (iall_keep hIp K3.out) ⟨W.heap.size, rfl, HH.out, hNw, hun⟩
    have HK := Kept.mk hK2
    clear hK2 hK hp hm
    simp only [encE]
    gi_wp2_with (have hz0 := K1; refine wpListIn_storeN (fun _ => trivial) 30 rfl (.tmp 5) (.tmp 9) rfl W.heap.size [.string ⟨x.1.2.1.key.toArray⟩, .int .i64 x.1.2.1.val.kind, .int .i64 x.1.2.1.val.time, .int .i64 x.1.2.1.val.node, .bool x.1.2.1.val.dead, .string ⟨x.1.2.1.val.text.toArray⟩, x.1.2.2.1, x.1.2.2.2, .int .u64 (x.1.2.1.val.flags.toNat : Int)] size_en rfl rfl K1.out rfl K2.out K5.out ?_; clear hz0 K1 K2 K5)
    exact HK.out
  case body =>
    rintro l pre x a' W hl _ hIp ⟨h, rfl, hbl, hh, hu⟩ hlt
    obtain ⟨v, ps, hO, hpm, hBw, hNw⟩ := hIp
    obtain ⟨hx1, hx2, hx3⟩ := x.2
    have hps : ps.length ≤ 1000 := by
      have := congrArg List.length hpm
      rw [List.length_map, List.length_map] at this
      omega
    have FE := hF.ents _ (List.mem_of_getElem? hx1)
    have hp := stable_cells _ _ _ _ hx2 hBw
    have hm := stable_cells _ _ _ _ hx3 hBw
    have op := cells_lt hx2
    have om := cells_lt hx3
    have hvs : ∀ s, v.ownBlock = some s → w.heap.size + 3 ≤ s ∧ s < W.heap.size := hO.own.lt
    have hob : ∀ s, v.ownBlock = some s → ∀ o : Obj, W.heap[s]? = some o → o.isCells = true := by
      intro s hs o ho
      obtain ⟨_, ⟨rfl, _⟩ | ⟨g, cap, cur, rfl, _, hg', _⟩⟩ := hO.own
      · cases hs
      · have : g = s := by injection hs
        subst this
        rw [hg'] at ho
        injection ho with ho
        subst ho
        rfl
    gi_wp2_with fail
    refine alapp_region _ _ _ ?hout rfl (w.heap.size + 1) h (w.heap.size + 3) ps.length [v] x.1.2.1 v x.1.2.2.1 x.1.2.2.2 (flatE ps) rfl rfl hO.st rfl hbl hp hm FE hO.own hps hNw (fun s hs => ⟨by have := (hvs s hs).1; omega, fun e => ?hne, op.imp id (fun h2 e => by have := h2 s e; have := (hvs s hs).1; omega), om.imp id (fun h2 e => by have := h2 s e; have := (hvs s hs).1; omega)⟩) ?hfin
    case hout => rintro ⟨a2, w2, hh2⟩; first | exact hh2 | exact hh2.elim | (simp [ownPostG] at hh2) | exact True.intro
    case hne => exact hu v (hO.st.cells.2 0 _ rfl) (by rw [hs, e])
    case hfin =>
      intro y v2 vp vm W2 h1 h2 h3 h4 h5 h6 h7 h8 h9
      have hO2 := hO.push (by omega) hNw x.1.2.1 v2 vp vm h1 h2 h3 h4 h5 h6 h7 h8 h9
      have hB2 := hBw.trans (h9.below (fun b hb => by rcases hb with rfl | hb; (· omega); (· have := (hvs b hb).1; omega)) (by omega))
      have hpost : KeepsFrom W0.heap.size W W2 ∧ KpA w.heap.size (w.heap.size + 1 + 1) W W2 ∧ IAll A w (pre ++ [x]) W2 := by
        refine ⟨⟨h9.size, fun k o hB hk ho => (h9.block k (Array.getElem?_eq_some_iff.1 hk).1 (fun e => ?_)).trans hk⟩, ⟨h9.size, fun b hb => h9.block b (by omega) (fun e => ?_)⟩, ⟨v2, _, hO2, by rw [List.map_append, hpm, List.map_append]; rfl, hB2, Nat.le_trans hNw h9.size⟩⟩
        · rcases e with rfl | e
          · omega
          · rw [hob k e o hk] at ho; cases ho
        · rcases e with e | e
          · omega
          · have := (hvs b e).1; omega
      first | exact hpost | (gi_wp2; exact hpost) | exact True.intro
  case done =>
    rintro D ys W hD hys ⟨v, ps, hO, hpm, hBw, hNw⟩ hK
    have hc := hO.st.cells.2 0 _ rfl
    have hen := Kept.mk (show isEnsN w.heap.size (allA A) v (W.putObj D (.deferred none)) by
      have h2 := (out_own (B := W0.heap.size) (by omega) hO (grownBy_putObj' W D (.deferred none)) (fun r e => by cases e; exact ⟨hD, _, hK, rfl⟩)).ensN (N := w.heap.size) (by omega)
      rw [hpm, hys] at h2
      exact h2)
    have hbl := Kept.mk (hBw.trans (belowK_b (w := w) (Nat.le_refl _) W D _ (.deferred none) (by omega) hK rfl rfl))
    gi_wp2
    refine ⟨by simp, .inl ⟨_, _, rfl, run_takeDeferred hK, ?_⟩⟩
    exact ⟨_, results_tmp rfl _ _ _, v, rfl, hen.out, hbl.out⟩
  case stop =>
    rintro D c pre W _ _ h _
    exact h.elim
end
theorem free_of_heap {w : World} {s : Nat} {cur : Array Value} {T : TypeId} (h : w.heap[s]? = some (.cells cur T (0, 0))) : Free5 w s := fun j => by simp [World.frozen?, h]
theorem all_len {A : Ar} (hF : FitA A) : (allA A).length ≤ 1000 := by
  unfold allA
  by_cases h : okA A = true
  · rw [if_pos h, ord_length (okA_iff.1 h)]; exact hF.slots
  · rw [if_neg h]; decide
def deadB (E : En) : Bool := E.val.dead
set_option maxRecDepth 100000 in
set_option maxHeartbeats 2000000 in
theorem scan1_any (E : En) (z : Bool) (v : Value) (w : World) (hv : isEn E v w) (hz : deadB E = z) : Calls Tryz.prog 82 #[v] w fun e w' => e = .returned (.bool z) ∧ Below w.heap.size w w' := by
  obtain ⟨vp, vm, rfl, hp, hm⟩ := hv
  obtain ⟨hB, V⟩ := ebox w E vp vm hp hm w.heap.size rfl
  clear hp hm
  obtain ⟨q, r, x, y, k0, k1, k2, k3, k4, k5, k6, k7, k8⟩ := V.out.open_
  unfold deadB at hz
  have HZ := Kept.mk hz
  clear x y hz
  go_enter Tryz.func82, Tryz.ntmps82
  go_wp2
  go_ret
  exact ⟨by rw [← HZ.out]; rfl, hB.out⟩
set_option maxRecDepth 100000 in
set_option maxHeartbeats 2000000 in
theorem index_dead (l : List En) (v : Value) (w : World) (hv : isEns l v w) (hl : l.length ≤ 1000) : Calls Tryz.prog 114 #[v, .func (.func 82) #[] #[]] w fun e w' => (∃ r : Int, e = .returned (.int .i64 r) ∧ ((r = -1 ∧ ∀ E ∈ l, deadB E = false) ∨ ∃ k : Nat, r = (k : Int) ∧ k < l.length ∧ ∀ j E, j ≤ k → l[j]? = some E → deadB E = decide (j = k))) ∧ Below w.heap.size w w' := by
  have eg : ∀ args w, (callFunc 82 args).run Tryz.prog w = .ok (.enter 82 args) w := enters_of Tryz.func82 (by kernel_rfl) rfl
  rcases hv.cases_ with ⟨a, cap, rfl, rfl⟩ | ⟨b, off, cap, rfl, hb0, hc⟩
  · go_enter Tryz.func114, Tryz.ntmps114
    go_wp2
    go_loopw [5, 8] (fun _ i wr => i = .int .i64 0 ∧ Kept (Below w.heap.size w wr)) (fun _ i _ => 0)
    case atStart => exact ⟨rfl, ⟨Below.refl _ _⟩⟩
    case round =>
      obtain ⟨rfl, B⟩ := hrel
      go_wp2
      go_ret
      exact ⟨⟨-1, rfl, .inl ⟨rfl, fun E h => by cases h⟩⟩, B.out⟩
  · have HC := Kept.mk hc
    clear hc hv
    generalize hn : l.length = n at hl
    go_enter Tryz.func114, Tryz.ntmps114
    go_wp2
    go_loopw [5, 8] (fun _ i wr => ∃ k : Nat, k ≤ n ∧ i = .int .i64 (k : Int) ∧ Kept (Below w.heap.size w wr) ∧ Kept (∀ j E, j < k → l[j]? = some E → deadB E = false)) (fun _ i _ => n - (intOf i).toNat)
    case atStart => exact ⟨0, Nat.zero_le _, rfl, ⟨Below.refl _ _⟩, ⟨fun j E h => absurd h (Nat.not_lt_zero _)⟩⟩
    case round =>
      obtain ⟨k, hk, rfl, B, A⟩ := hrel
      by_cases hlt : k < n
      · have hlt' : (k : Int) < (n : Int) := by omega
        obtain ⟨E, hE⟩ : ∃ E, l[k]? = some E := ⟨_, List.getElem?_eq_getElem (by omega)⟩
        obtain ⟨vp, vm, x0, y0, kc0, kc1, kc2, kc3, kc4, kc5, kc6, kc7, kc8⟩ := (HC.out k E hE).keep B.out hb0 |>.open_
        have X := Kept.mk x0
        have HE := Kept.mk hE
        obtain ⟨z, hz⟩ : ∃ z, deadB E = z := ⟨_, rfl⟩
        have HZ := Kept.mk hz
        clear x0 y0 hE hz
        go_wp2_with fail
        refine (scan1_any E z _ _ X.out HZ.out).mono ?_
        rintro e W1 ⟨rfl, hb⟩
        replace B := Kept.mk (B.out.trans (hb.mono B.out.size))
        clear hb X kc0 kc1 kc2 kc3 kc4 kc5 kc6 kc7 kc8
        cases z with
        | false =>
          go_wp2
          go_roundw
          case rel =>
            refine ⟨k + 1, by omega, by go_num, B, ⟨fun j E' hj h => ?_⟩⟩
            by_cases e : j = k
            · subst e; rw [HE.out] at h; injection h with h; rw [← h]; exact HZ.out
            · exact A.out j E' (by omega) h
          case measure => simp [intOf]; omega
        | true =>
          go_wp2
          go_ret
          refine ⟨⟨k, rfl, .inr ⟨k, rfl, hlt, fun j E' hj h => ?_⟩⟩, B.out⟩
          by_cases e : j = k
          · subst e; rw [HE.out] at h; injection h with h; rw [← h, HZ.out]; simp
          · rw [A.out j E' (by omega) h]; simp [e]
      · have hlt' : ¬ (k : Int) < (n : Int) := by omega
        go_wp2
        go_ret
        refine ⟨⟨-1, rfl, .inl ⟨rfl, fun E h => ?_⟩⟩, B.out⟩
        obtain ⟨j, hj⟩ := List.getElem?_of_mem h
        have := (List.getElem?_eq_some_iff.1 hj).1
        exact A.out j E (by omega) hj
/-- What is kept, up to a place. -/
def liveB (q : En × Value × Value) : Bool := !deadB q.1
structure DelI (ps cur : RowE) (i j : Nat) : Prop where
  lt : i < j
  len : cur.length = ps.length
  head : cur.take i = (ps.take j).filter liveB
  tail : cur.drop j = ps.drop j
theorem DelI.at_ {ps cur : RowE} {i j : Nat} (h : DelI ps cur i j) (hj : j < ps.length) : cur[j]? = some ps[j] := by
  have : (cur.drop j)[0]? = (ps.drop j)[0]? := by rw [h.tail]
  rw [List.getElem?_drop, List.getElem?_drop] at this
  simp only [Nat.add_zero] at this
  rw [this, List.getElem?_eq_getElem hj]
theorem take_snoc {α : Type} (l : List α) {j : Nat} (h : j < l.length) : l.take (j + 1) = l.take j ++ [l[j]] := by rw [List.take_add_one, List.getElem?_eq_getElem h]; rfl
theorem DelI.skip {ps cur : RowE} {i j : Nat} (h : DelI ps cur i j) (hj : j < ps.length) (hd : liveB ps[j] = false) : DelI ps cur i (j + 1) :=
  ⟨by have := h.lt; omega, h.len, by rw [take_snoc ps hj, List.filter_append, ← h.head]; simp [hd], by rw [← List.drop_drop, h.tail, List.drop_drop]⟩
theorem DelI.put {ps cur : RowE} {i j : Nat} (h : DelI ps cur i j) (hj : j < ps.length) (hd : liveB ps[j] = true) : DelI ps (cur.set i ps[j]) (i + 1) (j + 1) := by
  have hlt := h.lt
  have hl := h.len
  refine ⟨by omega, by rw [List.length_set, hl], ?_, ?_⟩
  · rw [take_snoc ps hj, List.filter_append, ← h.head, take_snoc (cur.set i ps[j]) (by rw [List.length_set]; omega)]
    rw [List.getElem_set_self, List.take_set_of_le (Nat.le_refl i)]
    simp [hd]
  · rw [List.drop_set_of_lt (by omega), ← List.drop_drop, h.tail, List.drop_drop]
theorem del_start {ps : RowE} {k : Nat} (hk : k < ps.length) (h : ∀ j E, j ≤ k → (ps.map (·.1))[j]? = some E → deadB E = decide (j = k)) : DelI ps ps k (k + 1) := by
  have hb : ∀ j, (hj : j < ps.length) → j ≤ k → liveB ps[j] = !decide (j = k) := fun j hj hle => by
    unfold liveB
    rw [h j ps[j].1 hle (by rw [List.getElem?_map, List.getElem?_eq_getElem hj]; rfl)]
  refine ⟨Nat.lt_succ_self _, rfl, ?_, rfl⟩
  rw [take_snoc ps hk, List.filter_append, List.filter_eq_self.2 (fun q hq => ?_)]
  · have := hb k hk (Nat.le_refl _)
    simp [this]
  · obtain ⟨j, hj⟩ := List.getElem?_of_mem hq
    have hj1 := (List.getElem?_eq_some_iff.1 hj).1
    rw [List.length_take] at hj1
    rw [List.getElem?_take_of_lt (by omega), List.getElem?_eq_getElem (by omega)] at hj
    injection hj with hj
    rw [← hj, hb j (by omega) (by omega), decide_eq_false (by omega)]; rfl
theorem filter_rows {ps : RowE} : (ps.filter liveB).map (·.1) = (ps.map (·.1)).filter (fun e => !e.val.dead) := by rw [List.filter_map]; rfl
theorem run_clear_ens {w : World} (s o n c : Nat) (hn : 0 < n) (hc : ∀ j, j < n * 9 → (w.cell? ⟨s, o + j, none⟩).isSome = true) (hf : ∀ j, w.frozen? ⟨s, j, none⟩ = false) :
    ∃ zl : List Value, zl.length = n * 9 ∧ ∀ ty, (Builtin.clear_ #[22] ty #[.slice (some ⟨s, o, none⟩) n c]).run Tryz.prog w = .ok (.tuple #[]) (w.setCells s o zl) := by
  obtain ⟨ie, h1, h2⟩ := Option.map_eq_some_iff.1 Tryz.infoEn
  simp only [Prod.mk.injEq] at h2
  have hv : (zeroValue 30).run Tryz.prog w = .ok (.agg #[.string ⟨#[]⟩, .int .i64 0, .int .i64 0, .int .i64 0, .bool false, .string ⟨#[]⟩, .slice none 0 0, .slice none 0 0, .int .u64 0]) w := by simp [zeroValue, typeInfo, h1, h2.1]
  refine ⟨(Builtin.zeroCells (Value.agg #[.string ⟨#[]⟩, .int .i64 0, .int .i64 0, .int .i64 0, .bool false, .string ⟨#[]⟩, .slice none 0 0, .slice none 0 0, .int .u64 0]).cells n).toList, by simp [Builtin.zeroCells, Value.cells], fun ty => ?_⟩
  have hlen : (Builtin.zeroCells (Value.agg #[.string ⟨#[]⟩, .int .i64 0, .int .i64 0, .int .i64 0, .bool false, .string ⟨#[]⟩, .slice none 0 0, .slice none 0 0, .int .u64 0]).cells n).toList.length = n * 9 := by simp [Builtin.zeroCells, Value.cells]
  have hst := run_storeCells_cells (P := Tryz.prog) s o (Builtin.zeroCells (Value.agg #[.string ⟨#[]⟩, .int .i64 0, .int .i64 0, .int .i64 0, .bool false, .string ⟨#[]⟩, .slice none 0 0, .slice none 0 0, .int .u64 0]).cells n).toList 0 w (by intro j hj; rw [hlen] at hj; simpa using hc j hj) (fun j _ => hf _) (fun v hv' => by
    simp only [Builtin.zeroCells, Value.cells, Array.toList_map, List.mem_map] at hv'
    obtain ⟨i, _, rfl⟩ := hv'
    have h9 : i % 9 < 9 := Nat.mod_lt _ (by decide)
    have : ∀ k, k < 9 → ((#[.string ⟨#[]⟩, .int .i64 0, .int .i64 0, .int .i64 0, .bool false, .string ⟨#[]⟩, .slice none 0 0, .slice none 0 0, .int .u64 0] : Array Value)[k]!).oneCell' = true := by decide
    exact this _ h9)
  simp only [Nat.add_zero] at hst
  obtain ⟨m, rfl⟩ : ∃ m, n = m + 1 := ⟨n - 1, by omega⟩
  simp [Builtin.clear_, run_underlying Tryz.underlying22, hv, hst]
theorem cells_some {w : World} {s j : Nat} {arr : Array Value} {T : TypeId} (h : w.heap[s]? = some (.cells arr T (0, 0))) (hj : j < arr.size) : (w.cell? ⟨s, j, none⟩).isSome = true := by simp [World.cell?, h, hj]
theorem ens_prefix {N s n cap a : Nat} {cur : RowE} {w : World} (h : OutV N (.slice (some ⟨s, 0, none⟩) n cap) cur w) (hn : cur.length = n) (ha : a ≤ n) (zl : List Value) : isEns ((cur.take a).map (·.1)) (.slice (some ⟨s, 0, none⟩) a cap) (w.setCells s (a * 9) zl) := by
  have bt : Bt (fun b => b = s) w (w.setCells s (a * 9) zl) := by rw [← setN_cells]; exact bt_setN (S := fun b => b = s) rfl _ _ _
  by_cases h0 : n = 0
  · obtain rfl : a = 0 := by omega
    exact .inr (.inl ⟨_, _, rfl, rfl⟩)
  obtain ⟨s', cap', arr, ev, hg, hcs, hnc, hc, ht, hBs, hlt⟩ := h.slot (q := 0) (by omega)
  injection ev with ev1 ev2 ev3
  injection ev1 with ev1
  injection ev1 with ev1 ev4 ev5
  subst ev1 ev3
  refine .inr (.inr ⟨s, 0, cap, by rw [List.length_map, List.length_take, hn, Nat.min_eq_left ha], Nat.lt_of_lt_of_le hlt bt.size, fun j E hj => ?_⟩)
  rw [List.getElem?_map] at hj
  obtain ⟨q, hq, rfl⟩ := Option.map_eq_some_iff.1 hj
  have hja : j < a := by have := (List.getElem?_eq_some_iff.1 hq).1; rw [List.length_take] at this; omega
  rw [List.getElem?_take_of_lt hja] at hq
  have hm := List.mem_of_getElem? hq
  obtain ⟨r1, r2⟩ := h.rows q hm
  obtain ⟨o1, o2⟩ := h.off q hm s rfl
  refine ⟨q.2.1, q.2.2, fun i x hx => ?_, bt.cells r1 (o1.imp id (fun g b hb e => g (by rw [hb, e]))), bt.cells r2 (o2.imp id (fun g b hb e => g (by rw [hb, e])))⟩
  have hi : i < 9 := (List.getElem?_eq_some_iff.1 hx).1
  rw [Nat.zero_add, World.cell?_setCells_out s zl (a * 9) w ⟨s, j * 9 + i, none⟩ (fun _ _ => .inl (by show j * 9 + i < a * 9; omega))]
  exact cell_flat hg ht (show cur[j]? = some (q.1, q.2.1, q.2.2) from hq) i x hx
set_option maxRecDepth 100000 in
set_option maxHeartbeats 2000000 in
theorem delete_any (N : Nat) (v : Value) (ps : RowE) (w : World) (h : OutV N v ps w) (hl : ps.length ≤ 1000) (hN : N ≤ w.heap.size) : Calls Tryz.prog 81 #[v, .func (.func 82) #[] #[]] w fun e w' => (∃ v', e = .returned v' ∧ isEns ((ps.filter liveB).map (·.1)) v' w') ∧ Below N w w' := by
  have eg : ∀ args w, (callFunc 82 args).run Tryz.prog w = .ok (.enter 82 args) w := enters_of Tryz.func82 (by kernel_rfl) rfl
  have HO := Kept.mk h
  have hlen := h.len
  have HI := Kept.mk (index_dead (ps.map (·.1)) v w h.ens (by rw [List.length_map]; exact hl))
  clear h
  obtain ⟨sa, cap, rfl⟩ := hlen
  go_enter Tryz.func81, Tryz.ntmps81
  go_wp2_with fail
  refine HI.out.mono ?_
  rintro e W1 ⟨⟨r, rfl, hr⟩, hb⟩
  replace HO := Kept.mk (HO.out.keep hb)
  have HB1 := Kept.mk hb
  clear hb HI
  rcases hr with ⟨rfl, hall⟩ | ⟨k, rfl, hk, hat⟩
  · have HA := Kept.mk hall
    clear hall
    go_wp2
    go_ret
    refine ⟨⟨_, rfl, ?_⟩, ?_⟩
    · rw [List.filter_eq_self.2 (fun q hq => by unfold liveB; rw [HA.out q.1 (List.mem_map_of_mem hq)]; rfl)]
      exact HO.out.ens
    · exact HB1.out.mono hN
  · rw [List.length_map] at hk
    have HD := Kept.mk (del_start hk hat)
    clear hat
    generalize hn : ps.length = n at hl hk ⊢
    have HN := Kept.mk hn
    obtain ⟨s, cap', cur0, ev, hg0, hcs0, hn0, hc0, ht0, hBs0, hlt0⟩ := HO.out.slot (q := k) (by rw [HN.out]; exact hk)
    injection ev with ev1 ev2 ev3
    subst ev1 ev3
    rw [hn] at hn0
    clear ev2 hg0 hcs0 ht0 hn
    have HCAP := Kept.mk hn0
    have hk1 : ((k : Int) == -1) = false := beq_eq_false_iff_ne.2 (by omega)
    go_wp2
    go_loopw [5, 6, 7] (fun i j _ wr => ∃ (a b : Nat) (cur : RowE), i = .int .i64 (a : Int) ∧ j = .int .i64 (b : Int) ∧ b ≤ n ∧ Kept (DelI ps cur a b) ∧ Kept (cur.length = n) ∧ Kept (OutV N (.slice (some ⟨s, 0, none⟩) n cap) cur wr) ∧ Kept (Bt (fun x => x = s) W1 wr)) (fun _ j _ _ => n - (intOf j).toNat)
    case atStart => exact ⟨k, k + 1, ps, rfl, by go_num, by omega, HD, HN, ⟨by have := HO.out; rwa [HN.out] at this⟩, ⟨Bt.grow (Below.refl _ _)⟩⟩
    case round =>
      obtain ⟨a, b, cur, rfl, rfl, hbn, DI, HL, OV, BT⟩ := hrel
      have hab := DI.out.lt
      have hocap := HCAP.out
      by_cases hlt : b < n
      · skip
        have hlt' : (b : Int) < (n : Int) := by omega
        have hat := DI.out.at_ (show b < ps.length by rw [HN.out]; exact hlt)
        generalize hE : ps[b]'(by rw [HN.out]; exact hlt) = x at hat
        obtain ⟨E, vp, vm⟩ := x
        have HE := Kept.mk hE
        have HAT := Kept.mk hat
        clear hE hat
        obtain ⟨s', cap', arr1, ev, hg1, hcs1, hn1, hc1, ht1, hBs1, hlt1⟩ := OV.out.slot (q := b) (by rw [HL.out]; omega)
        injection ev with ev1 ev2 ev3
        injection ev1 with ev1
        injection ev1 with ev1 ev4 ev5
        subst ev1 ev3
        clear ev2 ev4 ev5
        have HC := Kept.mk (cell_flat hg1 ht1 HAT.out)
        have hrw := OV.out.rows _ (List.mem_of_getElem? HAT.out)
        have hoff := OV.out.off _ (List.mem_of_getElem? HAT.out) s rfl
        have HOFF := Kept.mk hoff
        have kc0 : wr.cell? ⟨s, b * 9, none⟩ = _ := HC.out 0 _ rfl
        have kc1 : wr.cell? ⟨s, b * 9 + 1, none⟩ = _ := HC.out 1 _ rfl
        have kc2 : wr.cell? ⟨s, b * 9 + 2, none⟩ = _ := HC.out 2 _ rfl
        have kc3 : wr.cell? ⟨s, b * 9 + 3, none⟩ = _ := HC.out 3 _ rfl
        have kc4 : wr.cell? ⟨s, b * 9 + 4, none⟩ = _ := HC.out 4 _ rfl
        have kc5 : wr.cell? ⟨s, b * 9 + 5, none⟩ = _ := HC.out 5 _ rfl
        have kc6 : wr.cell? ⟨s, b * 9 + 6, none⟩ = _ := HC.out 6 _ rfl
        have kc7 : wr.cell? ⟨s, b * 9 + 7, none⟩ = _ := HC.out 7 _ rfl
        have kc8 : wr.cell? ⟨s, b * 9 + 8, none⟩ = _ := HC.out 8 _ rfl
        obtain ⟨K1, K2, K3, K4, K5⟩ := enew wr E vp vm hrw.1 hrw.2 wr.heap.size rfl
        have HP := Kept.mk hrw.1
        have HM := Kept.mk hrw.2
        obtain ⟨z, hz⟩ : ∃ z, deadB E = z := ⟨_, rfl⟩
        have HZ := Kept.mk hz
        clear hrw hoff hg1 hcs1 hn1 hc1 ht1 hBs1 hlt1 hz
        have OV2 := Kept.mk (OV.out.keep K3.out)
        have BT2 := Kept.mk (BT.out.trans (Bt.grow K3.out))
        have HP2 := Kept.mk (stable_cells _ _ _ _ HP.out K3.out)
        have HM2 := Kept.mk (stable_cells _ _ _ _ HM.out K3.out)
        go_wp2_with (have hz0 := K1; refine wpList_storeN 30 rfl (.tmp 7) (.tmp 25) rfl wr.heap.size [.string ⟨E.key.toArray⟩, .int .i64 E.val.kind, .int .i64 E.val.time, .int .i64 E.val.node, .bool E.val.dead, .string ⟨E.val.text.toArray⟩, vp, vm, .int .u64 (E.val.flags.toNat : Int)] size_en rfl rfl K1.out rfl K2.out K5.out ?_; clear hz0 K1 K2 K3 kc0 kc1 kc2 kc3 kc4 kc5 kc6 kc7 kc8; generalize setN (wr.alloc (.cells #[.string ⟨#[]⟩, .int .i64 0, .int .i64 0, .int .i64 0, .bool false, .string ⟨#[]⟩, .slice none 0 0, .slice none 0 0, .int .u64 0] 30)) wr.heap.size 0 [.string ⟨E.key.toArray⟩, .int .i64 E.val.kind, .int .i64 E.val.time, .int .i64 E.val.node, .bool E.val.dead, .string ⟨E.val.text.toArray⟩, vp, vm, .int .u64 (E.val.flags.toNat : Int)] = W2 at *; generalize wr.heap.size = gx at *; obtain ⟨kx, -, -⟩ := K4.out; have k0 := kx.2 0 _ rfl; have k1 := kx.2 1 _ rfl; have k2 := kx.2 2 _ rfl; have k3 := kx.2 3 _ rfl; have k4 := kx.2 4 _ rfl; have k5 := kx.2 5 _ rfl; have k6 := kx.2 6 _ rfl; have k7 := kx.2 7 _ rfl; have k8 := kx.2 8 _ rfl)
        refine (scan1_any E z _ W2 ⟨vp, vm, rfl, HP2.out, HM2.out⟩ HZ.out).mono ?_
        rintro e W3 ⟨rfl, hb3⟩
        replace OV2 := Kept.mk (OV2.out.keep hb3)
        replace BT2 := Kept.mk (BT2.out.trans (Bt.grow hb3))
        have KX := Kept.mk (kx.keep hb3 kx.1)
        replace HP2 := Kept.mk (stable_cells _ _ _ _ HP2.out hb3)
        replace HM2 := Kept.mk (stable_cells _ _ _ _ HM2.out hb3)
        clear hb3 kx K4 K5 k0 k1 k2 k3 k4 k5 k6 k7 k8
        cases z with
        | true =>
          go_wp2
          go_roundw
          case rel => exact ⟨a, b + 1, cur, rfl, by go_num, by omega, ⟨DI.out.skip (by rw [HN.out]; exact hlt) (by rw [HE.out]; unfold liveB; rw [HZ.out]; rfl)⟩, HL, OV2, BT2⟩
          case measure => simp [intOf]; omega
        | false =>
          obtain ⟨s', cap', arr2, ev, hg2, hcs2, hn2, hc2, ht2, hBs2, hlt2⟩ := OV2.out.slot (q := a) (by rw [HL.out]; omega)
          injection ev with ev1 ev2 ev3
          injection ev1 with ev1
          injection ev1 with ev1 ev4 ev5
          subst ev1 ev3
          clear ev2 ev4 ev5
          have hia : a < n := by omega
          have KO := Kept.mk (show Ones [.string ⟨E.key.toArray⟩, .int .i64 E.val.kind, .int .i64 E.val.time, .int .i64 E.val.node, .bool E.val.dead, .string ⟨E.val.text.toArray⟩, vp, vm, .int .u64 (E.val.flags.toNat : Int)] from ⟨rfl, rfl, rfl, rfl, rfl, rfl, HP2.out.one, HM2.out.one, rfl, trivial⟩)
          obtain ⟨q0, hq0⟩ : ∃ q0, cur[a]? = some q0 := ⟨_, List.getElem?_eq_getElem (by rw [HL.out]; exact hia)⟩
          have HSC := Kept.mk (show ∀ j, j < [.string ⟨E.key.toArray⟩, .int .i64 E.val.kind, .int .i64 E.val.time, .int .i64 E.val.node, .bool E.val.dead, .string ⟨E.val.text.toArray⟩, vp, vm, .int .u64 (E.val.flags.toNat : Int)].length → ∃ x, W3.cell? ⟨s, a * 9 + j, none⟩ = some x from fun j hj => ⟨_, cell_flat hg2 ht2 (show cur[a]? = some (q0.1, q0.2.1, q0.2.2) from hq0) j _ (List.getElem?_eq_getElem (show j < (enL q0.1 q0.2.1 q0.2.2).length from hj))⟩)
          have FRS := Kept.mk (free_of_heap hg2)
          have OV3 := Kept.mk (OutV.set E vp vm (by rw [HL.out]; exact OV2.out) hg2 hcs2 hn2 hc2 ht2 hBs2 (show a < cur.length by rw [HL.out]; exact hia) HP2.out HM2.out HOFF.out)
          have BT3 := Kept.mk (BT2.out.trans (bt_setN (S := fun x => x = s) rfl (enL E vp vm) (a * 9) W3))
          clear hg2 hcs2 hn2 hc2 ht2 hBs2 hlt2 hq0
          have k0 := KX.out.2 0 _ rfl
          have k1 := KX.out.2 1 _ rfl
          have k2 := KX.out.2 2 _ rfl
          have k3 := KX.out.2 3 _ rfl
          have k4 := KX.out.2 4 _ rfl
          have k5 := KX.out.2 5 _ rfl
          have k6 := KX.out.2 6 _ rfl
          have k7 := KX.out.2 7 _ rfl
          have k8 := KX.out.2 8 _ rfl
          go_wp2_with (have hz0 := KO; refine wpList_storeO 30 rfl (.tmp 33) (.tmp 32) rfl s (a * 9) [.string ⟨E.key.toArray⟩, .int .i64 E.val.kind, .int .i64 E.val.time, .int .i64 E.val.node, .bool E.val.dead, .string ⟨E.val.text.toArray⟩, vp, vm, .int .u64 (E.val.flags.toNat : Int)] size_en rfl rfl KO.out HSC.out FRS.out ?_; clear hz0 KO HSC FRS k0 k1 k2 k3 k4 k5 k6 k7 k8)
          go_roundw
          case rel => exact ⟨a + 1, b + 1, cur.set a (E, vp, vm), by go_num, by go_num, by omega, ⟨by rw [← HE.out]; exact DI.out.put (by rw [HN.out]; exact hlt) (by rw [HE.out]; unfold liveB; rw [HZ.out]; rfl)⟩, ⟨by rw [List.length_set]; exact HL.out⟩, ⟨by rw [HL.out] at OV3; exact OV3.out⟩, BT3⟩
          case measure => simp [intOf]; omega
      · skip
        obtain rfl : b = n := by omega
        have hlt' : ¬ (b : Int) < (b : Int) := by omega
        obtain ⟨s', cap', arr1, ev, hg1, hcs1, hn1, hc1, ht1, hBs1, hlt1⟩ := OV.out.slot (q := a) (by rw [HL.out]; omega)
        injection ev with ev1 ev2 ev3
        injection ev1 with ev1
        injection ev1 with ev1 ev4 ev5
        subst ev1 ev3
        clear ev2 ev4 ev5
        have hapos : 0 < b - a := by omega
        obtain ⟨zl, hzl, hcl⟩ := run_clear_ens (w := wr) s (a * 9) (b - a) (cap - a) hapos (fun j hj => cells_some hg1 (by rw [hcs1]; omega)) (fun j => free_of_heap hg1 j)
        have hcl' : ∀ ty, (Builtin.clear_ #[22] ty #[.slice (some ⟨s, a * 9, none⟩) (b - a) (cap - a)]).run Tryz.prog wr = .ok (.tuple #[]) (wr.setCells s (a * 9) zl) := hcl
        clear hcl
        have KE := Kept.mk (ens_prefix OV.out HL.out (show a ≤ b by omega) zl)
        have KF := Kept.mk (show cur.take a = ps.filter liveB by rw [DI.out.head, List.take_of_length_le (by rw [HN.out]; exact Nat.le_refl _)])
        rw [KF.out] at KE
        have KB := Kept.mk (show Bt (fun x => x = s) W1 (wr.setCells s (a * 9) zl) from BT.out.trans (by rw [← setN_cells]; exact bt_setN (S := fun x => x = s) rfl _ _ _))
        have hac : ¬ (cap = a) := by omega
        have hadd : (⟨s, 0, none⟩ : Addr).add (a * 9) = ⟨s, a * 9, none⟩ := by rw [add_at, Nat.zero_add]
        have hadd0 : (⟨s, 0, none⟩ : Addr).add 0 = ⟨s, 0, none⟩ := by rw [add_at]
        have hab2 : a ≤ b := by omega
        have hacap : a ≤ cap := by omega
        clear hg1 hcs1 hn1 hc1 ht1
        go_wp2
        go_ret
        exact ⟨⟨_, rfl, KE.out⟩, (HB1.out.mono hN).trans (KB.out.below (fun x e => by omega) (Nat.le_trans hN HB1.out.size))⟩
set_option maxRecDepth 100000 in
set_option maxHeartbeats 2000000 in
theorem dscan_any (A : Ar) (v : Value) (w : World) (hv : isAr A v w) (hF : FitA A) : Calls Tryz.prog 36 #[v] w fun e w' => ∃ v', e = .returned v' ∧ isEns (scanA A) v' w' ∧ Below w.heap.size w w' := by
  obtain ⟨vs, vi, rfl, hs, hi⟩ := hv
  obtain ⟨hB, V⟩ := abox w A vs vi hs hi w.heap.size rfl
  have XA := Kept.mk (show isAr A (.agg #[.int .i64 A.cap, vs, vi]) (w.alloc (.cells #[.int .i64 A.cap, vs, vi] 25)) from stable_ar A _ _ _ ⟨vs, vi, rfl, hs, hi⟩ hB.out)
  have BA := Kept.mk (Blk.new w 25 [.int .i64 A.cap, vs, vi] w.heap.size rfl)
  have ka0 := BA.out.cells.2 0 _ rfl
  have ka1 := BA.out.cells.2 1 _ rfl
  have ka2 := BA.out.cells.2 2 _ rfl
  have hl8 : (allA A).length ≤ 1000 := all_len hF
  clear hs hi V
  go_enter Tryz.func36, Tryz.ntmps36
  go_wp2_with fail
  generalize w.alloc (.cells #[.int .i64 A.cap, vs, vi] 25) = W0 at *
  refine (all_new A _ W0 XA.out hF).mono ?_
  rintro e U ⟨v', rfl, ⟨ps, hps, hov, _⟩, hb⟩
  have hpl : ps.length ≤ 1000 := by have := congrArg List.length hps; rw [List.length_map] at this; omega
  have HD := Kept.mk (delete_any W0.heap.size v' ps U hov hpl hb.size)
  have HP := Kept.mk hps
  replace hB := Kept.mk (hB.out.trans (hb.mono hB.out.size))
  have hW := Kept.mk hb.size
  obtain ⟨sa, sc, rfl⟩ := hov.len
  have hw0 : w.heap.size ≤ W0.heap.size := Nat.le_of_lt BA.out.lt
  clear hb hov hps ka0 ka1 ka2 hpl
  go_wp2_with fail
  refine HD.out.mono ?_
  rintro e W2 ⟨⟨v2, rfl, he⟩, hb2⟩
  have HE := Kept.mk (show isEns (scanA A) v2 W2 by rw [filter_rows, HP.out] at he; exact he)
  obtain ⟨ta, tc, ev⟩ := he.len
  rw [List.length_map] at ev
  have hB2 := Kept.mk (hB.out.trans (hb2.mono hw0))
  clear hb2 he
  subst ev
  go_wp2
  go_ret
  exact ⟨_, rfl, HE.out, hB2.out⟩
end Go.Proofs.YtbgconagkgfplaaGreat
end
section
namespace Go.Proofs.YtbgconagkgfplaaGreat
open Go.RowKit
set_option linter.unusedVariables false
set_option linter.unusedSimpArgs false
theorem gd_put (A : Ar) (node : Int) (key text : List UInt8) (r : Int) (G : En) (v : Value) (w : World) (hv : isAr A v w) (hF : FitA A) (hk : key.length ≤ 1000) (ht : text.length ≤ 1000) (hr : putDE A node key text = r) (hG : putDF A node key text = G) : Calls Tryz.prog 20 #[v, .int .i64 node, .string ⟨key.toArray⟩, .string ⟨text.toArray⟩] w fun e w' => ∃ v', e = .returned (.tuple #[v', .int .i64 r]) ∧ isEn G v' w' ∧ Below w.heap.size w w' := by
  subst hr hG
  exact (dput_any A node key text v w hv hF hk ht).mono (by rintro e w' ⟨⟨v', h1, h2⟩, h3⟩; exact ⟨v', h1, h2, h3⟩)
theorem gd_del (A : Ar) (node : Int) (key : List UInt8) (r : Int) (G : En) (v : Value) (w : World) (hv : isAr A v w) (hF : FitA A) (hk : key.length ≤ 1000) (hr : delDE A node key = r) (hG : delDF A node key = G) : Calls Tryz.prog 22 #[v, .int .i64 node, .string ⟨key.toArray⟩] w fun e w' => ∃ v', e = .returned (.tuple #[v', .int .i64 r]) ∧ isEn G v' w' ∧ Below w.heap.size w w' := by
  subst hr hG
  exact (ddel_any A node key v w hv hF hk).mono (by rintro e w' ⟨⟨v', h1, h2⟩, h3⟩; exact ⟨v', h1, h2, h3⟩)
theorem gd_add (A : Ar) (node : Int) (key : List UInt8) (n r : Int) (G : En) (v : Value) (w : World) (hv : isAr A v w) (hF : FitA A) (hk : key.length ≤ 1000) (hr : addDE A node key n = r) (hG : addDF A node key n = G) : Calls Tryz.prog 24 #[v, .int .i64 node, .string ⟨key.toArray⟩, .int .i64 n] w fun e w' => ∃ v', e = .returned (.tuple #[v', .int .i64 r]) ∧ isEn G v' w' ∧ Below w.heap.size w w' := by
  subst hr hG
  exact (dadd_any A node key n v w hv hF hk).mono (by rintro e w' ⟨⟨v', h1, h2⟩, h3⟩; exact ⟨v', h1, h2, h3⟩)
theorem gd_set (A : Ar) (key : List UInt8) (flags : UInt64) (r : Int) (G : En) (v : Value) (w : World) (hv : isAr A v w) (hF : FitA A) (hk : key.length ≤ 1000) (hr : setDE A key = r) (hG : setDF A key flags = G) : Calls Tryz.prog 26 #[v, .string ⟨key.toArray⟩, .int .u64 (flags.toNat : Int)] w fun e w' => ∃ v', e = .returned (.tuple #[v', .int .i64 r]) ∧ isEn G v' w' ∧ Below w.heap.size w w' := by
  subst hr hG
  exact (dset_any A key flags v w hv hF hk).mono (by rintro e w' ⟨⟨v', h1, h2⟩, h3⟩; exact ⟨v', h1, h2, h3⟩)
theorem gd_text (A : Ar) (key t : List UInt8) (b : Bool) (v : Value) (w : World) (hv : isAr A v w) (hF : FitA A) (ht : textT A key = t) (hb : textB A key = b) : Calls Tryz.prog 29 #[v, .string ⟨key.toArray⟩] w fun e w' => e = .returned (.tuple #[.string ⟨t.toArray⟩, .bool b]) ∧ Below w.heap.size w w' := by subst ht hb; exact dtext_any A key v w hv hF
theorem gd_sum (A : Ar) (key : List UInt8) (t : Int) (b : Bool) (v : Value) (w : World) (hv : isAr A v w) (hF : FitA A) (ht : sumT A key = t) (hb : heldB A 2 key = b) : Calls Tryz.prog 31 #[v, .string ⟨key.toArray⟩] w fun e w' => e = .returned (.tuple #[.int .i64 t, .bool b]) ∧ Below w.heap.size w w' := by subst ht hb; exact dsum_any A key v w hv hF
theorem gd_flags (A : Ar) (key : List UInt8) (t : UInt64) (b : Bool) (v : Value) (w : World) (hv : isAr A v w) (hF : FitA A) (ht : flagT A key = t) (hb : heldB A 3 key = b) : Calls Tryz.prog 33 #[v, .string ⟨key.toArray⟩] w fun e w' => e = .returned (.tuple #[.int .u64 (t.toNat : Int), .bool b]) ∧ Below w.heap.size w w' := by subst ht hb; exact dflags_any A key v w hv hF
theorem gd_scan (A : Ar) (l : List En) (v : Value) (w : World) (hv : isAr A v w) (hF : FitA A) (hl : scanA A = l) : Calls Tryz.prog 36 #[v] w fun e w' => ∃ v', e = .returned v' ∧ isEns l v' w' ∧ Below w.heap.size w w' := by subst hl; exact dscan_any A v w hv hF
end Go.Proofs.YtbgconagkgfplaaGreat
end
section
namespace Go.Proofs.YtbgconagkgfplaaGreat
open Go.RowKit
set_option linter.unusedVariables false
set_option linter.unusedSimpArgs false
attribute [local irreducible] setN

def eK : En := ⟨[107], ⟨1, 4, 0, false, [120], [], [], 0⟩⟩
def dA : Ar := ⟨3, [eK], [0]⟩
def xY : En := putDF dA 2 [107] [121]
def dB : Ar := joinAF dA xY
def yN : En := addDF dB 1 [110] (-5)
def dC : Ar := joinAF dB yN
def zF : En := setDF dC [102] 9
def dD : Ar := joinAF dC zF
def uK : En := delDF dD 0 [107]
def dQ : Ar := joinAF dD uK
theorem ok_dA : okA dA = true := by kernel_rfl
theorem fit_dA : FitA dA := okA_fit (okA_iff.1 ok_dA)
theorem ok_dB : okA dB = true := by kernel_rfl
theorem fit_dB : FitA dB := okA_fit (okA_iff.1 ok_dB)
theorem ok_dC : okA dC = true := by kernel_rfl
theorem fit_dC : FitA dC := okA_fit (okA_iff.1 ok_dC)
theorem ok_dD : okA dD = true := by kernel_rfl
theorem fit_dD : FitA dD := okA_fit (okA_iff.1 ok_dD)
theorem ok_dQ : okA dQ = true := by kernel_rfl
theorem fit_dQ : FitA dQ := okA_fit (okA_iff.1 ok_dQ)
theorem fit_xY : FitE xY := ok_fit' (by kernel_rfl)
theorem fit_yN : FitE yN := ok_fit' (by kernel_rfl)
theorem fit_zF : FitE zF := ok_fit' (by kernel_rfl)
theorem fit_uK : FitE uK := ok_fit' (by kernel_rfl)
theorem wd_x (v : Value) (w : World) (hv : isAr dA v w) : Calls Tryz.prog 20 #[v, .int .i64 2, .string ⟨#[107]⟩, .string ⟨#[121]⟩] w fun e w' => ∃ v', e = .returned (.tuple #[v', .int .i64 0]) ∧ isEn xY v' w' ∧ Below w.heap.size w w' := gd_put dA 2 [107] [121] 0 xY v w hv fit_dA (by decide) (by decide) (by kernel_rfl) (by kernel_rfl)
theorem wd_y (v : Value) (w : World) (hv : isAr dB v w) : Calls Tryz.prog 24 #[v, .int .i64 1, .string ⟨#[110]⟩, .int .i64 (-5)] w fun e w' => ∃ v', e = .returned (.tuple #[v', .int .i64 0]) ∧ isEn yN v' w' ∧ Below w.heap.size w w' := gd_add dB 1 [110] (-5) 0 yN v w hv fit_dB (by decide) (by kernel_rfl) (by kernel_rfl)
theorem wd_z (v : Value) (w : World) (hv : isAr dC v w) : Calls Tryz.prog 26 #[v, .string ⟨#[102]⟩, .int .u64 9] w fun e w' => ∃ v', e = .returned (.tuple #[v', .int .i64 0]) ∧ isEn zF v' w' ∧ Below w.heap.size w w' := gd_set dC [102] 9 0 zF v w hv fit_dC (by decide) (by kernel_rfl) (by kernel_rfl)
theorem wd_u (v : Value) (w : World) (hv : isAr dD v w) : Calls Tryz.prog 22 #[v, .int .i64 0, .string ⟨#[107]⟩] w fun e w' => ∃ v', e = .returned (.tuple #[v', .int .i64 0]) ∧ isEn uK v' w' ∧ Below w.heap.size w w' := gd_del dD 0 [107] 0 uK v w hv fit_dD (by decide) (by kernel_rfl) (by kernel_rfl)
theorem wd_n1 (v : Value) (w : World) (hv : isAr dQ v w) : Calls Tryz.prog 22 #[v, .int .i64 0, .string ⟨#[107]⟩] w fun e w' => ∃ v', e = .returned (.tuple #[v', .int .i64 9]) ∧ isEn zeroE v' w' ∧ Below w.heap.size w w' := gd_del dQ 0 [107] 9 zeroE v w hv fit_dQ (by decide) (by kernel_rfl) (by kernel_rfl)
theorem wd_n2 (v : Value) (w : World) (hv : isAr dD v w) : Calls Tryz.prog 26 #[v, .string ⟨#[103]⟩, .int .u64 1] w fun e w' => ∃ v', e = .returned (.tuple #[v', .int .i64 4]) ∧ isEn zeroE v' w' ∧ Below w.heap.size w w' := gd_set dD [103] 1 4 zeroE v w hv fit_dD (by decide) (by kernel_rfl) (by kernel_rfl)
theorem wd_n3 (v : Value) (w : World) (hv : isAr dA v w) : Calls Tryz.prog 20 #[v, .int .i64 8, .string ⟨#[107]⟩, .string ⟨#[]⟩] w fun e w' => ∃ v', e = .returned (.tuple #[v', .int .i64 10]) ∧ isEn zeroE v' w' ∧ Below w.heap.size w w' := gd_put dA 8 [107] [] 10 zeroE v w hv fit_dA (by decide) (by decide) (by kernel_rfl) (by kernel_rfl)
theorem wd_b (v u : Value) (w : World) (hv : isAr dA v w) (hu : isEn xY u w) : Calls Tryz.prog 14 #[v, u] w fun e w' => ∃ v', e = .returned (.tuple #[v', .bool true, .int .i64 0]) ∧ isAr dB v' w' ∧ Below w.heap.size w w' := ga_join dA xY dB true 0 v u w hv hu fit_dA fit_xY rfl (by kernel_rfl) (by kernel_rfl)
theorem wd_c (v u : Value) (w : World) (hv : isAr dB v w) (hu : isEn yN u w) : Calls Tryz.prog 14 #[v, u] w fun e w' => ∃ v', e = .returned (.tuple #[v', .bool true, .int .i64 0]) ∧ isAr dC v' w' ∧ Below w.heap.size w w' := ga_join dB yN dC true 0 v u w hv hu fit_dB fit_yN rfl (by kernel_rfl) (by kernel_rfl)
theorem wd_d (v u : Value) (w : World) (hv : isAr dC v w) (hu : isEn zF u w) : Calls Tryz.prog 14 #[v, u] w fun e w' => ∃ v', e = .returned (.tuple #[v', .bool true, .int .i64 0]) ∧ isAr dD v' w' ∧ Below w.heap.size w w' := ga_join dC zF dD true 0 v u w hv hu fit_dC fit_zF rfl (by kernel_rfl) (by kernel_rfl)
theorem wd_q (v u : Value) (w : World) (hv : isAr dD v w) (hu : isEn uK u w) : Calls Tryz.prog 14 #[v, u] w fun e w' => ∃ v', e = .returned (.tuple #[v', .bool true, .int .i64 0]) ∧ isAr dQ v' w' ∧ Below w.heap.size w w' := ga_join dD uK dQ true 0 v u w hv hu fit_dD fit_uK rfl (by kernel_rfl) (by kernel_rfl)
theorem wd_t1 (v : Value) (w : World) (hv : isAr dB v w) : Calls Tryz.prog 29 #[v, .string ⟨#[107]⟩] w fun e w' => e = .returned (.tuple #[.string ⟨#[121]⟩, .bool true]) ∧ Below w.heap.size w w' := gd_text dB [107] [121] true v w hv fit_dB (by kernel_rfl) (by kernel_rfl)
theorem wd_t2 (v : Value) (w : World) (hv : isAr dQ v w) : Calls Tryz.prog 29 #[v, .string ⟨#[107]⟩] w fun e w' => ∃ t : List UInt8, e = .returned (.tuple #[.string ⟨t.toArray⟩, .bool false]) ∧ Below w.heap.size w w' := (gd_text dQ [107] _ false v w hv fit_dQ rfl (by kernel_rfl)).mono (fun e w' h => ⟨_, h⟩)
theorem wd_s (v : Value) (w : World) (hv : isAr dC v w) : Calls Tryz.prog 31 #[v, .string ⟨#[110]⟩] w fun e w' => e = .returned (.tuple #[.int .i64 (-5), .bool true]) ∧ Below w.heap.size w w' := gd_sum dC [110] (-5) true v w hv fit_dC (by kernel_rfl) (by kernel_rfl)
theorem wd_f (v : Value) (w : World) (hv : isAr dD v w) : Calls Tryz.prog 33 #[v, .string ⟨#[102]⟩] w fun e w' => e = .returned (.tuple #[.int .u64 9, .bool true]) ∧ Below w.heap.size w w' := gd_flags dD [102] 9 true v w hv fit_dD (by kernel_rfl) (by kernel_rfl)
theorem wd_l3 (v : Value) (w : World) (hv : isAr dD v w) : Calls Tryz.prog 36 #[v] w fun e w' => ∃ a c, e = .returned (.slice a 3 c) ∧ Below w.heap.size w w' := (gd_scan dD _ v w hv fit_dD rfl).mono (by
  rintro e w' ⟨v', rfl, hl, hb⟩
  obtain ⟨a, c, ev⟩ := hl.len
  rw [show (scanA dD).length = 3 by kernel_rfl] at ev
  exact ⟨a, c, by rw [ev], hb⟩)
theorem wd_l2 (v : Value) (w : World) (hv : isAr dQ v w) : Calls Tryz.prog 36 #[v] w fun e w' => ∃ a c, e = .returned (.slice a 2 c) ∧ Below w.heap.size w w' := (gd_scan dQ _ v w hv fit_dQ rfl).mono (by
  rintro e w' ⟨v', rfl, hl, hb⟩
  obtain ⟨a, c, ev⟩ := hl.len
  rw [show (scanA dQ).length = 2 by kernel_rfl] at ev
  exact ⟨a, c, by rw [ev], hb⟩)
theorem wd_lit (w : World) : Kept (Below w.heap.size w (((w.alloc (.cells #[.string ⟨#[107]⟩, .int .i64 1, .int .i64 4, .int .i64 0, .bool false, .string ⟨#[120]⟩, .slice none 0 0, .slice none 0 0, .int .u64 0] 30)).alloc (.cells #[.int .i64 0] 3)).alloc (.cells #[.int .i64 3, .slice (some ⟨w.heap.size, 0, none⟩) 1 1, .slice (some ⟨w.heap.size + 1, 0, none⟩) 1 1] 25))) ∧ Kept (VarA (((w.alloc (.cells #[.string ⟨#[107]⟩, .int .i64 1, .int .i64 4, .int .i64 0, .bool false, .string ⟨#[120]⟩, .slice none 0 0, .slice none 0 0, .int .u64 0] 30)).alloc (.cells #[.int .i64 0] 3)).alloc (.cells #[.int .i64 3, .slice (some ⟨w.heap.size, 0, none⟩) 1 1, .slice (some ⟨w.heap.size + 1, 0, none⟩) 1 1] 25)) (w.heap.size + 1 + 1) dA) ∧ Kept (isAr dA (.agg #[.int .i64 3, .slice (some ⟨w.heap.size, 0, none⟩) 1 1, .slice (some ⟨w.heap.size + 1, 0, none⟩) 1 1]) (((w.alloc (.cells #[.string ⟨#[107]⟩, .int .i64 1, .int .i64 4, .int .i64 0, .bool false, .string ⟨#[120]⟩, .slice none 0 0, .slice none 0 0, .int .u64 0] 30)).alloc (.cells #[.int .i64 0] 3)).alloc (.cells #[.int .i64 3, .slice (some ⟨w.heap.size, 0, none⟩) 1 1, .slice (some ⟨w.heap.size + 1, 0, none⟩) 1 1] 25))) := by
  have h1 := lit_below w (.cells #[.string ⟨#[107]⟩, .int .i64 1, .int .i64 4, .int .i64 0, .bool false, .string ⟨#[120]⟩, .slice none 0 0, .slice none 0 0, .int .u64 0] 30)
  have h2 := lit_below (w.alloc (.cells #[.string ⟨#[107]⟩, .int .i64 1, .int .i64 4, .int .i64 0, .bool false, .string ⟨#[120]⟩, .slice none 0 0, .slice none 0 0, .int .u64 0] 30)) (.cells #[.int .i64 0] 3)
  have h3 := lit_below ((w.alloc (.cells #[.string ⟨#[107]⟩, .int .i64 1, .int .i64 4, .int .i64 0, .bool false, .string ⟨#[120]⟩, .slice none 0 0, .slice none 0 0, .int .u64 0] 30)).alloc (.cells #[.int .i64 0] 3)) (.cells #[.int .i64 3, .slice (some ⟨w.heap.size, 0, none⟩) 1 1, .slice (some ⟨w.heap.size + 1, 0, none⟩) 1 1] 25)
  have s1 : (w.alloc (.cells #[.string ⟨#[107]⟩, .int .i64 1, .int .i64 4, .int .i64 0, .bool false, .string ⟨#[120]⟩, .slice none 0 0, .slice none 0 0, .int .u64 0] 30)).heap.size = w.heap.size + 1 := by simp
  have B1 := ((Blk.new w 30 [.string ⟨#[107]⟩, .int .i64 1, .int .i64 4, .int .i64 0, .bool false, .string ⟨#[120]⟩, .slice none 0 0, .slice none 0 0, .int .u64 0] w.heap.size rfl).alloc (.cells #[.int .i64 0] 3)).alloc (.cells #[.int .i64 3, .slice (some ⟨w.heap.size, 0, none⟩) 1 1, .slice (some ⟨w.heap.size + 1, 0, none⟩) 1 1] 25)
  have B2 := (Blk.new (w.alloc (.cells #[.string ⟨#[107]⟩, .int .i64 1, .int .i64 4, .int .i64 0, .bool false, .string ⟨#[120]⟩, .slice none 0 0, .slice none 0 0, .int .u64 0] 30)) 3 [.int .i64 0] (w.heap.size + 1) (by simp)).alloc (.cells #[.int .i64 3, .slice (some ⟨w.heap.size, 0, none⟩) 1 1, .slice (some ⟨w.heap.size + 1, 0, none⟩) 1 1] 25)
  have B3 := Blk.new ((w.alloc (.cells #[.string ⟨#[107]⟩, .int .i64 1, .int .i64 4, .int .i64 0, .bool false, .string ⟨#[120]⟩, .slice none 0 0, .slice none 0 0, .int .u64 0] 30)).alloc (.cells #[.int .i64 0] 3)) 25 [.int .i64 3, .slice (some ⟨w.heap.size, 0, none⟩) 1 1, .slice (some ⟨w.heap.size + 1, 0, none⟩) 1 1] (w.heap.size + 1 + 1) (by simp)
  have h12 : Below w.heap.size w _ := h1.trans (h2.mono h1.size)
  have hE1 : isEns dA.slots (.slice (some ⟨w.heap.size, 0, none⟩) 1 1) (((w.alloc (.cells #[.string ⟨#[107]⟩, .int .i64 1, .int .i64 4, .int .i64 0, .bool false, .string ⟨#[120]⟩, .slice none 0 0, .slice none 0 0, .int .u64 0] 30)).alloc (.cells #[.int .i64 0] 3)).alloc (.cells #[.int .i64 3, .slice (some ⟨w.heap.size, 0, none⟩) 1 1, .slice (some ⟨w.heap.size + 1, 0, none⟩) 1 1] 25)) := .inr (.inr ⟨w.heap.size, 0, 1, rfl, B1.lt, fun j E hE => by
    match j, hE with
    | 0, hE => obtain rfl : eK = E := Option.some.inj hE; exact ⟨.slice none 0 0, .slice none 0 0, fun i x hi => by rw [Nat.zero_mul, Nat.zero_add]; exact B1.cells.2 i x hi, .inl ⟨rfl, rfl⟩, .inl ⟨rfl, rfl⟩⟩
    | n + 1, hE => simp [dA] at hE⟩)
  have hI1 : isCells (dA.index.map intC) (.slice (some ⟨w.heap.size + 1, 0, none⟩) 1 1) (((w.alloc (.cells #[.string ⟨#[107]⟩, .int .i64 1, .int .i64 4, .int .i64 0, .bool false, .string ⟨#[120]⟩, .slice none 0 0, .slice none 0 0, .int .u64 0] 30)).alloc (.cells #[.int .i64 0] 3)).alloc (.cells #[.int .i64 3, .slice (some ⟨w.heap.size, 0, none⟩) 1 1, .slice (some ⟨w.heap.size + 1, 0, none⟩) 1 1] 25)) := .inr (.inr ⟨w.heap.size + 1, 0, 1, rfl, B2.lt, fun j x hx => by rw [Nat.zero_add]; exact B2.cells.2 j x hx⟩)
  exact ⟨⟨h12.trans (h3.mono h12.size)⟩, ⟨_, _, B3.cells, hE1, hI1⟩, ⟨_, _, rfl, hE1, hI1⟩⟩
theorem xY_time : (Value.int .i64 xY.val.time) = .int .i64 5 := rfl
theorem uK_time : (Value.int .i64 uK.val.time) = .int .i64 6 := rfl
attribute [local irreducible] zeroE eK dA xY dB yN dC zF dD uK dQ
set_option maxRecDepth 100000 in
set_option maxHeartbeats 8000000 in
theorem dworks_any (w : World) : Calls Tryz.prog 19 #[] w fun e w' => e = .returned (.bool true) ∧ Below w.heap.size w w' := by
  obtain ⟨hB, Va, Xl⟩ := wd_lit w
  go_enter Tryz.func19, Tryz.ntmps19
  go_wp2_with fail
  generalize (((w.alloc (.cells #[.string ⟨#[107]⟩, .int .i64 1, .int .i64 4, .int .i64 0, .bool false, .string ⟨#[120]⟩, .slice none 0 0, .slice none 0 0, .int .u64 0] 30)).alloc (.cells #[.int .i64 0] 3)).alloc (.cells #[.int .i64 3, .slice (some ⟨w.heap.size, 0, none⟩) 1 1, .slice (some ⟨w.heap.size + 1, 0, none⟩) 1 1] 25)) = W0 at *
  ((with_reducible refine (wd_x _ _ Xl.out).mono ?_); rintro e U ⟨v', rfl, ⟨p', m', rfl, hp', hm'⟩, hb1⟩)
  obtain ⟨K1, K2, K3, K4, K5⟩ := enew U xY p' m' hp' hm' U.heap.size rfl
  clear hp' hm'
  replace hB := Kept.mk (hB.out.trans ((hb1).mono hB.out.size))
  replace Va := Kept.mk (Va.out.keep (hb1))
  clear hb1
  go_wp2_with (have hz0 := K1; refine wpList_storeN 30 rfl (.tmp 2) (.tmp 44) rfl U.heap.size [.string ⟨xY.key.toArray⟩, .int .i64 xY.val.kind, .int .i64 xY.val.time, .int .i64 xY.val.node, .bool xY.val.dead, .string ⟨xY.val.text.toArray⟩, p', m', .int .u64 (xY.val.flags.toNat : Int)] size_en rfl rfl K1.out rfl K2.out K5.out ?_; replace hB := Kept.mk (hB.out.trans ((K3.out).mono hB.out.size)); replace Va := Kept.mk (Va.out.keep (K3.out)); have Vx := Kept.mk (show VarN _ _ xY from ⟨_, _, K4.out⟩); clear hz0 K1 K2 K3 K4 K5; generalize setN (U.alloc (.cells #[.string ⟨#[]⟩, .int .i64 0, .int .i64 0, .int .i64 0, .bool false, .string ⟨#[]⟩, .slice none 0 0, .slice none 0 0, .int .u64 0] 30)) U.heap.size 0 [.string ⟨xY.key.toArray⟩, .int .i64 xY.val.kind, .int .i64 xY.val.time, .int .i64 xY.val.node, .bool xY.val.dead, .string ⟨xY.val.text.toArray⟩, p', m', .int .u64 (xY.val.flags.toNat : Int)] = W1 at *; generalize U.heap.size = gx at *; obtain ⟨qa, ra, xa, sa, ia, ka0, ka1, ka2⟩ := Va.out.open_; have Xa := Kept.mk xa; have Sa := Kept.mk sa; have Ia := Kept.mk ia; clear xa sa ia; obtain ⟨qx, rx, xx, yx, kx0, kx1, kx2, kx3, kx4, kx5, kx6, kx7, kx8⟩ := Vx.out.open_; have Xx := Kept.mk xx; have Yx := Kept.mk yx; clear xx yx)
  ((with_reducible refine (wd_b _ _ _ Xa.out Xx.out).mono ?_); rintro e U ⟨v', rfl, ⟨p', m', rfl, hp', hm'⟩, hb1⟩)
  obtain ⟨K1, K2, K3, K4, K5⟩ := anew U dB p' m' hp' hm' U.heap.size rfl
  clear hp' hm'
  clear Xa Sa Ia ka0 ka1 ka2
  clear Xx Yx kx0 kx1 kx2 kx3 kx4 kx5 kx6 kx7 kx8
  replace hB := Kept.mk (hB.out.trans ((hb1).mono hB.out.size))
  replace Va := Kept.mk (Va.out.keep (hb1))
  replace Vx := Kept.mk (Vx.out.keep (hb1))
  clear hb1
  go_wp2_with (have hz0 := K1; refine wpList_storeN 25 rfl (.tmp 4) (.tmp 50) rfl U.heap.size [.int .i64 dB.cap, p', m'] size_ar rfl rfl K1.out rfl K2.out K5.out ?_; replace hB := Kept.mk (hB.out.trans ((K3.out).mono hB.out.size)); replace Va := Kept.mk (Va.out.keep (K3.out)); replace Vx := Kept.mk (Vx.out.keep (K3.out)); have Vb := Kept.mk K4.out; clear hz0 K1 K2 K3 K4 K5; generalize setN (U.alloc (.cells #[.int .i64 0, .slice none 0 0, .slice none 0 0] 25)) U.heap.size 0 [.int .i64 dB.cap, p', m'] = W2 at *; generalize U.heap.size = gb at *; obtain ⟨qb, rb, xb, sb, ib, kb0, kb1, kb2⟩ := Vb.out.open_; have Xb := Kept.mk xb; have Sb := Kept.mk sb; have Ib := Kept.mk ib; clear xb sb ib)
  ((with_reducible refine (wd_t1 _ _ Xb.out).mono ?_); rintro e W3 ⟨rfl, hb1⟩)
  clear Xb Sb Ib kb0 kb1 kb2
  replace hB := Kept.mk (hB.out.trans ((hb1).mono hB.out.size))
  replace Va := Kept.mk (Va.out.keep (hb1))
  replace Vx := Kept.mk (Vx.out.keep (hb1))
  replace Vb := Kept.mk (Vb.out.keep (hb1))
  clear hb1
  obtain ⟨qb, rb, xb, sb, ib, kb0, kb1, kb2⟩ := Vb.out.open_
  have Xb := Kept.mk xb
  have Sb := Kept.mk sb
  have Ib := Kept.mk ib
  clear xb sb ib
  go_wp2_with fail
  ((with_reducible refine (wd_y _ _ Xb.out).mono ?_); rintro e U ⟨v', rfl, ⟨p', m', rfl, hp', hm'⟩, hb1⟩)
  obtain ⟨K1, K2, K3, K4, K5⟩ := enew U yN p' m' hp' hm' U.heap.size rfl
  clear hp' hm'
  clear Xb Sb Ib kb0 kb1 kb2
  replace hB := Kept.mk (hB.out.trans ((hb1).mono hB.out.size))
  replace Va := Kept.mk (Va.out.keep (hb1))
  replace Vx := Kept.mk (Vx.out.keep (hb1))
  replace Vb := Kept.mk (Vb.out.keep (hb1))
  clear hb1
  go_wp2_with (have hz0 := K1; refine wpList_storeN 30 rfl (.tmp 9) (.tmp 61) rfl U.heap.size [.string ⟨yN.key.toArray⟩, .int .i64 yN.val.kind, .int .i64 yN.val.time, .int .i64 yN.val.node, .bool yN.val.dead, .string ⟨yN.val.text.toArray⟩, p', m', .int .u64 (yN.val.flags.toNat : Int)] size_en rfl rfl K1.out rfl K2.out K5.out ?_; replace hB := Kept.mk (hB.out.trans ((K3.out).mono hB.out.size)); replace Va := Kept.mk (Va.out.keep (K3.out)); replace Vx := Kept.mk (Vx.out.keep (K3.out)); replace Vb := Kept.mk (Vb.out.keep (K3.out)); have Vy := Kept.mk (show VarN _ _ yN from ⟨_, _, K4.out⟩); clear hz0 K1 K2 K3 K4 K5; generalize setN (U.alloc (.cells #[.string ⟨#[]⟩, .int .i64 0, .int .i64 0, .int .i64 0, .bool false, .string ⟨#[]⟩, .slice none 0 0, .slice none 0 0, .int .u64 0] 30)) U.heap.size 0 [.string ⟨yN.key.toArray⟩, .int .i64 yN.val.kind, .int .i64 yN.val.time, .int .i64 yN.val.node, .bool yN.val.dead, .string ⟨yN.val.text.toArray⟩, p', m', .int .u64 (yN.val.flags.toNat : Int)] = W4 at *; generalize U.heap.size = gy at *; obtain ⟨qb, rb, xb, sb, ib, kb0, kb1, kb2⟩ := Vb.out.open_; have Xb := Kept.mk xb; have Sb := Kept.mk sb; have Ib := Kept.mk ib; clear xb sb ib; obtain ⟨qy, ry, xy, yy, ky0, ky1, ky2, ky3, ky4, ky5, ky6, ky7, ky8⟩ := Vy.out.open_; have Xy := Kept.mk xy; have Yy := Kept.mk yy; clear xy yy)
  ((with_reducible refine (wd_c _ _ _ Xb.out Xy.out).mono ?_); rintro e U ⟨v', rfl, ⟨p', m', rfl, hp', hm'⟩, hb1⟩)
  obtain ⟨K1, K2, K3, K4, K5⟩ := anew U dC p' m' hp' hm' U.heap.size rfl
  clear hp' hm'
  clear Xb Sb Ib kb0 kb1 kb2
  clear Xy Yy ky0 ky1 ky2 ky3 ky4 ky5 ky6 ky7 ky8
  replace hB := Kept.mk (hB.out.trans ((hb1).mono hB.out.size))
  replace Va := Kept.mk (Va.out.keep (hb1))
  replace Vx := Kept.mk (Vx.out.keep (hb1))
  replace Vb := Kept.mk (Vb.out.keep (hb1))
  replace Vy := Kept.mk (Vy.out.keep (hb1))
  clear hb1
  go_wp2_with (have hz0 := K1; refine wpList_storeN 25 rfl (.tmp 11) (.tmp 67) rfl U.heap.size [.int .i64 dC.cap, p', m'] size_ar rfl rfl K1.out rfl K2.out K5.out ?_; replace hB := Kept.mk (hB.out.trans ((K3.out).mono hB.out.size)); replace Va := Kept.mk (Va.out.keep (K3.out)); replace Vx := Kept.mk (Vx.out.keep (K3.out)); replace Vb := Kept.mk (Vb.out.keep (K3.out)); replace Vy := Kept.mk (Vy.out.keep (K3.out)); have Vc := Kept.mk K4.out; clear hz0 K1 K2 K3 K4 K5; generalize setN (U.alloc (.cells #[.int .i64 0, .slice none 0 0, .slice none 0 0] 25)) U.heap.size 0 [.int .i64 dC.cap, p', m'] = W5 at *; generalize U.heap.size = gc at *; obtain ⟨qc, rc, xc, sc, ic, kc0, kc1, kc2⟩ := Vc.out.open_; have Xc := Kept.mk xc; have Sc := Kept.mk sc; have Ic := Kept.mk ic; clear xc sc ic)
  clear Vy Vb
  ((with_reducible refine (wd_s _ _ Xc.out).mono ?_); rintro e W6 ⟨rfl, hb1⟩)
  clear Xc Sc Ic kc0 kc1 kc2
  replace hB := Kept.mk (hB.out.trans ((hb1).mono hB.out.size))
  replace Va := Kept.mk (Va.out.keep (hb1))
  replace Vx := Kept.mk (Vx.out.keep (hb1))
  replace Vc := Kept.mk (Vc.out.keep (hb1))
  clear hb1
  obtain ⟨qc, rc, xc, sc, ic, kc0, kc1, kc2⟩ := Vc.out.open_
  have Xc := Kept.mk xc
  have Sc := Kept.mk sc
  have Ic := Kept.mk ic
  clear xc sc ic
  go_wp2_with fail
  ((with_reducible refine (wd_z _ _ Xc.out).mono ?_); rintro e U ⟨v', rfl, ⟨p', m', rfl, hp', hm'⟩, hb1⟩)
  obtain ⟨K1, K2, K3, K4, K5⟩ := enew U zF p' m' hp' hm' U.heap.size rfl
  clear hp' hm'
  clear Xc Sc Ic kc0 kc1 kc2
  replace hB := Kept.mk (hB.out.trans ((hb1).mono hB.out.size))
  replace Va := Kept.mk (Va.out.keep (hb1))
  replace Vx := Kept.mk (Vx.out.keep (hb1))
  replace Vc := Kept.mk (Vc.out.keep (hb1))
  clear hb1
  go_wp2_with (have hz0 := K1; refine wpList_storeN 30 rfl (.tmp 16) (.tmp 78) rfl U.heap.size [.string ⟨zF.key.toArray⟩, .int .i64 zF.val.kind, .int .i64 zF.val.time, .int .i64 zF.val.node, .bool zF.val.dead, .string ⟨zF.val.text.toArray⟩, p', m', .int .u64 (zF.val.flags.toNat : Int)] size_en rfl rfl K1.out rfl K2.out K5.out ?_; replace hB := Kept.mk (hB.out.trans ((K3.out).mono hB.out.size)); replace Va := Kept.mk (Va.out.keep (K3.out)); replace Vx := Kept.mk (Vx.out.keep (K3.out)); replace Vc := Kept.mk (Vc.out.keep (K3.out)); have Vz := Kept.mk (show VarN _ _ zF from ⟨_, _, K4.out⟩); clear hz0 K1 K2 K3 K4 K5; generalize setN (U.alloc (.cells #[.string ⟨#[]⟩, .int .i64 0, .int .i64 0, .int .i64 0, .bool false, .string ⟨#[]⟩, .slice none 0 0, .slice none 0 0, .int .u64 0] 30)) U.heap.size 0 [.string ⟨zF.key.toArray⟩, .int .i64 zF.val.kind, .int .i64 zF.val.time, .int .i64 zF.val.node, .bool zF.val.dead, .string ⟨zF.val.text.toArray⟩, p', m', .int .u64 (zF.val.flags.toNat : Int)] = W7 at *; generalize U.heap.size = gz at *; obtain ⟨qc, rc, xc, sc, ic, kc0, kc1, kc2⟩ := Vc.out.open_; have Xc := Kept.mk xc; have Sc := Kept.mk sc; have Ic := Kept.mk ic; clear xc sc ic; obtain ⟨qz, rz, xz, yz, kz0, kz1, kz2, kz3, kz4, kz5, kz6, kz7, kz8⟩ := Vz.out.open_; have Xz := Kept.mk xz; have Yz := Kept.mk yz; clear xz yz)
  ((with_reducible refine (wd_d _ _ _ Xc.out Xz.out).mono ?_); rintro e U ⟨v', rfl, ⟨p', m', rfl, hp', hm'⟩, hb1⟩)
  obtain ⟨K1, K2, K3, K4, K5⟩ := anew U dD p' m' hp' hm' U.heap.size rfl
  clear hp' hm'
  clear Xc Sc Ic kc0 kc1 kc2
  clear Xz Yz kz0 kz1 kz2 kz3 kz4 kz5 kz6 kz7 kz8
  replace hB := Kept.mk (hB.out.trans ((hb1).mono hB.out.size))
  replace Va := Kept.mk (Va.out.keep (hb1))
  replace Vx := Kept.mk (Vx.out.keep (hb1))
  replace Vc := Kept.mk (Vc.out.keep (hb1))
  replace Vz := Kept.mk (Vz.out.keep (hb1))
  clear hb1
  go_wp2_with (have hz0 := K1; refine wpList_storeN 25 rfl (.tmp 18) (.tmp 84) rfl U.heap.size [.int .i64 dD.cap, p', m'] size_ar rfl rfl K1.out rfl K2.out K5.out ?_; replace hB := Kept.mk (hB.out.trans ((K3.out).mono hB.out.size)); replace Va := Kept.mk (Va.out.keep (K3.out)); replace Vx := Kept.mk (Vx.out.keep (K3.out)); replace Vc := Kept.mk (Vc.out.keep (K3.out)); replace Vz := Kept.mk (Vz.out.keep (K3.out)); have Vd := Kept.mk K4.out; clear hz0 K1 K2 K3 K4 K5; generalize setN (U.alloc (.cells #[.int .i64 0, .slice none 0 0, .slice none 0 0] 25)) U.heap.size 0 [.int .i64 dD.cap, p', m'] = W8 at *; generalize U.heap.size = gd at *; obtain ⟨qd, rd, xd, sd, id, kd0, kd1, kd2⟩ := Vd.out.open_; have Xd := Kept.mk xd; have Sd := Kept.mk sd; have Id := Kept.mk id; clear xd sd id)
  clear Vz Vc
  ((with_reducible refine (wd_f _ _ Xd.out).mono ?_); rintro e W9 ⟨rfl, hb1⟩)
  clear Xd Sd Id kd0 kd1 kd2
  replace hB := Kept.mk (hB.out.trans ((hb1).mono hB.out.size))
  replace Va := Kept.mk (Va.out.keep (hb1))
  replace Vx := Kept.mk (Vx.out.keep (hb1))
  replace Vd := Kept.mk (Vd.out.keep (hb1))
  clear hb1
  obtain ⟨qd, rd, xd, sd, id, kd0, kd1, kd2⟩ := Vd.out.open_
  have Xd := Kept.mk xd
  have Sd := Kept.mk sd
  have Id := Kept.mk id
  clear xd sd id
  go_wp2_with fail
  ((with_reducible refine (wd_u _ _ Xd.out).mono ?_); rintro e U ⟨v', rfl, ⟨p', m', rfl, hp', hm'⟩, hb1⟩)
  obtain ⟨K1, K2, K3, K4, K5⟩ := enew U uK p' m' hp' hm' U.heap.size rfl
  clear hp' hm'
  clear Xd Sd Id kd0 kd1 kd2
  replace hB := Kept.mk (hB.out.trans ((hb1).mono hB.out.size))
  replace Va := Kept.mk (Va.out.keep (hb1))
  replace Vx := Kept.mk (Vx.out.keep (hb1))
  replace Vd := Kept.mk (Vd.out.keep (hb1))
  clear hb1
  go_wp2_with (have hz0 := K1; refine wpList_storeN 30 rfl (.tmp 23) (.tmp 95) rfl U.heap.size [.string ⟨uK.key.toArray⟩, .int .i64 uK.val.kind, .int .i64 uK.val.time, .int .i64 uK.val.node, .bool uK.val.dead, .string ⟨uK.val.text.toArray⟩, p', m', .int .u64 (uK.val.flags.toNat : Int)] size_en rfl rfl K1.out rfl K2.out K5.out ?_; replace hB := Kept.mk (hB.out.trans ((K3.out).mono hB.out.size)); replace Va := Kept.mk (Va.out.keep (K3.out)); replace Vx := Kept.mk (Vx.out.keep (K3.out)); replace Vd := Kept.mk (Vd.out.keep (K3.out)); have Vu := Kept.mk (show VarN _ _ uK from ⟨_, _, K4.out⟩); clear hz0 K1 K2 K3 K4 K5; generalize setN (U.alloc (.cells #[.string ⟨#[]⟩, .int .i64 0, .int .i64 0, .int .i64 0, .bool false, .string ⟨#[]⟩, .slice none 0 0, .slice none 0 0, .int .u64 0] 30)) U.heap.size 0 [.string ⟨uK.key.toArray⟩, .int .i64 uK.val.kind, .int .i64 uK.val.time, .int .i64 uK.val.node, .bool uK.val.dead, .string ⟨uK.val.text.toArray⟩, p', m', .int .u64 (uK.val.flags.toNat : Int)] = W10 at *; generalize U.heap.size = gu at *; obtain ⟨qd, rd, xd, sd, id, kd0, kd1, kd2⟩ := Vd.out.open_; have Xd := Kept.mk xd; have Sd := Kept.mk sd; have Id := Kept.mk id; clear xd sd id; obtain ⟨qu, ru, xu, yu, ku0, ku1, ku2, ku3, ku4, ku5, ku6, ku7, ku8⟩ := Vu.out.open_; have Xu := Kept.mk xu; have Yu := Kept.mk yu; clear xu yu)
  ((with_reducible refine (wd_q _ _ _ Xd.out Xu.out).mono ?_); rintro e U ⟨v', rfl, ⟨p', m', rfl, hp', hm'⟩, hb1⟩)
  obtain ⟨K1, K2, K3, K4, K5⟩ := anew U dQ p' m' hp' hm' U.heap.size rfl
  clear hp' hm'
  clear Xd Sd Id kd0 kd1 kd2
  clear Xu Yu ku0 ku1 ku2 ku3 ku4 ku5 ku6 ku7 ku8
  replace hB := Kept.mk (hB.out.trans ((hb1).mono hB.out.size))
  replace Va := Kept.mk (Va.out.keep (hb1))
  replace Vx := Kept.mk (Vx.out.keep (hb1))
  replace Vd := Kept.mk (Vd.out.keep (hb1))
  replace Vu := Kept.mk (Vu.out.keep (hb1))
  clear hb1
  go_wp2_with (have hz0 := K1; refine wpList_storeN 25 rfl (.tmp 25) (.tmp 101) rfl U.heap.size [.int .i64 dQ.cap, p', m'] size_ar rfl rfl K1.out rfl K2.out K5.out ?_; replace hB := Kept.mk (hB.out.trans ((K3.out).mono hB.out.size)); replace Va := Kept.mk (Va.out.keep (K3.out)); replace Vx := Kept.mk (Vx.out.keep (K3.out)); replace Vd := Kept.mk (Vd.out.keep (K3.out)); replace Vu := Kept.mk (Vu.out.keep (K3.out)); have Vq := Kept.mk K4.out; clear hz0 K1 K2 K3 K4 K5; generalize setN (U.alloc (.cells #[.int .i64 0, .slice none 0 0, .slice none 0 0] 25)) U.heap.size 0 [.int .i64 dQ.cap, p', m'] = W11 at *; generalize U.heap.size = gq at *; obtain ⟨qq, rq, xq, sq, iq, kq0, kq1, kq2⟩ := Vq.out.open_; have Xq := Kept.mk xq; have Sq := Kept.mk sq; have Iq := Kept.mk iq; clear xq sq iq)
  ((with_reducible refine (wd_t2 _ _ Xq.out).mono ?_); rintro e W12 ⟨t2, rfl, hb1⟩)
  clear Xq Sq Iq kq0 kq1 kq2
  replace hB := Kept.mk (hB.out.trans ((hb1).mono hB.out.size))
  replace Va := Kept.mk (Va.out.keep (hb1))
  replace Vx := Kept.mk (Vx.out.keep (hb1))
  replace Vd := Kept.mk (Vd.out.keep (hb1))
  replace Vu := Kept.mk (Vu.out.keep (hb1))
  replace Vq := Kept.mk (Vq.out.keep (hb1))
  clear hb1
  obtain ⟨qq, rq, xq, sq, iq, kq0, kq1, kq2⟩ := Vq.out.open_
  have Xq := Kept.mk xq
  have Sq := Kept.mk sq
  have Iq := Kept.mk iq
  clear xq sq iq
  go_wp2_with fail
  ((with_reducible refine (wd_n1 _ _ Xq.out).mono ?_); rintro e U ⟨v', rfl, ⟨p', m', rfl, hp', hm'⟩, hb1⟩)
  obtain ⟨K1, K2, K3, K4, K5⟩ := enew U zeroE p' m' hp' hm' U.heap.size rfl
  clear hp' hm'
  clear Xq Sq Iq kq0 kq1 kq2
  replace hB := Kept.mk (hB.out.trans ((hb1).mono hB.out.size))
  replace Va := Kept.mk (Va.out.keep (hb1))
  replace Vx := Kept.mk (Vx.out.keep (hb1))
  replace Vd := Kept.mk (Vd.out.keep (hb1))
  replace Vu := Kept.mk (Vu.out.keep (hb1))
  replace Vq := Kept.mk (Vq.out.keep (hb1))
  clear hb1
  go_wp2_with (have hz0 := K1; refine wpList_storeN 30 rfl (.tmp 30) (.tmp 112) rfl U.heap.size [.string ⟨zeroE.key.toArray⟩, .int .i64 zeroE.val.kind, .int .i64 zeroE.val.time, .int .i64 zeroE.val.node, .bool zeroE.val.dead, .string ⟨zeroE.val.text.toArray⟩, p', m', .int .u64 (zeroE.val.flags.toNat : Int)] size_en rfl rfl K1.out rfl K2.out K5.out ?_; replace hB := Kept.mk (hB.out.trans ((K3.out).mono hB.out.size)); replace Va := Kept.mk (Va.out.keep (K3.out)); replace Vx := Kept.mk (Vx.out.keep (K3.out)); replace Vd := Kept.mk (Vd.out.keep (K3.out)); replace Vu := Kept.mk (Vu.out.keep (K3.out)); replace Vq := Kept.mk (Vq.out.keep (K3.out)); have Vn1 := Kept.mk (show VarN _ _ zeroE from ⟨_, _, K4.out⟩); clear hz0 K1 K2 K3 K4 K5; generalize setN (U.alloc (.cells #[.string ⟨#[]⟩, .int .i64 0, .int .i64 0, .int .i64 0, .bool false, .string ⟨#[]⟩, .slice none 0 0, .slice none 0 0, .int .u64 0] 30)) U.heap.size 0 [.string ⟨zeroE.key.toArray⟩, .int .i64 zeroE.val.kind, .int .i64 zeroE.val.time, .int .i64 zeroE.val.node, .bool zeroE.val.dead, .string ⟨zeroE.val.text.toArray⟩, p', m', .int .u64 (zeroE.val.flags.toNat : Int)] = W13 at *; generalize U.heap.size = gn1 at *; obtain ⟨qd, rd, xd, sd, id, kd0, kd1, kd2⟩ := Vd.out.open_; have Xd := Kept.mk xd; have Sd := Kept.mk sd; have Id := Kept.mk id; clear xd sd id)
  clear Vn1
  ((with_reducible refine (wd_n2 _ _ Xd.out).mono ?_); rintro e U ⟨v', rfl, ⟨p', m', rfl, hp', hm'⟩, hb1⟩)
  obtain ⟨K1, K2, K3, K4, K5⟩ := enew U zeroE p' m' hp' hm' U.heap.size rfl
  clear hp' hm'
  clear Xd Sd Id kd0 kd1 kd2
  replace hB := Kept.mk (hB.out.trans ((hb1).mono hB.out.size))
  replace Va := Kept.mk (Va.out.keep (hb1))
  replace Vx := Kept.mk (Vx.out.keep (hb1))
  replace Vd := Kept.mk (Vd.out.keep (hb1))
  replace Vu := Kept.mk (Vu.out.keep (hb1))
  replace Vq := Kept.mk (Vq.out.keep (hb1))
  clear hb1
  go_wp2_with (have hz0 := K1; refine wpList_storeN 30 rfl (.tmp 32) (.tmp 117) rfl U.heap.size [.string ⟨zeroE.key.toArray⟩, .int .i64 zeroE.val.kind, .int .i64 zeroE.val.time, .int .i64 zeroE.val.node, .bool zeroE.val.dead, .string ⟨zeroE.val.text.toArray⟩, p', m', .int .u64 (zeroE.val.flags.toNat : Int)] size_en rfl rfl K1.out rfl K2.out K5.out ?_; replace hB := Kept.mk (hB.out.trans ((K3.out).mono hB.out.size)); replace Va := Kept.mk (Va.out.keep (K3.out)); replace Vx := Kept.mk (Vx.out.keep (K3.out)); replace Vd := Kept.mk (Vd.out.keep (K3.out)); replace Vu := Kept.mk (Vu.out.keep (K3.out)); replace Vq := Kept.mk (Vq.out.keep (K3.out)); have Vn2 := Kept.mk (show VarN _ _ zeroE from ⟨_, _, K4.out⟩); clear hz0 K1 K2 K3 K4 K5; generalize setN (U.alloc (.cells #[.string ⟨#[]⟩, .int .i64 0, .int .i64 0, .int .i64 0, .bool false, .string ⟨#[]⟩, .slice none 0 0, .slice none 0 0, .int .u64 0] 30)) U.heap.size 0 [.string ⟨zeroE.key.toArray⟩, .int .i64 zeroE.val.kind, .int .i64 zeroE.val.time, .int .i64 zeroE.val.node, .bool zeroE.val.dead, .string ⟨zeroE.val.text.toArray⟩, p', m', .int .u64 (zeroE.val.flags.toNat : Int)] = W14 at *; generalize U.heap.size = gn2 at *; obtain ⟨qa, ra, xa, sa, ia, ka0, ka1, ka2⟩ := Va.out.open_; have Xa := Kept.mk xa; have Sa := Kept.mk sa; have Ia := Kept.mk ia; clear xa sa ia)
  clear Vn2
  ((with_reducible refine (wd_n3 _ _ Xa.out).mono ?_); rintro e U ⟨v', rfl, ⟨p', m', rfl, hp', hm'⟩, hb1⟩)
  obtain ⟨K1, K2, K3, K4, K5⟩ := enew U zeroE p' m' hp' hm' U.heap.size rfl
  clear hp' hm'
  clear Xa Sa Ia ka0 ka1 ka2
  replace hB := Kept.mk (hB.out.trans ((hb1).mono hB.out.size))
  replace Va := Kept.mk (Va.out.keep (hb1))
  replace Vx := Kept.mk (Vx.out.keep (hb1))
  replace Vd := Kept.mk (Vd.out.keep (hb1))
  replace Vu := Kept.mk (Vu.out.keep (hb1))
  replace Vq := Kept.mk (Vq.out.keep (hb1))
  clear hb1
  go_wp2_with (have hz0 := K1; refine wpList_storeN 30 rfl (.tmp 34) (.tmp 122) rfl U.heap.size [.string ⟨zeroE.key.toArray⟩, .int .i64 zeroE.val.kind, .int .i64 zeroE.val.time, .int .i64 zeroE.val.node, .bool zeroE.val.dead, .string ⟨zeroE.val.text.toArray⟩, p', m', .int .u64 (zeroE.val.flags.toNat : Int)] size_en rfl rfl K1.out rfl K2.out K5.out ?_; replace hB := Kept.mk (hB.out.trans ((K3.out).mono hB.out.size)); replace Va := Kept.mk (Va.out.keep (K3.out)); replace Vx := Kept.mk (Vx.out.keep (K3.out)); replace Vd := Kept.mk (Vd.out.keep (K3.out)); replace Vu := Kept.mk (Vu.out.keep (K3.out)); replace Vq := Kept.mk (Vq.out.keep (K3.out)); have Vn3 := Kept.mk (show VarN _ _ zeroE from ⟨_, _, K4.out⟩); clear hz0 K1 K2 K3 K4 K5; generalize setN (U.alloc (.cells #[.string ⟨#[]⟩, .int .i64 0, .int .i64 0, .int .i64 0, .bool false, .string ⟨#[]⟩, .slice none 0 0, .slice none 0 0, .int .u64 0] 30)) U.heap.size 0 [.string ⟨zeroE.key.toArray⟩, .int .i64 zeroE.val.kind, .int .i64 zeroE.val.time, .int .i64 zeroE.val.node, .bool zeroE.val.dead, .string ⟨zeroE.val.text.toArray⟩, p', m', .int .u64 (zeroE.val.flags.toNat : Int)] = W15 at *; generalize U.heap.size = gn3 at *; obtain ⟨qx, rx, xx, yx, kx0, kx1, kx2, kx3, kx4, kx5, kx6, kx7, kx8⟩ := Vx.out.open_; have Xx := Kept.mk xx; have Yx := Kept.mk yx; clear xx yx; obtain ⟨qu, ru, xu, yu, ku0, ku1, ku2, ku3, ku4, ku5, ku6, ku7, ku8⟩ := Vu.out.open_; have Xu := Kept.mk xu; have Yu := Kept.mk yu; clear xu yu; obtain ⟨qd, rd, xd, sd, id, kd0, kd1, kd2⟩ := Vd.out.open_; have Xd := Kept.mk xd; have Sd := Kept.mk sd; have Id := Kept.mk id; clear xd sd id; rw [xY_time] at kx2; rw [uK_time] at ku2; clear Vn3)
  ((with_reducible refine (wd_l3 _ _ Xd.out).mono ?_); rintro e W16 ⟨a3, c3, rfl, hb1⟩)
  clear Xx Yx kx0 kx1 kx2 kx3 kx4 kx5 kx6 kx7 kx8
  clear Xu Yu ku0 ku1 ku2 ku3 ku4 ku5 ku6 ku7 ku8
  clear Xd Sd Id kd0 kd1 kd2
  replace hB := Kept.mk (hB.out.trans ((hb1).mono hB.out.size))
  replace Va := Kept.mk (Va.out.keep (hb1))
  replace Vx := Kept.mk (Vx.out.keep (hb1))
  replace Vd := Kept.mk (Vd.out.keep (hb1))
  replace Vu := Kept.mk (Vu.out.keep (hb1))
  replace Vq := Kept.mk (Vq.out.keep (hb1))
  clear hb1
  obtain ⟨qq, rq, xq, sq, iq, kq0, kq1, kq2⟩ := Vq.out.open_
  have Xq := Kept.mk xq
  have Sq := Kept.mk sq
  have Iq := Kept.mk iq
  clear xq sq iq
  go_wp2_with fail
  ((with_reducible refine (wd_l2 _ _ Xq.out).mono ?_); rintro e W17 ⟨a4, c4, rfl, hb1⟩)
  clear Xq Sq Iq kq0 kq1 kq2
  replace hB := Kept.mk (hB.out.trans ((hb1).mono hB.out.size))
  replace Va := Kept.mk (Va.out.keep (hb1))
  replace Vx := Kept.mk (Vx.out.keep (hb1))
  replace Vd := Kept.mk (Vd.out.keep (hb1))
  replace Vu := Kept.mk (Vu.out.keep (hb1))
  replace Vq := Kept.mk (Vq.out.keep (hb1))
  clear hb1
  go_wp2
  go_ret
  exact ⟨rfl, hB.out⟩
end Go.Proofs.YtbgconagkgfplaaGreat
end
section
namespace Go.Proofs.YtbgconagkgfplaaGreat
set_option linter.unusedVariables false
set_option linter.unusedSimpArgs false

theorem sum_set : ∀ (l : List Int) (k : Nat) (x y : Int), l[k]? = some y → (l.set k x).sum = l.sum + (x - y)
  | [], k, x, y, h => by simp at h
  | a :: r, 0, x, y, h => by
    simp only [List.getElem?_cons_zero, Option.some.injEq] at h
    subst h
    simp only [List.set_cons_zero, List.sum_cons]; omega
  | a :: r, k + 1, x, y, h => by
    rw [List.getElem?_cons_succ] at h
    rw [List.set_cons_succ, List.sum_cons, List.sum_cons, sum_set r k x y h]; omega
theorem zip_noughts : ∀ (l : List Int) (n : Nat), l.length = n → (∀ y ∈ l, 0 ≤ y) → List.zipWith maxI l (List.replicate n 0) = l
  | [], n, h, _ => by subst h; rfl
  | a :: r, 0, h, _ => by simp at h
  | a :: r, n + 1, h, h0 => by
    rw [List.replicate_succ, List.zipWith_cons_cons, zip_noughts r n (by simpa using h) (fun y hy => h0 y (List.mem_cons_of_mem _ hy))]
    have := h0 a (List.mem_cons_self ..)
    rw [show maxI a 0 = a by unfold maxI; split <;> omega]
theorem zip_single : ∀ (l : List Int) (n k : Nat) (x y : Int), l.length = n → (∀ y ∈ l, 0 ≤ y) → l[k]? = some y → y ≤ x → List.zipWith maxI l ((List.replicate n 0).set k x) = l.set k x
  | [], n, k, x, y, h, _, hk, _ => by simp at hk
  | a :: r, 0, k, x, y, h, _, _, _ => by simp at h
  | a :: r, n + 1, 0, x, y, h, h0, hk, hx => by
    simp only [List.getElem?_cons_zero, Option.some.injEq] at hk
    subst hk
    rw [List.replicate_succ, List.set_cons_zero, List.zipWith_cons_cons, zip_noughts r n (by simpa using h) (fun y hy => h0 y (List.mem_cons_of_mem _ hy)), List.set_cons_zero]
    rw [show maxI a x = x by unfold maxI; split <;> omega]
  | a :: r, n + 1, k + 1, x, y, h, h0, hk, hx => by
    rw [List.getElem?_cons_succ] at hk
    rw [List.replicate_succ, List.set_cons_succ, List.zipWith_cons_cons, zip_single r n k x y (by simpa using h) (fun y hy => h0 y (List.mem_cons_of_mem _ hy)) hk hx, List.set_cons_succ]
    have := h0 a (List.mem_cons_self ..)
    rw [show maxI a 0 = a by unfold maxI; split <;> omega]
theorem okRow_iff {l : List Int} : okRow l = true ↔ l.length = 8 ∧ ∀ y ∈ l, 0 ≤ y ∧ y ≤ 65535 := by
  unfold okRow okNum
  simp only [Bool.and_eq_true, decide_eq_true_eq, List.all_eq_true]
theorem okRow_rep : okRow (List.replicate 8 0) = true := by decide
theorem okRow_set {l : List Int} (h : okRow l = true) {k : Nat} {x : Int} (hx : 0 ≤ x ∧ x ≤ 65535) : okRow (l.set k x) = true := by
  obtain ⟨h1, h2⟩ := okRow_iff.1 h
  refine okRow_iff.2 ⟨by rw [List.length_set, h1], fun y hy => ?_⟩
  rcases List.mem_or_eq_of_mem_set hy with hy | rfl
  · exact h2 y hy
  · exact hx
theorem cntE_ok (key : List UInt8) (k : Nat) (n x : Int) (hx : 0 ≤ x ∧ x ≤ 65535) : okV (cntE key (k : Int) n x).val = true := by
  have h1 : okRow (onlyI (k : Int) x) = true := by unfold onlyI; exact okRow_set okRow_rep hx
  refine count_ok rfl ?_ rfl
  unfold inCount cntE
  by_cases c : n < 0
  · simp only [if_pos c, h1, okRow_rep]; rfl
  · simp only [if_neg c, h1, okRow_rep]; rfl
/-- A counter whose number of a node is greater. -/
def bumpV (W : Va) (k : Nat) (n x : Int) : Va := ⟨2, 0, 0, false, [], if n < 0 then W.plus else W.plus.set k x, if n < 0 then W.minus.set k x else W.minus, 0⟩
theorem sum_count {W : Va} (hW : okV W = true) (hk : W.kind = 2) : sumN W = W.plus.sum - W.minus.sum := by
  have h := kindN_ok hW
  unfold sumN
  rw [if_pos (by omega)]
theorem join_bump {W : Va} (hW : okV W = true) (hk2 : W.kind = 2) (key : List UInt8) {k : Nat} {n x y : Int} (hy : (sideL W n)[k]? = some y) (hx : 0 ≤ x ∧ x ≤ 65535) (hyx : y ≤ x) :
    joinF W (cntE key (k : Int) n x).val = bumpV W k n x ∧ okV (bumpV W k n x) = true ∧ sumN (bumpV W k n x) = sumN W + (if n < 0 then y - x else x - y) ∧ ∀ m j, j ≠ k → (sideL (bumpV W k n x) m)[j]? = (sideL W m)[j]? := by
  have hu := cntE_ok key k n x hx
  have h00 : joinE W (cntE key (k : Int) n x).val = 0 := joinE_zero.2 ⟨hW, hu, hk2⟩
  obtain ⟨h1, _⟩ := ok_count hW hk2
  unfold inCount at h1
  rw [Bool.and_eq_true] at h1
  obtain ⟨p1, p2⟩ := okRow_iff.1 h1.1
  obtain ⟨m1, m2⟩ := okRow_iff.1 h1.2
  have e : joinF W (cntE key (k : Int) n x).val = bumpV W k n x := by
    rw [joinF_ok h00, joinV_count hk2]
    unfold joinCount cntE bumpV
    by_cases c : n < 0
    · have hy' : W.minus[k]? = some y := by unfold sideL at hy; rwa [if_pos c] at hy
      simp only [if_pos c]
      rw [zip_noughts W.plus 8 p1 (fun y hy => (p2 y hy).1)]
      unfold onlyI
      rw [Int.toNat_natCast, zip_single W.minus 8 k x y m1 (fun y hy => (m2 y hy).1) hy' hyx]
    · have hy' : W.plus[k]? = some y := by unfold sideL at hy; rwa [if_neg c] at hy
      simp only [if_neg c]
      rw [zip_noughts W.minus 8 m1 (fun y hy => (m2 y hy).1)]
      unfold onlyI
      rw [Int.toNat_natCast, zip_single W.plus 8 k x y p1 (fun y hy => (p2 y hy).1) hy' hyx]
  have hok : okV (bumpV W k n x) = true := by rw [← e]; exact (join_ok h00).1
  refine ⟨e, hok, ?_, fun m j hj => ?_⟩
  · rw [sum_count hok rfl, sum_count hW hk2]
    unfold bumpV
    by_cases c : n < 0
    · have hy' : W.minus[k]? = some y := by unfold sideL at hy; rwa [if_pos c] at hy
      simp only [if_pos c]
      rw [sum_set W.minus k x y hy']; omega
    · have hy' : W.plus[k]? = some y := by unfold sideL at hy; rwa [if_neg c] at hy
      simp only [if_neg c]
      rw [sum_set W.plus k x y hy']; omega
  · unfold sideL bumpV
    by_cases c : n < 0 <;> by_cases d : m < 0 <;> simp only [c, d, if_true, if_false] <;> (try rfl) <;> rw [List.getElem?_set_ne (Ne.symm hj)]
theorem arg_zero' {n : Int} (h : argE n = 0) : n ≠ 0 ∧ -65535 ≤ n ∧ n ≤ 65535 := by
  unfold argE at h; split at h
  · cases h
  · omega
theorem side_row {W : Va} (hW : okV W = true) (hk2 : W.kind = 2) (n : Int) : (sideL W n).length = 8 ∧ ∀ y ∈ sideL W n, 0 ≤ y ∧ y ≤ 65535 := by
  obtain ⟨h1, _⟩ := ok_count hW hk2
  unfold inCount at h1
  rw [Bool.and_eq_true] at h1
  unfold sideL
  split
  · exact okRow_iff.1 h1.2
  · exact okRow_iff.1 h1.1
/-- What Add's delta is. -/
theorem add_delta {A : Ar} {node : Int} {key : List UInt8} {n : Int} (h : addDE A node key n = 0) : OkA A ∧ (∃ k : Nat, node = (k : Int) ∧ k < 8 ∧ ∃ y, (sideL (heldV A 2 key) n)[k]? = some y ∧ 0 ≤ y ∧ y + absI n ≤ 65535 ∧ addDF A node key n = cntE key (k : Int) n (y + absI n) ∧ togI (heldV A 2 key) node n = y + absI n) ∧ okE (addDF A node key n) = true ∧ roomE A (heldB A 2 key) = 0 ∧ n ≠ 0 ∧ 1 ≤ key.length ∧ key.length ≤ 8 := by
  have z := first_zero h
  have hA := chk_zero (z (chkA A) (by simp))
  have hn := node_zero (z (nodeE node) (by simp))
  have hk := key_zero (z (keyE key) (by simp))
  have hr := z (roomE A (heldB A 2 key)) (by simp)
  have ha := arg_zero' (z (argE n) (by simp))
  have ho : togI (heldV A 2 key) node n ≤ 65535 := by have := z (overE (heldV A 2 key) node n) (by simp); unfold overE at this; split at this <;> omega
  obtain ⟨v1, v2⟩ := held_ok A (kind := 2) key (.inr (.inl rfl))
  obtain ⟨s1, s2⟩ := side_row v1 v2 n
  obtain ⟨k, rfl⟩ := Int.eq_ofNat_of_zero_le hn.1
  have hk8 : k < 8 := by omega
  obtain ⟨y, hy⟩ : ∃ y, (sideL (heldV A 2 key) n)[k]? = some y := ⟨_, List.getElem?_eq_getElem (by omega)⟩
  have hyr := s2 y (List.mem_of_getElem? hy)
  have ht : togI (heldV A 2 key) (k : Int) n = y + absI n := by unfold togI; rw [Int.toNat_natCast, hy]; rfl
  have he : addDF A (k : Int) key n = cntE key (k : Int) n (y + absI n) := by unfold addDF; rw [if_pos h, ht]
  have hab : 0 ≤ absI n := by unfold absI; split <;> omega
  refine ⟨hA, ⟨k, rfl, hk8, y, hy, hyr.1, by omega, he, ht⟩, ?_, hr, ha.1, hk⟩
  rw [he]
  have hv := cntE_ok key k n (y + absI n) (by omega)
  unfold okE
  rw [hv]
  simp only [Bool.and_true, Bool.and_eq_true, decide_eq_true_eq]
  exact hk
theorem abs_sign (n y : Int) : (if n < 0 then y - (y + absI n) else (y + absI n) - y) = n := by unfold absI; split <;> omega
theorem sumT_held {A : Ar} (key : List UInt8) : sumT A key = sumN (heldV A 2 key) := by
  unfold sumT
  cases h : heldB A 2 key with
  | true => rw [if_pos rfl]
  | false =>
    rw [if_neg (by decide)]
    have : heldV A 2 key = leastF 2 := by unfold heldV; rw [if_neg (by unfold heldB at h; exact of_decide_eq_false h)]
    rw [this]; decide
/-- Add, joined. -/
theorem add_writes {A : Ar} {node : Int} {key : List UInt8} {n : Int} (h : addDE A node key n = 0) : OkA A ∧ okE (addDF A node key n) = true ∧ joinAE A (addDF A node key n) = 0 ∧ joinAB A (addDF A node key n) = true ∧ heldB (joinAF A (addDF A node key n)) 2 key = true ∧ sumT (joinAF A (addDF A node key n)) key = sumT A key + n := by
  obtain ⟨hA, ⟨k, hnk, hk8, y, hy, hy0, hyx, he, _⟩, hx, hr, hn0, _⟩ := add_delta h
  obtain ⟨v1, v2⟩ := held_ok A (kind := 2) key (.inr (.inl rfl))
  have hr' : roomE A (heldB A (addDF A node key n).val.kind (addDF A node key n).key) = 0 := by rw [he]; exact hr
  have h0 := room_join hA hx hr'
  obtain ⟨j1, j2, j3⟩ := join_held hA hx h0
  have hab : 0 ≤ absI n := by unfold absI; split <;> omega
  obtain ⟨b1, b2, b3, _⟩ := join_bump v1 v2 key (n := n) (x := y + absI n) hy (by omega) (by omega)
  have ek : (addDF A node key n).val.kind = 2 := by rw [he]; rfl
  have ey : (addDF A node key n).key = key := by rw [he]; rfl
  rw [ek, ey] at j1 j2 j3
  have j2' : heldV (joinAF A (addDF A node key n)) 2 key = bumpV (heldV A 2 key) k n (y + absI n) := by rw [j2, ← b1, he]
  have hs : sumT (joinAF A (addDF A node key n)) key = sumT A key + n := by rw [sumT_held, sumT_held, j2', b3, abs_sign]
  refine ⟨hA, hx, h0, ?_, j1, hs⟩
  rw [j3, decide_eq_false]
  · rfl
  · rintro ⟨_, e2⟩
    rw [← j2, ] at e2
    rw [sumT_held, sumT_held, e2] at hs
    omega
end Go.Proofs.YtbgconagkgfplaaGreat
end
section
namespace Go.Proofs.YtbgconagkgfplaaGreat
set_option linter.unusedVariables false
set_option linter.unusedSimpArgs false

theorem zeroE_fit : FitE zeroE := ⟨by decide, ⟨by decide, by decide, by decide⟩⟩
theorem put_facts {A : Ar} {node : Int} {key text : List UInt8} (h : putDE A node key text = 0) : FitE (putDF A node key text) ∧ FitA (joinAF A (putDF A node key text)) ∧ joinAB A (putDF A node key text) = true ∧ joinAE A (putDF A node key text) = 0 ∧ textT (joinAF A (putDF A node key text)) key = text ∧ textB (joinAF A (putDF A node key text)) key = true := by
  obtain ⟨h1, h2, h3, h4, h5, h6, h7⟩ := put_writes h
  refine ⟨ok_fit' h2, okA_fit (join_okA h1 _), h5, h4, ?_, ?_⟩
  · unfold textT; rw [if_pos h6, h7, h3]; rfl
  · unfold textB; rw [h6, h7, h3]; rfl
theorem del_facts {A : Ar} {node : Int} {key : List UInt8} (h : delDE A node key = 0) : FitE (delDF A node key) ∧ FitA (joinAF A (delDF A node key)) ∧ joinAB A (delDF A node key) = true ∧ joinAE A (delDF A node key) = 0 ∧ textB (joinAF A (delDF A node key)) key = false := by
  obtain ⟨h1, h2, h4, h5, h6, h7, h8⟩ := del_writes h
  refine ⟨ok_fit' h2, okA_fit (join_okA h1 _), h5, h4, ?_⟩
  unfold textB; rw [h6, h7, h8]; rfl
theorem add_facts {A : Ar} {node : Int} {key : List UInt8} {n : Int} (h : addDE A node key n = 0) : FitE (addDF A node key n) ∧ FitA (joinAF A (addDF A node key n)) ∧ joinAB A (addDF A node key n) = true ∧ joinAE A (addDF A node key n) = 0 ∧ sumT (joinAF A (addDF A node key n)) key = sumT A key + n ∧ heldB (joinAF A (addDF A node key n)) 2 key = true ∧ -65535 ≤ n ∧ n ≤ 65535 := by
  obtain ⟨h1, h2, h3, h4, h5, h6⟩ := add_writes h
  exact ⟨ok_fit' h2, okA_fit (join_okA h1 _), h4, h3, h6, h5, (arg_zero' (first_zero h (argE n) (by simp))).2⟩
theorem set_facts {A : Ar} {key : List UInt8} (flags : UInt64) (h : setDE A key = 0) : FitE (setDF A key flags) ∧ FitA (joinAF A (setDF A key flags)) ∧ joinAE A (setDF A key flags) = 0 ∧ flagT (joinAF A (setDF A key flags)) key = flagT A key ||| flags ∧ heldB (joinAF A (setDF A key flags)) 3 key = true := by
  obtain ⟨h1, h2, h3, h4, h5⟩ := set_writes flags h
  refine ⟨ok_fit' h2, okA_fit (join_okA h1 _), h3, ?_, h4⟩
  show (if heldB (joinAF A (setDF A key flags)) 3 key = true then (heldV (joinAF A (setDF A key flags)) 3 key).flags else 0) = _
  rw [if_pos h4, h5]
end Go.Proofs.YtbgconagkgfplaaGreat
end
section
namespace Go.Proofs.YtbgconagkgfplaaGreat
open Go.RowKit
set_option linter.unusedVariables false
set_option linter.unusedSimpArgs false

def OutI (N : Nat) (v : Value) (xs : List Int) (w : World) : Prop := w.ownsRow N 3 1 v xs.length (xs.map intC)
theorem outI_nil (N : Nat) (w : World) : OutI N (.slice none 0 0) [] w := World.ownsRow_nil _ _ _ _
theorem OutI.keep {N : Nat} {v : Value} {xs : List Int} {w w' : World} (h : OutI N v xs w) (hb : Below w.heap.size w w') : OutI N v xs w' := own_grow h hb
theorem OutI.low {N N' : Nat} {v : Value} {xs : List Int} {w : World} (h : OutI N v xs w) (hN : N' ≤ N) : OutI N' v xs w := own_low h hN
theorem OutI.cells {N : Nat} {v : Value} {xs : List Int} {w : World} (h : OutI N v xs w) : isCells (xs.map intC) v w := by
  refine isOwn.cells (B := N) (e := 3) ?_
  unfold isOwn
  rw [List.length_map]
  exact h
theorem OutI.len {N : Nat} {v : Value} {xs : List Int} {w : World} (h : OutI N v xs w) : ∃ a c, v = .slice a xs.length c := by
  obtain ⟨_, ⟨rfl, h0⟩ | ⟨g, cap, cur, rfl, _⟩⟩ := h
  · exact ⟨_, _, by rw [h0]⟩
  · exact ⟨_, _, rfl⟩
def SrcI (u : Value) (ys : List Int) (w : World) : Prop := (u = .slice none 0 0 ∧ ys = []) ∨ ∃ (a : Addr) (c : Nat), u = .slice (some a) ys.length c ∧ ∀ (j : Nat) (x : Int), ys[j]? = some x → w.cell? (a.add j) = some (intC x)
theorem own_cells {N : Nat} {xs : List Int} {w : World} {g : Nat} {cur : Array Value} (hg : w.heap[g]? = some (.cells cur 3 (0, 0))) (ht : cur.toList.take (xs.length * 1) = xs.map intC) {j : Nat} {x : Int} (hx : xs[j]? = some x) : w.cell? ⟨g, j, none⟩ = some (intC x) := by
  have h2 : (xs.map intC)[j]? = some (intC x) := by rw [List.getElem?_map, hx]; rfl
  rw [← ht, List.getElem?_take] at h2
  split at h2
  · simpa [World.cell?, hg] using h2
  · cases h2
theorem helem : Tryz.prog.underlying 23 = some (.slice (Tryz.prog.elem 23)) := by kernel_rfl
theorem hsize1 (w : World) : (sizeOf (Tryz.prog.elem 23)).run Tryz.prog w = .ok 1 w := by
  have h : (Tryz.prog.info? (Tryz.prog.elem 23)).map (·.size) = some 1 := by kernel_rfl
  obtain ⟨ie, hie, hz⟩ := Option.map_eq_some_iff.1 h
  simp [sizeOf, typeInfo, hie, hz]
theorem slice_hi_run {N : Nat} {v : Value} {xs : List Int} {w : World} (h : OutI N v xs w) {r : Nat} (hr : r ≤ xs.length) : ∃ u, (Instr.sliceAt 23 v none (some (.int .i64 (r : Int))) none).run Tryz.prog w = .ok u w ∧ SrcI u (xs.take r) w := by
  obtain ⟨hl, ⟨rfl, h0⟩ | ⟨g, cap, cur, rfl, hB, hg, hn, hc, hcs, ht⟩⟩ := h
  · have : xs = [] := List.eq_nil_of_length_eq_zero h0
    subst this
    obtain rfl : r = 0 := by simpa using hr
    refine ⟨.slice none 0 0, ?_, .inl ⟨rfl, rfl⟩⟩
    rw [run_sliceAt_slice (h := helem), run_slice_h (ht := helem) (h0 := by omega) (h2 := by omega), hsize1]
    rfl
  · refine ⟨_, by rw [run_sliceAt_slice (h := helem), run_slice_h (ht := helem) (h0 := by omega) (h2 := by omega), hsize1]; rfl, .inr ⟨⟨g, 0, none⟩, cap, ?_, fun j x hx => ?_⟩⟩
    · unfold sliced
      simp [List.length_take, Nat.min_eq_left hr, Addr.add]
    · rw [add_at, Nat.zero_add]
      rw [List.getElem?_take] at hx
      split at hx
      · exact own_cells (N := N) hg ht hx
      · cases hx
theorem slice_lo_run {N : Nat} {v : Value} {xs : List Int} {w : World} (h : OutI N v xs w) {r : Nat} (hr : r ≤ xs.length) : ∃ u, (Instr.sliceAt 23 v (some (.int .i64 (r : Int))) none none).run Tryz.prog w = .ok u w ∧ SrcI u (xs.drop r) w := by
  obtain ⟨hl, ⟨rfl, h0⟩ | ⟨g, cap, cur, rfl, hB, hg, hn, hc, hcs, ht⟩⟩ := h
  · have : xs = [] := List.eq_nil_of_length_eq_zero h0
    subst this
    obtain rfl : r = 0 := by simpa using hr
    refine ⟨.slice none 0 0, ?_, .inl ⟨rfl, rfl⟩⟩
    rw [run_sliceAt_slice (h := helem), run_slice_l (ht := helem) (h0 := by omega) (h1 := by simp), hsize1]
    rfl
  · by_cases hcr : cap = r
    · have hd : xs.drop r = [] := List.drop_eq_nil_of_le (by omega)
      refine ⟨_, by rw [run_sliceAt_slice (h := helem), run_slice_l (ht := helem) (h0 := by omega) (h1 := by omega), hsize1]; rfl, .inr ⟨⟨g, 0, none⟩, 0, ?_, fun j x hx => by rw [hd] at hx; simp at hx⟩⟩
      unfold sliced
      rw [hd]
      simp [hcr]
      omega
    · refine ⟨_, by rw [run_sliceAt_slice (h := helem), run_slice_l (ht := helem) (h0 := by omega) (h1 := by omega), hsize1]; rfl, .inr ⟨⟨g, r, none⟩, cap - r, ?_, fun j x hx => ?_⟩⟩
      · unfold sliced
        rw [if_neg (by simpa using hcr)]
        simp [add_at]
      · rw [add_at]
        rw [List.getElem?_drop] at hx
        exact own_cells (N := N) hg ht hx
theorem run_append_ints {N : Nat} {v : Value} {xs : List Int} {w : World} (h : OutI N v xs w) {u : Value} {ys : List Int} (hu : SrcI u ys w) (hn : xs.length + ys.length ≤ 100000) (hN : N ≤ w.heap.size) (ty : TypeId) :
    ∃ v' w', (Builtin.append_ #[23, 23] ty #[v, u]).run Tryz.prog w = .ok v' w' ∧ OutI N v' (xs ++ ys) w' ∧ w.grownBy w' v.ownBlock := by
  obtain ⟨ie, hie, hz, hsz⟩ : ∃ ie, Tryz.prog.info? 3 = some ie ∧ ie.zero = some (.int .i64 0) ∧ ie.size = 1 := by
    have : (Tryz.prog.info? 3).map (fun i => (i.zero, i.size)) = some (some (.int .i64 0), 1) := by kernel_rfl
    obtain ⟨ie, h1, h2⟩ := Option.map_eq_some_iff.1 this
    simp only [Prod.mk.injEq] at h2
    exact ⟨ie, h1, h2.1, h2.2⟩
  have hbytes : ie.bytes ≤ 100000 := by
    have : (Tryz.prog.info? 3).all (fun i => decide (i.bytes ≤ 100000)) = true := by kernel_rfl
    rw [hie] at this
    simpa using this
  rcases hu with ⟨rfl, rfl⟩ | ⟨a, c, rfl, hcell⟩
  · refine ⟨v, w, run_append_owned_none (P := Tryz.prog) (w := w) N _ ty 3 ie 1 Tryz.underlying23 hie v _ _ h, ?_, ⟨rfl, rfl, rfl, Nat.le_refl _, fun _ _ _ => rfl⟩⟩
    rw [List.append_nil]; exact h
  · obtain ⟨v', w', hrun, how, hgr, _, hob⟩ := run_append_own_at (P := Tryz.prog) (w := w) N 23 ty 3 ie (.int .i64 0) 1 ie.bytes Tryz.underlying23 hie hz hsz rfl rfl (by decide) v xs.length (xs.map intC) h a ys.length c (ys.map intC) (by rw [List.length_map, Nat.mul_one]) (fun j u hj => by
      rw [List.getElem?_map] at hj
      obtain ⟨x, hx, rfl⟩ := Option.map_eq_some_iff.1 hj
      exact hcell j x hx) (fun u hu => by obtain ⟨x, _, rfl⟩ := List.mem_map.1 hu; rfl) (by unfold maxLen; omega) (by have : (xs.length + ys.length) * ie.bytes ≤ 100000 * 100000 := Nat.mul_le_mul hn hbytes; omega) hN
    refine ⟨v', w', hrun, ?_, hgr⟩
    unfold OutI
    rw [List.length_append, List.map_append]
    exact how
section
variable {ops : Array Oper} {rest : List Oper} {o : Oper} {a : Act} {w : World} {Q : Exit → Act → World → Prop}
theorem wpList_append_ints (hgd : o.guard = none) (s x : Operand) (ho : o.op = .call { callee := .builtin .append, args := #[s, x], argTypes := #[23, 23] })
    (N : Nat) (v : Value) (xs : List Int) (hs : a.eval s = v) (h : OutI N v xs w) (u : Value) (ys : List Int) (hx : a.eval x = u) (hu : SrcI u ys w) (hn : xs.length + ys.length ≤ 100000) (hN : N ≤ w.heap.size)
    (hr : ∀ v' w', OutI N v' (xs ++ ys) w' → w.grownBy w' v.ownBlock → wpList Tryz.prog ops Q rest (a.put o.dst v') w') : wpList Tryz.prog ops Q (o :: rest) a w := by
  refine wpList_plain hgd fun K hK => ?_
  obtain ⟨v', w', hrun, h1, h2⟩ := run_append_ints h hu hn hN o.type
  unfold Oper.wp execOp
  rw [ho]
  simp only [resolve, Sem.run_bind, Sem.run_pure, Result.andThen_ok, invoke, builtin, List.map_toArray, List.map_cons, List.map_nil, hs, hx, hrun, Oper.upon]
  exact hK _ _ (hr v' w' h1 h2)
theorem wpList_slice_hi (hgd : o.guard = none) (x y : Operand) (ho : o.op = .slice 23 x none (some y) none) (N : Nat) (v : Value) (xs : List Int) (r : Nat) (hx : a.eval x = v) (hy : a.eval y = .int .i64 (r : Int)) (h : OutI N v xs w) (hle : r ≤ xs.length)
    (hr : ∀ u, SrcI u (xs.take r) w → wpList Tryz.prog ops Q rest (a.put o.dst u) w) : wpList Tryz.prog ops Q (o :: rest) a w := by
  refine wpList_plain hgd fun K hK => ?_
  obtain ⟨u, hrun, h1⟩ := slice_hi_run h hle
  unfold Oper.wp execOp
  rw [ho]
  simp only [Option.map_some, Option.map_none, hx, hy, hrun, Sem.run_bind, Sem.run_pure, Result.andThen_ok, Oper.upon]
  exact hK _ _ (hr u h1)
theorem wpList_slice_lo (hgd : o.guard = none) (x y : Operand) (ho : o.op = .slice 23 x (some y) none none) (N : Nat) (v : Value) (xs : List Int) (r : Nat) (hx : a.eval x = v) (hy : a.eval y = .int .i64 (r : Int)) (h : OutI N v xs w) (hle : r ≤ xs.length)
    (hr : ∀ u, SrcI u (xs.drop r) w → wpList Tryz.prog ops Q rest (a.put o.dst u) w) : wpList Tryz.prog ops Q (o :: rest) a w := by
  refine wpList_plain hgd fun K hK => ?_
  obtain ⟨u, hrun, h1⟩ := slice_lo_run h hle
  unfold Oper.wp execOp
  rw [ho]
  simp only [Option.map_some, Option.map_none, hx, hy, hrun, Sem.run_bind, Sem.run_pure, Result.andThen_ok, Oper.upon]
  exact hK _ _ (hr u h1)
end
theorem SrcI.keep {u : Value} {ys : List Int} {w w' : World} (h : SrcI u ys w) (hb : Below w.heap.size w w') : SrcI u ys w' := by
  rcases h with h | ⟨a, c, e, hc⟩
  · exact .inl h
  · exact .inr ⟨a, c, e, fun j x hx => (hb.cell (World.block_lt_of_cell? w _ (hc j x hx))).trans (hc j x hx)⟩
theorem srcI_one (k : Int) (w : World) : SrcI (.slice (some ⟨w.heap.size, 0, none⟩) 1 1) [k] (w.alloc (.cells #[.int .i64 k] 3)) := by
  refine .inr ⟨⟨w.heap.size, 0, none⟩, 1, rfl, fun j x hx => ?_⟩
  rw [add_at, Nat.zero_add, World.cell?_alloc_new]
  cases j with
  | zero => simp at hx; subst hx; rfl
  | succ j => simp at hx
theorem grown_belowI {w0 w w' : World} {N : Nat} {v : Value} {xs : List Int} (h : OutI N v xs w) (hg : w.grownBy w' v.ownBlock) (hb : Below w0.heap.size w0 w) (hN : w0.heap.size ≤ N) : Below w0.heap.size w0 w' := by
  refine ⟨hg.os.trans hb.os, hg.tape.trans hb.tape, hg.output.trans hb.output, Nat.le_trans hb.size hg.size, fun b hlt => (hg.block b (Nat.lt_of_lt_of_le hlt hb.size) (fun e => ?_)).trans (hb.block b hlt)⟩
  have := (World.ownsRow.lt h b e.symm).1
  omega
end Go.Proofs.YtbgconagkgfplaaGreat
end
section
namespace Go.Proofs.YtbgconagkgfplaaGreat
set_option linter.unusedVariables false
set_option linter.unusedSimpArgs false

/-- How many of the first are ahead of x. -/
def rankN (l : List En) (x : En) : Nat := (l.takeWhile (fun y => lessE y x)).length
def idxStep (l : List En) (out : List Int) (i : Nat) : List Int :=
  out.take (rankN (out.map (slotAt l)) (slotAt l i)) ++ ((i : Int) :: out.drop (rankN (out.map (slotAt l)) (slotAt l i)))
def idxP (l : List En) : Nat → List Int
  | 0 => []
  | i + 1 => idxStep l (idxP l i) i
def idxM (l : List En) : List Int := idxP l l.length
def apartB (l : List En) : Bool := decide (l.Pairwise (fun a b => nameB b a = false))
def slotsB (l : List En) : Bool := l.all okE && apartB l

theorem rank_pos : ∀ {l : List En} {x : En}, Asc l → rankN l x = posN l x
  | [], x, _ => rfl
  | a :: l, x, h => by
    have ih := rank_pos (x := x) (List.Pairwise.of_cons h)
    unfold rankN at ih ⊢
    cases ha : lessE a x with
    | true => rw [pos_cons_yes ha, List.takeWhile_cons_of_pos (p := fun y => lessE y x) ha, List.length_cons, ih]
    | false => rw [pos_cons_no h ha, List.takeWhile_cons_of_neg (p := fun y => lessE y x) (by rw [ha]; decide)]; rfl
theorem rank_le (l : List En) (x : En) : rankN l x ≤ l.length := by
  unfold rankN; exact (List.takeWhile_prefix _).length_le
theorem rank_spec {l : List En} {x : En} : (∀ (j : Nat) (y : En), j < rankN l x → l[j]? = some y → lessE y x = true) ∧ (∀ y, l[rankN l x]? = some y → lessE y x = false) := by
  induction l with
  | nil => exact ⟨fun j y hj => by simp [rankN] at hj, fun y hy => by simp at hy⟩
  | cons a l ih =>
    obtain ⟨i1, i2⟩ := ih
    unfold rankN at *
    cases ha : lessE a x with
    | true =>
      rw [List.takeWhile_cons_of_pos (p := fun y => lessE y x) ha, List.length_cons]
      refine ⟨fun j y hj hy => ?_, fun y hy => ?_⟩
      · cases j with
        | zero => simp at hy; rw [← hy]; exact ha
        | succ j => rw [List.getElem?_cons_succ] at hy; exact i1 j y (by omega) hy
      · rw [List.getElem?_cons_succ] at hy; exact i2 y hy
    | false =>
      rw [List.takeWhile_cons_of_neg (p := fun y => lessE y x) (by rw [ha]; decide)]
      refine ⟨fun j y hj => by simp at hj, fun y hy => ?_⟩
      simp at hy; rw [← hy]; exact ha
theorem hit_none {l : List En} {x : En} (h : ∀ y ∈ l, nameB y x = false) : hitB l x = false := by
  cases hh : hitB l x with
  | false => rfl
  | true =>
    obtain ⟨y, hy, hn⟩ := hit_pos hh
    rw [h y (List.mem_of_getElem? hy)] at hn; cases hn
theorem apart_at {l : List En} (h : apartB l = true) {i j : Nat} {a b : En} (hi : l[i]? = some a) (hj : l[j]? = some b) (hlt : j < i) : nameB a b = false := by
  unfold apartB at h
  rw [decide_eq_true_eq] at h
  have h1 := (List.getElem?_eq_some_iff.1 hi)
  have h2 := (List.getElem?_eq_some_iff.1 hj)
  have := List.pairwise_iff_getElem.1 h j i h2.1 h1.1 hlt
  rw [h1.2, h2.2] at this
  exact this
theorem apart_of {l : List En} (h : ∀ (i j : Nat) (a b : En), l[i]? = some a → l[j]? = some b → j < i → nameB a b = false) : apartB l = true := by
  unfold apartB
  rw [decide_eq_true_eq]
  refine List.pairwise_iff_getElem.2 fun j i hj hi hlt => ?_
  exact h i j _ _ (List.getElem?_eq_getElem hi) (List.getElem?_eq_getElem hj) hlt
theorem slotAt_get {l : List En} {i : Nat} (h : i < l.length) : l[i]? = some (slotAt l (i : Int)) := slotAt_nat l i ⟨by omega, by omega⟩
/-- What the document's index is, as far as it has come. -/
theorem idxP_ok {l : List En} (h : apartB l = true) : ∀ i, i ≤ l.length → (idxP l i).length = i ∧ (∀ p ∈ idxP l i, 0 ≤ p ∧ p < i) ∧ Asc ((idxP l i).map (slotAt l))
  | 0, _ => ⟨rfl, fun p hp => by simp [idxP] at hp, List.Pairwise.nil⟩
  | i + 1, hi => by
    obtain ⟨h1, h2, h3⟩ := idxP_ok h i (by omega)
    have hr := rank_le ((idxP l i).map (slotAt l)) (slotAt l i)
    rw [List.length_map] at hr
    have hno : hitB ((idxP l i).map (slotAt l)) (slotAt l i) = false := hit_none fun y hy => by
      obtain ⟨p, hp, rfl⟩ := List.mem_map.1 hy
      have hpr := h2 p hp
      have := apart_at h (i := i) (j := p.toNat) (a := slotAt l i) (b := slotAt l p) (slotAt_get (by omega)) (by rw [slotAt_get (by omega)]; congr 2; omega) (by omega)
      rw [name_comm]; exact this
    refine ⟨?_, ?_, ?_⟩
    · show (idxStep l (idxP l i) i).length = _
      unfold idxStep
      rw [List.length_append, List.length_cons, List.length_take, List.length_drop]; omega
    · intro p hp
      have hp : p ∈ idxStep l (idxP l i) i := hp
      unfold idxStep at hp
      rcases List.mem_append.1 hp with hp | hp
      · have := h2 p (List.mem_of_mem_take hp); omega
      · rcases List.mem_cons.1 hp with rfl | hp
        · omega
        · have := h2 p (List.mem_of_mem_drop hp); omega
    · have e : (idxStep l (idxP l i) i).map (slotAt l) = insE ((idxP l i).map (slotAt l)) (slotAt l i) := by
        unfold idxStep insE
        rw [rank_pos h3, List.map_append, List.map_cons, List.map_take, List.map_drop]
      show Asc ((idxStep l (idxP l i) i).map (slotAt l))
      rw [e]
      exact asc_ins h3 hno
theorem map_inj_in {α β : Type} {f : α → β} : ∀ {l m : List α}, (∀ x ∈ l, ∀ y ∈ m, f x = f y → x = y) → l.map f = m.map f → l = m
  | [], [], _, _ => rfl
  | [], b :: m, _, h => by simp at h
  | a :: l, [], _, h => by simp at h
  | a :: l, b :: m, hi, h => by
    rw [List.map_cons, List.map_cons, List.cons.injEq] at h
    rw [hi a (by simp) b (by simp) h.1, map_inj_in (fun x hx y hy => hi x (by simp [hx]) y (by simp [hy])) h.2]
/-- All places stand in a rising index of as many places. -/
theorem idx_all {l : List En} {idx : List Int} (h1 : idx.length = l.length) (h2 : ∀ p ∈ idx, 0 ≤ p ∧ p < l.length) (h3 : Asc (idx.map (slotAt l))) {q : Nat} (hq : q < l.length) : (q : Int) ∈ idx := by
  have hn : (idx.map Int.toNat).Nodup := by
    unfold Asc at h3
    unfold List.Nodup
    rw [List.pairwise_map] at h3 ⊢
    refine h3.imp ?_
    intro a b hab e
    unfold slotAt at hab
    rw [e, lessE_irrefl] at hab
    cases hab
  have hm := nodup_all _ hn (n := l.length) (by
    intro p hp; obtain ⟨r, hr, rfl⟩ := List.mem_map.1 hp; have := h2 r hr; omega) (by rw [List.length_map, h1]) q hq
  obtain ⟨r, hr, e2⟩ := List.mem_map.1 hm
  have := h2 r hr
  rwa [show (q : Int) = r by omega]
theorem idx_apart {l : List En} {idx : List Int} (h1 : idx.length = l.length) (h2 : ∀ p ∈ idx, 0 ≤ p ∧ p < l.length) (h3 : Asc (idx.map (slotAt l))) : apartB l = true := by
  refine apart_of fun i j a b hi hj hlt => ?_
  have li := (List.getElem?_eq_some_iff.1 hi).1
  have lj := (List.getElem?_eq_some_iff.1 hj).1
  obtain ⟨r, hr, er⟩ := List.getElem_of_mem (idx_all h1 h2 h3 li)
  obtain ⟨s, hs, es⟩ := List.getElem_of_mem (idx_all h1 h2 h3 lj)
  have ha : slotAt l (i : Int) = a := slotAt_some hi
  have hb : slotAt l (j : Int) = b := slotAt_some hj
  unfold Asc at h3
  rw [List.pairwise_map] at h3
  cases hn : nameB a b with
  | false => rfl
  | true =>
    exfalso
    have hne : r ≠ s := by rintro rfl; rw [er] at es; omega
    by_cases c : r < s
    · have := List.pairwise_iff_getElem.1 h3 r s hr hs c
      rw [er, es, ha, hb, less_name _ _ hn] at this; cases this
    · have := List.pairwise_iff_getElem.1 h3 s r hs hr (by omega)
      rw [er, es, ha, hb, less_name _ _ (name_symm hn)] at this; cases this
theorem slotAt_inj {l : List En} (h : apartB l = true) {p q : Int} (hp : 0 ≤ p ∧ p < l.length) (hq : 0 ≤ q ∧ q < l.length) (e : slotAt l p = slotAt l q) : p = q := by
  have gp := slotAt_nat l p hp
  have gq := slotAt_nat l q hq
  by_cases c1 : p.toNat < q.toNat
  · have := apart_at h gq gp c1; rw [e, name_self] at this; cases this
  · by_cases c2 : q.toNat < p.toNat
    · have := apart_at h gp gq c2; rw [e, name_self] at this; cases this
    · omega
theorem idx_unique {l : List En} {a b : List Int} (a1 : a.length = l.length) (a2 : ∀ p ∈ a, 0 ≤ p ∧ p < l.length) (a3 : Asc (a.map (slotAt l))) (b1 : b.length = l.length) (b2 : ∀ p ∈ b, 0 ≤ p ∧ p < l.length) (b3 : Asc (b.map (slotAt l))) : a = b := by
  have mem : ∀ {c : List Int}, c.length = l.length → (∀ p ∈ c, 0 ≤ p ∧ p < l.length) → Asc (c.map (slotAt l)) → ∀ x, x ∈ c.map (slotAt l) ↔ x ∈ l := by
    intro c c1 c2 c3 x
    constructor
    · intro hx; obtain ⟨p, hp, rfl⟩ := List.mem_map.1 hx; exact slotAt_mem (c2 p hp)
    · intro hx
      obtain ⟨q, hq⟩ := List.getElem?_of_mem hx
      exact List.mem_map.2 ⟨q, idx_all c1 c2 c3 (List.getElem?_eq_some_iff.1 hq).1, slotAt_some hq⟩
  have e : a.map (slotAt l) = b.map (slotAt l) := asc_ext a3 b3 fun x => (mem a1 a2 a3 x).trans (mem b1 b2 b3 x).symm
  have hap := idx_apart a1 a2 a3
  exact map_inj_in (fun x hx y hy => slotAt_inj hap (a2 x hx) (b2 y hy)) e
/-- The document's way to say that an arena may be. -/
theorem okA_ref (A : Ar) : okA A = (roomB A.cap && (decide ((A.slots.length : Int) ≤ A.cap) && (slotsB A.slots && decide (A.index = idxM A.slots)))) := by
  rw [Bool.eq_iff_iff]
  unfold slotsB
  simp only [Bool.and_eq_true, decide_eq_true_eq]
  constructor
  · intro h0
    have h := okA_iff.1 h0
    have hap : apartB A.slots = true := idx_apart h.len h.rng h.asc
    obtain ⟨i1, i2, i3⟩ := idxP_ok hap _ (Nat.le_refl _)
    unfold okA at h0
    rw [Bool.and_eq_true] at h0
    refine ⟨h0.1, h.fits, ⟨List.all_eq_true.2 h.ents, hap⟩, idx_unique h.len h.rng h.asc i1 i2 i3⟩
  · rintro ⟨h1, h2, ⟨h3, h4⟩, h5⟩
    obtain ⟨i1, i2, i3⟩ := idxP_ok h4 _ (Nat.le_refl _)
    have h5' : A.index = idxP A.slots A.slots.length := h5
    rw [okA_iff]
    unfold roomB at h1
    simp only [Bool.and_eq_true, decide_eq_true_eq] at h1
    refine ⟨h1, h2, List.all_eq_true.1 h3, ?_, ?_, ?_⟩
    · rw [h5']; exact i1
    · rw [h5']; exact i2
    · unfold ordA; rw [h5']; exact i3
/-- The place of a name: the first slot that has it. -/
theorem find_ref {A : Ar} (h : OkA A) (x : En) {k : Nat} {e : En} (hk : A.slots[k]? = some e) (hn : nameB e x = true) : findI A x = (k : Int) := by
  have hm := List.mem_of_getElem? hk
  have hh := (hit_iff h).2 ⟨e, hm, hn⟩
  rw [find_hit h hh]
  obtain ⟨p1, _, _, p4⟩ := place_spec h hh
  have hap : apartB A.slots = true := idx_apart h.len h.rng h.asc
  refine slotAt_inj hap p1 ⟨by omega, by have := (List.getElem?_eq_some_iff.1 hk).1; omega⟩ ?_
  rw [slotAt_some hk]
  exact one_name h (slotAt_mem p1) hm (name_trans p4 (name_symm hn))
theorem find_ref_no {A : Ar} (h : OkA A) (x : En) (hn : ∀ e ∈ A.slots, nameB e x = false) : findI A x = -1 := by
  rw [find_ne h]
  cases hh : hitB (ordA A) x with
  | false => rfl
  | true => obtain ⟨e, he, he2⟩ := (hit_iff h).1 hh; rw [hn e he] at he2; cases he2
end Go.Proofs.YtbgconagkgfplaaGreat
end
section
namespace Go.Proofs.YtbgconagkgfplaaGreat
open Go.RowKit
set_option linter.unusedVariables false
set_option linter.unusedSimpArgs false
attribute [local irreducible] setN

theorem rless_val (A B : En) (z : Bool) (v u : Value) (w : World) (hv : isEn A v w) (hu : isEn B u w) (hz : lessE A B = z) : Calls Tryz.prog 129 #[v, u] w fun e w' => ∃ x, e = .returned x ∧ isVal (.bool z) x w' ∧ Below w.heap.size w w' :=
  (rless_any A B v u w hv hu).mono (by rintro e w' ⟨rfl, h⟩; exact ⟨_, rfl, by rw [hz]; rfl, h⟩)
theorem rname_val (A B : En) (z : Bool) (v u : Value) (w : World) (hv : isEn A v w) (hu : isEn B u w) (hz : nameB A B = z) : Calls Tryz.prog 130 #[v, u] w fun e w' => ∃ x, e = .returned x ∧ isVal (.bool z) x w' ∧ Below w.heap.size w w' :=
  (rname_any A B v u w hv hu).mono (by rintro e w' ⟨rfl, h⟩; exact ⟨_, rfl, by rw [hz]; rfl, h⟩)
noncomputable def rix1Ops : Array Oper := regionOf Tryz.f102 6
set_option maxRecDepth 100000 in
set_option maxHeartbeats 2000000 in
theorem rix1_region (Q : Exit → Act → World → Prop) (a0 : Act) (w0 : World) (hsz : a0.tmps.size = 49) (r k i q n bo oo co bs os cs : Nat) (z : Bool) (X Y : En) (xp xm yp ym : Value) (e5 : a0.tmps.getD 5 undef = .int .i64 (r : Int)) (e3 : a0.tmps.getD 3 undef = (.slice (some ⟨bo, oo, none⟩) k co)) (e0 : a0.tmps.getD 0 undef = (.slice (some ⟨bs, os, none⟩) n cs)) (e4 : a0.tmps.getD 4 undef = .int .i64 (i : Int)) (hrk : r < k) (hqn : q < n) (hin : i < n) (hbo : bo < w0.heap.size) (hq : w0.cell? ⟨bo, oo + r, none⟩ = some (.int .i64 (q : Int))) (hbs : bs < w0.heap.size) (hxc : ∀ (jj : Nat) (x : Value), [.string ⟨X.key.toArray⟩, .int .i64 X.val.kind, .int .i64 X.val.time, .int .i64 X.val.node, .bool X.val.dead, .string ⟨X.val.text.toArray⟩, xp, xm, .int .u64 (X.val.flags.toNat : Int)][jj]? = some x → w0.cell? ⟨bs, os + q * 9 + jj, none⟩ = some x) (hyc : ∀ (jj : Nat) (x : Value), [.string ⟨Y.key.toArray⟩, .int .i64 Y.val.kind, .int .i64 Y.val.time, .int .i64 Y.val.node, .bool Y.val.dead, .string ⟨Y.val.text.toArray⟩, yp, ym, .int .u64 (Y.val.flags.toNat : Int)][jj]? = some x → w0.cell? ⟨bs, os + i * 9 + jj, none⟩ = some x) (hxp : isCells (X.val.plus.map intC) xp w0) (hxm : isCells (X.val.minus.map intC) xm w0) (hyp : isCells (Y.val.plus.map intC) yp w0) (hym : isCells (Y.val.minus.map intC) ym w0) (hz : lessE X Y = z)
    (hQ : ∀ (g : Nat → Value) (w : World), g 30 = .bool z → Below w0.heap.size w0 w → Q .normal { tmps := [13, 14, 15, 16, 17, 18, 19, 20, 21, 22, 23, 24, 25, 26, 27, 28, 29, 30].foldl (fun t s => t.setIfInBounds s (g s)) a0.tmps, defers := a0.defers } w) :
    (Code.region 6 rix1Ops true).wp Tryz.prog Q a0 w0 := by
  refine wp_region_flow mixed (by rw [hsz]; kernel_rfl) ?_
  rw [show rix1Ops.size = 18 by kernel_rfl]
  refine ⟨isVal (.int .i64 (r : Int)), step_move (.tmp 5) (by kernel_rfl) (wanted_none (by kernel_rfl)) (stable_val _) (knows_old 5 (.int .i64 (r : Int)) (by kernel_rfl) e5), ?_⟩
  refine ⟨isVal (.slice (some ⟨bo, oo, none⟩) k co), step_move (.tmp 3) (by kernel_rfl) (wanted_none (by kernel_rfl)) (stable_val _) (knows_old 3 (.slice (some ⟨bo, oo, none⟩) k co) (by kernel_rfl) e3), ?_⟩
  refine ⟨isVal (.int .i64 (k : Int)), step_len 23 (.tmp 14) (.slice (some ⟨bo, oo, none⟩) k co) (.int .i64 (k : Int)) (by kernel_rfl) (wanted_none (by kernel_rfl)) (knows_new (V := isVal (.slice (some ⟨bo, oo, none⟩) k co)) 14 1 (by kernel_rfl) (by kernel_rfl) (by kernel_rfl)) ((fun ty w => by simp [Builtin.len_, run_underlying Tryz.underlying23]; rfl)), ?_⟩
  refine ⟨isVal (.bool true), step_bin .lss 3 3 (.tmp 13) (.tmp 15) (.int .i64 (r : Int)) (.int .i64 (k : Int)) (.bool true) (by kernel_rfl) (wanted_none (by kernel_rfl)) (knows_new (V := isVal (.int .i64 (r : Int))) 13 0 (by kernel_rfl) (by kernel_rfl) (by kernel_rfl)) (knows_new (V := isVal (.int .i64 (k : Int))) 15 2 (by kernel_rfl) (by kernel_rfl) (by kernel_rfl)) (fun _ => rfl) (lss_int _ _ _ _ _ (by simp; omega)), ?_⟩
  refine ⟨isVal (.bool true), step_move (.tmp 16) (by kernel_rfl) (wanted_none (by kernel_rfl)) (stable_val _) (knows_new (V := isVal (.bool true)) 16 3 (by kernel_rfl) (by kernel_rfl) (by kernel_rfl)), ?_⟩
  refine ⟨isVal (.slice (some ⟨bs, os, none⟩) n cs), step_move (.tmp 0) (by kernel_rfl) (wanted_some 4 17 true (by kernel_rfl) (by kernel_rfl) (by kernel_rfl) (by kernel_rfl)) (stable_val _) (knows_old 0 (.slice (some ⟨bs, os, none⟩) n cs) (by kernel_rfl) e0), ?_⟩
  refine ⟨isVal (.slice (some ⟨bo, oo, none⟩) k co), step_move (.tmp 3) (by kernel_rfl) (wanted_some 4 17 true (by kernel_rfl) (by kernel_rfl) (by kernel_rfl) (by kernel_rfl)) (stable_val _) (knows_old 3 (.slice (some ⟨bo, oo, none⟩) k co) (by kernel_rfl) e3), ?_⟩
  refine ⟨isVal (.int .i64 (r : Int)), step_move (.tmp 5) (by kernel_rfl) (wanted_some 4 17 true (by kernel_rfl) (by kernel_rfl) (by kernel_rfl) (by kernel_rfl)) (stable_val _) (knows_old 5 (.int .i64 (r : Int)) (by kernel_rfl) e5), ?_⟩
  refine ⟨isVal (.pointer (some ⟨bo, oo + r, none⟩)), step_place 23 3 (.tmp 19) (.tmp 20) bo (oo) (k) (co) (r) (by kernel_rfl) (wanted_some 4 17 true (by kernel_rfl) (by kernel_rfl) (by kernel_rfl) (by kernel_rfl)) (knows_new (V := isVal (.slice (some ⟨bo, oo, none⟩) k co)) 19 6 (by kernel_rfl) (by kernel_rfl) (by kernel_rfl)) (knows_new (V := isVal (.int .i64 (r : Int))) 20 7 (by kernel_rfl) (by kernel_rfl) (by kernel_rfl)) Tryz.underlying23 (by kernel_rfl) (hrk), ?_⟩
  refine ⟨isVal (.int .i64 (q : Int)), step_read 3 (.tmp 21) ⟨bo, oo + r, none⟩ (.int .i64 (q : Int)) (by kernel_rfl) (wanted_some 4 17 true (by kernel_rfl) (by kernel_rfl) (by kernel_rfl) (by kernel_rfl)) (knows_new (V := isVal (.pointer (some ⟨bo, oo + r, none⟩))) 21 8 (by kernel_rfl) (by kernel_rfl) (by kernel_rfl)) (hq) (hbo) (agg_noZ), ?_⟩
  refine ⟨isVal (.pointer (some ⟨bs, os + q * 9, none⟩)), step_placeE 22 30 (.tmp 18) (.tmp 22) bs (os) (n) (cs) (q) (os + q * 9) (by kernel_rfl) (wanted_some 4 17 true (by kernel_rfl) (by kernel_rfl) (by kernel_rfl) (by kernel_rfl)) (knows_new (V := isVal (.slice (some ⟨bs, os, none⟩) n cs)) 18 5 (by kernel_rfl) (by kernel_rfl) (by kernel_rfl)) (knows_new (V := isVal (.int .i64 (q : Int))) 22 9 (by kernel_rfl) (by kernel_rfl) (by kernel_rfl)) Tryz.underlying22 (by kernel_rfl) (⟨hqn, rfl⟩), ?_⟩
  refine ⟨isVal (.agg #[.string ⟨X.key.toArray⟩, .int .i64 X.val.kind, .int .i64 X.val.time, .int .i64 X.val.node, .bool X.val.dead, .string ⟨X.val.text.toArray⟩, xp, xm, .int .u64 (X.val.flags.toNat : Int)]), step_loadA 30 (.tmp 23) (bs) (os + q * 9) [.string ⟨X.key.toArray⟩, .int .i64 X.val.kind, .int .i64 X.val.time, .int .i64 X.val.node, .bool X.val.dead, .string ⟨X.val.text.toArray⟩, xp, xm, .int .u64 (X.val.flags.toNat : Int)] (by kernel_rfl) (wanted_some 4 17 true (by kernel_rfl) (by kernel_rfl) (by kernel_rfl) (by kernel_rfl)) (knows_new (V := isVal (.pointer (some ⟨bs, os + q * 9, none⟩))) 23 10 (by kernel_rfl) (by kernel_rfl) (by kernel_rfl)) size_en agg_en (⟨hbs, hxc⟩), ?_⟩
  refine ⟨isVal (.slice (some ⟨bs, os, none⟩) n cs), step_move (.tmp 0) (by kernel_rfl) (wanted_some 4 17 true (by kernel_rfl) (by kernel_rfl) (by kernel_rfl) (by kernel_rfl)) (stable_val _) (knows_old 0 (.slice (some ⟨bs, os, none⟩) n cs) (by kernel_rfl) e0), ?_⟩
  refine ⟨isVal (.int .i64 (i : Int)), step_move (.tmp 4) (by kernel_rfl) (wanted_some 4 17 true (by kernel_rfl) (by kernel_rfl) (by kernel_rfl) (by kernel_rfl)) (stable_val _) (knows_old 4 (.int .i64 (i : Int)) (by kernel_rfl) e4), ?_⟩
  refine ⟨isVal (.pointer (some ⟨bs, os + i * 9, none⟩)), step_placeE 22 30 (.tmp 25) (.tmp 26) bs (os) (n) (cs) (i) (os + i * 9) (by kernel_rfl) (wanted_some 4 17 true (by kernel_rfl) (by kernel_rfl) (by kernel_rfl) (by kernel_rfl)) (knows_new (V := isVal (.slice (some ⟨bs, os, none⟩) n cs)) 25 12 (by kernel_rfl) (by kernel_rfl) (by kernel_rfl)) (knows_new (V := isVal (.int .i64 (i : Int))) 26 13 (by kernel_rfl) (by kernel_rfl) (by kernel_rfl)) Tryz.underlying22 (by kernel_rfl) (⟨hin, rfl⟩), ?_⟩
  refine ⟨isVal (.agg #[.string ⟨Y.key.toArray⟩, .int .i64 Y.val.kind, .int .i64 Y.val.time, .int .i64 Y.val.node, .bool Y.val.dead, .string ⟨Y.val.text.toArray⟩, yp, ym, .int .u64 (Y.val.flags.toNat : Int)]), step_loadA 30 (.tmp 27) (bs) (os + i * 9) [.string ⟨Y.key.toArray⟩, .int .i64 Y.val.kind, .int .i64 Y.val.time, .int .i64 Y.val.node, .bool Y.val.dead, .string ⟨Y.val.text.toArray⟩, yp, ym, .int .u64 (Y.val.flags.toNat : Int)] (by kernel_rfl) (wanted_some 4 17 true (by kernel_rfl) (by kernel_rfl) (by kernel_rfl) (by kernel_rfl)) (knows_new (V := isVal (.pointer (some ⟨bs, os + i * 9, none⟩))) 27 14 (by kernel_rfl) (by kernel_rfl) (by kernel_rfl)) size_en agg_en (⟨hbs, hyc⟩), ?_⟩
  refine ⟨isVal (.bool z), step_call 129 #[.tmp 24, .tmp 28] #[30, 30] #[.agg #[.string ⟨X.key.toArray⟩, .int .i64 X.val.kind, .int .i64 X.val.time, .int .i64 X.val.node, .bool X.val.dead, .string ⟨X.val.text.toArray⟩, xp, xm, .int .u64 (X.val.flags.toNat : Int)], .agg #[.string ⟨Y.key.toArray⟩, .int .i64 Y.val.kind, .int .i64 Y.val.time, .int .i64 Y.val.node, .bool Y.val.dead, .string ⟨Y.val.text.toArray⟩, yp, ym, .int .u64 (Y.val.flags.toNat : Int)]] (by kernel_rfl) (wanted_some 4 17 true (by kernel_rfl) (by kernel_rfl) (by kernel_rfl) (by kernel_rfl)) (stable_val _) (args2 (.tmp 24) (.tmp 28) (.agg #[.string ⟨X.key.toArray⟩, .int .i64 X.val.kind, .int .i64 X.val.time, .int .i64 X.val.node, .bool X.val.dead, .string ⟨X.val.text.toArray⟩, xp, xm, .int .u64 (X.val.flags.toNat : Int)]) (.agg #[.string ⟨Y.key.toArray⟩, .int .i64 Y.val.kind, .int .i64 Y.val.time, .int .i64 Y.val.node, .bool Y.val.dead, .string ⟨Y.val.text.toArray⟩, yp, ym, .int .u64 (Y.val.flags.toNat : Int)]) (knows_new (V := isVal (.agg #[.string ⟨X.key.toArray⟩, .int .i64 X.val.kind, .int .i64 X.val.time, .int .i64 X.val.node, .bool X.val.dead, .string ⟨X.val.text.toArray⟩, xp, xm, .int .u64 (X.val.flags.toNat : Int)])) 24 11 (by kernel_rfl) (by kernel_rfl) (by kernel_rfl)) (knows_new (V := isVal (.agg #[.string ⟨Y.key.toArray⟩, .int .i64 Y.val.kind, .int .i64 Y.val.time, .int .i64 Y.val.node, .bool Y.val.dead, .string ⟨Y.val.text.toArray⟩, yp, ym, .int .u64 (Y.val.flags.toNat : Int)])) 28 15 (by kernel_rfl) (by kernel_rfl) (by kernel_rfl))) (enters_of Tryz.func129 (by kernel_rfl) rfl) (by intro w' hb; exact rless_val X Y z _ _ w' (en_mk hxp hxm hb) (en_mk hyp hym hb) hz), ?_⟩
  refine ⟨isVal (.bool z), step_pick (.tmp 17) (.tmp 29) (.const (.bool false)) true (by kernel_rfl) (wanted_none (by kernel_rfl)) (stable_val _) (knows_new (V := isVal (.bool true)) 17 4 (by kernel_rfl) (by kernel_rfl) (by kernel_rfl)) (knows_new (V := isVal (.bool z)) 29 16 (by kernel_rfl) (by kernel_rfl) (by kernel_rfl)), ?_⟩
  intro a w hkp hb hd
  rw [kept_of hkp [some 13, some 14, some 15, some 16, some 17, some 18, some 19, some 20, some 21, some 22, some 23, some 24, some 25, some 26, some 27, some 28, some 29, some 30] [13, 14, 15, 16, 17, 18, 19, 20, 21, 22, 23, 24, 25, 26, 27, 28, 29, 30] (by kernel_rfl) (by decide)]
  have d30 := fdone_of (hd 17 (by rw [show rix1Ops.size = 18 by kernel_rfl]; decide)) (t := 30) (V := isVal (.bool z)) (by kernel_rfl) (by kernel_rfl)
  exact hQ (fun s => a.tmps.getD s undef) w d30 hb
noncomputable def rix2Ops : Array Oper := regionOf Tryz.f102 6
set_option maxRecDepth 100000 in
set_option maxHeartbeats 2000000 in
theorem rix2_region (Q : Exit → Act → World → Prop) (a0 : Act) (w0 : World) (hsz : a0.tmps.size = 49) (r i co : Nat) (a : Option Addr) (vs : Value) (e5 : a0.tmps.getD 5 undef = .int .i64 (r : Int)) (e3 : a0.tmps.getD 3 undef = .slice a r co) (e0 : a0.tmps.getD 0 undef = vs) (e4 : a0.tmps.getD 4 undef = .int .i64 (i : Int))
    (hQ : ∀ (g : Nat → Value) (w : World), g 30 = .bool false → Below w0.heap.size w0 w → Q .normal { tmps := [13, 14, 15, 16, 17, 18, 19, 20, 21, 22, 23, 24, 25, 26, 27, 28, 29, 30].foldl (fun t s => t.setIfInBounds s (g s)) a0.tmps, defers := a0.defers } w) :
    (Code.region 6 rix2Ops true).wp Tryz.prog Q a0 w0 := by
  refine wp_region_flow mixed (by rw [hsz]; kernel_rfl) ?_
  rw [show rix2Ops.size = 18 by kernel_rfl]
  refine ⟨isVal (.int .i64 (r : Int)), step_move (.tmp 5) (by kernel_rfl) (wanted_none (by kernel_rfl)) (stable_val _) (knows_old 5 (.int .i64 (r : Int)) (by kernel_rfl) e5), ?_⟩
  refine ⟨isVal (.slice a (r) co), step_move (.tmp 3) (by kernel_rfl) (wanted_none (by kernel_rfl)) (stable_val _) (knows_old 3 (.slice a (r) co) (by kernel_rfl) e3), ?_⟩
  refine ⟨isVal (.int .i64 (r : Int)), step_len 23 (.tmp 14) (.slice a (r) co) (.int .i64 (r : Int)) (by kernel_rfl) (wanted_none (by kernel_rfl)) (knows_new (V := isVal (.slice a (r) co)) 14 1 (by kernel_rfl) (by kernel_rfl) (by kernel_rfl)) ((fun ty w => by simp [Builtin.len_, run_underlying Tryz.underlying23]; rfl)), ?_⟩
  refine ⟨isVal (.bool false), step_bin .lss 3 3 (.tmp 13) (.tmp 15) (.int .i64 (r : Int)) (.int .i64 (r : Int)) (.bool false) (by kernel_rfl) (wanted_none (by kernel_rfl)) (knows_new (V := isVal (.int .i64 (r : Int))) 13 0 (by kernel_rfl) (by kernel_rfl) (by kernel_rfl)) (knows_new (V := isVal (.int .i64 (r : Int))) 15 2 (by kernel_rfl) (by kernel_rfl) (by kernel_rfl)) (fun _ => rfl) (lss_int _ _ _ _ _ (by simp)), ?_⟩
  refine ⟨isVal (.bool false), step_move (.tmp 16) (by kernel_rfl) (wanted_none (by kernel_rfl)) (stable_val _) (knows_new (V := isVal (.bool false)) 16 3 (by kernel_rfl) (by kernel_rfl) (by kernel_rfl)), ?_⟩
  refine ⟨_, step_skip 4 17 true false (by kernel_rfl) (by kernel_rfl) (by kernel_rfl) (by kernel_rfl) rfl, ?_⟩
  refine ⟨_, step_skip 4 17 true false (by kernel_rfl) (by kernel_rfl) (by kernel_rfl) (by kernel_rfl) rfl, ?_⟩
  refine ⟨_, step_skip 4 17 true false (by kernel_rfl) (by kernel_rfl) (by kernel_rfl) (by kernel_rfl) rfl, ?_⟩
  refine ⟨_, step_skip 4 17 true false (by kernel_rfl) (by kernel_rfl) (by kernel_rfl) (by kernel_rfl) rfl, ?_⟩
  refine ⟨_, step_skip 4 17 true false (by kernel_rfl) (by kernel_rfl) (by kernel_rfl) (by kernel_rfl) rfl, ?_⟩
  refine ⟨_, step_skip 4 17 true false (by kernel_rfl) (by kernel_rfl) (by kernel_rfl) (by kernel_rfl) rfl, ?_⟩
  refine ⟨_, step_skip 4 17 true false (by kernel_rfl) (by kernel_rfl) (by kernel_rfl) (by kernel_rfl) rfl, ?_⟩
  refine ⟨_, step_skip 4 17 true false (by kernel_rfl) (by kernel_rfl) (by kernel_rfl) (by kernel_rfl) rfl, ?_⟩
  refine ⟨_, step_skip 4 17 true false (by kernel_rfl) (by kernel_rfl) (by kernel_rfl) (by kernel_rfl) rfl, ?_⟩
  refine ⟨_, step_skip 4 17 true false (by kernel_rfl) (by kernel_rfl) (by kernel_rfl) (by kernel_rfl) rfl, ?_⟩
  refine ⟨_, step_skip 4 17 true false (by kernel_rfl) (by kernel_rfl) (by kernel_rfl) (by kernel_rfl) rfl, ?_⟩
  refine ⟨_, step_skip 4 17 true false (by kernel_rfl) (by kernel_rfl) (by kernel_rfl) (by kernel_rfl) rfl, ?_⟩
  refine ⟨isVal (.bool false), step_pick (.tmp 17) (.tmp 29) (.const (.bool false)) false (by kernel_rfl) (wanted_none (by kernel_rfl)) (stable_val _) (knows_new (V := isVal (.bool false)) 17 4 (by kernel_rfl) (by kernel_rfl) (by kernel_rfl)) (knows_const _), ?_⟩
  intro a w hkp hb hd
  rw [kept_of hkp [some 13, some 14, some 15, some 16, some 17, some 18, some 19, some 20, some 21, some 22, some 23, some 24, some 25, some 26, some 27, some 28, some 29, some 30] [13, 14, 15, 16, 17, 18, 19, 20, 21, 22, 23, 24, 25, 26, 27, 28, 29, 30] (by kernel_rfl) (by decide)]
  have d30 := fdone_of (hd 17 (by rw [show rix2Ops.size = 18 by kernel_rfl]; decide)) (t := 30) (V := isVal (.bool false)) (by kernel_rfl) (by kernel_rfl)
  exact hQ (fun s => a.tmps.getD s undef) w d30 hb
noncomputable def rsl1Ops : Array Oper := regionOf Tryz.f128 9
set_option maxRecDepth 100000 in
set_option maxHeartbeats 2000000 in
theorem rsl1_region (Q : Exit → Act → World → Prop) (a0 : Act) (w0 : World) (hsz : a0.tmps.size = 31) (i j n bs os cs : Nat) (z : Bool) (X Y : En) (xp xm yp ym : Value) (e3 : a0.tmps.getD 3 undef = .int .i64 (i : Int)) (e4 : a0.tmps.getD 4 undef = .int .i64 (j : Int)) (e0 : a0.tmps.getD 0 undef = (.slice (some ⟨bs, os, none⟩) n cs)) (hi : i < n) (hj : j < n) (hbs : bs < w0.heap.size) (hxc : ∀ (jj : Nat) (x : Value), [.string ⟨X.key.toArray⟩, .int .i64 X.val.kind, .int .i64 X.val.time, .int .i64 X.val.node, .bool X.val.dead, .string ⟨X.val.text.toArray⟩, xp, xm, .int .u64 (X.val.flags.toNat : Int)][jj]? = some x → w0.cell? ⟨bs, os + i * 9 + jj, none⟩ = some x) (hyc : ∀ (jj : Nat) (x : Value), [.string ⟨Y.key.toArray⟩, .int .i64 Y.val.kind, .int .i64 Y.val.time, .int .i64 Y.val.node, .bool Y.val.dead, .string ⟨Y.val.text.toArray⟩, yp, ym, .int .u64 (Y.val.flags.toNat : Int)][jj]? = some x → w0.cell? ⟨bs, os + j * 9 + jj, none⟩ = some x) (hxp : isCells (X.val.plus.map intC) xp w0) (hxm : isCells (X.val.minus.map intC) xm w0) (hyp : isCells (Y.val.plus.map intC) yp w0) (hym : isCells (Y.val.minus.map intC) ym w0) (hz : nameB X Y = z)
    (hQ : ∀ (g : Nat → Value) (w : World), g 30 = .bool z → Below w0.heap.size w0 w → Q .normal { tmps := [22, 23, 24, 25, 26, 27, 28, 29, 30].foldl (fun t s => t.setIfInBounds s (g s)) a0.tmps, defers := a0.defers } w) :
    (Code.region 9 rsl1Ops true).wp Tryz.prog Q a0 w0 := by
  refine wp_region_flow mixed (by rw [hsz]; kernel_rfl) ?_
  rw [show rsl1Ops.size = 9 by kernel_rfl]
  refine ⟨isVal (.slice (some ⟨bs, os, none⟩) n cs), step_move (.tmp 0) (by kernel_rfl) (wanted_none (by kernel_rfl)) (stable_val _) (knows_old 0 (.slice (some ⟨bs, os, none⟩) n cs) (by kernel_rfl) e0), ?_⟩
  refine ⟨isVal (.int .i64 (i : Int)), step_move (.tmp 3) (by kernel_rfl) (wanted_none (by kernel_rfl)) (stable_val _) (knows_old 3 (.int .i64 (i : Int)) (by kernel_rfl) e3), ?_⟩
  refine ⟨isVal (.pointer (some ⟨bs, os + i * 9, none⟩)), step_placeE 22 30 (.tmp 22) (.tmp 23) bs (os) (n) (cs) (i) (os + i * 9) (by kernel_rfl) (wanted_none (by kernel_rfl)) (knows_new (V := isVal (.slice (some ⟨bs, os, none⟩) n cs)) 22 0 (by kernel_rfl) (by kernel_rfl) (by kernel_rfl)) (knows_new (V := isVal (.int .i64 (i : Int))) 23 1 (by kernel_rfl) (by kernel_rfl) (by kernel_rfl)) Tryz.underlying22 (by kernel_rfl) (⟨hi, rfl⟩), ?_⟩
  refine ⟨isVal (.agg #[.string ⟨X.key.toArray⟩, .int .i64 X.val.kind, .int .i64 X.val.time, .int .i64 X.val.node, .bool X.val.dead, .string ⟨X.val.text.toArray⟩, xp, xm, .int .u64 (X.val.flags.toNat : Int)]), step_loadA 30 (.tmp 24) (bs) (os + i * 9) [.string ⟨X.key.toArray⟩, .int .i64 X.val.kind, .int .i64 X.val.time, .int .i64 X.val.node, .bool X.val.dead, .string ⟨X.val.text.toArray⟩, xp, xm, .int .u64 (X.val.flags.toNat : Int)] (by kernel_rfl) (wanted_none (by kernel_rfl)) (knows_new (V := isVal (.pointer (some ⟨bs, os + i * 9, none⟩))) 24 2 (by kernel_rfl) (by kernel_rfl) (by kernel_rfl)) size_en agg_en (⟨hbs, hxc⟩), ?_⟩
  refine ⟨isVal (.slice (some ⟨bs, os, none⟩) n cs), step_move (.tmp 0) (by kernel_rfl) (wanted_none (by kernel_rfl)) (stable_val _) (knows_old 0 (.slice (some ⟨bs, os, none⟩) n cs) (by kernel_rfl) e0), ?_⟩
  refine ⟨isVal (.int .i64 (j : Int)), step_move (.tmp 4) (by kernel_rfl) (wanted_none (by kernel_rfl)) (stable_val _) (knows_old 4 (.int .i64 (j : Int)) (by kernel_rfl) e4), ?_⟩
  refine ⟨isVal (.pointer (some ⟨bs, os + j * 9, none⟩)), step_placeE 22 30 (.tmp 26) (.tmp 27) bs (os) (n) (cs) (j) (os + j * 9) (by kernel_rfl) (wanted_none (by kernel_rfl)) (knows_new (V := isVal (.slice (some ⟨bs, os, none⟩) n cs)) 26 4 (by kernel_rfl) (by kernel_rfl) (by kernel_rfl)) (knows_new (V := isVal (.int .i64 (j : Int))) 27 5 (by kernel_rfl) (by kernel_rfl) (by kernel_rfl)) Tryz.underlying22 (by kernel_rfl) (⟨hj, rfl⟩), ?_⟩
  refine ⟨isVal (.agg #[.string ⟨Y.key.toArray⟩, .int .i64 Y.val.kind, .int .i64 Y.val.time, .int .i64 Y.val.node, .bool Y.val.dead, .string ⟨Y.val.text.toArray⟩, yp, ym, .int .u64 (Y.val.flags.toNat : Int)]), step_loadA 30 (.tmp 28) (bs) (os + j * 9) [.string ⟨Y.key.toArray⟩, .int .i64 Y.val.kind, .int .i64 Y.val.time, .int .i64 Y.val.node, .bool Y.val.dead, .string ⟨Y.val.text.toArray⟩, yp, ym, .int .u64 (Y.val.flags.toNat : Int)] (by kernel_rfl) (wanted_none (by kernel_rfl)) (knows_new (V := isVal (.pointer (some ⟨bs, os + j * 9, none⟩))) 28 6 (by kernel_rfl) (by kernel_rfl) (by kernel_rfl)) size_en agg_en (⟨hbs, hyc⟩), ?_⟩
  refine ⟨isVal (.bool z), step_call 130 #[.tmp 25, .tmp 29] #[30, 30] #[.agg #[.string ⟨X.key.toArray⟩, .int .i64 X.val.kind, .int .i64 X.val.time, .int .i64 X.val.node, .bool X.val.dead, .string ⟨X.val.text.toArray⟩, xp, xm, .int .u64 (X.val.flags.toNat : Int)], .agg #[.string ⟨Y.key.toArray⟩, .int .i64 Y.val.kind, .int .i64 Y.val.time, .int .i64 Y.val.node, .bool Y.val.dead, .string ⟨Y.val.text.toArray⟩, yp, ym, .int .u64 (Y.val.flags.toNat : Int)]] (by kernel_rfl) (wanted_none (by kernel_rfl)) (stable_val _) (args2 (.tmp 25) (.tmp 29) (.agg #[.string ⟨X.key.toArray⟩, .int .i64 X.val.kind, .int .i64 X.val.time, .int .i64 X.val.node, .bool X.val.dead, .string ⟨X.val.text.toArray⟩, xp, xm, .int .u64 (X.val.flags.toNat : Int)]) (.agg #[.string ⟨Y.key.toArray⟩, .int .i64 Y.val.kind, .int .i64 Y.val.time, .int .i64 Y.val.node, .bool Y.val.dead, .string ⟨Y.val.text.toArray⟩, yp, ym, .int .u64 (Y.val.flags.toNat : Int)]) (knows_new (V := isVal (.agg #[.string ⟨X.key.toArray⟩, .int .i64 X.val.kind, .int .i64 X.val.time, .int .i64 X.val.node, .bool X.val.dead, .string ⟨X.val.text.toArray⟩, xp, xm, .int .u64 (X.val.flags.toNat : Int)])) 25 3 (by kernel_rfl) (by kernel_rfl) (by kernel_rfl)) (knows_new (V := isVal (.agg #[.string ⟨Y.key.toArray⟩, .int .i64 Y.val.kind, .int .i64 Y.val.time, .int .i64 Y.val.node, .bool Y.val.dead, .string ⟨Y.val.text.toArray⟩, yp, ym, .int .u64 (Y.val.flags.toNat : Int)])) 29 7 (by kernel_rfl) (by kernel_rfl) (by kernel_rfl))) (enters_of Tryz.func130 (by kernel_rfl) rfl) (by intro w' hb; exact rname_val X Y z _ _ w' (en_mk hxp hxm hb) (en_mk hyp hym hb) hz), ?_⟩
  intro a w hkp hb hd
  rw [kept_of hkp [some 22, some 23, some 24, some 25, some 26, some 27, some 28, some 29, some 30] [22, 23, 24, 25, 26, 27, 28, 29, 30] (by kernel_rfl) (by decide)]
  have d30 := fdone_of (hd 8 (by rw [show rsl1Ops.size = 9 by kernel_rfl]; decide)) (t := 30) (V := isVal (.bool z)) (by kernel_rfl) (by kernel_rfl)
  exact hQ (fun s => a.tmps.getD s undef) w d30 hb
end Go.Proofs.YtbgconagkgfplaaGreat
end
section
namespace Go.Proofs.YtbgconagkgfplaaGreat
open Go.RowKit
set_option linter.unusedVariables false
set_option linter.unusedSimpArgs false
attribute [local irreducible] setN

theorem idxP_rng (l : List En) : ∀ i, (idxP l i).length = i ∧ ∀ p ∈ idxP l i, 0 ≤ p ∧ p < i
  | 0 => ⟨rfl, fun p hp => by simp [idxP] at hp⟩
  | i + 1 => by
    obtain ⟨h1, h2⟩ := idxP_rng l i
    have hr := rank_le ((idxP l i).map (slotAt l)) (slotAt l i)
    rw [List.length_map] at hr
    refine ⟨?_, ?_⟩
    · show (idxStep l (idxP l i) i).length = _
      unfold idxStep
      rw [List.length_append, List.length_cons, List.length_take, List.length_drop]; omega
    · intro p hp
      have hp : p ∈ idxStep l (idxP l i) i := hp
      unfold idxStep at hp
      rcases List.mem_append.1 hp with hp | hp
      · have := h2 p (List.mem_of_mem_take hp); omega
      · rcases List.mem_cons.1 hp with rfl | hp
        · omega
        · have := h2 p (List.mem_of_mem_drop hp); omega
def IdxPost (l : List En) (w : World) (e : Ending) (w' : World) : Prop := ∃ v', e = .returned v' ∧ OutI w.heap.size v' (idxM l) w' ∧ Below w.heap.size w w'
set_option maxRecDepth 100000 in
set_option maxHeartbeats 2000000 in
theorem rindex_post (l : List En) (v : Value) (w : World) (hv : isEns l v w) (hl : l.length ≤ 1000) : Calls Tryz.prog 102 #[v] w (IdxPost l w) := by
  obtain ⟨va, vc, rfl⟩ := hv.len
  have HV := Kept.mk hv
  clear hv
  generalize hn : l.length = n at *
  have HN := Kept.mk hn
  clear hn
  go_enter Tryz.func102, Tryz.ntmps102
  go_wp2
  go_loopw [3, 4] (fun OV IV WZ => ∃ k : Nat, k ≤ n ∧ IV = .int .i64 (k : Int) ∧ Kept (OutI w.heap.size OV (idxP l k) WZ) ∧ Kept (Below w.heap.size w WZ)) (fun _ IV _ => n - (intOf IV).toNat)
  case atStart => exact ⟨0, Nat.zero_le _, rfl, ⟨outI_nil _ _⟩, ⟨Below.refl _ _⟩⟩
  case round =>
    obtain ⟨k, hk, rfl, O, B⟩ := hrel
    by_cases hlt : k < n
    · have hlt' : (k : Int) < (n : Int) := by omega
      obtain ⟨hlen, hrng⟩ := idxP_rng l k
      obtain ⟨oa, oc, eo⟩ := O.out.len
      rw [hlen] at eo
      subst eo
      have HSTEP : idxP l (k + 1) = idxStep l (idxP l k) k := rfl
      have hRk : rankN ((idxP l k).map (slotAt l)) (slotAt l k) ≤ k := by have := rank_le ((idxP l k).map (slotAt l)) (slotAt l k); rw [List.length_map, hlen] at this; exact this
      obtain ⟨rs1, rs2⟩ := rank_spec (l := (idxP l k).map (slotAt l)) (x := slotAt l k)
      unfold idxStep at HSTEP
      generalize rankN ((idxP l k).map (slotAt l)) (slotAt l k) = R at hRk rs1 rs2 HSTEP
      generalize idxP l k = out at O hlen hrng rs1 rs2 HSTEP
      have HEQ := Kept.mk (show (([] ++ out.take R) ++ [(k : Int)]) ++ out.drop R = idxP l (k + 1) by rw [HSTEP]; simp)
      have HLN := Kept.mk hlen
      have HRG := Kept.mk hrng
      have HR1 := Kept.mk rs1
      have HR2 := Kept.mk rs2
      have HNN := Kept.mk (show ([] : List Int).length + (out.take R).length ≤ 100000 ∧ ([] ++ out.take R).length + [(k : Int)].length ≤ 100000 ∧ (([] ++ out.take R) ++ [(k : Int)]).length + (out.drop R).length ≤ 100000 by simp [hlen]; omega)
      have hY : l[k]? = some (slotAt l k) := slotAt_get (by rw [HN.out]; exact hlt)
      have HY := Kept.mk hY
      clear hlen hrng rs1 rs2 HSTEP hY
      rename World => w5
      go_wp2
      go_loopw [5] (fun RV WZ => ∃ r : Nat, r ≤ R ∧ RV = .int .i64 (r : Int) ∧ Kept (Below w5.heap.size w5 WZ)) (fun RV _ => R - (intOf RV).toNat)
      case atStart => exact ⟨0, Nat.zero_le _, rfl, ⟨Below.refl _ _⟩⟩
      case round =>
        obtain ⟨r, hr, rfl, B2⟩ := hrel
        by_cases h1 : r < k
        · obtain ⟨p, hp⟩ : ∃ p, out[r]? = some p := ⟨_, List.getElem?_eq_getElem (by rw [HLN.out]; exact h1)⟩
          have hpr := HRG.out p (List.mem_of_getElem? hp)
          obtain ⟨q, rfl⟩ : ∃ q : Nat, p = (q : Int) := ⟨p.toNat, by omega⟩
          have hqn : q < n := by omega
          have hX : l[q]? = some (slotAt l (q : Int)) := slotAt_get (by rw [HN.out]; exact hqn)
          have hm : (out.map (slotAt l))[r]? = some (slotAt l (q : Int)) := by rw [List.getElem?_map, hp]; rfl
          obtain ⟨z, hz⟩ : ∃ z, lessE (slotAt l (q : Int)) (slotAt l (k : Int)) = z := ⟨_, rfl⟩
          have HZ := Kept.mk hz
          have hcase : (z = true ∧ r < R) ∨ (z = false ∧ r = R) := by
            by_cases h2 : r < R
            · left; rw [← hz]; exact ⟨HR1.out r _ h2 hm, h2⟩
            · right; have hrR : r = R := by omega
              rw [← hz]; refine ⟨HR2.out _ (by rw [← hrR]; exact hm), hrR⟩
          rcases HV.out.cases_ with ⟨_, _, _, hnil⟩ | ⟨bs, os, cs, ea, hbs, hall⟩
          · rw [hnil] at hX; simp at hX
          · injection ea with ea1 ea2 ea3
            subst ea1 ea3
            obtain ⟨xp, xm, hxc, hxp, hxm⟩ := hall q _ hX
            obtain ⟨yp, ym, hyc, hyp, hym⟩ := hall k _ HY.out
            have Bw := Kept.mk (B.out.trans (B2.out.mono B.out.size))
            obtain ⟨bo, oo, co, eo, hbo, hoc⟩ := (O.out.keep B2.out).cells.some_ (by rw [List.length_map, HLN.out]; omega)
            rw [List.length_map, HLN.out] at eo
            injection eo with eo1 _ eo3
            subst eo1 eo3
            have hq0 := hoc r (intC (q : Int)) (by rw [List.getElem?_map, hp]; rfl)
            have HQ := Kept.mk hq0
            have HXC := Kept.mk hxc
            have HYC := Kept.mk hyc
            generalize slotAt l (q : Int) = X at *
            generalize slotAt l (k : Int) = Y at *
            have hw5 := B2.out.size
            have hww := Bw.out.size
            clear hX hm hz hp hall hxc hyc hoc hq0 ea2
            go_wp2
            refine rix1_region _ _ _ rfl r k k q n bo oo oc bs os vc z X Y xp xm yp ym rfl rfl rfl rfl h1 hqn hlt hbo HQ.out (by omega) (fun j x hx => (Bw.out.cell (p := ⟨bs, os + q * 9 + j, none⟩) hbs).trans (HXC.out j x hx)) (fun j x hx => (Bw.out.cell (p := ⟨bs, os + k * 9 + j, none⟩) hbs).trans (HYC.out j x hx)) (stable_cells _ _ _ _ hxp Bw.out) (stable_cells _ _ _ _ hxm Bw.out) (stable_cells _ _ _ _ hyp Bw.out) (stable_cells _ _ _ _ hym Bw.out) HZ.out ?_
            clear hxp hxm hyp hym HXC HYC HQ
            intro f9 W9 d30 hb9
            simp only [List.foldl_cons, List.foldl_nil, d30]
            generalize f9 13 = y13
            generalize f9 14 = y14
            generalize f9 15 = y15
            generalize f9 16 = y16
            generalize f9 17 = y17
            generalize f9 18 = y18
            generalize f9 19 = y19
            generalize f9 20 = y20
            generalize f9 21 = y21
            generalize f9 22 = y22
            generalize f9 23 = y23
            generalize f9 24 = y24
            generalize f9 25 = y25
            generalize f9 26 = y26
            generalize f9 27 = y27
            generalize f9 28 = y28
            generalize f9 29 = y29
            clear d30
            simp only [List.setIfInBounds_toArray, List.set_cons_succ, List.set_cons_zero]
            replace B2 := Kept.mk (B2.out.trans (hb9.mono hw5))
            clear hb9 Bw
            rcases hcase with ⟨rfl, h2⟩ | ⟨rfl, h2⟩
            · go_wp2
              go_roundw
              case rel => exact ⟨r + 1, by omega, by go_num, B2⟩
              case measure => simp [intOf]; omega
            · obtain rfl : R = r := h2.symm
              have O2 := Kept.mk (O.out.keep B2.out)
              have HRl : R ≤ out.length := by rw [HLN.out]; exact hRk
              rename World => w6
              have S2 := Kept.mk (fun W => srcI_one (k : Int) W)
              have T1 := Kept.mk True.intro
              go_wp2_with (first | (have hz := T1; refine wpList_slice_hi rfl (.tmp 34) (.tmp 35) rfl w.heap.size _ out R rfl rfl O2.out HRl ?_; intro u1 hu1; have S1 := Kept.mk hu1; clear hz T1 hu1; have T2 := Kept.mk True.intro) | (at_builtin; have hz := T2; refine wpList_append_ints rfl (.tmp 33) (.tmp 36) rfl w6.heap.size (.slice none 0 0) [] rfl (outI_nil _ _) u1 (out.take R) rfl S1.out HNN.out.1 (Nat.le_refl _) ?_; intro v1 W1 ho1 hg1; have B3 := Kept.mk (grown_belowI (outI_nil w6.heap.size w6) hg1 (Below.refl _ _) (Nat.le_refl _)); have N1 := Kept.mk (ho1.keep (lit_below W1 (.cells #[.int .i64 (k : Int)] 3))); have B3a := Kept.mk (B3.out.trans ((lit_below W1 (.cells #[.int .i64 (k : Int)] 3)).mono B3.out.size)); clear hz T2 ho1 hg1 S1; have T3 := Kept.mk True.intro) | (at_builtin; have hz := T3; refine wpList_append_ints rfl (.tmp 38) (.tmp 40) rfl w6.heap.size v1 ([] ++ out.take R) rfl N1.out _ [(k : Int)] rfl (S2.out W1) HNN.out.2.1 B3a.out.size ?_; intro v2 W2 ho2 hg2; have N2 := Kept.mk ho2; have B4 := Kept.mk (grown_belowI N1.out hg2 B3a.out (Nat.le_refl _)); have O3 := Kept.mk (O2.out.keep B4.out); clear hz T3 ho2 hg2; have T4 := Kept.mk True.intro) | (have hz := T4; refine wpList_slice_lo rfl (.tmp 43) (.tmp 44) rfl w.heap.size _ out R rfl rfl O3.out HRl ?_; intro u3 hu3; have S3 := Kept.mk hu3; clear hz T4 hu3; have T5 := Kept.mk True.intro) | (at_builtin; have hz := T5; refine wpList_append_ints rfl (.tmp 42) (.tmp 45) rfl w6.heap.size v2 (([] ++ out.take R) ++ [(k : Int)]) rfl N2.out u3 (out.drop R) rfl S3.out HNN.out.2.2 B4.out.size ?_; intro v3 W3 ho3 hg3; have N3 := Kept.mk ho3; have B5 := Kept.mk (grown_belowI N2.out hg3 B4.out (Nat.le_refl _)); clear hz T5 ho3 hg3))
              go_roundw
              case rel => exact ⟨k + 1, by omega, by go_num, ⟨by rw [← HEQ.out]; exact N3.out.low (Nat.le_trans B.out.size B2.out.size)⟩, ⟨B.out.trans ((B2.out.trans (B5.out.mono B2.out.size)).mono B.out.size)⟩⟩
              case measure => simp [intOf]; omega
        · obtain rfl : R = r := by omega
          have HRK := Kept.mk (show R = k by omega)
          go_wp2
          refine rix2_region _ _ _ rfl R k oc oa _ rfl (by rw [HRK.out]; rfl) rfl rfl ?_
          intro f9 W9 d30 hb9
          simp only [List.foldl_cons, List.foldl_nil, d30]
          generalize f9 13 = y13
          generalize f9 14 = y14
          generalize f9 15 = y15
          generalize f9 16 = y16
          generalize f9 17 = y17
          generalize f9 18 = y18
          generalize f9 19 = y19
          generalize f9 20 = y20
          generalize f9 21 = y21
          generalize f9 22 = y22
          generalize f9 23 = y23
          generalize f9 24 = y24
          generalize f9 25 = y25
          generalize f9 26 = y26
          generalize f9 27 = y27
          generalize f9 28 = y28
          generalize f9 29 = y29
          clear d30
          simp only [List.setIfInBounds_toArray, List.set_cons_succ, List.set_cons_zero]
          have hw5 := B2.out.size
          replace B2 := Kept.mk (B2.out.trans (hb9.mono hw5))
          clear hb9
          have O2 := Kept.mk (O.out.keep B2.out)
          have HRl : R ≤ out.length := by rw [HLN.out]; exact hRk
          rename World => w6
          have S2 := Kept.mk (fun W => srcI_one (k : Int) W)
          have T1 := Kept.mk True.intro
          go_wp2_with (first | (have hz := T1; refine wpList_slice_hi rfl (.tmp 34) (.tmp 35) rfl w.heap.size _ out R rfl rfl O2.out HRl ?_; intro u1 hu1; have S1 := Kept.mk hu1; clear hz T1 hu1; have T2 := Kept.mk True.intro) | (at_builtin; have hz := T2; refine wpList_append_ints rfl (.tmp 33) (.tmp 36) rfl w6.heap.size (.slice none 0 0) [] rfl (outI_nil _ _) u1 (out.take R) rfl S1.out HNN.out.1 (Nat.le_refl _) ?_; intro v1 W1 ho1 hg1; have B3 := Kept.mk (grown_belowI (outI_nil w6.heap.size w6) hg1 (Below.refl _ _) (Nat.le_refl _)); have N1 := Kept.mk (ho1.keep (lit_below W1 (.cells #[.int .i64 (k : Int)] 3))); have B3a := Kept.mk (B3.out.trans ((lit_below W1 (.cells #[.int .i64 (k : Int)] 3)).mono B3.out.size)); clear hz T2 ho1 hg1 S1; have T3 := Kept.mk True.intro) | (at_builtin; have hz := T3; refine wpList_append_ints rfl (.tmp 38) (.tmp 40) rfl w6.heap.size v1 ([] ++ out.take R) rfl N1.out _ [(k : Int)] rfl (S2.out W1) HNN.out.2.1 B3a.out.size ?_; intro v2 W2 ho2 hg2; have N2 := Kept.mk ho2; have B4 := Kept.mk (grown_belowI N1.out hg2 B3a.out (Nat.le_refl _)); have O3 := Kept.mk (O2.out.keep B4.out); clear hz T3 ho2 hg2; have T4 := Kept.mk True.intro) | (have hz := T4; refine wpList_slice_lo rfl (.tmp 43) (.tmp 44) rfl w.heap.size _ out R rfl rfl O3.out HRl ?_; intro u3 hu3; have S3 := Kept.mk hu3; clear hz T4 hu3; have T5 := Kept.mk True.intro) | (at_builtin; have hz := T5; refine wpList_append_ints rfl (.tmp 42) (.tmp 45) rfl w6.heap.size v2 (([] ++ out.take R) ++ [(k : Int)]) rfl N2.out u3 (out.drop R) rfl S3.out HNN.out.2.2 B4.out.size ?_; intro v3 W3 ho3 hg3; have N3 := Kept.mk ho3; have B5 := Kept.mk (grown_belowI N2.out hg3 B4.out (Nat.le_refl _)); clear hz T5 ho3 hg3))
          go_roundw
          case rel => exact ⟨k + 1, by omega, by go_num, ⟨by rw [← HEQ.out]; exact N3.out.low (Nat.le_trans B.out.size B2.out.size)⟩, ⟨B.out.trans ((B2.out.trans (B5.out.mono B2.out.size)).mono B.out.size)⟩⟩
          case measure => simp [intOf]; omega
    · have hlt' : ¬ (k : Int) < (n : Int) := by omega
      obtain rfl : k = n := by omega
      have HE := Kept.mk (show idxM l = idxP l k by unfold idxM; rw [HN.out])
      go_wp2
      go_ret
      exact ⟨_, rfl, by rw [HE.out]; exact O.out, B.out⟩
end Go.Proofs.YtbgconagkgfplaaGreat
end
