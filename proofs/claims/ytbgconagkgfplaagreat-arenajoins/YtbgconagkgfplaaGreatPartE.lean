/- Joined texts: contracts of the program's functions, and the mathematics that they lean on. -/
import Derived.Test.YtbgconagkgfplaaGreatPartD
import Derived.SizedLaws
import Derived.SliceStrings
import Derived.Carry
import Derived.Deep.Slices
section
namespace Go.Proofs.YtbgconagkgfplaaGreat
open Go.RowKit Go.Shelf
set_option linter.unusedVariables false
set_option linter.unusedSimpArgs false
attribute [local irreducible] setN
attribute [local go_sem] Oper.semAt_some

def IAll (A : Ar) (w : World) (pre : List { x : El // OkEl A w x }) (W : World) : Prop := ∃ v ps, OutS (w.heap.size + 3) (w.heap.size + 1) v ps W ∧ ps.map (·.1) = pre.map (·.1.2.1) ∧ Below w.heap.size w W ∧ w.heap.size + 3 ≤ W.heap.size
theorem iall_own (A : Ar) (w : World) (B : Nat) (hB : w.heap.size + 3 ≤ B) : OwnFrom B (IAll A w) := by
  intro s W W' row ⟨v, ps, h1, h2, h3, h4⟩ hg hr
  exact ⟨v, ps, out_own (B := B) (by omega) h1 hg hr, h2, h3.grown hg (by omega) (fun k e => by have := (hr k e).1; omega), Nat.le_trans h4 hg.size⟩
theorem iall_keep {A : Ar} {w : World} {pre : List { x : El // OkEl A w x }} {W W' : World} (h : IAll A w pre W) (hb : Below W.heap.size W W') : IAll A w pre W' := by
  obtain ⟨v, ps, h1, h2, h3, h4⟩ := h
  exact ⟨v, ps, h1.keep hb, h2, h3.trans (hb.mono (by omega)), Nat.le_trans h4 hb.size⟩
theorem keeps_below {B : Nat} {W W' : World} (hb : Below W.heap.size W W') : KeepsFrom B W W' := ⟨hb.size, fun k o _ hk _ => (hb.block k (Array.getElem?_eq_some_iff.1 hk).1).trans hk⟩
theorem iall_b1 {b B : Nat} {W W' : World} {row : Option Nat} (hg : W.grownBy W' row) (hr : ∀ r, row = some r → B ≤ r ∧ ∃ o : Obj, W.heap[r]? = some o ∧ o.isCells = false) {h : Nat} {cs : List Value} (hb : Blk W h cs) (hlt : b < B ∧ b < W.heap.size) : W'.heap[b]? = W.heap[b]? := hg.block b hlt.2 (fun e => by have := (hr b e.symm).1; omega)
def AxAll (A : Ar) (vs vi : Value) (w : World) (x : { x : El // OkEl A w x }) (a' : Act) (W : World) : Prop := ∃ h, a' = { tmps := #[.agg #[.int .i64 A.cap, vs, vi], .pointer (some ⟨w.heap.size, 0, none⟩), .slice none 0 0, .pointer (some ⟨w.heap.size + 1, 0, none⟩), undef, .pointer (some ⟨h, 0, none⟩), .agg #[.int .i64 A.cap, vs, vi], .func (.func 123) #[] #[.pointer (some ⟨w.heap.size + 1 + 1, 0, none⟩)], .int .i64 (x.1.1 : Int), .agg #[.string ⟨x.1.2.1.key.toArray⟩, .int .i64 x.1.2.1.val.kind, .int .i64 x.1.2.1.val.time, .int .i64 x.1.2.1.val.node, .bool x.1.2.1.val.dead, .string ⟨x.1.2.1.val.text.toArray⟩, x.1.2.2.1, x.1.2.2.2, .int .u64 (x.1.2.1.val.flags.toNat : Int)], undef, undef, undef, undef, undef, undef], defers := [] } ∧ Blk W h [.string ⟨x.1.2.1.key.toArray⟩, .int .i64 x.1.2.1.val.kind, .int .i64 x.1.2.1.val.time, .int .i64 x.1.2.1.val.node, .bool x.1.2.1.val.dead, .string ⟨x.1.2.1.val.text.toArray⟩, x.1.2.2.1, x.1.2.2.2, .int .u64 (x.1.2.1.val.flags.toNat : Int)] ∧ w.heap.size + 3 ≤ h ∧ ∀ u, W.cell? ⟨w.heap.size + 1, 0, none⟩ = some u → u.ownBlock ≠ some h
set_option maxRecDepth 100000 in
set_option maxHeartbeats 2000000 in
theorem all_any (A : Ar) (v : Value) (w : World) (hv : isAr A v w) (hF : FitA A) : Calls Tryz.prog 42 #[v] w fun e W' => ∃ v', e = .returned v' ∧ isEns (allA A) v' W' ∧ Below w.heap.size w W' := by
  obtain ⟨vs, vi, rfl, hs, hi⟩ := hv
  refine (callsIn_wide (n := 5)).1 ?_
  refine callsIn_of_wp_marks Tryz.func42 rfl trivial ?_ rfl
  simp only [Tryz.ntmps42, List.size_toArray, List.length_cons, List.length_nil, Nat.reduceAdd, Nat.reduceSub, Array.replicate_succ, Array.replicate_zero, List.push_toArray, List.append_toArray, List.nil_append, List.cons_append]
  gi_wp2_with (refine ⟨trivial, (namec_call _ A vs vi _).mono ?_⟩; rintro e w' ⟨rfl, rfl⟩)
  have f1 := hF.slots
  have hB0 : Below w.heap.size w (((w.alloc (.cells #[.int .i64 A.cap, vs, vi] 25)).alloc (.cells #[.slice none 0 0] 22)).alloc (.cells #[.int .i64 A.cap, vs, vi] 25)) := (((Below.refl _ w).alloc (Nat.le_refl _) _).alloc (by simp) _).alloc (by simp; omega) _
  have hIt : ItA A vs vi w w.heap.size (w.heap.size + 1 + 1) (((w.alloc (.cells #[.int .i64 A.cap, vs, vi] 25)).alloc (.cells #[.slice none 0 0] 22)).alloc (.cells #[.int .i64 A.cap, vs, vi] 25)) := ⟨by simp; omega, by simp, fun b hb => hB0.block b hb, by
    have := heap_alloc_new ((w.alloc (.cells #[.int .i64 A.cap, vs, vi] 25)).alloc (.cells #[.slice none 0 0] 22)) (.cells #[.int .i64 A.cap, vs, vi] 25)
    simpa using this⟩
  have hst : Blk (((w.alloc (.cells #[.int .i64 A.cap, vs, vi] 25)).alloc (.cells #[.slice none 0 0] 22)).alloc (.cells #[.int .i64 A.cap, vs, vi] 25)) (w.heap.size + 1) [.slice none 0 0] := (Blk.new (w.alloc (.cells #[.int .i64 A.cap, vs, vi] 25)) 22 [.slice none 0 0] (w.heap.size + 1) (by simp)).alloc _
  have hI0 : IAll A w [] (((w.alloc (.cells #[.int .i64 A.cap, vs, vi] 25)).alloc (.cells #[.slice none 0 0] 22)).alloc (.cells #[.int .i64 A.cap, vs, vi] 25)) := ⟨.slice none 0 0, [], ⟨hst, World.ownsRow_nil _ _ _ _, (fun q hq => by cases hq), (fun q hq => by cases hq), (fun q hq => by cases hq)⟩, rfl, hB0, by simp⟩
  have hsz : (((w.alloc (.cells #[.int .i64 A.cap, vs, vi] 25)).alloc (.cells #[.slice none 0 0] 22)).alloc (.cells #[.int .i64 A.cap, vs, vi] 25)).heap.size = w.heap.size + 3 := by simp
  try simp only [World.size_alloc] at hIt
  try simp only [World.size_alloc]
  generalize (((w.alloc (.cells #[.int .i64 A.cap, vs, vi] 25)).alloc (.cells #[.slice none 0 0] 22)).alloc (.cells #[.int .i64 A.cap, vs, vi] 25)) = W0 at *
  refine wpIn_rangeFunc_ownH rfl (by decide) (gf := 123) (lb := #[.pointer (some ⟨w.heap.size + 1 + 1, 0, none⟩)]) rfl trivial (enters_of Tryz.func123 (by kernel_rfl) rfl)
    (namec_stops 4 (by omega) (w.heap.size + 1 + 1) A vs vi w W0 hs hi hF hIt) (kpA_t _ _) (kpA_put _ _ _ (by omega) (by omega)) (Below.refl _ _) (fun _ => rfl)
    (IAll A w) (fun _ _ _ => False) (iall_own A w _ (by omega)) (fun _ _ _ _ _ hs _ _ => hs) hI0 (AxAll A vs vi w)
    (fun x a' _ W W' row ⟨h, e, hb, hh, hu⟩ hg hr => ⟨h, e, blk_own (by simp) hb hg hr, hh, fun u hc => hu u (by rw [← hc]; exact (World.cell?_of_block (a := ⟨w.heap.size + 1, 0, none⟩) (iall_b1 (b := w.heap.size + 1) hg hr hb (by have := hb.lt; omega))).symm)⟩) ?assign ?body ?done ?stop
  case assign =>
    intro l pre x W K hIp hK
    have hp := x.2.2.1
    have hm := x.2.2.2
    obtain ⟨v0, ps0, hO0, _, hBw, hNw⟩ := id hIp
    obtain ⟨K1, K2, K3, K4, K5⟩ := enew W x.1.2.1 x.1.2.2.1 x.1.2.2.2 (stable_cells _ _ _ _ hp hBw) (stable_cells _ _ _ _ hm hBw) W.heap.size rfl
    have HH := Kept.mk ((Blk.new W 30 [.string ⟨#[]⟩, .int .i64 0, .int .i64 0, .int .i64 0, .bool false, .string ⟨#[]⟩, .slice none 0 0, .slice none 0 0, .int .u64 0] W.heap.size rfl).all_ (l := [.string ⟨x.1.2.1.key.toArray⟩, .int .i64 x.1.2.1.val.kind, .int .i64 x.1.2.1.val.time, .int .i64 x.1.2.1.val.node, .bool x.1.2.1.val.dead, .string ⟨x.1.2.1.val.text.toArray⟩, x.1.2.2.1, x.1.2.2.2, .int .u64 (x.1.2.1.val.flags.toNat : Int)]) rfl)
    have hun : ∀ u, (setN (W.alloc (.cells #[.string ⟨#[]⟩, .int .i64 0, .int .i64 0, .int .i64 0, .bool false, .string ⟨#[]⟩, .slice none 0 0, .slice none 0 0, .int .u64 0] 30)) W.heap.size 0 [.string ⟨x.1.2.1.key.toArray⟩, .int .i64 x.1.2.1.val.kind, .int .i64 x.1.2.1.val.time, .int .i64 x.1.2.1.val.node, .bool x.1.2.1.val.dead, .string ⟨x.1.2.1.val.text.toArray⟩, x.1.2.2.1, x.1.2.2.2, .int .u64 (x.1.2.1.val.flags.toNat : Int)]).cell? ⟨w.heap.size + 1, 0, none⟩ = some u → u.ownBlock ≠ some W.heap.size := fun u hc e => by
      have h1 := (K3.out.cell (p := ⟨w.heap.size + 1, 0, none⟩) (show w.heap.size + 1 < W.heap.size by omega)).symm.trans hc
      rw [hO0.st.cells.2 0 _ rfl] at h1
      injection h1 with h1
      subst h1
      have := (hO0.own.lt _ e).2
      omega
    have hK2 := hK _ _ (keeps_below K3.out) (kpA_below K3.out (by omega) (by omega)) (iall_keep hIp K3.out) ⟨W.heap.size, rfl, HH.out, hNw, hun⟩
    have HK := Kept.mk hK2
    clear hK2 hK hp hm
    simp only [encE]
    gi_wp2_with (have hz0 := K1; refine wpListIn_storeN (fun _ => trivial) 30 rfl (.tmp 5) (.tmp 9) rfl W.heap.size [.string ⟨x.1.2.1.key.toArray⟩, .int .i64 x.1.2.1.val.kind, .int .i64 x.1.2.1.val.time, .int .i64 x.1.2.1.val.node, .bool x.1.2.1.val.dead, .string ⟨x.1.2.1.val.text.toArray⟩, x.1.2.2.1, x.1.2.2.2, .int .u64 (x.1.2.1.val.flags.toNat : Int)] size_en rfl rfl K1.out rfl K2.out K5.out ?_; clear hz0 K1 K2 K5)
    exact HK.out
  case body =>
    rintro l pre x a' W hl _ hIp ⟨h, rfl, hbl, hh, hu⟩ hlt
    obtain ⟨v, ps, hO, hpm, hBw, hNw⟩ := hIp
    obtain ⟨hx1, hx2, hx3⟩ := x.2
    have hps : ps.length ≤ 1000 := by
      have := congrArg List.length hpm
      rw [List.length_map, List.length_map] at this
      omega
    have FE := hF.ents _ (List.mem_of_getElem? hx1)
    have hp := stable_cells _ _ _ _ hx2 hBw
    have hm := stable_cells _ _ _ _ hx3 hBw
    have op := cells_lt hx2
    have om := cells_lt hx3
    have hvs : ∀ s, v.ownBlock = some s → w.heap.size + 3 ≤ s ∧ s < W.heap.size := hO.own.lt
    have hob : ∀ s, v.ownBlock = some s → ∀ o : Obj, W.heap[s]? = some o → o.isCells = true := by
      intro s hs o ho
      obtain ⟨_, ⟨rfl, _⟩ | ⟨g, cap, cur, rfl, _, hg', _⟩⟩ := hO.own
      · cases hs
      · have : g = s := by injection hs
        subst this
        rw [hg'] at ho
        injection ho with ho
        subst ho
        rfl
    gi_wp2_with fail
    refine alapp_region _ _ _ ?hout rfl (w.heap.size + 1) h (w.heap.size + 3) ps.length [v] x.1.2.1 v x.1.2.2.1 x.1.2.2.2 (flatE ps) rfl rfl hO.st rfl hbl hp hm FE hO.own hps hNw (fun s hs => ⟨by have := (hvs s hs).1; omega, fun e => ?hne, op.imp id (fun h2 e => by have := h2 s e; have := (hvs s hs).1; omega), om.imp id (fun h2 e => by have := h2 s e; have := (hvs s hs).1; omega)⟩) ?hfin
    case hout => rintro ⟨a2, w2, hh2⟩; first | exact hh2 | exact hh2.elim | (simp [ownPostG] at hh2) | exact True.intro
    case hne => exact hu v (hO.st.cells.2 0 _ rfl) (by rw [hs, e])
    case hfin =>
      intro y v2 vp vm W2 h1 h2 h3 h4 h5 h6 h7 h8 h9
      have hO2 := hO.push (by omega) hNw x.1.2.1 v2 vp vm h1 h2 h3 h4 h5 h6 h7 h8 h9
      have hB2 := hBw.trans (h9.below (fun b hb => by rcases hb with rfl | hb; (· omega); (· have := (hvs b hb).1; omega)) (by omega))
      have hpost : KeepsFrom W0.heap.size W W2 ∧ KpA w.heap.size (w.heap.size + 1 + 1) W W2 ∧ IAll A w (pre ++ [x]) W2 := by
        refine ⟨⟨h9.size, fun k o hB hk ho => (h9.block k (Array.getElem?_eq_some_iff.1 hk).1 (fun e => ?_)).trans hk⟩, ⟨h9.size, fun b hb => h9.block b (by omega) (fun e => ?_)⟩, ⟨v2, _, hO2, by rw [List.map_append, hpm, List.map_append]; rfl, hB2, Nat.le_trans hNw h9.size⟩⟩
        · rcases e with rfl | e
          · omega
          · rw [hob k e o hk] at ho; cases ho
        · rcases e with e | e
          · omega
          · have := (hvs b e).1; omega
      first | exact hpost | (gi_wp2; exact hpost) | exact True.intro
  case done =>
    rintro D ys W hD hys ⟨v, ps, hO, hpm, hBw, hNw⟩ hK
    have hc := hO.st.cells.2 0 _ rfl
    have hen := Kept.mk (show isEns (allA A) v (W.putObj D (.deferred none)) by
      have h2 := (out_own (B := W0.heap.size) (by omega) hO (grownBy_putObj' W D (.deferred none)) (fun r e => by cases e; exact ⟨hD, _, hK, rfl⟩)).ens
      rw [hpm, hys] at h2
      exact h2)
    have hbl := Kept.mk (hBw.trans (belowK_b (w := w) (Nat.le_refl _) W D _ (.deferred none) (by omega) hK rfl rfl))
    gi_wp2
    refine ⟨by simp, .inl ⟨_, _, rfl, run_takeDeferred hK, ?_⟩⟩
    exact ⟨_, results_tmp rfl _ _ _, v, rfl, hen.out, hbl.out⟩
  case stop =>
    rintro D c pre W _ _ h _
    exact h.elim
end Go.Proofs.YtbgconagkgfplaaGreat
end
section
namespace Go.Proofs.YtbgconagkgfplaaGreat
open Go.RowKit Go.Shelf
set_option linter.unusedVariables false
set_option linter.unusedSimpArgs false
attribute [local irreducible] setN
attribute [local go_sem] Oper.semAt_some

def ckStep (at_ n : Int) (o : List En) (x : El) : List En := if at_ ≤ (x.1 : Int) ∧ (o.length : Int) < n then o ++ [x.2.1] else o
def ckL (at_ n : Int) (l : List El) : List En := l.foldl (ckStep at_ n) []
theorem ckL_snoc (at_ n : Int) (l : List El) (x : El) : ckL at_ n (l ++ [x]) = ckStep at_ n (ckL at_ n l) x := by unfold ckL; rw [List.foldl_append]; rfl
theorem ckL_le (at_ n : Int) (l : List El) : (ckL at_ n l).length ≤ l.length := by
  suffices h : ∀ (l : List El) (o : List En), (l.foldl (ckStep at_ n) o).length ≤ o.length + l.length by have := h l []; simpa [ckL] using this
  intro l
  induction l with
  | nil => intro o; simp
  | cons x r ih =>
    intro o
    rw [List.foldl_cons]
    refine Nat.le_trans (ih _) ?_
    unfold ckStep
    split
    · rw [List.length_append, List.length_cons, List.length_cons]; simp only [List.length_nil]; omega
    · rw [List.length_cons]; omega
theorem ckL_spec (at_ n : Int) (hat : 0 ≤ at_) (L : List En) : ∀ (k : Nat) (l : List El), k ≤ L.length → l.map (·.1) = List.range k → l.map (·.2.1) = L.take k → ckL at_ n l = ((L.take k).drop at_.toNat).take n.toNat := by
  intro k
  induction k with
  | zero =>
    intro l _ h1 h2
    have : l = [] := by have := congrArg List.length h1; simpa using this
    subst this
    simp [ckL]
  | succ k ih =>
    intro l hk h1 h2
    have hl : l.length = k + 1 := by have := congrArg List.length h1; simpa using this
    obtain ⟨r, x, rfl⟩ : ∃ r x, l = r ++ [x] := ⟨l.dropLast, l.getLast (by intro e; rw [e] at hl; simp at hl), (List.dropLast_concat_getLast _).symm⟩
    have hr : r.length = k := by simpa using hl
    rw [List.map_append, List.range_succ] at h1
    rw [List.map_append, List.take_add_one] at h2
    obtain ⟨E, hE⟩ : ∃ E, L[k]? = some E := ⟨_, List.getElem?_eq_getElem (by omega)⟩
    rw [hE] at h2
    have a1 := List.append_inj h1 (by simp [hr])
    have a2 := List.append_inj h2 (by simp; omega)
    have x1 : x.1 = k := by simpa using a1.2
    have x2 : x.2.1 = E := by simpa using a2.2
    rw [ckL_snoc, ih r (by omega) a1.1 a2.1, ckStep, x1, x2, List.take_add_one, hE]
    have hlk : (L.take k).length = k := by simp; omega
    by_cases h3 : at_ ≤ (k : Int)
    · have e1 : (L.take k ++ [E]).drop at_.toNat = (L.take k).drop at_.toNat ++ [E] := List.drop_append_of_le_length (by omega)
      show (if at_ ≤ (k : Int) ∧ _ then _ else _) = ((L.take k ++ [E]).drop at_.toNat).take n.toNat
      rw [e1]
      by_cases h4 : k - at_.toNat < n.toNat
      · have d1 : ((L.take k).drop at_.toNat).length = k - at_.toNat := by rw [List.length_drop, hlk]
        have t1 : ((L.take k).drop at_.toNat).take n.toNat = (L.take k).drop at_.toNat := List.take_of_length_le (by omega)
        have t2 : ((L.take k).drop at_.toNat ++ [E]).take n.toNat = (L.take k).drop at_.toNat ++ [E] := List.take_of_length_le (by rw [List.length_append, d1]; simp; omega)
        rw [t1, t2, if_pos ⟨h3, by rw [d1]; omega⟩]
      · have d1 : ((L.take k).drop at_.toNat).length = k - at_.toNat := by rw [List.length_drop, hlk]
        rw [if_neg (by rintro ⟨_, h5⟩; rw [List.length_take, d1] at h5; omega), List.take_append_of_le_length (by rw [d1]; omega)]
    · show (if at_ ≤ (k : Int) ∧ _ then _ else _) = ((L.take k ++ [E]).drop at_.toNat).take n.toNat
      have z1 : (L.take k).drop at_.toNat = [] := List.drop_eq_nil_of_le (by omega)
      have z2 : (L.take k ++ [E]).drop at_.toNat = [] := List.drop_eq_nil_of_le (by rw [List.length_append, hlk]; simp; omega)
      rw [if_neg (by rintro ⟨h5, _⟩; exact h3 h5), z1, z2]
def ICk (A : Ar) (at_ n : Int) (w : World) (pre : List { x : El // OkEl A w x }) (W : World) : Prop := ∃ v ps, OutS (w.heap.size + 5) (w.heap.size + 1 + 1 + 1) v ps W ∧ ps.map (·.1) = ckL at_ n (pre.map (·.1)) ∧ Below w.heap.size w W ∧ w.heap.size + 5 ≤ W.heap.size ∧ Blk W (w.heap.size + 1) [.int .i64 at_] ∧ Blk W (w.heap.size + 1 + 1) [.int .i64 n]
theorem ick_own (A : Ar) (at_ n : Int) (w : World) (B : Nat) (hB : w.heap.size + 5 ≤ B) : OwnFrom B (ICk A at_ n w) := by
  intro s W W' row ⟨v, ps, h1, h2, h3, h4, h5, h6⟩ hg hr
  exact ⟨v, ps, out_own (B := B) (by omega) h1 hg hr, h2, h3.grown hg (by omega) (fun k e => by have := (hr k e).1; omega), Nat.le_trans h4 hg.size, blk_own (by simp) h5 hg hr, blk_own (by simp) h6 hg hr⟩
theorem ick_keep {A : Ar} {at_ n : Int} {w : World} {pre : List { x : El // OkEl A w x }} {W W' : World} (h : ICk A at_ n w pre W) (hb : Below W.heap.size W W') : ICk A at_ n w pre W' := by
  obtain ⟨v, ps, h1, h2, h3, h4, h5, h6⟩ := h
  exact ⟨v, ps, h1.keep hb, h2, h3.trans (hb.mono (by omega)), Nat.le_trans h4 hb.size, h5.keep hb, h6.keep hb⟩
def AxCk (A : Ar) (at_ n : Int) (vs vi : Value) (w : World) (x : { x : El // OkEl A w x }) (a' : Act) (W : World) : Prop := ∃ h, a' = { tmps := #[.agg #[.int .i64 A.cap, vs, vi], .int .i64 at_, .int .i64 n, .pointer (some ⟨w.heap.size, 0, none⟩), .pointer (some ⟨w.heap.size + 1, 0, none⟩), .pointer (some ⟨w.heap.size + 1 + 1, 0, none⟩), .slice none 0 0, .pointer (some ⟨w.heap.size + 1 + 1 + 1, 0, none⟩), .int .i64 (x.1.1 : Int), .pointer (some ⟨h, 0, none⟩), .int .i64 at_, .bool false, .agg #[.int .i64 A.cap, vs, vi], .func (.func 124) #[] #[.pointer (some ⟨w.heap.size + 1 + 1 + 1 + 1, 0, none⟩)], .int .i64 (x.1.1 : Int), .agg #[.string ⟨x.1.2.1.key.toArray⟩, .int .i64 x.1.2.1.val.kind, .int .i64 x.1.2.1.val.time, .int .i64 x.1.2.1.val.node, .bool x.1.2.1.val.dead, .string ⟨x.1.2.1.val.text.toArray⟩, x.1.2.2.1, x.1.2.2.2, .int .u64 (x.1.2.1.val.flags.toNat : Int)], undef, undef, undef, undef, undef, undef, undef, undef, undef, undef, undef, undef, undef, undef, undef], defers := [] } ∧ Blk W h [.string ⟨x.1.2.1.key.toArray⟩, .int .i64 x.1.2.1.val.kind, .int .i64 x.1.2.1.val.time, .int .i64 x.1.2.1.val.node, .bool x.1.2.1.val.dead, .string ⟨x.1.2.1.val.text.toArray⟩, x.1.2.2.1, x.1.2.2.2, .int .u64 (x.1.2.1.val.flags.toNat : Int)] ∧ w.heap.size + 5 ≤ h ∧ ∀ u, W.cell? ⟨w.heap.size + 1 + 1 + 1, 0, none⟩ = some u → u.ownBlock ≠ some h
set_option maxRecDepth 100000 in
set_option maxHeartbeats 2000000 in
theorem chunk_any (A : Ar) (at_ n : Int) (v : Value) (w : World) (hv : isAr A v w) (hF : FitA A) : Calls Tryz.prog 46 #[v, .int .i64 at_, .int .i64 n] w fun e W' => ∃ v', e = .returned v' ∧ isEns (chunkA A at_ n) v' W' ∧ Below w.heap.size w W' := by
  obtain ⟨vs, vi, rfl, hs, hi⟩ := hv
  by_cases hneg : at_ < 0
  · have e0 : chunkA A at_ n = [] := by unfold chunkA; rw [if_pos hneg]
    have HB := Kept.mk (Blk.new (w.alloc (.cells #[.int .i64 A.cap, vs, vi] 25)) 3 [.int .i64 at_] (w.heap.size + 1) (by simp))
    have HB2 := Kept.mk (HB.out.alloc (.cells #[.int .i64 n] 3))
    have ka := HB2.out.cells.2 0 _ rfl
    have hB0 := Kept.mk (show Below w.heap.size w (((w.alloc (.cells #[.int .i64 A.cap, vs, vi] 25)).alloc (.cells #[.int .i64 at_] 3)).alloc (.cells #[.int .i64 n] 3)) from (((Below.refl _ w).alloc (Nat.le_refl _) _).alloc (by simp) _).alloc (by simp; omega) _)
    clear HB HB2
    rw [e0]
    go_enter Tryz.func46, Tryz.ntmps46
    go_wp2
    go_ret
    first
    | exact ⟨_, rfl, .inl ⟨rfl, rfl⟩, hB0.out⟩
    | exact ⟨.inl ⟨rfl, rfl⟩, hB0.out⟩
  have hat : ¬ at_ < 0 := hneg
  refine (callsIn_wide (n := 5)).1 ?_
  refine callsIn_of_wp_marks Tryz.func46 rfl trivial ?_ rfl
  simp only [Tryz.ntmps46, List.size_toArray, List.length_cons, List.length_nil, Nat.reduceAdd, Nat.reduceSub, Array.replicate_succ, Array.replicate_zero, List.push_toArray, List.append_toArray, List.nil_append, List.cons_append]
  gi_wp2_with (refine ⟨trivial, (placec_call _ A vs vi _).mono ?_⟩; rintro e w' ⟨rfl, rfl⟩)
  have f1 := hF.slots
  have hB0 : Below w.heap.size w (((((w.alloc (.cells #[.int .i64 A.cap, vs, vi] 25)).alloc (.cells #[.int .i64 at_] 3)).alloc (.cells #[.int .i64 n] 3)).alloc (.cells #[.slice none 0 0] 22)).alloc (.cells #[.int .i64 A.cap, vs, vi] 25)) := (((((Below.refl _ w).alloc (Nat.le_refl _) _).alloc (by simp) _).alloc (by simp; omega) _).alloc (by simp; omega) _).alloc (by simp; omega) _
  have hIt : ItA A vs vi w w.heap.size (w.heap.size + 1 + 1 + 1 + 1) (((((w.alloc (.cells #[.int .i64 A.cap, vs, vi] 25)).alloc (.cells #[.int .i64 at_] 3)).alloc (.cells #[.int .i64 n] 3)).alloc (.cells #[.slice none 0 0] 22)).alloc (.cells #[.int .i64 A.cap, vs, vi] 25)) := ⟨by simp; omega, by simp, fun b hb => hB0.block b hb, by
    have := heap_alloc_new ((((w.alloc (.cells #[.int .i64 A.cap, vs, vi] 25)).alloc (.cells #[.int .i64 at_] 3)).alloc (.cells #[.int .i64 n] 3)).alloc (.cells #[.slice none 0 0] 22)) (.cells #[.int .i64 A.cap, vs, vi] 25)
    simpa using this⟩
  have hst : Blk (((((w.alloc (.cells #[.int .i64 A.cap, vs, vi] 25)).alloc (.cells #[.int .i64 at_] 3)).alloc (.cells #[.int .i64 n] 3)).alloc (.cells #[.slice none 0 0] 22)).alloc (.cells #[.int .i64 A.cap, vs, vi] 25)) (w.heap.size + 1 + 1 + 1) [.slice none 0 0] := (Blk.new (((w.alloc (.cells #[.int .i64 A.cap, vs, vi] 25)).alloc (.cells #[.int .i64 at_] 3)).alloc (.cells #[.int .i64 n] 3)) 22 [.slice none 0 0] (w.heap.size + 1 + 1 + 1) (by simp)).alloc _
  have hba : Blk (((((w.alloc (.cells #[.int .i64 A.cap, vs, vi] 25)).alloc (.cells #[.int .i64 at_] 3)).alloc (.cells #[.int .i64 n] 3)).alloc (.cells #[.slice none 0 0] 22)).alloc (.cells #[.int .i64 A.cap, vs, vi] 25)) (w.heap.size + 1) [.int .i64 at_] := (((Blk.new (w.alloc (.cells #[.int .i64 A.cap, vs, vi] 25)) 3 [.int .i64 at_] (w.heap.size + 1) (by simp)).alloc _).alloc _).alloc _
  have hbn : Blk (((((w.alloc (.cells #[.int .i64 A.cap, vs, vi] 25)).alloc (.cells #[.int .i64 at_] 3)).alloc (.cells #[.int .i64 n] 3)).alloc (.cells #[.slice none 0 0] 22)).alloc (.cells #[.int .i64 A.cap, vs, vi] 25)) (w.heap.size + 1 + 1) [.int .i64 n] := ((Blk.new ((w.alloc (.cells #[.int .i64 A.cap, vs, vi] 25)).alloc (.cells #[.int .i64 at_] 3)) 3 [.int .i64 n] (w.heap.size + 1 + 1) (by simp)).alloc _).alloc _
  have hI0 : ICk A at_ n w [] (((((w.alloc (.cells #[.int .i64 A.cap, vs, vi] 25)).alloc (.cells #[.int .i64 at_] 3)).alloc (.cells #[.int .i64 n] 3)).alloc (.cells #[.slice none 0 0] 22)).alloc (.cells #[.int .i64 A.cap, vs, vi] 25)) := ⟨.slice none 0 0, [], ⟨hst, World.ownsRow_nil _ _ _ _, (fun q hq => by cases hq), (fun q hq => by cases hq), (fun q hq => by cases hq)⟩, rfl, hB0, by simp, hba, hbn⟩
  have hsz : (((((w.alloc (.cells #[.int .i64 A.cap, vs, vi] 25)).alloc (.cells #[.int .i64 at_] 3)).alloc (.cells #[.int .i64 n] 3)).alloc (.cells #[.slice none 0 0] 22)).alloc (.cells #[.int .i64 A.cap, vs, vi] 25)).heap.size = w.heap.size + 5 := by simp
  try simp only [World.size_alloc] at hIt
  try simp only [World.size_alloc]
  generalize (((((w.alloc (.cells #[.int .i64 A.cap, vs, vi] 25)).alloc (.cells #[.int .i64 at_] 3)).alloc (.cells #[.int .i64 n] 3)).alloc (.cells #[.slice none 0 0] 22)).alloc (.cells #[.int .i64 A.cap, vs, vi] 25)) = W0 at *
  refine wpIn_rangeFunc_ownH rfl (by decide) (gf := 124) (lb := #[.pointer (some ⟨w.heap.size + 1 + 1 + 1 + 1, 0, none⟩)]) rfl trivial (enters_of Tryz.func124 (by kernel_rfl) rfl)
    (placec_stops 4 (by omega) (w.heap.size + 1 + 1 + 1 + 1) A vs vi w W0 hs hi hF hIt) (kpA_t _ _) (kpA_put _ _ _ (by omega) (by omega)) (Below.refl _ _) (fun _ => rfl)
    (ICk A at_ n w) (fun _ _ _ => False) (ick_own A at_ n w _ (by omega)) (fun _ _ _ _ _ hs _ _ => hs) hI0 (AxCk A at_ n vs vi w)
    (fun x a' _ W W' row ⟨h, e, hb, hh, hu⟩ hg hr => ⟨h, e, blk_own (by simp) hb hg hr, hh, fun u hc => hu u (by rw [← hc]; exact (World.cell?_of_block (a := ⟨w.heap.size + 1 + 1 + 1, 0, none⟩) (iall_b1 (b := w.heap.size + 1 + 1 + 1) hg hr hb (by have := hb.lt; omega))).symm)⟩) ?assign ?body ?done ?stop
  case assign =>
    intro l pre x W K hIp hK
    have hp := x.2.2.1
    have hm := x.2.2.2
    obtain ⟨v0, ps0, hO0, _, hBw, hNw, _, _⟩ := id hIp
    obtain ⟨K1, K2, K3, K4, K5⟩ := enew W x.1.2.1 x.1.2.2.1 x.1.2.2.2 (stable_cells _ _ _ _ hp hBw) (stable_cells _ _ _ _ hm hBw) W.heap.size rfl
    have HH := Kept.mk ((Blk.new W 30 [.string ⟨#[]⟩, .int .i64 0, .int .i64 0, .int .i64 0, .bool false, .string ⟨#[]⟩, .slice none 0 0, .slice none 0 0, .int .u64 0] W.heap.size rfl).all_ (l := [.string ⟨x.1.2.1.key.toArray⟩, .int .i64 x.1.2.1.val.kind, .int .i64 x.1.2.1.val.time, .int .i64 x.1.2.1.val.node, .bool x.1.2.1.val.dead, .string ⟨x.1.2.1.val.text.toArray⟩, x.1.2.2.1, x.1.2.2.2, .int .u64 (x.1.2.1.val.flags.toNat : Int)]) rfl)
    have hun : ∀ u, (setN (W.alloc (.cells #[.string ⟨#[]⟩, .int .i64 0, .int .i64 0, .int .i64 0, .bool false, .string ⟨#[]⟩, .slice none 0 0, .slice none 0 0, .int .u64 0] 30)) W.heap.size 0 [.string ⟨x.1.2.1.key.toArray⟩, .int .i64 x.1.2.1.val.kind, .int .i64 x.1.2.1.val.time, .int .i64 x.1.2.1.val.node, .bool x.1.2.1.val.dead, .string ⟨x.1.2.1.val.text.toArray⟩, x.1.2.2.1, x.1.2.2.2, .int .u64 (x.1.2.1.val.flags.toNat : Int)]).cell? ⟨w.heap.size + 1 + 1 + 1, 0, none⟩ = some u → u.ownBlock ≠ some W.heap.size := fun u hc e => by
      have h1 := (K3.out.cell (p := ⟨w.heap.size + 1 + 1 + 1, 0, none⟩) (show w.heap.size + 1 + 1 + 1 < W.heap.size by omega)).symm.trans hc
      rw [hO0.st.cells.2 0 _ rfl] at h1
      injection h1 with h1
      subst h1
      have := (hO0.own.lt _ e).2
      omega
    have hK2 := hK _ _ (keeps_below K3.out) (kpA_below K3.out (by omega) (by omega)) (ick_keep hIp K3.out) ⟨W.heap.size, rfl, HH.out, hNw, hun⟩
    have HK := Kept.mk hK2
    clear hK2 hK hp hm
    simp only [encE]
    gi_wp2_with (have hz0 := K1; refine wpListIn_storeN (fun _ => trivial) 30 rfl (.tmp 9) (.tmp 15) rfl W.heap.size [.string ⟨x.1.2.1.key.toArray⟩, .int .i64 x.1.2.1.val.kind, .int .i64 x.1.2.1.val.time, .int .i64 x.1.2.1.val.node, .bool x.1.2.1.val.dead, .string ⟨x.1.2.1.val.text.toArray⟩, x.1.2.2.1, x.1.2.2.2, .int .u64 (x.1.2.1.val.flags.toNat : Int)] size_en rfl rfl K1.out rfl K2.out K5.out ?_; clear hz0 K1 K2 K5)
    exact HK.out
  case body =>
    rintro l pre x a' W hl _ hIp ⟨h, rfl, hbl, hh, hu⟩ hlt
    obtain ⟨v, ps, hO, hpm, hBw, hNw, hba1, hbn1⟩ := hIp
    obtain ⟨hx1, hx2, hx3⟩ := x.2
    have hps : ps.length ≤ 1000 := by
      have h1 := congrArg List.length hpm
      have h2 := ckL_le at_ n (pre.map (·.1))
      rw [List.length_map] at h1 h2
      omega
    have FE := hF.ents _ (List.mem_of_getElem? hx1)
    have hp := stable_cells _ _ _ _ hx2 hBw
    have hm := stable_cells _ _ _ _ hx3 hBw
    have op := cells_lt hx2
    have om := cells_lt hx3
    have hvs : ∀ s, v.ownBlock = some s → w.heap.size + 5 ≤ s ∧ s < W.heap.size := hO.own.lt
    have hob : ∀ s, v.ownBlock = some s → ∀ o : Obj, W.heap[s]? = some o → o.isCells = true := by
      intro s hs o ho
      obtain ⟨_, ⟨rfl, _⟩ | ⟨g, cap, cur, rfl, _, hg', _⟩⟩ := hO.own
      · cases hs
      · have : g = s := by injection hs
        subst this
        rw [hg'] at ho
        injection ho with ho
        subst ho
        rfl
    have kat := hba1.cells.2 0 _ rfl
    have kn := hbn1.cells.2 0 _ rfl
    have kv := hO.st.cells.2 0 _ rfl
    obtain ⟨va, vc, hve⟩ : ∃ a c, v = .slice a ps.length c := by
      obtain ⟨_, ⟨rfl, h0⟩ | ⟨g, cap, cur, rfl, _⟩⟩ := hO.own
      · exact ⟨_, _, by rw [h0]⟩
      · exact ⟨_, _, rfl⟩
    rw [hve] at kv
    have hpl : (ps.length : Int) = ((ckL at_ n (pre.map (·.1))).length : Int) := by have h1 := congrArg List.length hpm; rw [List.length_map] at h1; omega
    have no : ¬ (at_ ≤ (x.1.1 : Int) ∧ (ps.length : Int) < n) → KeepsFrom (w.heap.size + 5) W W ∧ KpA w.heap.size (w.heap.size + 1 + 1 + 1 + 1) W W ∧ ICk A at_ n w (pre ++ [x]) W := fun hc => ⟨⟨Nat.le_refl _, fun k o _ hk _ => hk⟩, ⟨Nat.le_refl _, fun _ _ => rfl⟩, ⟨v, ps, hO, by rw [hpm, List.map_append]; exact (show ckL at_ n (pre.map (·.1)) = ckL at_ n (pre.map (·.1) ++ [x.1]) by rw [ckL_snoc, ckStep, if_neg (by rw [← hpl]; exact hc)]), hBw, hNw, hba1, hbn1⟩⟩
    by_cases hc1 : at_ ≤ (x.1.1 : Int)
    · by_cases hc2 : (ps.length : Int) < n
      · have hcond : at_ ≤ (x.1.1 : Int) ∧ ((ckL at_ n (pre.map (·.1))).length : Int) < n := ⟨hc1, by rw [← hpl]; exact hc2⟩
        clear no
        gi_wp2_with fail
        refine ckapp_region _ _ _ ?hout rfl (w.heap.size + 1 + 1 + 1) h (w.heap.size + 5) ps.length [v] x.1.2.1 v x.1.2.2.1 x.1.2.2.2 (flatE ps) rfl rfl hO.st rfl hbl hp hm FE hO.own hps hNw (fun s hs => ⟨by have := (hvs s hs).1; omega, fun e => ?hne, op.imp id (fun h2 e => by have := h2 s e; have := (hvs s hs).1; omega), om.imp id (fun h2 e => by have := h2 s e; have := (hvs s hs).1; omega)⟩) ?hfin
        case hout => rintro ⟨a2, w2, hh2⟩; first | exact hh2 | exact hh2.elim | (simp [ownPostG] at hh2) | exact True.intro
        case hne => exact hu v (hO.st.cells.2 0 _ rfl) (by rw [hs, e])
        case hfin =>
          intro y v2 vp vm W2 h1 h2 h3 h4 h5 h6 h7 h8 h9
          have hO2 := hO.push (by omega) hNw x.1.2.1 v2 vp vm h1 h2 h3 h4 h5 h6 h7 h8 h9
          have hB2 := hBw.trans (h9.below (fun b hb => by rcases hb with rfl | hb; (· omega); (· have := (hvs b hb).1; omega)) (by omega))
          have hpost : KeepsFrom W0.heap.size W W2 ∧ KpA w.heap.size (w.heap.size + 1 + 1 + 1 + 1) W W2 ∧ ICk A at_ n w (pre ++ [x]) W2 := by
            refine ⟨⟨h9.size, fun k o hB hk ho => (h9.block k (Array.getElem?_eq_some_iff.1 hk).1 (fun e => ?_)).trans hk⟩, ⟨h9.size, fun b hb => h9.block b (by omega) (fun e => ?_)⟩, ⟨v2, _, hO2, by rw [List.map_append, hpm, List.map_append]; exact (show ckL at_ n (pre.map (·.1)) ++ [x.1.2.1] = ckL at_ n (pre.map (·.1) ++ [x.1]) by rw [ckL_snoc, ckStep, if_pos hcond]), hB2, Nat.le_trans hNw h9.size, h9.blk hba1 (by rintro (e | e); (· omega); (· have := (hvs _ e).1; omega)), h9.blk hbn1 (by rintro (e | e); (· omega); (· have := (hvs _ e).1; omega))⟩⟩
            · rcases e with rfl | e
              · omega
              · rw [hob k e o hk] at ho; cases ho
            · rcases e with e | e
              · omega
              · have := (hvs b e).1; omega
          first | exact hpost | (gi_wp2; exact hpost) | exact True.intro
      · have hpost := no (fun h => hc2 h.2)
        gi_wp2
        exact hpost
    · have hpost := no (fun h => hc1 h.1)
      gi_wp2
      exact hpost
  case done =>
    rintro D ys W hD hys ⟨v, ps, hO, hpm, hBw, hNw, hba1, hbn1⟩ hK
    have hc := hO.st.cells.2 0 _ rfl
    have hen := Kept.mk (show isEns (chunkA A at_ n) v (W.putObj D (.deferred none)) by
      have h2 := (out_own (B := W0.heap.size) (by omega) hO (grownBy_putObj' W D (.deferred none)) (fun r e => by cases e; exact ⟨hD, _, hK, rfl⟩)).ens
      rw [hpm] at h2
      obtain ⟨y1, y2⟩ := hys
      unfold chunkA
      rw [if_neg (by omega)]
      cases hok : okA A with
      | true =>
        rw [hok, if_pos rfl] at y1 y2
        rw [ckL_spec at_ n (by omega) A.slots A.slots.length (ys.map (·.1)) (Nat.le_refl _) (by rw [List.map_map]; exact y1) (by rw [List.map_map, List.take_of_length_le (Nat.le_refl _)]; exact y2), List.take_of_length_le (Nat.le_refl _)] at h2
        exact h2
      | false =>
        rw [hok, if_neg (by decide)] at y1
        have : ys = [] := by have := congrArg List.length y1; simpa using this
        subst this
        exact h2)
    have hbl := Kept.mk (hBw.trans (belowK_b (w := w) (Nat.le_refl _) W D _ (.deferred none) (by omega) hK rfl rfl))
    gi_wp2
    refine ⟨by simp, .inl ⟨_, _, rfl, run_takeDeferred hK, ?_⟩⟩
    exact ⟨_, results_tmp rfl _ _ _, v, rfl, hen.out, hbl.out⟩
  case stop =>
    rintro D c pre W _ _ h _
    exact h.elim
end Go.Proofs.YtbgconagkgfplaaGreat
end
section
namespace Go.Proofs.YtbgconagkgfplaaGreat
open Go.RowKit
set_option linter.unusedVariables false
set_option linter.unusedSimpArgs false
attribute [local irreducible] setN

theorem fit_joinEF (X Y : En) : FitE (joinEF X Y) := by
  by_cases h : joinEE X Y = 0
  · exact ok_fit' (joinEF_ok h)
  · unfold joinEF; rw [if_neg h]; exact ⟨by decide, ⟨by decide, by decide, by decide⟩⟩
set_option maxRecDepth 100000 in
set_option maxHeartbeats 2000000 in
theorem isbelow_any (X Y : En) (v u : Value) (w : World) (hv : isEn X v w) (hu : isEn Y u w) (hX : FitE X) (hY : FitE Y) : Calls Tryz.prog 95 #[v, u] w fun e w' => e = .returned (.bool (belowE X Y)) ∧ Below w.heap.size w w' := by
  obtain ⟨pa, ma, rfl, hpa, hma⟩ := hv
  obtain ⟨pb, mb, rfl, hpb, hmb⟩ := hu
  obtain ⟨hB, Va⟩ := ebox w X pa ma hpa hma (w.heap.size) (by simp)
  obtain ⟨hBn, Vb⟩ := ebox (w.alloc (.cells #[.string ⟨X.key.toArray⟩, .int .i64 X.val.kind, .int .i64 X.val.time, .int .i64 X.val.node, .bool X.val.dead, .string ⟨X.val.text.toArray⟩, pa, ma, .int .u64 (X.val.flags.toNat : Int)] 30)) Y pb mb (stable_cells _ _ _ _ hpb hB.out) (stable_cells _ _ _ _ hmb hB.out) (w.heap.size + 1) (by simp)
  replace Va := Kept.mk (Va.out.keep hBn.out)
  replace hB := Kept.mk (hB.out.trans (hBn.out.mono hB.out.size))
  clear hBn
  clear hpa hma hpb hmb
  obtain ⟨qa, ra, xa, ya, ka0, ka1, ka2, ka3, ka4, ka5, ka6, ka7, ka8⟩ := Va.out.open_
  have Xa := Kept.mk xa
  have Ya := Kept.mk ya
  clear xa ya
  obtain ⟨qb, rb, xb, yb, kb0, kb1, kb2, kb3, kb4, kb5, kb6, kb7, kb8⟩ := Vb.out.open_
  have Xb := Kept.mk xb
  have Yb := Kept.mk yb
  clear xb yb
  have FJ := Kept.mk (fit_joinEF X Y)
  have HE := Kept.mk (show belowE X Y = decide (joinEF X Y = Y) from rfl)
  obtain ⟨J, hJ⟩ : ∃ J, joinEF X Y = J := ⟨_, rfl⟩
  have hc := fun w hv hu => ejoin_any X Y (.agg #[.string ⟨X.key.toArray⟩, .int .i64 X.val.kind, .int .i64 X.val.time, .int .i64 X.val.node, .bool X.val.dead, .string ⟨X.val.text.toArray⟩, qa, ra, .int .u64 (X.val.flags.toNat : Int)]) (.agg #[.string ⟨Y.key.toArray⟩, .int .i64 Y.val.kind, .int .i64 Y.val.time, .int .i64 Y.val.node, .bool Y.val.dead, .string ⟨Y.val.text.toArray⟩, qb, rb, .int .u64 (Y.val.flags.toNat : Int)]) w hv hu hX hY
  rw [hJ] at hc HE FJ
  have HC := Kept.mk hc
  clear hc hJ
  go_enter Tryz.func95, Tryz.ntmps95
  go_wp2_with fail
  ((refine (HC.out _ Xa.out Xb.out).mono ?_); rintro e U ⟨v', rfl, ⟨p', m', rfl, hp', hm', _, _⟩, hb1⟩)
  obtain ⟨K1, K2, K3, K4, K5⟩ := enew U J p' m' hp' hm' U.heap.size rfl
  clear hp' hm'
  clear Xa Ya ka0 ka1 ka2 ka3 ka4 ka5 ka6 ka7 ka8
  clear Xb Yb kb0 kb1 kb2 kb3 kb4 kb5 kb6 kb7 kb8
  replace hB := Kept.mk (hB.out.trans ((hb1).mono hB.out.size))
  replace Va := Kept.mk (Va.out.keep (hb1))
  replace Vb := Kept.mk (Vb.out.keep (hb1))
  clear hb1
  go_wp2_with (have hz0 := K1; refine wpList_storeN 30 rfl (.tmp 5) (.tmp 11) rfl U.heap.size [.string ⟨J.key.toArray⟩, .int .i64 J.val.kind, .int .i64 J.val.time, .int .i64 J.val.node, .bool J.val.dead, .string ⟨J.val.text.toArray⟩, p', m', .int .u64 (J.val.flags.toNat : Int)] size_en rfl rfl K1.out rfl K2.out K5.out ?_; replace hB := Kept.mk (hB.out.trans ((K3.out).mono hB.out.size)); replace Va := Kept.mk (Va.out.keep (K3.out)); replace Vb := Kept.mk (Vb.out.keep (K3.out)); have Vc := Kept.mk (show VarN _ _ J from ⟨_, _, K4.out⟩); clear hz0 K1 K2 K3 K4 K5; generalize setN (U.alloc (.cells #[.string ⟨#[]⟩, .int .i64 0, .int .i64 0, .int .i64 0, .bool false, .string ⟨#[]⟩, .slice none 0 0, .slice none 0 0, .int .u64 0] 30)) U.heap.size 0 [.string ⟨J.key.toArray⟩, .int .i64 J.val.kind, .int .i64 J.val.time, .int .i64 J.val.node, .bool J.val.dead, .string ⟨J.val.text.toArray⟩, p', m', .int .u64 (J.val.flags.toNat : Int)] = W1 at *; generalize U.heap.size = gc at *; obtain ⟨qc, rc, xc, yc, kc0, kc1, kc2, kc3, kc4, kc5, kc6, kc7, kc8⟩ := Vc.out.open_; have Xc := Kept.mk xc; have Yc := Kept.mk yc; clear xc yc; obtain ⟨qb, rb, xb, yb, kb0, kb1, kb2, kb3, kb4, kb5, kb6, kb7, kb8⟩ := Vb.out.open_; have Xb := Kept.mk xb; have Yb := Kept.mk yb; clear xb yb)
  ((with_reducible refine (esame_any J Y _ _ _ Xc.out Xb.out FJ.out.val hY.val).mono ?_); rintro e W2 ⟨rfl, hb1⟩)
  clear Xc Yc kc0 kc1 kc2 kc3 kc4 kc5 kc6 kc7 kc8
  clear Xb Yb kb0 kb1 kb2 kb3 kb4 kb5 kb6 kb7 kb8
  replace hB := Kept.mk (hB.out.trans ((hb1).mono hB.out.size))
  replace Va := Kept.mk (Va.out.keep (hb1))
  replace Vb := Kept.mk (Vb.out.keep (hb1))
  replace Vc := Kept.mk (Vc.out.keep (hb1))
  clear hb1
  generalize decide (J = Y) = z at *
  go_wp2
  go_ret
  exact ⟨by rw [HE.out]; rfl, hB.out⟩
theorem isbelow_val (X Y : En) (z : Bool) (v u : Value) (w : World) (hv : isEn X v w) (hu : isEn Y u w) (hX : FitE X) (hY : FitE Y) (hz : belowE X Y = z) : Calls Tryz.prog 95 #[v, u] w fun e w' => ∃ x, e = .returned x ∧ isVal (.bool z) x w' ∧ Below w.heap.size w w' :=
  (isbelow_any X Y v u w hv hu hX hY).mono (by rintro e w' ⟨rfl, h⟩; exact ⟨_, rfl, by rw [hz]; rfl, h⟩)
noncomputable def blw1Ops : Array Oper := regionOfR Tryz.f44 6
set_option maxRecDepth 100000 in
set_option maxHeartbeats 2000000 in
theorem blw1_region {lp nn : Nat} (Q : Exit → Act → World → Prop) (a0 : Act) (w0 : World) (hQo : ¬ LetsOut Q) (hsz : a0.tmps.size = 39) (g h q bs os cs n : Nat) (cap : Int) (vi : Value) (z : Bool) (X Y : En) (xp xm yp ym : Value) (e7 : a0.tmps.getD 7 undef = .int .i64 (q : Int)) (e6 : a0.tmps.getD 6 undef = .pointer (some ⟨h, 0, none⟩)) (e3 : a0.tmps.getD 3 undef = .pointer (some ⟨g, 0, none⟩)) (HG : Blk w0 g [.int .i64 cap, .slice (some ⟨bs, os, none⟩) n cs, vi]) (HX : Blk w0 h [.string ⟨X.key.toArray⟩, .int .i64 X.val.kind, .int .i64 X.val.time, .int .i64 X.val.node, .bool X.val.dead, .string ⟨X.val.text.toArray⟩, xp, xm, .int .u64 (X.val.flags.toNat : Int)]) (hq : q < n) (hbs : bs < w0.heap.size) (hyc : ∀ (j : Nat) (x : Value), [.string ⟨Y.key.toArray⟩, .int .i64 Y.val.kind, .int .i64 Y.val.time, .int .i64 Y.val.node, .bool Y.val.dead, .string ⟨Y.val.text.toArray⟩, yp, ym, .int .u64 (Y.val.flags.toNat : Int)][j]? = some x → w0.cell? ⟨bs, os + q * 9 + j, none⟩ = some x) (hxp : isCells (X.val.plus.map intC) xp w0) (hxm : isCells (X.val.minus.map intC) xm w0) (hyp : isCells (Y.val.plus.map intC) yp w0) (hym : isCells (Y.val.minus.map intC) ym w0) (fX : FitE X) (fY : FitE Y) (hz : belowE X Y = z)
    (hQ : ∀ (g : Nat → Value) (w : World), g 38 = .bool !z → Below w0.heap.size w0 w → Q .normal { tmps := [27, 28, 29, 30, 31, 32, 33, 34, 35, 36, 37, 38].foldl (fun t s => t.setIfInBounds s (g s)) a0.tmps, defers := a0.defers } w) :
    (Code.region 6 blw1Ops true).wpIn (Fence.wide.inRound lp) nn Tryz.prog Q a0 w0 := by
  refine wpIn_region_flow (by kernel_rfl) hQo mixed (by rw [hsz]; kernel_rfl) ?_
  rw [show blw1Ops.size = 12 by kernel_rfl]
  refine ⟨isVal (.int .i64 (q : Int)), step_move (.tmp 7) (by kernel_rfl) (wanted_none (by kernel_rfl)) (stable_val _) (knows_old 7 (.int .i64 (q : Int)) (by kernel_rfl) e7), ?_⟩
  refine ⟨isVal (.bool false), step_bin .eql 3 3 (.tmp 27) (.const (.int .i64 (-1))) (.int .i64 (q : Int)) (.int .i64 (-1)) (.bool false) (by kernel_rfl) (wanted_none (by kernel_rfl)) (knows_new (V := isVal (.int .i64 (q : Int))) 27 0 (by kernel_rfl) (by kernel_rfl) (by kernel_rfl)) (knows_const _) (fun _ => rfl) (eql_int _ _ _ _ _ (by first | (simp; done) | (simp; omega))), ?_⟩
  refine ⟨isVal (.bool false), step_move (.tmp 28) (by kernel_rfl) (wanted_none (by kernel_rfl)) (stable_val _) (knows_new (V := isVal (.bool false)) 28 1 (by kernel_rfl) (by kernel_rfl) (by kernel_rfl)), ?_⟩
  refine ⟨isVal (.agg #[.string ⟨X.key.toArray⟩, .int .i64 X.val.kind, .int .i64 X.val.time, .int .i64 X.val.node, .bool X.val.dead, .string ⟨X.val.text.toArray⟩, xp, xm, .int .u64 (X.val.flags.toNat : Int)]), step_loadA 30 (.tmp 6) (h) (0) [.string ⟨X.key.toArray⟩, .int .i64 X.val.kind, .int .i64 X.val.time, .int .i64 X.val.node, .bool X.val.dead, .string ⟨X.val.text.toArray⟩, xp, xm, .int .u64 (X.val.flags.toNat : Int)] (by kernel_rfl) (wanted_some 2 29 false (by kernel_rfl) (by kernel_rfl) (by kernel_rfl) (by kernel_rfl)) (knows_old 6 (.pointer (some ⟨h, 0, none⟩)) (by kernel_rfl) e6) size_en agg_en (⟨HX.lt, fun j x hx => by rw [Nat.zero_add]; exact HX.cells.2 j x hx⟩), ?_⟩
  refine ⟨isVal (.pointer (some ⟨g, 1, none⟩)), step_field 25 (.tmp 3) 1 ⟨g, 0, none⟩ ⟨g, 1, none⟩ (by kernel_rfl) (wanted_some 2 29 false (by kernel_rfl) (by kernel_rfl) (by kernel_rfl) (by kernel_rfl)) (knows_old 3 (.pointer (some ⟨g, 0, none⟩)) (by kernel_rfl) e3) (f_ar_0_1 (g)), ?_⟩
  refine ⟨isVal (.slice (some ⟨bs, os, none⟩) n cs), step_read 22 (.tmp 31) ⟨g, 1, none⟩ (.slice (some ⟨bs, os, none⟩) n cs) (by kernel_rfl) (wanted_some 2 29 false (by kernel_rfl) (by kernel_rfl) (by kernel_rfl) (by kernel_rfl)) (knows_new (V := isVal (.pointer (some ⟨g, 1, none⟩))) 31 4 (by kernel_rfl) (by kernel_rfl) (by kernel_rfl)) (HG.cells.2 1 _ rfl) (HG.lt) (agg_noS), ?_⟩
  refine ⟨isVal (.int .i64 (q : Int)), step_move (.tmp 7) (by kernel_rfl) (wanted_some 2 29 false (by kernel_rfl) (by kernel_rfl) (by kernel_rfl) (by kernel_rfl)) (stable_val _) (knows_old 7 (.int .i64 (q : Int)) (by kernel_rfl) e7), ?_⟩
  refine ⟨isVal (.pointer (some ⟨bs, os + q * 9, none⟩)), step_placeE 22 30 (.tmp 32) (.tmp 33) bs (os) (n) (cs) (q) (os + q * 9) (by kernel_rfl) (wanted_some 2 29 false (by kernel_rfl) (by kernel_rfl) (by kernel_rfl) (by kernel_rfl)) (knows_new (V := isVal (.slice (some ⟨bs, os, none⟩) n cs)) 32 5 (by kernel_rfl) (by kernel_rfl) (by kernel_rfl)) (knows_new (V := isVal (.int .i64 (q : Int))) 33 6 (by kernel_rfl) (by kernel_rfl) (by kernel_rfl)) Tryz.underlying22 (by kernel_rfl) (⟨hq, rfl⟩), ?_⟩
  refine ⟨isVal (.agg #[.string ⟨Y.key.toArray⟩, .int .i64 Y.val.kind, .int .i64 Y.val.time, .int .i64 Y.val.node, .bool Y.val.dead, .string ⟨Y.val.text.toArray⟩, yp, ym, .int .u64 (Y.val.flags.toNat : Int)]), step_loadA 30 (.tmp 34) (bs) (os + q * 9) [.string ⟨Y.key.toArray⟩, .int .i64 Y.val.kind, .int .i64 Y.val.time, .int .i64 Y.val.node, .bool Y.val.dead, .string ⟨Y.val.text.toArray⟩, yp, ym, .int .u64 (Y.val.flags.toNat : Int)] (by kernel_rfl) (wanted_some 2 29 false (by kernel_rfl) (by kernel_rfl) (by kernel_rfl) (by kernel_rfl)) (knows_new (V := isVal (.pointer (some ⟨bs, os + q * 9, none⟩))) 34 7 (by kernel_rfl) (by kernel_rfl) (by kernel_rfl)) size_en agg_en (⟨hbs, hyc⟩), ?_⟩
  refine ⟨isVal (.bool z), step_call 95 #[.tmp 30, .tmp 35] #[30, 30] #[.agg #[.string ⟨X.key.toArray⟩, .int .i64 X.val.kind, .int .i64 X.val.time, .int .i64 X.val.node, .bool X.val.dead, .string ⟨X.val.text.toArray⟩, xp, xm, .int .u64 (X.val.flags.toNat : Int)], .agg #[.string ⟨Y.key.toArray⟩, .int .i64 Y.val.kind, .int .i64 Y.val.time, .int .i64 Y.val.node, .bool Y.val.dead, .string ⟨Y.val.text.toArray⟩, yp, ym, .int .u64 (Y.val.flags.toNat : Int)]] (by kernel_rfl) (wanted_some 2 29 false (by kernel_rfl) (by kernel_rfl) (by kernel_rfl) (by kernel_rfl)) (stable_val _) (args2 (.tmp 30) (.tmp 35) (.agg #[.string ⟨X.key.toArray⟩, .int .i64 X.val.kind, .int .i64 X.val.time, .int .i64 X.val.node, .bool X.val.dead, .string ⟨X.val.text.toArray⟩, xp, xm, .int .u64 (X.val.flags.toNat : Int)]) (.agg #[.string ⟨Y.key.toArray⟩, .int .i64 Y.val.kind, .int .i64 Y.val.time, .int .i64 Y.val.node, .bool Y.val.dead, .string ⟨Y.val.text.toArray⟩, yp, ym, .int .u64 (Y.val.flags.toNat : Int)]) (knows_new (V := isVal (.agg #[.string ⟨X.key.toArray⟩, .int .i64 X.val.kind, .int .i64 X.val.time, .int .i64 X.val.node, .bool X.val.dead, .string ⟨X.val.text.toArray⟩, xp, xm, .int .u64 (X.val.flags.toNat : Int)])) 30 3 (by kernel_rfl) (by kernel_rfl) (by kernel_rfl)) (knows_new (V := isVal (.agg #[.string ⟨Y.key.toArray⟩, .int .i64 Y.val.kind, .int .i64 Y.val.time, .int .i64 Y.val.node, .bool Y.val.dead, .string ⟨Y.val.text.toArray⟩, yp, ym, .int .u64 (Y.val.flags.toNat : Int)])) 35 8 (by kernel_rfl) (by kernel_rfl) (by kernel_rfl))) (enters_of Tryz.func95 (by kernel_rfl) rfl) (by intro w' hb; exact isbelow_val X Y z _ _ w' (en_mk hxp hxm hb) (en_mk hyp hym hb) fX fY hz), ?_⟩
  refine ⟨isVal (.bool !z), step_un .not 4 (.tmp 36) (.bool z) (.bool !z) (by kernel_rfl) (wanted_some 2 29 false (by kernel_rfl) (by kernel_rfl) (by kernel_rfl) (by kernel_rfl)) (knows_new (V := isVal (.bool z)) 36 9 (by kernel_rfl) (by kernel_rfl) (by kernel_rfl)) (fun _ => rfl), ?_⟩
  refine ⟨isVal (.bool !z), step_pick (.tmp 29) (.const (.bool true)) (.tmp 37) false (by kernel_rfl) (wanted_none (by kernel_rfl)) (stable_val _) (knows_new (V := isVal (.bool false)) 29 2 (by kernel_rfl) (by kernel_rfl) (by kernel_rfl)) (knows_new (V := isVal (.bool !z)) 37 10 (by kernel_rfl) (by kernel_rfl) (by kernel_rfl)), ?_⟩
  intro a w hkp hb hd
  rw [kept_of hkp [some 27, some 28, some 29, some 30, some 31, some 32, some 33, some 34, some 35, some 36, some 37, some 38] [27, 28, 29, 30, 31, 32, 33, 34, 35, 36, 37, 38] (by kernel_rfl) (by decide)]
  have d38 := fdone_of (hd 11 (by rw [show blw1Ops.size = 12 by kernel_rfl]; decide)) (t := 38) (V := isVal (.bool !z)) (by kernel_rfl) (by kernel_rfl)
  exact hQ (fun s => a.tmps.getD s undef) w d38 hb
noncomputable def blw2Ops : Array Oper := regionOfR Tryz.f44 6
set_option maxRecDepth 100000 in
set_option maxHeartbeats 2000000 in
theorem blw2_region {lp nn : Nat} (Q : Exit → Act → World → Prop) (a0 : Act) (w0 : World) (hQo : ¬ LetsOut Q) (hsz : a0.tmps.size = 39) (e7 : a0.tmps.getD 7 undef = .int .i64 (-1))
    (hQ : ∀ (g : Nat → Value) (w : World), g 38 = .bool true → Below w0.heap.size w0 w → Q .normal { tmps := [27, 28, 29, 30, 31, 32, 33, 34, 35, 36, 37, 38].foldl (fun t s => t.setIfInBounds s (g s)) a0.tmps, defers := a0.defers } w) :
    (Code.region 6 blw2Ops true).wpIn (Fence.wide.inRound lp) nn Tryz.prog Q a0 w0 := by
  refine wpIn_region_flow (by kernel_rfl) hQo mixed (by rw [hsz]; kernel_rfl) ?_
  rw [show blw2Ops.size = 12 by kernel_rfl]
  refine ⟨isVal (.int .i64 (-1)), step_move (.tmp 7) (by kernel_rfl) (wanted_none (by kernel_rfl)) (stable_val _) (knows_old 7 (.int .i64 (-1)) (by kernel_rfl) e7), ?_⟩
  refine ⟨isVal (.bool true), step_bin .eql 3 3 (.tmp 27) (.const (.int .i64 (-1))) (.int .i64 (-1)) (.int .i64 (-1)) (.bool true) (by kernel_rfl) (wanted_none (by kernel_rfl)) (knows_new (V := isVal (.int .i64 (-1))) 27 0 (by kernel_rfl) (by kernel_rfl) (by kernel_rfl)) (knows_const _) (fun _ => rfl) (eql_int _ _ _ _ _ (by decide)), ?_⟩
  refine ⟨isVal (.bool true), step_move (.tmp 28) (by kernel_rfl) (wanted_none (by kernel_rfl)) (stable_val _) (knows_new (V := isVal (.bool true)) 28 1 (by kernel_rfl) (by kernel_rfl) (by kernel_rfl)), ?_⟩
  refine ⟨_, step_skip 2 29 false true (by kernel_rfl) (by kernel_rfl) (by kernel_rfl) (by kernel_rfl) rfl, ?_⟩
  refine ⟨_, step_skip 2 29 false true (by kernel_rfl) (by kernel_rfl) (by kernel_rfl) (by kernel_rfl) rfl, ?_⟩
  refine ⟨_, step_skip 2 29 false true (by kernel_rfl) (by kernel_rfl) (by kernel_rfl) (by kernel_rfl) rfl, ?_⟩
  refine ⟨_, step_skip 2 29 false true (by kernel_rfl) (by kernel_rfl) (by kernel_rfl) (by kernel_rfl) rfl, ?_⟩
  refine ⟨_, step_skip 2 29 false true (by kernel_rfl) (by kernel_rfl) (by kernel_rfl) (by kernel_rfl) rfl, ?_⟩
  refine ⟨_, step_skip 2 29 false true (by kernel_rfl) (by kernel_rfl) (by kernel_rfl) (by kernel_rfl) rfl, ?_⟩
  refine ⟨_, step_skip 2 29 false true (by kernel_rfl) (by kernel_rfl) (by kernel_rfl) (by kernel_rfl) rfl, ?_⟩
  refine ⟨_, step_skip 2 29 false true (by kernel_rfl) (by kernel_rfl) (by kernel_rfl) (by kernel_rfl) rfl, ?_⟩
  refine ⟨isVal (.bool true), step_pick (.tmp 29) (.const (.bool true)) (.tmp 37) true (by kernel_rfl) (wanted_none (by kernel_rfl)) (stable_val _) (knows_new (V := isVal (.bool true)) 29 2 (by kernel_rfl) (by kernel_rfl) (by kernel_rfl)) (knows_const _), ?_⟩
  intro a w hkp hb hd
  rw [kept_of hkp [some 27, some 28, some 29, some 30, some 31, some 32, some 33, some 34, some 35, some 36, some 37, some 38] [27, 28, 29, 30, 31, 32, 33, 34, 35, 36, 37, 38] (by kernel_rfl) (by decide)]
  have d38 := fdone_of (hd 11 (by rw [show blw2Ops.size = 12 by kernel_rfl]; decide)) (t := 38) (V := isVal (.bool true)) (by kernel_rfl) (by kernel_rfl)
  exact hQ (fun s => a.tmps.getD s undef) w d38 hb
end Go.Proofs.YtbgconagkgfplaaGreat
end
section
namespace Go.Proofs.YtbgconagkgfplaaGreat
open Go.RowKit Go.Shelf
set_option linter.unusedVariables false
set_option linter.unusedSimpArgs false
attribute [local irreducible] setN
attribute [local go_sem] Oper.semAt_some

theorem find_name {C : Ar} {X Y : En} (h : nameB X Y = true) : findI C X = findI C Y := by
  have e1 : posN (ordA C) X = posN (ordA C) Y := by unfold posN; congr 1; funext y; exact less_right h
  have e2 : hitB (ordA C) X = hitB (ordA C) Y := by
    unfold hitB
    rw [e1]
    cases (ordA C)[posN (ordA C) Y]? with
    | none => rfl
    | some y =>
      show nameB y X = nameB y Y
      rw [Bool.eq_iff_iff]
      exact ⟨fun h2 => name_trans h2 h, fun h2 => name_trans h2 (name_symm h)⟩
  unfold findI placeI
  rw [e1, e2]
structure IBl (A C : Ar) (us ui : Value) (w : World) (N0 : Nat) (W : World) : Prop where
  rb : Blk W (w.heap.size + 1 + 1) [.bool false]
  cb : Blk W (w.heap.size + 1) [.int .i64 C.cap, us, ui]
  lo : Below w.heap.size w W
  sz : N0 ≤ W.heap.size
def IB (A C : Ar) (us ui : Value) (w : World) (N0 : Nat) (pre : List { x : El // OkEl A w x }) (W : World) : Prop := IBl A C us ui w N0 W ∧ ∀ x ∈ pre, inB C x.1.2.1 = true
def IBx (A C : Ar) (w : World) (c : Code) (pre : List { x : El // OkEl A w x }) (W : World) : Prop := c = .ret ∧ Blk W (w.heap.size + 1 + 1) [.bool false] ∧ Below w.heap.size w W ∧ ∃ x ∈ pre, inB C x.1.2.1 = false
theorem ib_own {A C : Ar} {us ui : Value} {w : World} {N0 : Nat} (h3 : w.heap.size + 1 + 1 + 1 ≤ N0) (B : Nat) (hB : N0 ≤ B) : OwnFrom B (IB A C us ui w N0) := by
  intro s W W' row ⟨h, hp⟩ hg hr
  have := h.sz
  exact ⟨⟨blk_own (by simp) h.rb hg hr, blk_own (by simp) h.cb hg hr, h.lo.grown hg (by omega) (fun k e => by have := (hr k e).1; omega), Nat.le_trans h.sz hg.size⟩, hp⟩
theorem ibx_own {A C : Ar} {w : World} (c : Code) (B : Nat) (hB : w.heap.size ≤ B) : OwnFrom B (IBx A C w c) := by
  intro s W W' row ⟨h1, h2, h3, h4⟩ hg hr
  exact ⟨h1, blk_own (by simp) h2 hg hr, h3.grown hg h3.size (fun k e => by have := (hr k e).1; omega), h4⟩
theorem IBl.keep {A C : Ar} {us ui : Value} {w : World} {N0 : Nat} {W W' : World} (h : IBl A C us ui w N0 W) (hN : w.heap.size ≤ N0) (hb : Below W.heap.size W W') : IBl A C us ui w N0 W' :=
  ⟨h.rb.keep hb, h.cb.keep hb, h.lo.trans (hb.mono (Nat.le_trans hN h.sz)), Nat.le_trans h.sz hb.size⟩
def AxB (A C : Ar) (vs vi us ui : Value) (w : World) (g3 N0 : Nat) (x : { x : El // OkEl A w x }) (a' : Act) (W : World) : Prop := ∃ h, a' = { tmps := #[.agg #[.int .i64 A.cap, vs, vi], .agg #[.int .i64 C.cap, us, ui], .pointer (some ⟨w.heap.size, 0, none⟩), .pointer (some ⟨w.heap.size + 1, 0, none⟩), .pointer (some ⟨w.heap.size + 1 + 1, 0, none⟩), undef, .pointer (some ⟨h, 0, none⟩), undef, .agg #[.int .i64 A.cap, vs, vi], .int .i64 0, .bool false, .bool false, .agg #[.int .i64 C.cap, us, ui], .int .i64 0, .bool false, .bool false, .agg #[.int .i64 A.cap, vs, vi], .func (.func 124) #[] #[.pointer (some ⟨g3, 0, none⟩)], .int .i64 (x.1.1 : Int), .agg #[.string ⟨x.1.2.1.key.toArray⟩, .int .i64 x.1.2.1.val.kind, .int .i64 x.1.2.1.val.time, .int .i64 x.1.2.1.val.node, .bool x.1.2.1.val.dead, .string ⟨x.1.2.1.val.text.toArray⟩, x.1.2.2.1, x.1.2.2.2, .int .u64 (x.1.2.1.val.flags.toNat : Int)], undef, undef, undef, undef, undef, undef, undef, undef, undef, undef, undef, undef, undef, undef, undef, undef, undef, undef, undef], defers := [] } ∧ Blk W h [.string ⟨x.1.2.1.key.toArray⟩, .int .i64 x.1.2.1.val.kind, .int .i64 x.1.2.1.val.time, .int .i64 x.1.2.1.val.node, .bool x.1.2.1.val.dead, .string ⟨x.1.2.1.val.text.toArray⟩, x.1.2.2.1, x.1.2.2.2, .int .u64 (x.1.2.1.val.flags.toNat : Int)] ∧ N0 ≤ h
set_option maxRecDepth 100000 in
set_option maxHeartbeats 2000000 in
theorem below_no (A C : Ar) (v u : Value) (w : World) (hv : isAr A v w) (hu : isAr C u w) (hA : FitA A) (hC : FitA C) (hno : okA A = false ∨ okA C = false) : Calls Tryz.prog 44 #[v, u] w fun e w' => e = .returned (.bool (belowA A C)) ∧ Below w.heap.size w w' := by
  obtain ⟨vs, vi, rfl, hs, hi⟩ := hv
  obtain ⟨us, ui, rfl, ks, ki⟩ := hu
  have hE := Kept.mk (show belowA A C = false by unfold belowA; rcases hno with h | h <;> rw [h] <;> simp)
  have hb0 : Below w.heap.size w (((w.alloc (.cells #[.int .i64 A.cap, vs, vi] 25)).alloc (.cells #[.int .i64 C.cap, us, ui] 25)).alloc (.cells #[.bool false] 4)) := (((Below.refl _ w).alloc (Nat.le_refl _) _).alloc (by simp) _).alloc (by simp; omega) _
  have hB := Kept.mk hb0
  have BA := Kept.mk (((Blk.new w 25 [.int .i64 A.cap, vs, vi] w.heap.size rfl).alloc (.cells #[.int .i64 C.cap, us, ui] 25)).alloc (.cells #[.bool false] 4))
  have BC := Kept.mk ((Blk.new (w.alloc (.cells #[.int .i64 A.cap, vs, vi] 25)) 25 [.int .i64 C.cap, us, ui] (w.heap.size + 1) (by simp)).alloc (.cells #[.bool false] 4))
  have BR := Kept.mk (Blk.new ((w.alloc (.cells #[.int .i64 A.cap, vs, vi] 25)).alloc (.cells #[.int .i64 C.cap, us, ui] 25)) 4 [.bool false] (w.heap.size + 1 + 1) (by simp))
  have XA := Kept.mk (show isAr A (.agg #[.int .i64 A.cap, vs, vi]) (((w.alloc (.cells #[.int .i64 A.cap, vs, vi] 25)).alloc (.cells #[.int .i64 C.cap, us, ui] 25)).alloc (.cells #[.bool false] 4)) from stable_ar A _ _ _ ⟨vs, vi, rfl, hs, hi⟩ hb0)
  have XC0 := Kept.mk (show isAr C (.agg #[.int .i64 C.cap, us, ui]) (((w.alloc (.cells #[.int .i64 A.cap, vs, vi] 25)).alloc (.cells #[.int .i64 C.cap, us, ui] 25)).alloc (.cells #[.bool false] 4)) from stable_ar C _ _ _ ⟨us, ui, rfl, ks, ki⟩ hb0)
  have ka0 := BA.out.cells.2 0 _ rfl
  have ka1 := BA.out.cells.2 1 _ rfl
  have ka2 := BA.out.cells.2 2 _ rfl
  clear hs hi ks ki hb0 BA
  go_enter Tryz.func44, Tryz.ntmps44
  go_wp2_with fail
  generalize (((w.alloc (.cells #[.int .i64 A.cap, vs, vi] 25)).alloc (.cells #[.int .i64 C.cap, us, ui] 25)).alloc (.cells #[.bool false] 4)) = W0 at *
  refine (acheck_any A _ _ XA.out hA).mono ?_
  rintro e W1 ⟨rfl, hb⟩
  replace hB := Kept.mk (hB.out.trans (hb.mono hB.out.size))
  replace BC := Kept.mk (BC.out.keep hb)
  replace BR := Kept.mk (BR.out.keep hb)
  have XC := Kept.mk (stable_ar C _ _ _ XC0.out hb)
  clear hb ka0 ka1 ka2 XA XC0
  cases hok : okA A with
  | false =>
    rw [chk_A0 hok]
    have kr := BR.out.cells.2 0 _ rfl
    have kf := BR.out.free 0
    have hc5 := World.cell?_setCell_same' W1 ⟨w.heap.size + 1 + 1, 0, none⟩ (.bool false) (by rw [kr]; rfl)
    go_wp2
    refine bodyPost_ret (v := .bool false) (by simp [results, Tryz.f44, go_sem, hc5]) rfl ?_
    exact ⟨by rw [hE.out], hB.out.setCell (p := ⟨w.heap.size + 1 + 1, 0, none⟩) (by show _ ≤ _ + 1 + 1; omega) _⟩
  | true =>
    rw [chk_A1 hok]
    have hoc : okA C = false := hno.resolve_left (by rw [hok]; decide)
    have kc0 := BC.out.cells.2 0 _ rfl
    have kc1 := BC.out.cells.2 1 _ rfl
    have kc2 := BC.out.cells.2 2 _ rfl
    clear hok hno
    go_wp2_with fail
    refine (acheck_any C _ _ XC.out hC).mono ?_
    rintro e W2 ⟨rfl, hb⟩
    replace hB := Kept.mk (hB.out.trans (hb.mono hB.out.size))
    replace BR := Kept.mk (BR.out.keep hb)
    clear hb kc0 kc1 kc2 XC BC
    rw [chk_A0 hoc]
    have kr := BR.out.cells.2 0 _ rfl
    have kf := BR.out.free 0
    have hc5 := World.cell?_setCell_same' W2 ⟨w.heap.size + 1 + 1, 0, none⟩ (.bool false) (by rw [kr]; rfl)
    go_wp2
    refine bodyPost_ret (v := .bool false) (by simp [results, Tryz.f44, go_sem, hc5]) rfl ?_
    exact ⟨by rw [hE.out], hB.out.setCell (p := ⟨w.heap.size + 1 + 1, 0, none⟩) (by show _ ≤ _ + 1 + 1; omega) _⟩
set_option maxRecDepth 100000 in
set_option maxHeartbeats 2000000 in
theorem below_yes (A C : Ar) (v u : Value) (w : World) (hv : isAr A v w) (hu : isAr C u w) (hA : FitA A) (hC : FitA C) (hoA : okA A = true) (hoC : okA C = true) : Calls Tryz.prog 44 #[v, u] w fun e w' => e = .returned (.bool (belowA A C)) ∧ Below w.heap.size w w' := by
  obtain ⟨vs, vi, rfl, hs, hi⟩ := hv
  obtain ⟨us, ui, rfl, ks, ki⟩ := hu
  have hE := Kept.mk (show belowA A C = A.slots.all (inB C) by unfold belowA; rw [hoA, hoC]; rfl)
  have hb0 : Below w.heap.size w (((w.alloc (.cells #[.int .i64 A.cap, vs, vi] 25)).alloc (.cells #[.int .i64 C.cap, us, ui] 25)).alloc (.cells #[.bool false] 4)) := (((Below.refl _ w).alloc (Nat.le_refl _) _).alloc (by simp) _).alloc (by simp; omega) _
  have hB := Kept.mk hb0
  have BA := Kept.mk (((Blk.new w 25 [.int .i64 A.cap, vs, vi] w.heap.size rfl).alloc (.cells #[.int .i64 C.cap, us, ui] 25)).alloc (.cells #[.bool false] 4))
  have BC := Kept.mk ((Blk.new (w.alloc (.cells #[.int .i64 A.cap, vs, vi] 25)) 25 [.int .i64 C.cap, us, ui] (w.heap.size + 1) (by simp)).alloc (.cells #[.bool false] 4))
  have BR := Kept.mk (Blk.new ((w.alloc (.cells #[.int .i64 A.cap, vs, vi] 25)).alloc (.cells #[.int .i64 C.cap, us, ui] 25)) 4 [.bool false] (w.heap.size + 1 + 1) (by simp))
  have HA0 := Kept.mk (show isAr A (.agg #[.int .i64 A.cap, vs, vi]) w from ⟨vs, vi, rfl, hs, hi⟩)
  have HC0 := Kept.mk (show isAr C (.agg #[.int .i64 C.cap, us, ui]) w from ⟨us, ui, rfl, ks, ki⟩)
  have XA := Kept.mk (stable_ar A _ _ _ HA0.out hb0)
  have CA := Kept.mk (chk_A1 hoA)
  have CC := Kept.mk (chk_A1 hoC)
  have ka0 := BA.out.cells.2 0 _ rfl
  have ka1 := BA.out.cells.2 1 _ rfl
  have ka2 := BA.out.cells.2 2 _ rfl
  have hsz0 : w.heap.size + 1 + 1 < (((w.alloc (.cells #[.int .i64 A.cap, vs, vi] 25)).alloc (.cells #[.int .i64 C.cap, us, ui] 25)).alloc (.cells #[.bool false] 4)).heap.size := BR.out.lt
  clear hb0
  refine (callsIn_wide (n := 5)).1 ?_
  refine callsIn_of_wp_marks Tryz.func44 rfl trivial ?_ rfl
  simp only [Tryz.ntmps44, List.size_toArray, List.length_cons, List.length_nil, Nat.reduceAdd, Nat.reduceSub, Array.replicate_succ, Array.replicate_zero, List.push_toArray, List.append_toArray, List.nil_append, List.cons_append]
  gi_wp2_with (first
    | (have hz0 := ka0; refine ⟨trivial, (callsIn_wide.2 (acheck_any A _ _ XA.out hA)).mono ?_⟩; rintro e W1 ⟨rfl, hb⟩; rw [CA.out]; have hB1 := Kept.mk (hB.out.trans (hb.mono hB.out.size)); have BA1 := Kept.mk (BA.out.keep hb); have BC1 := Kept.mk (BC.out.keep hb); have BR1 := Kept.mk (BR.out.keep hb); have XC := Kept.mk (stable_ar C _ _ _ HC0.out hB1.out); have hsz1 := hb.size; clear hz0 hb ka0 ka1 ka2 XA; have kc0 := BC1.out.cells.2 0 _ rfl; have kc1 := BC1.out.cells.2 1 _ rfl; have kc2 := BC1.out.cells.2 2 _ rfl)
    | (have hz0 := kc0; refine ⟨trivial, (callsIn_wide.2 (acheck_any C _ _ XC.out hC)).mono ?_⟩; rintro e W2 ⟨rfl, hb⟩; rw [CC.out]; have hB2 := Kept.mk (hB1.out.trans (hb.mono hB1.out.size)); have BA2 := Kept.mk (BA1.out.keep hb); have BC2 := Kept.mk (BC1.out.keep hb); have BR2 := Kept.mk (BR1.out.keep hb); have hsz2 := hb.size; clear hz0 hb kc0 kc1 kc2 XC; have kd0 := BA2.out.cells.2 0 _ rfl; have kd1 := BA2.out.cells.2 1 _ rfl; have kd2 := BA2.out.cells.2 2 _ rfl)
    | (have hz0 := kd0; refine ⟨trivial, (placec_call _ A vs vi _).mono ?_⟩; rintro e w' ⟨rfl, rfl⟩; clear hz0 kd0 kd1 kd2))
  have hB3 : Below w.heap.size w (W2.alloc (.cells #[.int .i64 A.cap, vs, vi] 25)) := hB2.out.trans ((lit_below W2 _).mono hB2.out.size)
  have hIt : ItA A vs vi w w.heap.size W2.heap.size (W2.alloc (.cells #[.int .i64 A.cap, vs, vi] 25)) := ⟨hB3.size, by simp, fun b hb => hB3.block b hb, heap_alloc_new W2 _⟩
  have hI0 : IB A C us ui w (W2.heap.size + 1) [] (W2.alloc (.cells #[.int .i64 A.cap, vs, vi] 25)) := ⟨⟨BR2.out.alloc _, BC2.out.alloc _, hB3, by simp⟩, (fun x hx => by cases hx)⟩
  have hszW : (W2.alloc (.cells #[.int .i64 A.cap, vs, vi] 25)).heap.size = W2.heap.size + 1 := by simp
  have hlow : w.heap.size + 1 + 1 < W2.heap.size := BR2.out.lt
  have f1 := hA.slots
  generalize (W2.alloc (.cells #[.int .i64 A.cap, vs, vi] 25)) = W0 at *
  generalize W2.heap.size = g3 at *
  refine wpIn_rangeFunc_ownH rfl (by decide) (gf := 124) (lb := #[.pointer (some ⟨g3, 0, none⟩)]) rfl trivial (enters_of Tryz.func124 (by kernel_rfl) rfl)
    (placec_stops 4 (by omega) g3 A vs vi w W0 hs hi hA hIt) (kpA_t _ _) (kpA_put _ _ _ (by omega) (by omega)) (Below.refl _ _) (fun _ => rfl)
    (IB A C us ui w (g3 + 1)) (IBx A C w) (ib_own (by omega) _ (by omega)) (fun c => ibx_own c _ (by omega)) hI0 (AxB A C vs vi us ui w g3 (g3 + 1))
    (fun x a' _ W W' row ⟨h, e, hb, hh⟩ hg hr => ⟨h, e, blk_own (by simp) hb hg hr, hh⟩) ?assign ?body ?done ?stop
  case assign =>
    intro l pre x W K hIp hK
    have hp := x.2.2.1
    have hm := x.2.2.2
    have hBw := hIp.1.lo
    have hNw := hIp.1.sz
    obtain ⟨K1, K2, K3, K4, K5⟩ := enew W x.1.2.1 x.1.2.2.1 x.1.2.2.2 (stable_cells _ _ _ _ hp hBw) (stable_cells _ _ _ _ hm hBw) W.heap.size rfl
    have HH := Kept.mk ((Blk.new W 30 [.string ⟨#[]⟩, .int .i64 0, .int .i64 0, .int .i64 0, .bool false, .string ⟨#[]⟩, .slice none 0 0, .slice none 0 0, .int .u64 0] W.heap.size rfl).all_ (l := [.string ⟨x.1.2.1.key.toArray⟩, .int .i64 x.1.2.1.val.kind, .int .i64 x.1.2.1.val.time, .int .i64 x.1.2.1.val.node, .bool x.1.2.1.val.dead, .string ⟨x.1.2.1.val.text.toArray⟩, x.1.2.2.1, x.1.2.2.2, .int .u64 (x.1.2.1.val.flags.toNat : Int)]) rfl)
    have hK2 := hK _ _ (keeps_below K3.out) (kpA_below K3.out (by omega) (by omega)) ⟨hIp.1.keep (by omega) K3.out, hIp.2⟩ ⟨W.heap.size, rfl, HH.out, hNw⟩
    have HK := Kept.mk hK2
    clear hK2 hK hp hm
    simp only [encE]
    gi_wp2_with (have hz0 := K1; refine wpListIn_storeN (fun _ => trivial) 30 rfl (.tmp 6) (.tmp 19) rfl W.heap.size [.string ⟨x.1.2.1.key.toArray⟩, .int .i64 x.1.2.1.val.kind, .int .i64 x.1.2.1.val.time, .int .i64 x.1.2.1.val.node, .bool x.1.2.1.val.dead, .string ⟨x.1.2.1.val.text.toArray⟩, x.1.2.2.1, x.1.2.2.2, .int .u64 (x.1.2.1.val.flags.toNat : Int)] size_en rfl rfl K1.out rfl K2.out K5.out ?_; clear hz0 K1 K2 K5)
    exact HK.out
  case body =>
    rintro l pre x a' W hl _ ⟨hI, hp⟩ ⟨h, rfl, hbl, hh⟩ hlt
    obtain ⟨hx1, hx2, hx3⟩ := x.2
    have FX := hA.ents _ (List.mem_of_getElem? hx1)
    have XC := Kept.mk (stable_ar C _ _ _ HC0.out hI.lo)
    have ke0 := hbl.cells.2 0 _ rfl
    have ke1 := hbl.cells.2 1 _ rfl
    have kc0 := hI.cb.cells.2 0 _ rfl
    have kc1 := hI.cb.cells.2 1 _ rfl
    have kc2 := hI.cb.cells.2 2 _ rfl
    obtain ⟨pl, hpl⟩ : ∃ pl, findI C (nameE x.1.2.1.val.kind x.1.2.1.key) = pl := ⟨_, rfl⟩
    have hpl2 : findI C x.1.2.1 = pl := by rw [← hpl]; exact find_name (by rw [name_iff]; exact ⟨rfl, rfl⟩)
    have HI := Kept.mk hI
    have HL := Kept.mk hbl
    have HPL := Kept.mk (And.intro hpl hpl2)
    clear hI hbl hpl hpl2
    gi_wp2_with (refine ⟨trivial, ((callsIn_wide.2 (find_any C x.1.2.1.val.kind x.1.2.1.key _ _ XC.out hC)).inRound l).mono ?_⟩; rintro e W2' ⟨rfl, hb2⟩; rw [HPL.out.1]; have HI2 := Kept.mk (HI.out.keep (by omega) hb2); have HL2 := Kept.mk (HL.out.keep hb2); clear ke0 ke1 kc0 kc1 kc2 XC)
    have ret : ∀ W9, Below W2'.heap.size W2' W9 → inB C x.1.2.1 = false → KeepsFrom W0.heap.size W (W9.setCell ⟨w.heap.size + 1 + 1, 0, none⟩ (.bool false)) ∧ IBx A C w .ret (pre ++ [x]) (W9.setCell ⟨w.heap.size + 1 + 1, 0, none⟩ (.bool false)) := fun W9 hb9 hno => by
      have h9 := HI2.out.keep (by omega) hb9
      have hb3 : Below W.heap.size W W9 := hb2.trans (hb9.mono hb2.size)
      refine ⟨⟨by have := hb3.size; simpa using this, fun k o hB hk ho => ?_⟩, rfl, h9.rb.set 0 _ (by simp), h9.lo.setCell (p := ⟨w.heap.size + 1 + 1, 0, none⟩) (by show _ ≤ _ + 1 + 1; omega) _, x, by simp, hno⟩
      rw [heap_setCell_other W9 ⟨w.heap.size + 1 + 1, 0, none⟩ k _ (by have := hszW; show k ≠ w.heap.size + 1 + 1; omega)]
      exact (hb3.block k (Array.getElem?_eq_some_iff.1 hk).1).trans hk
    have hsz0' : W0.heap.size = g3 + 1 := hszW
    have OKC := okA_iff.1 hoC
    have HIa := Kept.mk (show inB C x.1.2.1 = if pl = -1 then false else belowE x.1.2.1 (slotAt C.slots pl) by unfold inB; rw [HPL.out.2])
    by_cases hm1 : pl = -1
    · subst hm1
      have hno : inB C x.1.2.1 = false := by rw [HIa.out]; rfl
      refine blw2_region _ _ _ ?hout rfl rfl ?hfin
      case hout => rintro ⟨a2, w2, hh2⟩; first | exact hh2 | exact hh2.elim | (simp [ownPostG] at hh2)
      case hfin =>
        intro f9 W9 d38 hb9
        simp only [List.foldl_cons, List.foldl_nil, d38]
        generalize f9 27 = y27
        generalize f9 28 = y28
        generalize f9 29 = y29
        generalize f9 30 = y30
        generalize f9 31 = y31
        generalize f9 32 = y32
        generalize f9 33 = y33
        generalize f9 34 = y34
        generalize f9 35 = y35
        generalize f9 36 = y36
        generalize f9 37 = y37
        clear d38
        simp only [List.setIfInBounds_toArray, List.set_cons_succ, List.set_cons_zero]
        have hr := ret W9 hb9 hno
        have kr := (HI2.out.keep (by omega) hb9).rb.cells.2 0 _ rfl
        have kf := (HI2.out.keep (by omega) hb9).rb.free 0
        have HR2 := Kept.mk hr
        rw [hsz0'] at hr
        have HRR := Kept.mk hr
        clear hr ret
        gi_wp2
        first | exact HRR.out | exact HR2.out
    · have hhit : hitB (ordA C) x.1.2.1 = true := by
        cases hh3 : hitB (ordA C) x.1.2.1 with
        | true => rfl
        | false => exact absurd (HPL.out.2.symm.trans ((find_ne OKC).2 hh3)) hm1
      have hpi : placeI C x.1.2.1 = pl := by rw [← HPL.out.2]; unfold findI; rw [if_pos hoC, if_pos hhit]
      obtain ⟨pr, _, _, _⟩ := place_spec OKC hhit
      rw [hpi] at pr
      obtain ⟨q, rfl⟩ : ∃ q : Nat, pl = (q : Int) := ⟨pl.toNat, by omega⟩
      have hqn : q < C.slots.length := by omega
      obtain ⟨Y, hY⟩ : ∃ Y, C.slots[q]? = some Y := ⟨_, List.getElem?_eq_getElem hqn⟩
      obtain ⟨bs, os, cs, hvs, hbs, yp, ym, hyc, hyp, hym⟩ := ks.get hY
      have FY := hC.ents _ (List.mem_of_getElem? hY)
      obtain ⟨z, hz⟩ : ∃ z, belowE x.1.2.1 Y = z := ⟨_, rfl⟩
      have hin : inB C x.1.2.1 = z := by rw [HIa.out, if_neg hm1, slotAt_some hY, hz]
      have hlo2 := HI2.out.lo
      have cb2 := HI2.out.cb
      rw [hvs] at cb2
      refine blw1_region _ _ _ ?hout rfl (w.heap.size + 1) h q bs os cs C.slots.length C.cap ui z x.1.2.1 Y x.1.2.2.1 x.1.2.2.2 yp ym rfl rfl rfl cb2 HL2.out hqn (Nat.lt_of_lt_of_le hbs hlo2.size) (fun j y hy => (hlo2.cell (p := ⟨bs, os + q * 9 + j, none⟩) hbs).trans (hyc j y hy)) (stable_cells _ _ _ _ hx2 hlo2) (stable_cells _ _ _ _ hx3 hlo2) (stable_cells _ _ _ _ hyp hlo2) (stable_cells _ _ _ _ hym hlo2) FX FY hz ?hfin
      case hout => rintro ⟨a2, w2, hh2⟩; first | exact hh2 | exact hh2.elim | (simp [ownPostG] at hh2)
      case hfin =>
        clear hyc hyp hym cb2 hlo2
        intro f9 W9 d38 hb9
        simp only [List.foldl_cons, List.foldl_nil, d38]
        generalize f9 27 = y27
        generalize f9 28 = y28
        generalize f9 29 = y29
        generalize f9 30 = y30
        generalize f9 31 = y31
        generalize f9 32 = y32
        generalize f9 33 = y33
        generalize f9 34 = y34
        generalize f9 35 = y35
        generalize f9 36 = y36
        generalize f9 37 = y37
        clear d38
        simp only [List.setIfInBounds_toArray, List.set_cons_succ, List.set_cons_zero]
        cases z with
        | false =>
          have hr := ret W9 hb9 hin
          have kr := (HI2.out.keep (by omega) hb9).rb.cells.2 0 _ rfl
          have kf := (HI2.out.keep (by omega) hb9).rb.free 0
          have HR2 := Kept.mk hr
          rw [hsz0'] at hr
          have HRR := Kept.mk hr
          clear hr ret
          gi_wp2
          first | exact HRR.out | exact HR2.out
        | true =>
          have hb3 : Below W.heap.size W W9 := hb2.trans (hb9.mono hb2.size)
          have hsw := HI.out.sz
          have HRR := Kept.mk (show KeepsFrom (g3 + 1) W W9 ∧ KpA w.heap.size g3 W W9 ∧ IB A C us ui w (g3 + 1) (pre ++ [x]) W9 from ⟨keeps_below hb3, kpA_below hb3 (by omega) (by omega), HI2.out.keep (by omega) hb9, fun y hy => (List.mem_append.1 hy).elim (hp y) (fun hy => by rw [List.mem_singleton] at hy; subst hy; exact hin)⟩)
          have HR2 := Kept.mk (show KeepsFrom W0.heap.size W W9 ∧ KpA w.heap.size g3 W W9 ∧ IB A C us ui w (g3 + 1) (pre ++ [x]) W9 from ⟨keeps_below hb3, HRR.out.2⟩)
          clear ret
          gi_wp2
          first | exact HRR.out | exact HR2.out
  case done =>
    rintro D ys W hD ⟨_, hys⟩ ⟨hI, hp⟩ hK
    rw [hoA, if_pos rfl] at hys
    have hcl : belowA A C = true := by
      rw [hE.out, List.all_eq_true]
      intro e he
      rw [← hys] at he
      obtain ⟨y, hy, rfl⟩ := List.mem_map.1 he
      exact hp y hy
    have kr := hI.rb.cells.2 0 _ rfl
    have kf := hI.rb.free 0
    have hDb : D ≠ w.heap.size + 1 + 1 := by omega
    have hK' : (W.setCell ⟨w.heap.size + 1 + 1, 0, none⟩ (.bool true)).heap[D]? = some (.deferred (some [])) := (heap_setCell_other W ⟨w.heap.size + 1 + 1, 0, none⟩ D _ hDb).trans hK
    have hc5 : ((W.setCell ⟨w.heap.size + 1 + 1, 0, none⟩ (.bool true)).putObj D (.deferred none)).cell? ⟨w.heap.size + 1 + 1, 0, none⟩ = some (.bool true) := (World.cell?_of_block (a := ⟨w.heap.size + 1 + 1, 0, none⟩) (World.putObj_heap_other hDb.symm)).trans (World.cell?_setCell_same' W ⟨w.heap.size + 1 + 1, 0, none⟩ (.bool true) (by rw [kr]; rfl))
    have HBL := Kept.mk ((hI.lo.setCell (p := ⟨w.heap.size + 1 + 1, 0, none⟩) (by show _ ≤ _ + 1 + 1; omega) (.bool true)).trans (belowK_b (w := w) (Nat.le_refl _) _ D _ (.deferred none) (by omega) hK' rfl rfl))
    have HCL := Kept.mk hcl
    clear hcl hI hp hys
    gi_wp2
    refine ⟨by simp, .inl ⟨_, _, rfl, run_takeDeferred hK', ?_⟩⟩
    refine ⟨.bool true, ?_, by rw [HCL.out], HBL.out⟩
    simp [results, Tryz.f44, go_sem, hc5]
  case stop =>
    rintro D c pre W hD _ ⟨rfl, hr, hBx, y, hy, hyn⟩ hK
    have hDb : D ≠ w.heap.size + 1 + 1 := by omega
    have hcl : belowA A C = false := by
      rw [hE.out, List.all_eq_false]
      exact ⟨y.1.2.1, List.mem_of_getElem? y.2.1, by rw [hyn]; decide⟩
    have hc5 : (W.putObj D (.deferred none)).cell? ⟨w.heap.size + 1 + 1, 0, none⟩ = some (.bool false) := (World.cell?_of_block (a := ⟨w.heap.size + 1 + 1, 0, none⟩) (World.putObj_heap_other hDb.symm)).trans (hr.cells.2 0 _ rfl)
    have HBL := Kept.mk (hBx.trans (belowK_b (w := w) (Nat.le_refl _) W D _ (.deferred none) (by omega) hK rfl rfl))
    have HCL := Kept.mk hcl
    clear hcl
    gi_wp2
    refine ⟨by simp, .inl ⟨_, _, rfl, run_takeDeferred hK, ?_⟩⟩
    refine ⟨.bool false, ?_, by rw [HCL.out], HBL.out⟩
    simp [results, Tryz.f44, go_sem, hc5]
set_option maxRecDepth 100000 in
set_option maxHeartbeats 2000000 in
theorem below_any (A C : Ar) (v u : Value) (w : World) (hv : isAr A v w) (hu : isAr C u w) (hA : FitA A) (hC : FitA C) : Calls Tryz.prog 44 #[v, u] w fun e w' => e = .returned (.bool (belowA A C)) ∧ Below w.heap.size w w' := by
  cases h1 : okA A with
  | false => exact below_no A C v u w hv hu hA hC (.inl h1)
  | true =>
    cases h2 : okA C with
    | false => exact below_no A C v u w hv hu hA hC (.inr h2)
    | true => exact below_yes A C v u w hv hu hA hC h1 h2
set_option maxRecDepth 100000 in
set_option maxHeartbeats 2000000 in
theorem alike_any (A C : Ar) (v u : Value) (w : World) (hv : isAr A v w) (hu : isAr C u w) (hA : FitA A) (hC : FitA C) : Calls Tryz.prog 45 #[v, u] w fun e w' => e = .returned (.bool (alikeA A C)) ∧ Below w.heap.size w w' := by
  obtain ⟨vs, vi, rfl, hs, hi⟩ := hv
  obtain ⟨us, ui, rfl, ks, ki⟩ := hu
  obtain ⟨hB, Va⟩ := abox w A vs vi hs hi w.heap.size rfl
  obtain ⟨hBn, Vc⟩ := abox (w.alloc (.cells #[.int .i64 A.cap, vs, vi] 25)) C us ui (stable_ens _ _ _ _ ks hB.out) (stable_cells _ _ _ _ ki hB.out) (w.heap.size + 1) (by simp)
  replace Va := Kept.mk (Va.out.keep hBn.out)
  replace hB := Kept.mk (hB.out.trans (hBn.out.mono hB.out.size))
  clear hBn hs hi ks ki
  have HD := Kept.mk (show alikeA A C = (belowA A C && belowA C A) from rfl)
  obtain ⟨a1, a2, xa, _, _, ka0, ka1, ka2⟩ := Va.out.open_
  obtain ⟨c1, c2, xc, _, _, kc0, kc1, kc2⟩ := Vc.out.open_
  have XA := Kept.mk xa
  have XC := Kept.mk xc
  clear xa xc
  go_enter Tryz.func45, Tryz.ntmps45
  go_wp2_with fail
  refine (below_any A C _ _ _ XA.out XC.out hA hC).mono ?_
  rintro e W1 ⟨rfl, hb⟩
  replace hB := Kept.mk (hB.out.trans (hb.mono hB.out.size))
  replace Va := Kept.mk (Va.out.keep hb)
  replace Vc := Kept.mk (Vc.out.keep hb)
  clear hb ka0 ka1 ka2 kc0 kc1 kc2 XA XC
  cases h1 : belowA A C with
  | false =>
    rw [h1, Bool.false_and] at HD
    go_wp2
    go_ret
    exact ⟨by rw [HD.out]; rfl, hB.out⟩
  | true =>
    rw [h1, Bool.true_and] at HD
    obtain ⟨_, _, xa, _, _, ka0, ka1, ka2⟩ := Va.out.open_
    obtain ⟨_, _, xc, _, _, kc0, kc1, kc2⟩ := Vc.out.open_
    have XA := Kept.mk xa
    have XC := Kept.mk xc
    clear xa xc
    go_wp2_with fail
    refine (below_any C A _ _ _ XC.out XA.out hC hA).mono ?_
    rintro e W2 ⟨rfl, hb⟩
    replace hB := Kept.mk (hB.out.trans (hb.mono hB.out.size))
    clear hb ka0 ka1 ka2 kc0 kc1 kc2 XA XC
    cases h2 : belowA C A <;>
    · rw [h2] at HD
      go_wp2
      go_ret
      exact ⟨by rw [HD.out]; rfl, hB.out⟩
end Go.Proofs.YtbgconagkgfplaaGreat
end
section
namespace Go.Proofs.YtbgconagkgfplaaGreat
set_option linter.unusedVariables false
set_option linter.unusedSimpArgs false

/-! ### Entries below each other -/
theorem slotAt_nat (l : List En) (p : Int) (h : 0 ≤ p ∧ p < l.length) : l[p.toNat]? = some (slotAt l p) := by
  unfold slotAt
  rw [List.getElem?_eq_getElem (by omega)]; rfl
/-- The slot of that name, where there is one. -/
def slotOf (A : Ar) (x : En) : En := slotAt A.slots (placeI A x)
theorem ord_new {A : Ar} (h : OkA A) (x : En) : ordA ⟨A.cap, A.slots ++ [x], putIdx A x⟩ = insE (ordA A) x := by
  have e1 : ∀ l : List Int, (∀ p ∈ l, p ∈ A.index) → l.map (slotAt (A.slots ++ [x])) = l.map (slotAt A.slots) := by
    intro l hl
    refine List.map_congr_left ?_
    intro p hp
    have := h.rng p (hl p hp)
    unfold slotAt
    rw [List.getElem?_append_left (by omega)]
  unfold ordA putIdx insE
  rw [List.map_append, List.map_cons, e1 _ (fun p hp => List.mem_of_mem_take hp), e1 _ (fun p hp => List.mem_of_mem_drop hp), List.map_take, List.map_drop]
  congr 2
  unfold slotAt
  simp
theorem ok_new {A : Ar} (h : OkA A) {x : En} (hx : okE x = true) (hh : hitB (ordA A) x = false) (hc : ¬ (A.slots.length : Int) = A.cap) : OkA ⟨A.cap, A.slots ++ [x], putIdx A x⟩ := by
  have hp : posN (ordA A) x ≤ A.index.length := by have := pos_le (ordA A) x; rw [ord_length h, ← h.len] at this; exact this
  refine ⟨h.room, ?_, ?_, ?_, ?_, ?_⟩
  · show ((A.slots ++ [x]).length : Int) ≤ A.cap
    have := h.fits
    rw [List.length_append, List.length_singleton]; omega
  · intro e he
    rcases List.mem_append.1 he with he | he
    · exact h.ents e he
    · rw [List.mem_singleton.1 he]; exact hx
  · show (putIdx A x).length = (A.slots ++ [x]).length
    unfold putIdx
    have := h.len
    simp only [List.length_append, List.length_cons, List.length_take, List.length_drop, List.length_nil]
    omega
  · intro p hp
    show 0 ≤ p ∧ p < (A.slots ++ [x]).length
    rw [List.length_append, List.length_singleton]
    unfold putIdx at hp
    rcases List.mem_append.1 hp with hp | hp
    · have := h.rng p (List.mem_of_mem_take hp); omega
    · rcases List.mem_cons.1 hp with hp | hp
      · omega
      · have := h.rng p (List.mem_of_mem_drop hp); omega
  · rw [ord_new h]; exact asc_ins h.asc hh
def InE (C : Ar) (x : En) : Prop := ∃ f ∈ C.slots, nameB f x = true ∧ belowE x f = true
def Named (C : Ar) (x : En) : Prop := ∃ f ∈ C.slots, nameB f x = true
/-- Names in their order, none twice. -/
def nmE (e : En) : Int × List UInt8 := (e.val.kind, e.key)
theorem asc_ext : ∀ {l m : List En}, Asc l → Asc m → (∀ x, x ∈ l ↔ x ∈ m) → l = m
  | [], [], _, _, _ => rfl
  | [], b :: m, _, _, h => by have := (h b).2 (by simp); simp at this
  | a :: l, [], _, _, h => by have := (h a).1 (by simp); simp at this
  | a :: l, b :: m, h1, h2, h => by
    have la : ∀ y ∈ l, lessE a y = true := fun y hy => List.rel_of_pairwise_cons h1 hy
    have lb : ∀ y ∈ m, lessE b y = true := fun y hy => List.rel_of_pairwise_cons h2 hy
    have hab : a = b := by
      rcases List.mem_cons.1 ((h a).1 (by simp)) with e | e
      · exact e
      · rcases List.mem_cons.1 ((h b).2 (by simp)) with e2 | e2
        · exact e2.symm
        · exact (less_both a b (la b e2) (lb a e)).elim
    subst hab
    rw [asc_ext (List.Pairwise.of_cons h1) (List.Pairwise.of_cons h2) (fun x => ?_)]
    constructor
    · intro hx
      rcases List.mem_cons.1 ((h x).1 (by simp [hx])) with e | e
      · subst e; have := la _ hx; rw [lessE_irrefl] at this; cases this
      · exact e
    · intro hx
      rcases List.mem_cons.1 ((h x).2 (by simp [hx])) with e | e
      · subst e; have := lb _ hx; rw [lessE_irrefl] at this; cases this
      · exact e
theorem find_nameE (A : Ar) (x : En) : findI A (nameE x.val.kind x.key) = findI A x := find_name (name_iff.2 ⟨rfl, rfl⟩)
theorem find_hit {A : Ar} (h : OkA A) {x : En} (hh : hitB (ordA A) x = true) : findI A x = placeI A x := by unfold findI; rw [if_pos (okA_iff.2 h), if_pos hh]
theorem find_no {A : Ar} (h : OkA A) {x : En} (hh : hitB (ordA A) x = false) : findI A x = -1 := (find_ne h).2 hh
theorem find_bad {A : Ar} (h : okA A = false) (x : En) : findI A x = -1 := by unfold findI; rw [h]; rfl
end Go.Proofs.YtbgconagkgfplaaGreat
end
section
namespace Go.Proofs.YtbgconagkgfplaaGreat
open Go.RowKit
set_option linter.unusedVariables false
set_option linter.unusedSimpArgs false
attribute [local irreducible] setN

set_option maxRecDepth 100000 in
set_option maxHeartbeats 2000000 in
theorem eqfunc_any (l m : List En) (v u : Value) (w : World) (hv : isEns l v w) (hu : isEns m u w) (hl : l.length ≤ 1000) (hm : m.length ≤ 1000) (fl : ∀ e ∈ l, FitE e) (fm : ∀ e ∈ m, FitE e) : Calls Tryz.prog 91 #[v, u, .func (.func 92) #[] #[]] w fun e w' => e = .returned (.bool (decide (l = m))) ∧ Below w.heap.size w w' := by
  have eg : ∀ args w, (callFunc 92 args).run Tryz.prog w = .ok (.enter 92 args) w := enters_of Tryz.func92 (by kernel_rfl) rfl
  obtain ⟨va, vc, rfl⟩ := hv.len
  obtain ⟨ua, uc, rfl⟩ := hu.len
  by_cases hlen : l.length = m.length
  · have HV := Kept.mk hv
    have HU := Kept.mk hu
    have FL := Kept.mk fl
    have FM := Kept.mk fm
    clear hv hu fl fm
    generalize hn : l.length = n at *
    generalize hmn : m.length = n2 at *
    subst hlen
    have HN := Kept.mk (And.intro hn hmn)
    clear hn hmn
    go_enter Tryz.func91, Tryz.ntmps91
    go_wp2
    go_loopw [17] (fun i wr => ∃ k : Nat, k ≤ n ∧ i = .int .i64 (k : Int) ∧ Kept (Below w.heap.size w wr) ∧ Kept (∀ j, j < k → l[j]? = m[j]?)) (fun i _ => n - (intOf i).toNat)
    case atStart => exact ⟨0, Nat.zero_le _, rfl, ⟨Below.refl _ _⟩, ⟨fun j h => absurd h (Nat.not_lt_zero _)⟩⟩
    case round =>
      obtain ⟨k, hk, rfl, B, A⟩ := hrel
      by_cases hlt : k < n
      · have hlt' : (k : Int) < (n : Int) := by omega
        obtain ⟨X, hX⟩ : ∃ X, l[k]? = some X := ⟨_, List.getElem?_eq_getElem (by have := HN.out.1; omega)⟩
        obtain ⟨Y, hY⟩ : ∃ Y, m[k]? = some Y := ⟨_, List.getElem?_eq_getElem (by have := HN.out.2; omega)⟩
        obtain ⟨bs, os, cs, hvs, hbs, xp, xm, hxc, hxp, hxm⟩ := HV.out.get hX
        injection hvs with h1 hz1 h2
        clear hz1
        subst h1 h2
        obtain ⟨bt, ot, ct, hvt, hbt, yp, ym, hyc, hyp, hym⟩ := HU.out.get hY
        injection hvt with h1 hz1 h2
        clear hz1
        subst h1 h2
        have FX := Kept.mk (FL.out X (List.mem_of_getElem? hX))
        have FY := Kept.mk (FM.out Y (List.mem_of_getElem? hY))
        have HXY := Kept.mk (And.intro hX hY)
        have hsw := B.out.size
        obtain ⟨K1, K2, K3, K4, K5⟩ := enew wr X xp xm (stable_cells _ _ _ _ hxp B.out) (stable_cells _ _ _ _ hxm B.out) wr.heap.size rfl
        have kx0 : wr.cell? ⟨bs, os + k * 9, none⟩ = _ := (B.out.cell (p := ⟨bs, os + k * 9 + 0, none⟩) hbs).trans (hxc 0 _ rfl)
        have kx1 : wr.cell? ⟨bs, os + k * 9 + 1, none⟩ = _ := (B.out.cell (p := ⟨bs, os + k * 9 + 1, none⟩) hbs).trans (hxc 1 _ rfl)
        have kx2 : wr.cell? ⟨bs, os + k * 9 + 2, none⟩ = _ := (B.out.cell (p := ⟨bs, os + k * 9 + 2, none⟩) hbs).trans (hxc 2 _ rfl)
        have kx3 : wr.cell? ⟨bs, os + k * 9 + 3, none⟩ = _ := (B.out.cell (p := ⟨bs, os + k * 9 + 3, none⟩) hbs).trans (hxc 3 _ rfl)
        have kx4 : wr.cell? ⟨bs, os + k * 9 + 4, none⟩ = _ := (B.out.cell (p := ⟨bs, os + k * 9 + 4, none⟩) hbs).trans (hxc 4 _ rfl)
        have kx5 : wr.cell? ⟨bs, os + k * 9 + 5, none⟩ = _ := (B.out.cell (p := ⟨bs, os + k * 9 + 5, none⟩) hbs).trans (hxc 5 _ rfl)
        have kx6 : wr.cell? ⟨bs, os + k * 9 + 6, none⟩ = _ := (B.out.cell (p := ⟨bs, os + k * 9 + 6, none⟩) hbs).trans (hxc 6 _ rfl)
        have kx7 : wr.cell? ⟨bs, os + k * 9 + 7, none⟩ = _ := (B.out.cell (p := ⟨bs, os + k * 9 + 7, none⟩) hbs).trans (hxc 7 _ rfl)
        have kx8 : wr.cell? ⟨bs, os + k * 9 + 8, none⟩ = _ := (B.out.cell (p := ⟨bs, os + k * 9 + 8, none⟩) hbs).trans (hxc 8 _ rfl)
        clear hX hY hxc hxp hxm
        go_wp2_with (first | (have hz0 := K1; refine wpList_storeN 30 rfl (.tmp 8) (.tmp 21) rfl wr.heap.size [.string ⟨X.key.toArray⟩, .int .i64 X.val.kind, .int .i64 X.val.time, .int .i64 X.val.node, .bool X.val.dead, .string ⟨X.val.text.toArray⟩, xp, xm, .int .u64 (X.val.flags.toNat : Int)] size_en rfl rfl K1.out rfl K2.out K5.out ?_; replace B := Kept.mk (B.out.trans (K3.out.mono hsw)); have VX := Kept.mk (show VarN _ _ X from ⟨_, _, K4.out⟩); clear hz0 K1 K2 K3 K4 K5 kx0 kx1 kx2 kx3 kx4 kx5 kx6 kx7 kx8; generalize setN (wr.alloc (.cells #[.string ⟨#[]⟩, .int .i64 0, .int .i64 0, .int .i64 0, .bool false, .string ⟨#[]⟩, .slice none 0 0, .slice none 0 0, .int .u64 0] 30)) wr.heap.size 0 [.string ⟨X.key.toArray⟩, .int .i64 X.val.kind, .int .i64 X.val.time, .int .i64 X.val.node, .bool X.val.dead, .string ⟨X.val.text.toArray⟩, xp, xm, .int .u64 (X.val.flags.toNat : Int)] = W1 at *; generalize wr.heap.size = g1 at *; have hs1 := B.out.size; obtain ⟨J1, J2, J3, J4, J5⟩ := enew W1 Y yp ym (stable_cells _ _ _ _ hyp B.out) (stable_cells _ _ _ _ hym B.out) W1.heap.size rfl; have ky0 : W1.cell? ⟨bt, ot + k * 9, none⟩ = _ := (B.out.cell (p := ⟨bt, ot + k * 9 + 0, none⟩) hbt).trans (hyc 0 _ rfl); have ky1 : W1.cell? ⟨bt, ot + k * 9 + 1, none⟩ = _ := (B.out.cell (p := ⟨bt, ot + k * 9 + 1, none⟩) hbt).trans (hyc 1 _ rfl); have ky2 : W1.cell? ⟨bt, ot + k * 9 + 2, none⟩ = _ := (B.out.cell (p := ⟨bt, ot + k * 9 + 2, none⟩) hbt).trans (hyc 2 _ rfl); have ky3 : W1.cell? ⟨bt, ot + k * 9 + 3, none⟩ = _ := (B.out.cell (p := ⟨bt, ot + k * 9 + 3, none⟩) hbt).trans (hyc 3 _ rfl); have ky4 : W1.cell? ⟨bt, ot + k * 9 + 4, none⟩ = _ := (B.out.cell (p := ⟨bt, ot + k * 9 + 4, none⟩) hbt).trans (hyc 4 _ rfl); have ky5 : W1.cell? ⟨bt, ot + k * 9 + 5, none⟩ = _ := (B.out.cell (p := ⟨bt, ot + k * 9 + 5, none⟩) hbt).trans (hyc 5 _ rfl); have ky6 : W1.cell? ⟨bt, ot + k * 9 + 6, none⟩ = _ := (B.out.cell (p := ⟨bt, ot + k * 9 + 6, none⟩) hbt).trans (hyc 6 _ rfl); have ky7 : W1.cell? ⟨bt, ot + k * 9 + 7, none⟩ = _ := (B.out.cell (p := ⟨bt, ot + k * 9 + 7, none⟩) hbt).trans (hyc 7 _ rfl); have ky8 : W1.cell? ⟨bt, ot + k * 9 + 8, none⟩ = _ := (B.out.cell (p := ⟨bt, ot + k * 9 + 8, none⟩) hbt).trans (hyc 8 _ rfl)) | (have hz0 := J1; refine wpList_storeN 30 rfl (.tmp 9) (.tmp 25) rfl W1.heap.size [.string ⟨Y.key.toArray⟩, .int .i64 Y.val.kind, .int .i64 Y.val.time, .int .i64 Y.val.node, .bool Y.val.dead, .string ⟨Y.val.text.toArray⟩, yp, ym, .int .u64 (Y.val.flags.toNat : Int)] size_en rfl rfl J1.out rfl J2.out J5.out ?_; replace B := Kept.mk (B.out.trans (J3.out.mono hs1)); replace VX := Kept.mk (VX.out.keep J3.out); have VY := Kept.mk (show VarN _ _ Y from ⟨_, _, J4.out⟩); clear hz0 J1 J2 J3 J4 J5 hyc hyp hym ky0 ky1 ky2 ky3 ky4 ky5 ky6 ky7 ky8; generalize setN (W1.alloc (.cells #[.string ⟨#[]⟩, .int .i64 0, .int .i64 0, .int .i64 0, .bool false, .string ⟨#[]⟩, .slice none 0 0, .slice none 0 0, .int .u64 0] 30)) W1.heap.size 0 [.string ⟨Y.key.toArray⟩, .int .i64 Y.val.kind, .int .i64 Y.val.time, .int .i64 Y.val.node, .bool Y.val.dead, .string ⟨Y.val.text.toArray⟩, yp, ym, .int .u64 (Y.val.flags.toNat : Int)] = W2 at *; generalize W1.heap.size = g2 at *; obtain ⟨qx, rx, ix, jx, ka0, ka1, ka2, ka3, ka4, ka5, ka6, ka7, ka8⟩ := VX.out.open_; obtain ⟨qy, ry, iy, jy, kb0, kb1, kb2, kb3, kb4, kb5, kb6, kb7, kb8⟩ := VY.out.open_; have XX := Kept.mk ix; have XY := Kept.mk iy; clear ix iy jx jy))
        refine (esame_any X Y _ _ _ XX.out XY.out FX.out.val FY.out.val).mono ?_
        rintro e W3 ⟨rfl, hb⟩
        replace B := Kept.mk (B.out.trans (hb.mono B.out.size))
        clear hb XX XY VX VY ka0 kb0 ka1 kb1 ka2 kb2 ka3 kb3 ka4 kb4 ka5 kb5 ka6 kb6 ka7 kb7 ka8 kb8
        cases hq : decide (X = Y) with
        | true =>
          have HQ := Kept.mk (of_decide_eq_true hq)
          clear hq
          go_wp2
          go_roundw
          case rel =>
            refine ⟨k + 1, by omega, by go_num, B, ⟨fun j hj => ?_⟩⟩
            by_cases e : j = k
            · subst e; rw [HXY.out.1, HXY.out.2, HQ.out]
            · exact A.out j (by omega)
          case measure => simp [intOf]; omega
        | false =>
          have HE := Kept.mk (show decide (l = m) = false from decide_eq_false (fun e => by
            have := HXY.out.1; rw [e, HXY.out.2] at this; injection this with this
            exact (of_decide_eq_false hq) this.symm))
          clear hq
          go_wp2
          go_ret
          exact ⟨by rw [HE.out]; rfl, B.out⟩
      · have hlt' : ¬ (k : Int) < (n : Int) := by omega
        have HE := Kept.mk (show decide (l = m) = true from decide_eq_true (List.ext_getElem? (fun j => by
          by_cases hj : j < k
          · exact A.out j hj
          · rw [List.getElem?_eq_none (by have := HN.out.1; omega), List.getElem?_eq_none (by have := HN.out.2; omega)])))
        go_wp2
        go_ret
        exact ⟨by rw [HE.out]; rfl, B.out⟩
  · have HE := Kept.mk (show decide (l = m) = false from decide_eq_false (fun e => hlen (by rw [e])))
    clear hv hu fl fm
    generalize l.length = n at *
    generalize m.length = n2 at *
    have hl1 : ((n : Int) == (n2 : Int)) = false := by simp; omega
    have hl2 : ((n : Int) != (n2 : Int)) = true := by simp; omega
    go_enter Tryz.func91, Tryz.ntmps91
    go_wp2
    go_ret
    exact ⟨by rw [HE.out]; rfl, Below.refl _ _⟩
theorem ar_eq (A B : Ar) : decide (A = B) = (decide (A.cap = B.cap) && (decide (A.slots = B.slots) && decide (A.index = B.index))) := by
  obtain ⟨a, b, c⟩ := A
  obtain ⟨a', b', c'⟩ := B
  rw [Bool.eq_iff_iff]
  simp
set_option maxRecDepth 100000 in
set_option maxHeartbeats 2000000 in
theorem asame_any (A C : Ar) (v u : Value) (w : World) (hv : isAr A v w) (hu : isAr C u w) (hA : FitA A) (hC : FitA C) : Calls Tryz.prog 43 #[v, u] w fun e w' => e = .returned (.bool (decide (A = C))) ∧ Below w.heap.size w w' := by
  obtain ⟨vs, vi, rfl, hs, hi⟩ := hv
  obtain ⟨us, ui, rfl, ks, ki⟩ := hu
  obtain ⟨hB, Va⟩ := abox w A vs vi hs hi w.heap.size rfl
  obtain ⟨hBn, Vc⟩ := abox (w.alloc (.cells #[.int .i64 A.cap, vs, vi] 25)) C us ui (stable_ens _ _ _ _ ks hB.out) (stable_cells _ _ _ _ ki hB.out) (w.heap.size + 1) (by simp)
  replace Va := Kept.mk (Va.out.keep hBn.out)
  replace hB := Kept.mk (hB.out.trans (hBn.out.mono hB.out.size))
  clear hBn hs hi ks ki
  have HD := Kept.mk (ar_eq A C)
  obtain ⟨a1, a2, _, sa, _, ka0, ka1, ka2⟩ := Va.out.open_
  obtain ⟨c1, c2, _, sc, _, kc0, kc1, kc2⟩ := Vc.out.open_
  have SA := Kept.mk sa
  have SC := Kept.mk sc
  clear sa sc
  go_enter Tryz.func43, Tryz.ntmps43
  by_cases h1 : A.cap = C.cap
  · rw [decide_eq_true h1, Bool.true_and] at HD
    have h1' : (A.cap == C.cap) = true := by simpa using h1
    clear h1
    go_wp2_with fail
    refine (eqfunc_any A.slots C.slots _ _ _ SA.out SC.out hA.slots hC.slots hA.ents hC.ents).mono ?_
    rintro e W1 ⟨rfl, hb⟩
    replace hB := Kept.mk (hB.out.trans (hb.mono hB.out.size))
    replace Va := Kept.mk (Va.out.keep hb)
    replace Vc := Kept.mk (Vc.out.keep hb)
    clear hb ka0 ka1 ka2 kc0 kc1 kc2 SA SC
    cases h2 : decide (A.slots = C.slots) with
    | true =>
      rw [h2, Bool.true_and] at HD
      obtain ⟨_, _, _, _, ia, ka0, ka1, ka2⟩ := Va.out.open_
      obtain ⟨_, _, _, _, ic, kc0, kc1, kc2⟩ := Vc.out.open_
      have IA := Kept.mk ia
      have IC := Kept.mk ic
      clear ia ic
      have f1 := hA.index
      have f2 := hC.index
      go_wp2_with fail
      refine (equal_i A.index C.index _ _ _ IA.out IC.out (by omega) (by omega)).mono ?_
      rintro e W2 ⟨rfl, hb⟩
      replace hB := Kept.mk (hB.out.trans (hb.mono hB.out.size))
      clear hb
      cases h3 : decide (A.index = C.index) <;>
      · rw [h3] at HD
        go_wp2
        go_ret
        exact ⟨by rw [HD.out]; rfl, hB.out⟩
    | false =>
      rw [h2, Bool.false_and] at HD
      go_wp2
      go_ret
      exact ⟨by rw [HD.out]; rfl, hB.out⟩
  · rw [decide_eq_false h1, Bool.false_and] at HD
    have h1' : (A.cap == C.cap) = false := by simpa using h1
    go_wp2
    go_ret
    exact ⟨by rw [HD.out]; rfl, hB.out⟩
end Go.Proofs.YtbgconagkgfplaaGreat
end
section
namespace Go.Proofs.YtbgconagkgfplaaGreat
open Go.RowKit
set_option linter.unusedVariables false
set_option linter.unusedSimpArgs false
attribute [local irreducible] setN

def eX : En := ⟨[98], ⟨3, 0, 0, false, [], [], [], 1⟩⟩
theorem fit_eX : FitE eX := ⟨by decide, ⟨by decide, by decide, by decide⟩⟩
def eY : En := ⟨[97], ⟨3, 0, 0, false, [], [], [], 2⟩⟩
theorem fit_eY : FitE eY := ⟨by decide, ⟨by decide, by decide, by decide⟩⟩
def eZ : En := ⟨[98], ⟨3, 0, 0, false, [], [], [], 3⟩⟩
theorem fit_eZ : FitE eZ := ⟨by decide, ⟨by decide, by decide, by decide⟩⟩
def eW : En := ⟨[99], ⟨3, 0, 0, false, [], [], [], 1⟩⟩
theorem fit_eW : FitE eW := ⟨by decide, ⟨by decide, by decide, by decide⟩⟩
def aA : Ar := ⟨2, [], []⟩
theorem fit_aA : FitA aA := ⟨by decide, by decide, fun e he => by
  simp only [aA, List.mem_cons, List.not_mem_nil, or_false] at he
  skip⟩
def aB : Ar := ⟨2, [eX], [0]⟩
theorem fit_aB : FitA aB := ⟨by decide, by decide, fun e he => by
  simp only [aB, List.mem_cons, List.not_mem_nil, or_false] at he
  subst he; exact fit_eX⟩
def aC : Ar := ⟨2, [eX, eY], [1, 0]⟩
theorem fit_aC : FitA aC := ⟨by decide, by decide, fun e he => by
  simp only [aC, List.mem_cons, List.not_mem_nil, or_false] at he
  rcases he with rfl | rfl
  · exact fit_eX
  · exact fit_eY⟩
def aD : Ar := ⟨2, [eZ, eY], [1, 0]⟩
theorem fit_aD : FitA aD := ⟨by decide, by decide, fun e he => by
  simp only [aD, List.mem_cons, List.not_mem_nil, or_false] at he
  rcases he with rfl | rfl
  · exact fit_eZ
  · exact fit_eY⟩
theorem w_ax (v u : Value) (w : World) (hv : isAr aA v w) (hu : isEn eX u w) : Calls Tryz.prog 14 #[v, u] w fun e w' => ∃ v', e = .returned (.tuple #[v', .bool true, .int .i64 0]) ∧ isAr aB v' w' ∧ Below w.heap.size w w' := by
  have h := ajoin_any aA eX v u w hv hu fit_aA fit_eX
  rwa [show joinAF aA eX = aB by kernel_rfl, show joinAB aA eX = true by kernel_rfl, show joinAE aA eX = 0 by kernel_rfl] at h
theorem w_by (v u : Value) (w : World) (hv : isAr aB v w) (hu : isEn eY u w) : Calls Tryz.prog 14 #[v, u] w fun e w' => ∃ v', e = .returned (.tuple #[v', .bool true, .int .i64 0]) ∧ isAr aC v' w' ∧ Below w.heap.size w w' := by
  have h := ajoin_any aB eY v u w hv hu fit_aB fit_eY
  rwa [show joinAF aB eY = aC by kernel_rfl, show joinAB aB eY = true by kernel_rfl, show joinAE aB eY = 0 by kernel_rfl] at h
theorem w_cz (v u : Value) (w : World) (hv : isAr aC v w) (hu : isEn eZ u w) : Calls Tryz.prog 14 #[v, u] w fun e w' => ∃ v', e = .returned (.tuple #[v', .bool true, .int .i64 0]) ∧ isAr aD v' w' ∧ Below w.heap.size w w' := by
  have h := ajoin_any aC eZ v u w hv hu fit_aC fit_eZ
  rwa [show joinAF aC eZ = aD by kernel_rfl, show joinAB aC eZ = true by kernel_rfl, show joinAE aC eZ = 0 by kernel_rfl] at h
theorem w_dx (v u : Value) (w : World) (hv : isAr aD v w) (hu : isEn eX u w) : Calls Tryz.prog 14 #[v, u] w fun e w' => ∃ v', e = .returned (.tuple #[v', .bool false, .int .i64 0]) ∧ isAr aD v' w' ∧ Below w.heap.size w w' := by
  have h := ajoin_any aD eX v u w hv hu fit_aD fit_eX
  rwa [show joinAF aD eX = aD by kernel_rfl, show joinAB aD eX = false by kernel_rfl, show joinAE aD eX = 0 by kernel_rfl] at h
theorem w_cw (v u : Value) (w : World) (hv : isAr aC v w) (hu : isEn eW u w) : Calls Tryz.prog 14 #[v, u] w fun e w' => ∃ v', e = .returned (.tuple #[v', .bool false, .int .i64 4]) ∧ isAr aC v' w' ∧ Below w.heap.size w w' := by
  have h := ajoin_any aC eW v u w hv hu fit_aC fit_eW
  rwa [show joinAF aC eW = aC by kernel_rfl, show joinAB aC eW = false by kernel_rfl, show joinAE aC eW = 4 by kernel_rfl] at h
theorem w_new (w : World) : Calls Tryz.prog 41 #[.int .i64 2] w fun e w' => ∃ v', e = .returned (.tuple #[v', .int .i64 0]) ∧ isAr aA v' w' ∧ Below w.heap.size w w' := anew_any 2 w
theorem w_merge (v u : Value) (w : World) (hv : isAr aA v w) (hu : isEns [eX, eY, eZ, zeroE] u w) : Calls Tryz.prog 16 #[v, u] w fun e w' => ∃ v', e = .returned (.tuple #[v', .int .i64 3, .int .i64 1]) ∧ isAr aD v' w' ∧ Below w.heap.size w w' := by
  have h := amerge_any aA [eX, eY, eZ, zeroE] v u w hv hu fit_aA (fun e he => by
    simp only [List.mem_cons, List.not_mem_nil, or_false] at he
    rcases he with rfl | rfl | rfl | rfl
    · exact fit_eX
    · exact fit_eY
    · exact fit_eZ
    · exact ⟨by decide, ⟨by decide, by decide, by decide⟩⟩) (by decide)
  rwa [show mergeF aA [eX, eY, eZ, zeroE] = aD by kernel_rfl, show mergeN aA [eX, eY, eZ, zeroE] = 3 by kernel_rfl, show mergeO aA [eX, eY, eZ, zeroE] = 1 by kernel_rfl] at h
theorem w_all (v : Value) (w : World) (hv : isAr aD v w) : Calls Tryz.prog 42 #[v] w fun e W' => ∃ v', e = .returned v' ∧ isEns [eY, eZ] v' W' ∧ Below w.heap.size w W' := by
  have h := all_any aD v w hv fit_aD
  rwa [show allA aD = [eY, eZ] by kernel_rfl] at h
theorem w_chunk (v : Value) (w : World) (hv : isAr aD v w) : Calls Tryz.prog 46 #[v, .int .i64 1, .int .i64 9] w fun e W' => ∃ a c, e = .returned (.slice a 1 c) ∧ Below w.heap.size w W' := by
  have h := chunk_any aD 1 9 v w hv fit_aD
  refine h.mono ?_
  rintro e W' ⟨v', rfl, hv', hb⟩
  obtain ⟨a, c, e⟩ := hv'.len
  exact ⟨a, c, by rw [e, show (chunkA aD 1 9).length = 1 by kernel_rfl], hb⟩
theorem w_find (v : Value) (w : World) (hv : isAr aD v w) : Calls Tryz.prog 40 #[v, .int .i64 3, .string ⟨#[97]⟩] w fun e w' => e = .returned (.int .i64 1) ∧ Below w.heap.size w w' := by
  have h := find_any aD 3 [97] v w hv fit_aD
  rwa [show findI aD (nameE 3 [97]) = 1 by kernel_rfl] at h
theorem w_find1 (v : Value) (w : World) (hv : isAr aD v w) : Calls Tryz.prog 40 #[v, .int .i64 1, .string ⟨#[97]⟩] w fun e w' => e = .returned (.int .i64 (-1)) ∧ Below w.heap.size w w' := by
  have h := find_any aD 1 [97] v w hv fit_aD
  rwa [show findI aD (nameE 1 [97]) = -1 by kernel_rfl] at h
theorem w_same (A C : Ar) (r : Bool) (v u : Value) (w : World) (hv : isAr A v w) (hu : isAr C u w) (hA : FitA A) (hC : FitA C) (hr : decide (A = C) = r) : Calls Tryz.prog 43 #[v, u] w fun e w' => e = .returned (.bool r) ∧ Below w.heap.size w w' := by
  subst hr; exact asame_any A C v u w hv hu hA hC
theorem w_below (A C : Ar) (r : Bool) (v u : Value) (w : World) (hv : isAr A v w) (hu : isAr C u w) (hA : FitA A) (hC : FitA C) (hr : belowA A C = r) : Calls Tryz.prog 44 #[v, u] w fun e w' => e = .returned (.bool r) ∧ Below w.heap.size w w' := by
  subst hr; exact below_any A C v u w hv hu hA hC
theorem w_alike (A C : Ar) (r : Bool) (v u : Value) (w : World) (hv : isAr A v w) (hu : isAr C u w) (hA : FitA A) (hC : FitA C) (hr : alikeA A C = r) : Calls Tryz.prog 45 #[v, u] w fun e w' => e = .returned (.bool r) ∧ Below w.heap.size w w' := by
  subst hr; exact alike_any A C v u w hv hu hA hC
theorem w_check (A : Ar) (r : Int) (v : Value) (w : World) (hv : isAr A v w) (hA : FitA A) (hr : chkA A = r) : Calls Tryz.prog 38 #[v] w fun e w' => e = .returned (.int .i64 r) ∧ Below w.heap.size w w' := by
  subst hr; exact acheck_any A v w hv hA
theorem zeroA_lit (w : World) : isAr zeroA (.agg #[.int .i64 0, .slice none 0 0, .slice none 0 0]) w := ⟨_, _, rfl, .inl ⟨rfl, rfl⟩, .inl ⟨rfl, rfl⟩⟩
theorem fit_zeroA : FitA zeroA := ⟨by decide, by decide, fun e he => by simp [zeroA] at he⟩
theorem w_lits (w : World) : Kept (Below w.heap.size w (((w.alloc (.cells #[.string ⟨#[98]⟩, .int .i64 3, .int .i64 0, .int .i64 0, .bool false, .string ⟨#[]⟩, .slice none 0 0, .slice none 0 0, .int .u64 1] 30)).alloc (.cells #[.string ⟨#[97]⟩, .int .i64 3, .int .i64 0, .int .i64 0, .bool false, .string ⟨#[]⟩, .slice none 0 0, .slice none 0 0, .int .u64 2] 30)).alloc (.cells #[.string ⟨#[98]⟩, .int .i64 3, .int .i64 0, .int .i64 0, .bool false, .string ⟨#[]⟩, .slice none 0 0, .slice none 0 0, .int .u64 3] 30))) ∧ Kept (VarN (((w.alloc (.cells #[.string ⟨#[98]⟩, .int .i64 3, .int .i64 0, .int .i64 0, .bool false, .string ⟨#[]⟩, .slice none 0 0, .slice none 0 0, .int .u64 1] 30)).alloc (.cells #[.string ⟨#[97]⟩, .int .i64 3, .int .i64 0, .int .i64 0, .bool false, .string ⟨#[]⟩, .slice none 0 0, .slice none 0 0, .int .u64 2] 30)).alloc (.cells #[.string ⟨#[98]⟩, .int .i64 3, .int .i64 0, .int .i64 0, .bool false, .string ⟨#[]⟩, .slice none 0 0, .slice none 0 0, .int .u64 3] 30)) w.heap.size eX) ∧ Kept (VarN (((w.alloc (.cells #[.string ⟨#[98]⟩, .int .i64 3, .int .i64 0, .int .i64 0, .bool false, .string ⟨#[]⟩, .slice none 0 0, .slice none 0 0, .int .u64 1] 30)).alloc (.cells #[.string ⟨#[97]⟩, .int .i64 3, .int .i64 0, .int .i64 0, .bool false, .string ⟨#[]⟩, .slice none 0 0, .slice none 0 0, .int .u64 2] 30)).alloc (.cells #[.string ⟨#[98]⟩, .int .i64 3, .int .i64 0, .int .i64 0, .bool false, .string ⟨#[]⟩, .slice none 0 0, .slice none 0 0, .int .u64 3] 30)) (w.heap.size + 1) eY) ∧ Kept (VarN (((w.alloc (.cells #[.string ⟨#[98]⟩, .int .i64 3, .int .i64 0, .int .i64 0, .bool false, .string ⟨#[]⟩, .slice none 0 0, .slice none 0 0, .int .u64 1] 30)).alloc (.cells #[.string ⟨#[97]⟩, .int .i64 3, .int .i64 0, .int .i64 0, .bool false, .string ⟨#[]⟩, .slice none 0 0, .slice none 0 0, .int .u64 2] 30)).alloc (.cells #[.string ⟨#[98]⟩, .int .i64 3, .int .i64 0, .int .i64 0, .bool false, .string ⟨#[]⟩, .slice none 0 0, .slice none 0 0, .int .u64 3] 30)) (w.heap.size + 1 + 1) eZ) := by
  obtain ⟨B1, V1⟩ := ebox w eX (.slice none 0 0) (.slice none 0 0) (.inl ⟨rfl, rfl⟩) (.inl ⟨rfl, rfl⟩) w.heap.size rfl
  obtain ⟨B2, V2⟩ := ebox (w.alloc (.cells #[.string ⟨#[98]⟩, .int .i64 3, .int .i64 0, .int .i64 0, .bool false, .string ⟨#[]⟩, .slice none 0 0, .slice none 0 0, .int .u64 1] 30)) eY (.slice none 0 0) (.slice none 0 0) (.inl ⟨rfl, rfl⟩) (.inl ⟨rfl, rfl⟩) (w.heap.size + 1) (by simp)
  obtain ⟨B3, V3⟩ := ebox ((w.alloc (.cells #[.string ⟨#[98]⟩, .int .i64 3, .int .i64 0, .int .i64 0, .bool false, .string ⟨#[]⟩, .slice none 0 0, .slice none 0 0, .int .u64 1] 30)).alloc (.cells #[.string ⟨#[97]⟩, .int .i64 3, .int .i64 0, .int .i64 0, .bool false, .string ⟨#[]⟩, .slice none 0 0, .slice none 0 0, .int .u64 2] 30)) eZ (.slice none 0 0) (.slice none 0 0) (.inl ⟨rfl, rfl⟩) (.inl ⟨rfl, rfl⟩) (w.heap.size + 1 + 1) (by simp)
  have B12 : Below w.heap.size w _ := B1.out.trans (B2.out.mono B1.out.size)
  exact ⟨⟨B12.trans (B3.out.mono B12.size)⟩, ⟨(V1.out.keep B2.out).keep B3.out⟩, ⟨V2.out.keep B3.out⟩, V3⟩
theorem w_en {vp vm : Value} {w : World} (h : isVa eX.val (.agg #[.int .i64 eX.val.kind, .int .i64 eX.val.time, .int .i64 eX.val.node, .bool eX.val.dead, .string ⟨eX.val.text.toArray⟩, vp, vm, .int .u64 (eX.val.flags.toNat : Int)]) w) : isEn eW (.agg #[.string ⟨#[99]⟩, .int .i64 eX.val.kind, .int .i64 eX.val.time, .int .i64 eX.val.node, .bool eX.val.dead, .string ⟨eX.val.text.toArray⟩, vp, vm, .int .u64 (eX.val.flags.toNat : Int)]) w := by
  obtain ⟨p, m, e, hp, hm⟩ := h
  injection e with e
  simp only [Array.mk.injEq, List.cons.injEq] at e
  obtain ⟨_, _, _, _, _, rfl, rfl, _⟩ := e
  exact ⟨_, _, rfl, hp, hm⟩
theorem en_rows {E : En} {vp vm : Value} {w : World} (h : isEn E (.agg #[.string ⟨E.key.toArray⟩, .int .i64 E.val.kind, .int .i64 E.val.time, .int .i64 E.val.node, .bool E.val.dead, .string ⟨E.val.text.toArray⟩, vp, vm, .int .u64 (E.val.flags.toNat : Int)]) w) : isCells (E.val.plus.map intC) vp w ∧ isCells (E.val.minus.map intC) vm w := by
  obtain ⟨p, m, e, hp, hm⟩ := h
  injection e with e
  simp only [Array.mk.injEq, List.cons.injEq] at e
  obtain ⟨_, _, _, _, _, _, rfl, rfl, _⟩ := e
  exact ⟨hp, hm⟩
theorem w_row (E1 E2 E3 : En) (p1 m1 p2 m2 p3 m3 : Value) (w : World) (h1 : isEn E1 (.agg #[.string ⟨E1.key.toArray⟩, .int .i64 E1.val.kind, .int .i64 E1.val.time, .int .i64 E1.val.node, .bool E1.val.dead, .string ⟨E1.val.text.toArray⟩, p1, m1, .int .u64 (E1.val.flags.toNat : Int)]) w) (h2 : isEn E2 (.agg #[.string ⟨E2.key.toArray⟩, .int .i64 E2.val.kind, .int .i64 E2.val.time, .int .i64 E2.val.node, .bool E2.val.dead, .string ⟨E2.val.text.toArray⟩, p2, m2, .int .u64 (E2.val.flags.toNat : Int)]) w) (h3 : isEn E3 (.agg #[.string ⟨E3.key.toArray⟩, .int .i64 E3.val.kind, .int .i64 E3.val.time, .int .i64 E3.val.node, .bool E3.val.dead, .string ⟨E3.val.text.toArray⟩, p3, m3, .int .u64 (E3.val.flags.toNat : Int)]) w) : isEns [E1, E2, E3, zeroE] (.slice (some ⟨w.heap.size, 0, none⟩) 4 4) (w.alloc (.cells #[.string ⟨E1.key.toArray⟩, .int .i64 E1.val.kind, .int .i64 E1.val.time, .int .i64 E1.val.node, .bool E1.val.dead, .string ⟨E1.val.text.toArray⟩, p1, m1, .int .u64 (E1.val.flags.toNat : Int), .string ⟨E2.key.toArray⟩, .int .i64 E2.val.kind, .int .i64 E2.val.time, .int .i64 E2.val.node, .bool E2.val.dead, .string ⟨E2.val.text.toArray⟩, p2, m2, .int .u64 (E2.val.flags.toNat : Int), .string ⟨E3.key.toArray⟩, .int .i64 E3.val.kind, .int .i64 E3.val.time, .int .i64 E3.val.node, .bool E3.val.dead, .string ⟨E3.val.text.toArray⟩, p3, m3, .int .u64 (E3.val.flags.toNat : Int), .string ⟨#[]⟩, .int .i64 0, .int .i64 0, .int .i64 0, .bool false, .string ⟨#[]⟩, .slice none 0 0, .slice none 0 0, .int .u64 0] 30)) := by
  have hb := lit_below w (.cells #[.string ⟨E1.key.toArray⟩, .int .i64 E1.val.kind, .int .i64 E1.val.time, .int .i64 E1.val.node, .bool E1.val.dead, .string ⟨E1.val.text.toArray⟩, p1, m1, .int .u64 (E1.val.flags.toNat : Int), .string ⟨E2.key.toArray⟩, .int .i64 E2.val.kind, .int .i64 E2.val.time, .int .i64 E2.val.node, .bool E2.val.dead, .string ⟨E2.val.text.toArray⟩, p2, m2, .int .u64 (E2.val.flags.toNat : Int), .string ⟨E3.key.toArray⟩, .int .i64 E3.val.kind, .int .i64 E3.val.time, .int .i64 E3.val.node, .bool E3.val.dead, .string ⟨E3.val.text.toArray⟩, p3, m3, .int .u64 (E3.val.flags.toNat : Int), .string ⟨#[]⟩, .int .i64 0, .int .i64 0, .int .i64 0, .bool false, .string ⟨#[]⟩, .slice none 0 0, .slice none 0 0, .int .u64 0] 30)
  refine .inr (.inr ⟨w.heap.size, 0, 4, rfl, by simp, fun j E hE => ?_⟩)
  match j, hE with
  | 0, h => obtain rfl : _ = E := Option.some.inj h; exact ⟨p1, m1, fun i x hi => by rw [World.cell?_alloc_new]; match i, hi with | 0, h => exact h | 1, h => exact h | 2, h => exact h | 3, h => exact h | 4, h => exact h | 5, h => exact h | 6, h => exact h | 7, h => exact h | 8, h => exact h | n + 9, h => simp at h, stable_cells _ _ _ _ (en_rows h1).1 hb, stable_cells _ _ _ _ (en_rows h1).2 hb⟩
  | 1, h => obtain rfl : _ = E := Option.some.inj h; exact ⟨p2, m2, fun i x hi => by rw [World.cell?_alloc_new]; match i, hi with | 0, h => exact h | 1, h => exact h | 2, h => exact h | 3, h => exact h | 4, h => exact h | 5, h => exact h | 6, h => exact h | 7, h => exact h | 8, h => exact h | n + 9, h => simp at h, stable_cells _ _ _ _ (en_rows h2).1 hb, stable_cells _ _ _ _ (en_rows h2).2 hb⟩
  | 2, h => obtain rfl : _ = E := Option.some.inj h; exact ⟨p3, m3, fun i x hi => by rw [World.cell?_alloc_new]; match i, hi with | 0, h => exact h | 1, h => exact h | 2, h => exact h | 3, h => exact h | 4, h => exact h | 5, h => exact h | 6, h => exact h | 7, h => exact h | 8, h => exact h | n + 9, h => simp at h, stable_cells _ _ _ _ (en_rows h3).1 hb, stable_cells _ _ _ _ (en_rows h3).2 hb⟩
  | 3, h => obtain rfl : _ = E := Option.some.inj h; exact ⟨.slice none 0 0, .slice none 0 0, fun i x hi => by rw [World.cell?_alloc_new]; match i, hi with | 0, h => exact h | 1, h => exact h | 2, h => exact h | 3, h => exact h | 4, h => exact h | 5, h => exact h | 6, h => exact h | 7, h => exact h | 8, h => exact h | n + 9, h => simp at h, .inl ⟨rfl, rfl⟩, .inl ⟨rfl, rfl⟩⟩
  | n + 4, h => simp at h
theorem w_mrow (W : World) (va p1 m1 p2 m2 p3 m3 : Value) (ha : isAr aA va W) (h1 : isEn eX (.agg #[.string ⟨eX.key.toArray⟩, .int .i64 eX.val.kind, .int .i64 eX.val.time, .int .i64 eX.val.node, .bool eX.val.dead, .string ⟨eX.val.text.toArray⟩, p1, m1, .int .u64 (eX.val.flags.toNat : Int)]) W) (h2 : isEn eY (.agg #[.string ⟨eY.key.toArray⟩, .int .i64 eY.val.kind, .int .i64 eY.val.time, .int .i64 eY.val.node, .bool eY.val.dead, .string ⟨eY.val.text.toArray⟩, p2, m2, .int .u64 (eY.val.flags.toNat : Int)]) W) (h3 : isEn eZ (.agg #[.string ⟨eZ.key.toArray⟩, .int .i64 eZ.val.kind, .int .i64 eZ.val.time, .int .i64 eZ.val.node, .bool eZ.val.dead, .string ⟨eZ.val.text.toArray⟩, p3, m3, .int .u64 (eZ.val.flags.toNat : Int)]) W) : Calls Tryz.prog 16 #[va, .slice (some ⟨W.heap.size, 0, none⟩) 4 4] (W.alloc (.cells #[.string ⟨eX.key.toArray⟩, .int .i64 eX.val.kind, .int .i64 eX.val.time, .int .i64 eX.val.node, .bool eX.val.dead, .string ⟨eX.val.text.toArray⟩, p1, m1, .int .u64 (eX.val.flags.toNat : Int), .string ⟨eY.key.toArray⟩, .int .i64 eY.val.kind, .int .i64 eY.val.time, .int .i64 eY.val.node, .bool eY.val.dead, .string ⟨eY.val.text.toArray⟩, p2, m2, .int .u64 (eY.val.flags.toNat : Int), .string ⟨eZ.key.toArray⟩, .int .i64 eZ.val.kind, .int .i64 eZ.val.time, .int .i64 eZ.val.node, .bool eZ.val.dead, .string ⟨eZ.val.text.toArray⟩, p3, m3, .int .u64 (eZ.val.flags.toNat : Int), .string ⟨#[]⟩, .int .i64 0, .int .i64 0, .int .i64 0, .bool false, .string ⟨#[]⟩, .slice none 0 0, .slice none 0 0, .int .u64 0] 30)) fun e w' => ∃ v', e = .returned (.tuple #[v', .int .i64 3, .int .i64 1]) ∧ isAr aD v' w' ∧ Below W.heap.size W w' := by
  have hb := lit_below W (.cells #[.string ⟨eX.key.toArray⟩, .int .i64 eX.val.kind, .int .i64 eX.val.time, .int .i64 eX.val.node, .bool eX.val.dead, .string ⟨eX.val.text.toArray⟩, p1, m1, .int .u64 (eX.val.flags.toNat : Int), .string ⟨eY.key.toArray⟩, .int .i64 eY.val.kind, .int .i64 eY.val.time, .int .i64 eY.val.node, .bool eY.val.dead, .string ⟨eY.val.text.toArray⟩, p2, m2, .int .u64 (eY.val.flags.toNat : Int), .string ⟨eZ.key.toArray⟩, .int .i64 eZ.val.kind, .int .i64 eZ.val.time, .int .i64 eZ.val.node, .bool eZ.val.dead, .string ⟨eZ.val.text.toArray⟩, p3, m3, .int .u64 (eZ.val.flags.toNat : Int), .string ⟨#[]⟩, .int .i64 0, .int .i64 0, .int .i64 0, .bool false, .string ⟨#[]⟩, .slice none 0 0, .slice none 0 0, .int .u64 0] 30)
  refine (w_merge _ _ _ (stable_ar _ _ _ _ ha hb) (w_row eX eY eZ _ _ _ _ _ _ _ h1 h2 h3)).mono ?_
  rintro e w' ⟨v', rfl, hv, hb'⟩
  exact ⟨v', rfl, hv, hb.trans (hb'.mono hb.size)⟩
theorem aD_0 : aD.slots[0]? = some eZ := rfl
theorem aD_len : aD.slots.length = 2 := rfl
theorem eY_key : (Value.string ⟨eY.key.toArray⟩) = .string ⟨#[97]⟩ := rfl
theorem eZ_fl : (Value.int .u64 (eZ.val.flags.toNat : Int)) = .int .u64 3 := rfl
theorem f_bd : belowA aB aD = true := by kernel_rfl
theorem f_db : belowA aD aB = false := by kernel_rfl
theorem f_dd : alikeA aD aD = true := by kernel_rfl
theorem f_cd : chkA aD = 0 := by kernel_rfl
theorem f_cz : chkA zeroA = 2 := by kernel_rfl
theorem f_ab : decide (aA = aB) = false := by kernel_rfl
end Go.Proofs.YtbgconagkgfplaaGreat
end
section
namespace Go.Proofs.YtbgconagkgfplaaGreat
open Go.RowKit
set_option linter.unusedVariables false
set_option linter.unusedSimpArgs false
attribute [local irreducible] setN eX eY eZ eW zeroE aA aB aC aD

set_option maxRecDepth 100000 in
set_option maxHeartbeats 4000000 in
theorem aworks_any (w : World) : Calls Tryz.prog 10 #[] w fun e w' => e = .returned (.bool true) ∧ Below w.heap.size w w' := by
  obtain ⟨hB, Vx, Vy, Vz⟩ := w_lits w
  go_enter Tryz.func10, Tryz.ntmps10
  go_wp2_with fail
  generalize (((w.alloc (.cells #[.string ⟨#[98]⟩, .int .i64 3, .int .i64 0, .int .i64 0, .bool false, .string ⟨#[]⟩, .slice none 0 0, .slice none 0 0, .int .u64 1] 30)).alloc (.cells #[.string ⟨#[97]⟩, .int .i64 3, .int .i64 0, .int .i64 0, .bool false, .string ⟨#[]⟩, .slice none 0 0, .slice none 0 0, .int .u64 2] 30)).alloc (.cells #[.string ⟨#[98]⟩, .int .i64 3, .int .i64 0, .int .i64 0, .bool false, .string ⟨#[]⟩, .slice none 0 0, .slice none 0 0, .int .u64 3] 30)) = W0 at *
  ((with_reducible refine (w_new _).mono ?_); rintro e U ⟨v', rfl, ⟨p', m', rfl, hp', hm'⟩, hb1⟩)
  obtain ⟨K1, K2, K3, K4, K5⟩ := anew U aA p' m' hp' hm' U.heap.size rfl
  clear hp' hm'
  replace hB := Kept.mk (hB.out.trans ((hb1).mono hB.out.size))
  replace Vx := Kept.mk (Vx.out.keep (hb1))
  replace Vy := Kept.mk (Vy.out.keep (hb1))
  replace Vz := Kept.mk (Vz.out.keep (hb1))
  clear hb1
  go_wp2_with (have hz0 := K1; refine wpList_storeN 25 rfl (.tmp 4) (.tmp 33) rfl U.heap.size [.int .i64 aA.cap, p', m'] size_ar rfl rfl K1.out rfl K2.out K5.out ?_; replace hB := Kept.mk (hB.out.trans ((K3.out).mono hB.out.size)); replace Vx := Kept.mk (Vx.out.keep (K3.out)); replace Vy := Kept.mk (Vy.out.keep (K3.out)); replace Vz := Kept.mk (Vz.out.keep (K3.out)); have Va := Kept.mk K4.out; clear hz0 K1 K2 K3 K4 K5; generalize setN (U.alloc (.cells #[.int .i64 0, .slice none 0 0, .slice none 0 0] 25)) U.heap.size 0 [.int .i64 aA.cap, p', m'] = W1 at *; generalize U.heap.size = ga at *; obtain ⟨qa, ra, xa, sa, ia, ka0, ka1, ka2⟩ := Va.out.open_; have Xa := Kept.mk xa; have Sa := Kept.mk sa; have Ia := Kept.mk ia; clear xa sa ia; obtain ⟨qx, rx, xx, yx, kx0, kx1, kx2, kx3, kx4, kx5, kx6, kx7, kx8⟩ := Vx.out.open_; have Xx := Kept.mk xx; have Yx := Kept.mk yx; clear xx yx)
  ((with_reducible refine (w_ax _ _ _ Xa.out Xx.out).mono ?_); rintro e U ⟨v', rfl, ⟨p', m', rfl, hp', hm'⟩, hb1⟩)
  obtain ⟨K1, K2, K3, K4, K5⟩ := anew U aB p' m' hp' hm' U.heap.size rfl
  clear hp' hm'
  clear Xa Sa Ia ka0 ka1 ka2
  clear Xx Yx kx0 kx1 kx2 kx3 kx4 kx5 kx6 kx7 kx8
  replace hB := Kept.mk (hB.out.trans ((hb1).mono hB.out.size))
  replace Vx := Kept.mk (Vx.out.keep (hb1))
  replace Vy := Kept.mk (Vy.out.keep (hb1))
  replace Vz := Kept.mk (Vz.out.keep (hb1))
  replace Va := Kept.mk (Va.out.keep (hb1))
  clear hb1
  go_wp2_with (have hz0 := K1; refine wpList_storeN 25 rfl (.tmp 6) (.tmp 39) rfl U.heap.size [.int .i64 aB.cap, p', m'] size_ar rfl rfl K1.out rfl K2.out K5.out ?_; replace hB := Kept.mk (hB.out.trans ((K3.out).mono hB.out.size)); replace Vx := Kept.mk (Vx.out.keep (K3.out)); replace Vy := Kept.mk (Vy.out.keep (K3.out)); replace Vz := Kept.mk (Vz.out.keep (K3.out)); replace Va := Kept.mk (Va.out.keep (K3.out)); have Vb := Kept.mk K4.out; clear hz0 K1 K2 K3 K4 K5; generalize setN (U.alloc (.cells #[.int .i64 0, .slice none 0 0, .slice none 0 0] 25)) U.heap.size 0 [.int .i64 aB.cap, p', m'] = W2 at *; generalize U.heap.size = gb at *; obtain ⟨qb, rb, xb, sb, ib, kb0, kb1, kb2⟩ := Vb.out.open_; have Xb := Kept.mk xb; have Sb := Kept.mk sb; have Ib := Kept.mk ib; clear xb sb ib; obtain ⟨qy, ry, xy, yy, ky0, ky1, ky2, ky3, ky4, ky5, ky6, ky7, ky8⟩ := Vy.out.open_; have Xy := Kept.mk xy; have Yy := Kept.mk yy; clear xy yy)
  ((with_reducible refine (w_by _ _ _ Xb.out Xy.out).mono ?_); rintro e U ⟨v', rfl, ⟨p', m', rfl, hp', hm'⟩, hb1⟩)
  obtain ⟨K1, K2, K3, K4, K5⟩ := anew U aC p' m' hp' hm' U.heap.size rfl
  clear hp' hm'
  clear Xb Sb Ib kb0 kb1 kb2
  clear Xy Yy ky0 ky1 ky2 ky3 ky4 ky5 ky6 ky7 ky8
  replace hB := Kept.mk (hB.out.trans ((hb1).mono hB.out.size))
  replace Vx := Kept.mk (Vx.out.keep (hb1))
  replace Vy := Kept.mk (Vy.out.keep (hb1))
  replace Vz := Kept.mk (Vz.out.keep (hb1))
  replace Va := Kept.mk (Va.out.keep (hb1))
  replace Vb := Kept.mk (Vb.out.keep (hb1))
  clear hb1
  go_wp2_with (have hz0 := K1; refine wpList_storeN 25 rfl (.tmp 9) (.tmp 46) rfl U.heap.size [.int .i64 aC.cap, p', m'] size_ar rfl rfl K1.out rfl K2.out K5.out ?_; replace hB := Kept.mk (hB.out.trans ((K3.out).mono hB.out.size)); replace Vx := Kept.mk (Vx.out.keep (K3.out)); replace Vy := Kept.mk (Vy.out.keep (K3.out)); replace Vz := Kept.mk (Vz.out.keep (K3.out)); replace Va := Kept.mk (Va.out.keep (K3.out)); replace Vb := Kept.mk (Vb.out.keep (K3.out)); have Vc := Kept.mk K4.out; clear hz0 K1 K2 K3 K4 K5; generalize setN (U.alloc (.cells #[.int .i64 0, .slice none 0 0, .slice none 0 0] 25)) U.heap.size 0 [.int .i64 aC.cap, p', m'] = W3 at *; generalize U.heap.size = gc at *; obtain ⟨qc, rc, xc, sc, ic, kc0, kc1, kc2⟩ := Vc.out.open_; have Xc := Kept.mk xc; have Sc := Kept.mk sc; have Ic := Kept.mk ic; clear xc sc ic; obtain ⟨qz, rz, xz, yz, kz0, kz1, kz2, kz3, kz4, kz5, kz6, kz7, kz8⟩ := Vz.out.open_; have Xz := Kept.mk xz; have Yz := Kept.mk yz; clear xz yz)
  ((with_reducible refine (w_cz _ _ _ Xc.out Xz.out).mono ?_); rintro e U ⟨v', rfl, ⟨p', m', rfl, hp', hm'⟩, hb1⟩)
  obtain ⟨K1, K2, K3, K4, K5⟩ := anew U aD p' m' hp' hm' U.heap.size rfl
  clear hp' hm'
  clear Xc Sc Ic kc0 kc1 kc2
  clear Xz Yz kz0 kz1 kz2 kz3 kz4 kz5 kz6 kz7 kz8
  replace hB := Kept.mk (hB.out.trans ((hb1).mono hB.out.size))
  replace Vx := Kept.mk (Vx.out.keep (hb1))
  replace Vy := Kept.mk (Vy.out.keep (hb1))
  replace Vz := Kept.mk (Vz.out.keep (hb1))
  replace Va := Kept.mk (Va.out.keep (hb1))
  replace Vb := Kept.mk (Vb.out.keep (hb1))
  replace Vc := Kept.mk (Vc.out.keep (hb1))
  clear hb1
  go_wp2_with (have hz0 := K1; refine wpList_storeN 25 rfl (.tmp 12) (.tmp 53) rfl U.heap.size [.int .i64 aD.cap, p', m'] size_ar rfl rfl K1.out rfl K2.out K5.out ?_; replace hB := Kept.mk (hB.out.trans ((K3.out).mono hB.out.size)); replace Vx := Kept.mk (Vx.out.keep (K3.out)); replace Vy := Kept.mk (Vy.out.keep (K3.out)); replace Vz := Kept.mk (Vz.out.keep (K3.out)); replace Va := Kept.mk (Va.out.keep (K3.out)); replace Vb := Kept.mk (Vb.out.keep (K3.out)); replace Vc := Kept.mk (Vc.out.keep (K3.out)); have Vd := Kept.mk K4.out; clear hz0 K1 K2 K3 K4 K5; generalize setN (U.alloc (.cells #[.int .i64 0, .slice none 0 0, .slice none 0 0] 25)) U.heap.size 0 [.int .i64 aD.cap, p', m'] = W4 at *; generalize U.heap.size = gd at *; obtain ⟨qd, rd, xd, sd, id, kd0, kd1, kd2⟩ := Vd.out.open_; have Xd := Kept.mk xd; have Sd := Kept.mk sd; have Id := Kept.mk id; clear xd sd id; obtain ⟨qx, rx, xx, yx, kx0, kx1, kx2, kx3, kx4, kx5, kx6, kx7, kx8⟩ := Vx.out.open_; have Xx := Kept.mk xx; have Yx := Kept.mk yx; clear xx yx)
  ((with_reducible refine (w_dx _ _ _ Xd.out Xx.out).mono ?_); rintro e U ⟨v', rfl, ⟨p', m', rfl, hp', hm'⟩, hb1⟩)
  obtain ⟨K1, K2, K3, K4, K5⟩ := anew U aD p' m' hp' hm' U.heap.size rfl
  clear hp' hm'
  clear Xd Sd Id kd0 kd1 kd2
  clear Xx Yx kx0 kx1 kx2 kx3 kx4 kx5 kx6 kx7 kx8
  replace hB := Kept.mk (hB.out.trans ((hb1).mono hB.out.size))
  replace Vx := Kept.mk (Vx.out.keep (hb1))
  replace Vy := Kept.mk (Vy.out.keep (hb1))
  replace Vz := Kept.mk (Vz.out.keep (hb1))
  replace Va := Kept.mk (Va.out.keep (hb1))
  replace Vb := Kept.mk (Vb.out.keep (hb1))
  replace Vc := Kept.mk (Vc.out.keep (hb1))
  replace Vd := Kept.mk (Vd.out.keep (hb1))
  clear hb1
  go_wp2_with (have hz0 := K1; refine wpList_storeN 25 rfl (.tmp 15) (.tmp 60) rfl U.heap.size [.int .i64 aD.cap, p', m'] size_ar rfl rfl K1.out rfl K2.out K5.out ?_; replace hB := Kept.mk (hB.out.trans ((K3.out).mono hB.out.size)); replace Vx := Kept.mk (Vx.out.keep (K3.out)); replace Vy := Kept.mk (Vy.out.keep (K3.out)); replace Vz := Kept.mk (Vz.out.keep (K3.out)); replace Va := Kept.mk (Va.out.keep (K3.out)); replace Vb := Kept.mk (Vb.out.keep (K3.out)); replace Vc := Kept.mk (Vc.out.keep (K3.out)); replace Vd := Kept.mk (Vd.out.keep (K3.out)); have Vj := Kept.mk K4.out; clear hz0 K1 K2 K3 K4 K5; generalize setN (U.alloc (.cells #[.int .i64 0, .slice none 0 0, .slice none 0 0] 25)) U.heap.size 0 [.int .i64 aD.cap, p', m'] = W5 at *; generalize U.heap.size = gj at *; obtain ⟨qc, rc, xc, sc, ic, kc0, kc1, kc2⟩ := Vc.out.open_; have Xc := Kept.mk xc; have Sc := Kept.mk sc; have Ic := Kept.mk ic; clear xc sc ic; obtain ⟨qx, rx, xx, yx, kx0, kx1, kx2, kx3, kx4, kx5, kx6, kx7, kx8⟩ := Vx.out.open_; have Xx := Kept.mk xx; have Yx := Kept.mk yx; clear xx yx)
  ((refine (w_cw _ _ _ Xc.out (w_en Yx.out)).mono ?_); rintro e U ⟨v', rfl, ⟨p', m', rfl, hp', hm'⟩, hb1⟩)
  obtain ⟨K1, K2, K3, K4, K5⟩ := anew U aC p' m' hp' hm' U.heap.size rfl
  clear hp' hm'
  clear Xc Sc Ic kc0 kc1 kc2
  clear Xx Yx kx0 kx1 kx2 kx3 kx4 kx5 kx6 kx7 kx8
  replace hB := Kept.mk (hB.out.trans ((hb1).mono hB.out.size))
  replace Vx := Kept.mk (Vx.out.keep (hb1))
  replace Vy := Kept.mk (Vy.out.keep (hb1))
  replace Vz := Kept.mk (Vz.out.keep (hb1))
  replace Va := Kept.mk (Va.out.keep (hb1))
  replace Vb := Kept.mk (Vb.out.keep (hb1))
  replace Vc := Kept.mk (Vc.out.keep (hb1))
  replace Vd := Kept.mk (Vd.out.keep (hb1))
  replace Vj := Kept.mk (Vj.out.keep (hb1))
  clear hb1
  go_wp2_with (have hz0 := K1; refine wpList_storeN 25 rfl (.tmp 18) (.tmp 69) rfl U.heap.size [.int .i64 aC.cap, p', m'] size_ar rfl rfl K1.out rfl K2.out K5.out ?_; replace hB := Kept.mk (hB.out.trans ((K3.out).mono hB.out.size)); replace Vx := Kept.mk (Vx.out.keep (K3.out)); replace Vy := Kept.mk (Vy.out.keep (K3.out)); replace Vz := Kept.mk (Vz.out.keep (K3.out)); replace Va := Kept.mk (Va.out.keep (K3.out)); replace Vb := Kept.mk (Vb.out.keep (K3.out)); replace Vc := Kept.mk (Vc.out.keep (K3.out)); replace Vd := Kept.mk (Vd.out.keep (K3.out)); replace Vj := Kept.mk (Vj.out.keep (K3.out)); have Vh := Kept.mk K4.out; clear hz0 K1 K2 K3 K4 K5; generalize setN (U.alloc (.cells #[.int .i64 0, .slice none 0 0, .slice none 0 0] 25)) U.heap.size 0 [.int .i64 aC.cap, p', m'] = W6 at *; generalize U.heap.size = gh at *; obtain ⟨qa, ra, xa, sa, ia, ka0, ka1, ka2⟩ := Va.out.open_; have Xa := Kept.mk xa; have Sa := Kept.mk sa; have Ia := Kept.mk ia; clear xa sa ia; obtain ⟨qx, rx, xx, yx, kx0, kx1, kx2, kx3, kx4, kx5, kx6, kx7, kx8⟩ := Vx.out.open_; have Xx := Kept.mk xx; have Yx := Kept.mk yx; clear xx yx; obtain ⟨qy, ry, xy, yy, ky0, ky1, ky2, ky3, ky4, ky5, ky6, ky7, ky8⟩ := Vy.out.open_; have Xy := Kept.mk xy; have Yy := Kept.mk yy; clear xy yy; obtain ⟨qz, rz, xz, yz, kz0, kz1, kz2, kz3, kz4, kz5, kz6, kz7, kz8⟩ := Vz.out.open_; have Xz := Kept.mk xz; have Yz := Kept.mk yz; clear xz yz)
  ((with_reducible refine (w_mrow _ _ _ _ _ _ _ _ Xa.out Xx.out Xy.out Xz.out).mono ?_); rintro e U ⟨v', rfl, ⟨p', m', rfl, hp', hm'⟩, hb1⟩)
  obtain ⟨K1, K2, K3, K4, K5⟩ := anew U aD p' m' hp' hm' U.heap.size rfl
  clear hp' hm'
  clear Xa Sa Ia ka0 ka1 ka2
  clear Xx Yx kx0 kx1 kx2 kx3 kx4 kx5 kx6 kx7 kx8
  clear Xy Yy ky0 ky1 ky2 ky3 ky4 ky5 ky6 ky7 ky8
  clear Xz Yz kz0 kz1 kz2 kz3 kz4 kz5 kz6 kz7 kz8
  replace hB := Kept.mk (hB.out.trans ((hb1).mono hB.out.size))
  replace Vx := Kept.mk (Vx.out.keep (hb1))
  replace Vy := Kept.mk (Vy.out.keep (hb1))
  replace Vz := Kept.mk (Vz.out.keep (hb1))
  replace Va := Kept.mk (Va.out.keep (hb1))
  replace Vb := Kept.mk (Vb.out.keep (hb1))
  replace Vc := Kept.mk (Vc.out.keep (hb1))
  replace Vd := Kept.mk (Vd.out.keep (hb1))
  replace Vj := Kept.mk (Vj.out.keep (hb1))
  replace Vh := Kept.mk (Vh.out.keep (hb1))
  clear hb1
  go_wp2_with (have hz0 := K1; refine wpList_storeN 25 rfl (.tmp 21) (.tmp 80) rfl U.heap.size [.int .i64 aD.cap, p', m'] size_ar rfl rfl K1.out rfl K2.out K5.out ?_; replace hB := Kept.mk (hB.out.trans ((K3.out).mono hB.out.size)); replace Vx := Kept.mk (Vx.out.keep (K3.out)); replace Vy := Kept.mk (Vy.out.keep (K3.out)); replace Vz := Kept.mk (Vz.out.keep (K3.out)); replace Va := Kept.mk (Va.out.keep (K3.out)); replace Vb := Kept.mk (Vb.out.keep (K3.out)); replace Vc := Kept.mk (Vc.out.keep (K3.out)); replace Vd := Kept.mk (Vd.out.keep (K3.out)); replace Vj := Kept.mk (Vj.out.keep (K3.out)); replace Vh := Kept.mk (Vh.out.keep (K3.out)); have Vm := Kept.mk K4.out; clear hz0 K1 K2 K3 K4 K5; generalize setN (U.alloc (.cells #[.int .i64 0, .slice none 0 0, .slice none 0 0] 25)) U.heap.size 0 [.int .i64 aD.cap, p', m'] = W7 at *; generalize U.heap.size = gm at *; obtain ⟨qd, rd, xd, sd, id, kd0, kd1, kd2⟩ := Vd.out.open_; have Xd := Kept.mk xd; have Sd := Kept.mk sd; have Id := Kept.mk id; clear xd sd id)
  ((with_reducible refine (w_all _ _ Xd.out).mono ?_); rintro e W8 ⟨vl, rfl, hl, hb1⟩)
  clear Xd Sd Id kd0 kd1 kd2
  replace hB := Kept.mk (hB.out.trans ((hb1).mono hB.out.size))
  replace Vx := Kept.mk (Vx.out.keep (hb1))
  replace Vy := Kept.mk (Vy.out.keep (hb1))
  replace Vz := Kept.mk (Vz.out.keep (hb1))
  replace Va := Kept.mk (Va.out.keep (hb1))
  replace Vb := Kept.mk (Vb.out.keep (hb1))
  replace Vc := Kept.mk (Vc.out.keep (hb1))
  replace Vd := Kept.mk (Vd.out.keep (hb1))
  replace Vj := Kept.mk (Vj.out.keep (hb1))
  replace Vh := Kept.mk (Vh.out.keep (hb1))
  replace Vm := Kept.mk (Vm.out.keep (hb1))
  clear hb1
  obtain ⟨bl, ol, cl, rfl, hbl, hEl⟩ := hl.get (j := 0) (E := eY) rfl
  obtain ⟨ql, rl, xl, yl, kl0, kl1, kl2, kl3, kl4, kl5, kl6, kl7, kl8⟩ := hEl.open_
  obtain ⟨qd, rd, xd, sd, id, kd0, kd1, kd2⟩ := Vd.out.open_
  have Xd := Kept.mk xd
  have Sd := Kept.mk sd
  have Id := Kept.mk id
  clear xd sd id
  obtain ⟨bd, od, cd, rfl, hbd, hEd⟩ := Sd.out.get aD_0
  obtain ⟨qm, rm, xm, ym, ke0, ke1, ke2, ke3, ke4, ke5, ke6, ke7, ke8⟩ := hEd.open_
  clear xl yl xm ym hl
  rw [aD_len] at kd1 Xd Sd
  simp only [List.length_cons, List.length_nil, Nat.zero_add, Nat.zero_mul, Nat.add_zero] at *
  rw [eY_key] at kl0
  rw [eZ_fl] at ke8
  clear kl1 kl2 kl3 kl4 kl5 kl6 kl7 kl8 ke0 ke1 ke2 ke3 ke4 ke5 ke6 ke7 hEl hEd
  go_wp2_with fail
  ((with_reducible refine (w_find _ _ Xd.out).mono ?_); rintro e W9 ⟨rfl, hb1⟩)
  clear Xd Sd Id kd0 kd1 kd2
  replace hB := Kept.mk (hB.out.trans ((hb1).mono hB.out.size))
  replace Vx := Kept.mk (Vx.out.keep (hb1))
  replace Vy := Kept.mk (Vy.out.keep (hb1))
  replace Vz := Kept.mk (Vz.out.keep (hb1))
  replace Va := Kept.mk (Va.out.keep (hb1))
  replace Vb := Kept.mk (Vb.out.keep (hb1))
  replace Vc := Kept.mk (Vc.out.keep (hb1))
  replace Vd := Kept.mk (Vd.out.keep (hb1))
  replace Vj := Kept.mk (Vj.out.keep (hb1))
  replace Vh := Kept.mk (Vh.out.keep (hb1))
  replace Vm := Kept.mk (Vm.out.keep (hb1))
  clear hb1
  clear kl0 ke8 hbl hbd
  obtain ⟨qd, rd, xd, sd, id, kd0, kd1, kd2⟩ := Vd.out.open_
  have Xd := Kept.mk xd
  have Sd := Kept.mk sd
  have Id := Kept.mk id
  clear xd sd id
  go_wp2_with fail
  ((with_reducible refine (w_find1 _ _ Xd.out).mono ?_); rintro e W10 ⟨rfl, hb1⟩)
  clear Xd Sd Id kd0 kd1 kd2
  replace hB := Kept.mk (hB.out.trans ((hb1).mono hB.out.size))
  replace Vx := Kept.mk (Vx.out.keep (hb1))
  replace Vy := Kept.mk (Vy.out.keep (hb1))
  replace Vz := Kept.mk (Vz.out.keep (hb1))
  replace Va := Kept.mk (Va.out.keep (hb1))
  replace Vb := Kept.mk (Vb.out.keep (hb1))
  replace Vc := Kept.mk (Vc.out.keep (hb1))
  replace Vd := Kept.mk (Vd.out.keep (hb1))
  replace Vj := Kept.mk (Vj.out.keep (hb1))
  replace Vh := Kept.mk (Vh.out.keep (hb1))
  replace Vm := Kept.mk (Vm.out.keep (hb1))
  clear hb1
  obtain ⟨qm, rm, xm, sm, im, km0, km1, km2⟩ := Vm.out.open_
  have Xm := Kept.mk xm
  have Sm := Kept.mk sm
  have Im := Kept.mk im
  clear xm sm im
  obtain ⟨qd, rd, xd, sd, id, kd0, kd1, kd2⟩ := Vd.out.open_
  have Xd := Kept.mk xd
  have Sd := Kept.mk sd
  have Id := Kept.mk id
  clear xd sd id
  go_wp2_with fail
  ((with_reducible refine (w_same aD aD true _ _ _ Xm.out Xd.out fit_aD fit_aD (by simp)).mono ?_); rintro e W11 ⟨rfl, hb1⟩)
  clear Xm Sm Im km0 km1 km2
  clear Xd Sd Id kd0 kd1 kd2
  replace hB := Kept.mk (hB.out.trans ((hb1).mono hB.out.size))
  replace Vx := Kept.mk (Vx.out.keep (hb1))
  replace Vy := Kept.mk (Vy.out.keep (hb1))
  replace Vz := Kept.mk (Vz.out.keep (hb1))
  replace Va := Kept.mk (Va.out.keep (hb1))
  replace Vb := Kept.mk (Vb.out.keep (hb1))
  replace Vc := Kept.mk (Vc.out.keep (hb1))
  replace Vd := Kept.mk (Vd.out.keep (hb1))
  replace Vj := Kept.mk (Vj.out.keep (hb1))
  replace Vh := Kept.mk (Vh.out.keep (hb1))
  replace Vm := Kept.mk (Vm.out.keep (hb1))
  clear hb1
  obtain ⟨qb, rb, xb, sb, ib, kb0, kb1, kb2⟩ := Vb.out.open_
  have Xb := Kept.mk xb
  have Sb := Kept.mk sb
  have Ib := Kept.mk ib
  clear xb sb ib
  obtain ⟨qd, rd, xd, sd, id, kd0, kd1, kd2⟩ := Vd.out.open_
  have Xd := Kept.mk xd
  have Sd := Kept.mk sd
  have Id := Kept.mk id
  clear xd sd id
  go_wp2_with fail
  ((with_reducible refine (w_below aB aD true _ _ _ Xb.out Xd.out fit_aB fit_aD f_bd).mono ?_); rintro e W12 ⟨rfl, hb1⟩)
  clear Xb Sb Ib kb0 kb1 kb2
  clear Xd Sd Id kd0 kd1 kd2
  replace hB := Kept.mk (hB.out.trans ((hb1).mono hB.out.size))
  replace Vx := Kept.mk (Vx.out.keep (hb1))
  replace Vy := Kept.mk (Vy.out.keep (hb1))
  replace Vz := Kept.mk (Vz.out.keep (hb1))
  replace Va := Kept.mk (Va.out.keep (hb1))
  replace Vb := Kept.mk (Vb.out.keep (hb1))
  replace Vc := Kept.mk (Vc.out.keep (hb1))
  replace Vd := Kept.mk (Vd.out.keep (hb1))
  replace Vj := Kept.mk (Vj.out.keep (hb1))
  replace Vh := Kept.mk (Vh.out.keep (hb1))
  replace Vm := Kept.mk (Vm.out.keep (hb1))
  clear hb1
  obtain ⟨qd, rd, xd, sd, id, kd0, kd1, kd2⟩ := Vd.out.open_
  have Xd := Kept.mk xd
  have Sd := Kept.mk sd
  have Id := Kept.mk id
  clear xd sd id
  obtain ⟨qb, rb, xb, sb, ib, kb0, kb1, kb2⟩ := Vb.out.open_
  have Xb := Kept.mk xb
  have Sb := Kept.mk sb
  have Ib := Kept.mk ib
  clear xb sb ib
  go_wp2_with fail
  ((with_reducible refine (w_below aD aB false _ _ _ Xd.out Xb.out fit_aD fit_aB f_db).mono ?_); rintro e W13 ⟨rfl, hb1⟩)
  clear Xd Sd Id kd0 kd1 kd2
  clear Xb Sb Ib kb0 kb1 kb2
  replace hB := Kept.mk (hB.out.trans ((hb1).mono hB.out.size))
  replace Vx := Kept.mk (Vx.out.keep (hb1))
  replace Vy := Kept.mk (Vy.out.keep (hb1))
  replace Vz := Kept.mk (Vz.out.keep (hb1))
  replace Va := Kept.mk (Va.out.keep (hb1))
  replace Vb := Kept.mk (Vb.out.keep (hb1))
  replace Vc := Kept.mk (Vc.out.keep (hb1))
  replace Vd := Kept.mk (Vd.out.keep (hb1))
  replace Vj := Kept.mk (Vj.out.keep (hb1))
  replace Vh := Kept.mk (Vh.out.keep (hb1))
  replace Vm := Kept.mk (Vm.out.keep (hb1))
  clear hb1
  obtain ⟨qd, rd, xd, sd, id, kd0, kd1, kd2⟩ := Vd.out.open_
  have Xd := Kept.mk xd
  have Sd := Kept.mk sd
  have Id := Kept.mk id
  clear xd sd id
  obtain ⟨qm, rm, xm, sm, im, km0, km1, km2⟩ := Vm.out.open_
  have Xm := Kept.mk xm
  have Sm := Kept.mk sm
  have Im := Kept.mk im
  clear xm sm im
  go_wp2_with fail
  ((with_reducible refine (w_alike aD aD true _ _ _ Xd.out Xm.out fit_aD fit_aD f_dd).mono ?_); rintro e W14 ⟨rfl, hb1⟩)
  clear Xd Sd Id kd0 kd1 kd2
  clear Xm Sm Im km0 km1 km2
  replace hB := Kept.mk (hB.out.trans ((hb1).mono hB.out.size))
  replace Vx := Kept.mk (Vx.out.keep (hb1))
  replace Vy := Kept.mk (Vy.out.keep (hb1))
  replace Vz := Kept.mk (Vz.out.keep (hb1))
  replace Va := Kept.mk (Va.out.keep (hb1))
  replace Vb := Kept.mk (Vb.out.keep (hb1))
  replace Vc := Kept.mk (Vc.out.keep (hb1))
  replace Vd := Kept.mk (Vd.out.keep (hb1))
  replace Vj := Kept.mk (Vj.out.keep (hb1))
  replace Vh := Kept.mk (Vh.out.keep (hb1))
  replace Vm := Kept.mk (Vm.out.keep (hb1))
  clear hb1
  obtain ⟨qd, rd, xd, sd, id, kd0, kd1, kd2⟩ := Vd.out.open_
  have Xd := Kept.mk xd
  have Sd := Kept.mk sd
  have Id := Kept.mk id
  clear xd sd id
  go_wp2_with fail
  ((with_reducible refine (w_chunk _ _ Xd.out).mono ?_); rintro e W15 ⟨ca, cc, rfl, hb1⟩)
  clear Xd Sd Id kd0 kd1 kd2
  replace hB := Kept.mk (hB.out.trans ((hb1).mono hB.out.size))
  replace Vx := Kept.mk (Vx.out.keep (hb1))
  replace Vy := Kept.mk (Vy.out.keep (hb1))
  replace Vz := Kept.mk (Vz.out.keep (hb1))
  replace Va := Kept.mk (Va.out.keep (hb1))
  replace Vb := Kept.mk (Vb.out.keep (hb1))
  replace Vc := Kept.mk (Vc.out.keep (hb1))
  replace Vd := Kept.mk (Vd.out.keep (hb1))
  replace Vj := Kept.mk (Vj.out.keep (hb1))
  replace Vh := Kept.mk (Vh.out.keep (hb1))
  replace Vm := Kept.mk (Vm.out.keep (hb1))
  clear hb1
  obtain ⟨qd, rd, xd, sd, id, kd0, kd1, kd2⟩ := Vd.out.open_
  have Xd := Kept.mk xd
  have Sd := Kept.mk sd
  have Id := Kept.mk id
  clear xd sd id
  go_wp2_with fail
  ((with_reducible refine (w_check aD 0 _ _ Xd.out fit_aD f_cd).mono ?_); rintro e W16 ⟨rfl, hb1⟩)
  clear Xd Sd Id kd0 kd1 kd2
  replace hB := Kept.mk (hB.out.trans ((hb1).mono hB.out.size))
  replace Vx := Kept.mk (Vx.out.keep (hb1))
  replace Vy := Kept.mk (Vy.out.keep (hb1))
  replace Vz := Kept.mk (Vz.out.keep (hb1))
  replace Va := Kept.mk (Va.out.keep (hb1))
  replace Vb := Kept.mk (Vb.out.keep (hb1))
  replace Vc := Kept.mk (Vc.out.keep (hb1))
  replace Vd := Kept.mk (Vd.out.keep (hb1))
  replace Vj := Kept.mk (Vj.out.keep (hb1))
  replace Vh := Kept.mk (Vh.out.keep (hb1))
  replace Vm := Kept.mk (Vm.out.keep (hb1))
  clear hb1
  go_wp2_with fail
  ((with_reducible refine (w_check zeroA 2 _ _ (zeroA_lit _) fit_zeroA f_cz).mono ?_); rintro e W17 ⟨rfl, hb1⟩)
  replace hB := Kept.mk (hB.out.trans ((hb1).mono hB.out.size))
  replace Vx := Kept.mk (Vx.out.keep (hb1))
  replace Vy := Kept.mk (Vy.out.keep (hb1))
  replace Vz := Kept.mk (Vz.out.keep (hb1))
  replace Va := Kept.mk (Va.out.keep (hb1))
  replace Vb := Kept.mk (Vb.out.keep (hb1))
  replace Vc := Kept.mk (Vc.out.keep (hb1))
  replace Vd := Kept.mk (Vd.out.keep (hb1))
  replace Vj := Kept.mk (Vj.out.keep (hb1))
  replace Vh := Kept.mk (Vh.out.keep (hb1))
  replace Vm := Kept.mk (Vm.out.keep (hb1))
  clear hb1
  obtain ⟨qa, ra, xa, sa, ia, ka0, ka1, ka2⟩ := Va.out.open_
  have Xa := Kept.mk xa
  have Sa := Kept.mk sa
  have Ia := Kept.mk ia
  clear xa sa ia
  obtain ⟨qb, rb, xb, sb, ib, kb0, kb1, kb2⟩ := Vb.out.open_
  have Xb := Kept.mk xb
  have Sb := Kept.mk sb
  have Ib := Kept.mk ib
  clear xb sb ib
  go_wp2_with fail
  ((with_reducible refine (w_same aA aB false _ _ _ Xa.out Xb.out fit_aA fit_aB f_ab).mono ?_); rintro e W18 ⟨rfl, hb1⟩)
  clear Xa Sa Ia ka0 ka1 ka2
  clear Xb Sb Ib kb0 kb1 kb2
  replace hB := Kept.mk (hB.out.trans ((hb1).mono hB.out.size))
  replace Vx := Kept.mk (Vx.out.keep (hb1))
  replace Vy := Kept.mk (Vy.out.keep (hb1))
  replace Vz := Kept.mk (Vz.out.keep (hb1))
  replace Va := Kept.mk (Va.out.keep (hb1))
  replace Vb := Kept.mk (Vb.out.keep (hb1))
  replace Vc := Kept.mk (Vc.out.keep (hb1))
  replace Vd := Kept.mk (Vd.out.keep (hb1))
  replace Vj := Kept.mk (Vj.out.keep (hb1))
  replace Vh := Kept.mk (Vh.out.keep (hb1))
  replace Vm := Kept.mk (Vm.out.keep (hb1))
  clear hb1
  go_wp2
  go_ret
  exact ⟨rfl, hB.out⟩
end Go.Proofs.YtbgconagkgfplaaGreat
end
section
namespace Go.Proofs.YtbgconagkgfplaaGreat
open Go.RowKit Go.ChangeShapes Go.WideShapes
set_option linter.unusedVariables false
set_option linter.unusedSimpArgs false

theorem spot_none {w : World} {a : Addr} {v : Value} (h : w.cell? a = some v) : a = ⟨a.block, a.off, none⟩ := by
  obtain ⟨b, o, s⟩ := a
  cases s with
  | none => rfl
  | some s =>
    simp only [World.cell?] at h
    split at h <;> simp at h
theorem add_plain (b o i : Nat) : (⟨b, o, none⟩ : Addr).add i = ⟨b, o + i, none⟩ := by
  by_cases e : i = 0
  · subst e; simp [Addr.add]
  · simp [Addr.add, e]
/-- A row that came in. -/
theorem cells_came {w : World} {a : Addr} {len cap : Nat} (cs : List Value) (hl : cs.length = len) (hc : ∀ (i : Nat) (x : Value), cs[i]? = some x → w.cell? (a.add i) = some x) : isCells cs (.slice (some a) len cap) w := by
  cases cs with
  | nil => subst hl; exact .inr (.inl ⟨a, cap, rfl, rfl⟩)
  | cons x cs =>
    have h0 := hc 0 x rfl
    have e0 : a.add 0 = a := by simp [Addr.add]
    rw [e0] at h0
    have ha := spot_none h0
    rw [ha] at hc ⊢
    subst hl
    refine .inr (.inr ⟨a.block, a.off, cap, rfl, ?_, fun j y hy => ?_⟩)
    · simp only [World.cell?] at h0
      split at h0
      · rename_i h; exact (Array.getElem?_eq_some_iff.1 h).1
      · simp at h0
    · have := hc j y hy
      rwa [add_plain] at this
section
variable {W : World} {H : Type} {enc : TypeId × Value → H} {base : Nat} {spare : Nat → Bool} {held : Bool} {n : Nat}
theorem open_row {v : Value} {y : DataW H × List MemPlace} (g : DataW.trod enc Tryz.prog W base spare held n 23 [v] = some y) :
    ∃ l : List Int, isCells (l.map intC) v W ∧ l.length ≤ maxLen ∧ (∀ x ∈ l, (Lit.int .i64 x).wf = true) := by
  rcases open_ints Tryz.underlying23 Tryz.underlying3 (by kernel_rfl) g with ⟨hc, _⟩ | ⟨a, len, cap, zs, hc, _, hl, hm, hz, hx0, hcell, hs⟩
  · injection hc with hc _
    subst hc
    exact ⟨[], .inl ⟨rfl, rfl⟩, Nat.zero_le _, (fun s hs => by simp at hs)⟩
  · injection hc with hc _
    subst hc
    have hle : len ≤ zs.length := by rw [hz]; split <;> omega
    refine ⟨zs.take len, cells_came _ (by simp; omega) (fun i x hx => ?_), by simp; omega, (fun s h => hs s (List.mem_of_mem_take h))⟩
    have hi : i < len := by have := (List.getElem?_eq_some_iff.1 hx).1; simp at this; omega
    rw [hcell i (by omega)]
    rw [List.getElem?_map, List.getElem?_take, if_pos hi, List.getElem?_eq_getElem (by omega : i < zs.length)] at hx
    simp only [Option.map_some, Option.some.injEq] at hx
    rw [← hx]
    simp [List.getD_eq_getElem?_getD, show i < zs.length by omega, intC]
end
theorem wf_u64 {x : Int} (h : (Lit.int .u64 x).wf = true) : 0 ≤ x ∧ x ≤ 18446744073709551615 := by
  unfold Lit.wf at h
  rw [Bool.and_eq_true] at h
  exact ⟨of_decide_eq_true h.1, of_decide_eq_true h.2⟩
/-- What a value that came in is. -/
structure CameV (A : Va) : Prop where
  kind : (Lit.int .i64 A.kind).wf = true
  time : (Lit.int .i64 A.time).wf = true
  node : (Lit.int .i64 A.node).wf = true
  text : A.text.length ≤ maxLen
  plus : ∀ x ∈ A.plus, (Lit.int .i64 x).wf = true
  minus : ∀ x ∈ A.minus, (Lit.int .i64 x).wf = true
  np : A.plus.length ≤ maxLen
  nm : A.minus.length ≤ maxLen
end Go.Proofs.YtbgconagkgfplaaGreat
end
section
namespace Go.Proofs.YtbgconagkgfplaaGreat
open Go.RowKit Go.ChangeShapes Go.WideShapes
set_option linter.unusedVariables false
set_option linter.unusedSimpArgs false

structure CameE (E : En) : Prop where
  key : E.key.length ≤ maxLen
  val : CameV E.val
set_option maxRecDepth 100000 in
set_option maxHeartbeats 1000000 in
theorem open_en {W : World} {H : Type} {enc : TypeId × Value → H} {base b0 : Nat} {spare : Nat → Bool} {held : Bool} {v : Value} {d : DataW H} {p : List MemPlace} (hv : Value.okWide Tryz.prog W .any b0 30 v)
    (h : DataW.Trod enc Tryz.prog W base spare held 30 v d p) : ∃ E : En, isEn E v W ∧ CameE E := by
  obtain ⟨⟨l⟩, rfl, hsz⟩ := okWide_struct Tryz.underlying30 hv
  have hl : l.length = 9 := hsz.trans (by kernel_rfl)
  match l, hl with
  | [v8, v0, v1, v2, v3, v4, v5, v6, v7], _ =>
    obtain ⟨fuel0, hf0⟩ := h
    obtain ⟨xs0, n0, _, hxe0, _, hxl0, hg0⟩ := DataW.trod_struct Tryz.underlying30 hf0
    obtain ⟨z0, ez0⟩ : ∃ y, xs0[0]? = some y := ⟨_, List.getElem?_eq_getElem (by rw [hxl0]; decide)⟩
    obtain ⟨z1, ez1⟩ : ∃ y, xs0[1]? = some y := ⟨_, List.getElem?_eq_getElem (by rw [hxl0]; decide)⟩
    have g8 := hg0 0 _ rfl
    have hf := hg0 1 _ rfl
    have c2 : Tryz.prog.cellsOf 23 = 1 := by kernel_rfl
    have c3 : Tryz.prog.cellsOf 3 = 1 := by kernel_rfl
    have c4 : Tryz.prog.cellsOf 9 = 1 := by kernel_rfl
    have c5 : Tryz.prog.cellsOf 4 = 1 := by kernel_rfl
    have c6 : Tryz.prog.cellsOf 26 = 1 := by kernel_rfl
    have c7 : Tryz.prog.cellsOf 28 = 8 := by kernel_rfl
    have g8a : DataW.trod enc Tryz.prog W base spare held n0 9 (List.take (Tryz.prog.cellsOf 9) [v8, v0, v1, v2, v3, v4, v5, v6, v7]) = xs0[0]? := g8
    have hfa : DataW.trod enc Tryz.prog W base spare held n0 28 (List.take (Tryz.prog.cellsOf 28) [v0, v1, v2, v3, v4, v5, v6, v7]) = xs0[1]? := hf
    rw [ez0, c4] at g8a
    rw [ez1, c7] at hfa
    replace g8 : DataW.trod enc Tryz.prog W base spare held n0 9 [v8] = some z0 := g8a
    replace hf : DataW.trod enc Tryz.prog W base spare held n0 28 [v0, v1, v2, v3, v4, v5, v6, v7] = some z1 := hfa
    obtain ⟨key, h8, _, w8⟩ := DataW.trod_string Tryz.underlying9 g8
    obtain ⟨xs, n, _, hxe, _, hxl, hg⟩ := DataW.trod_struct Tryz.underlying28 hf
    have at_ : ∀ i, i < 8 → ∃ y, xs[i]? = some y := fun i hi => ⟨_, List.getElem?_eq_getElem (by rw [hxl]; exact hi)⟩
    obtain ⟨y0, e0⟩ := at_ 0 (by decide)
    obtain ⟨y1, e1⟩ := at_ 1 (by decide)
    obtain ⟨y2, e2⟩ := at_ 2 (by decide)
    obtain ⟨y3, e3⟩ := at_ 3 (by decide)
    obtain ⟨y4, e4⟩ := at_ 4 (by decide)
    obtain ⟨y5, e5⟩ := at_ 5 (by decide)
    obtain ⟨y6, e6⟩ := at_ 6 (by decide)
    obtain ⟨y7, e7⟩ := at_ 7 (by decide)
    have g0 := hg 0 _ rfl
    have g1 := hg 1 _ rfl
    have g2 := hg 2 _ rfl
    have g3 := hg 3 _ rfl
    have g4 := hg 4 _ rfl
    have g5 := hg 5 _ rfl
    have g6 := hg 6 _ rfl
    have g7 := hg 7 _ rfl
    have q0 : DataW.trod enc Tryz.prog W base spare held n 3 (List.take (Tryz.prog.cellsOf 3) [v0, v1, v2, v3, v4, v5, v6, v7]) = xs[0]? := g0
    rw [e0, c3] at q0
    replace g0 : DataW.trod enc Tryz.prog W base spare held n 3 [v0] = some y0 := q0
    have q1 : DataW.trod enc Tryz.prog W base spare held n 3 (List.take (Tryz.prog.cellsOf 3) [v1, v2, v3, v4, v5, v6, v7]) = xs[1]? := g1
    rw [e1, c3] at q1
    replace g1 : DataW.trod enc Tryz.prog W base spare held n 3 [v1] = some y1 := q1
    have q2 : DataW.trod enc Tryz.prog W base spare held n 3 (List.take (Tryz.prog.cellsOf 3) [v2, v3, v4, v5, v6, v7]) = xs[2]? := g2
    rw [e2, c3] at q2
    replace g2 : DataW.trod enc Tryz.prog W base spare held n 3 [v2] = some y2 := q2
    have q3 : DataW.trod enc Tryz.prog W base spare held n 4 (List.take (Tryz.prog.cellsOf 4) [v3, v4, v5, v6, v7]) = xs[3]? := g3
    rw [e3, c5] at q3
    replace g3 : DataW.trod enc Tryz.prog W base spare held n 4 [v3] = some y3 := q3
    have q4 : DataW.trod enc Tryz.prog W base spare held n 9 (List.take (Tryz.prog.cellsOf 9) [v4, v5, v6, v7]) = xs[4]? := g4
    rw [e4, c4] at q4
    replace g4 : DataW.trod enc Tryz.prog W base spare held n 9 [v4] = some y4 := q4
    have q5 : DataW.trod enc Tryz.prog W base spare held n 23 (List.take (Tryz.prog.cellsOf 23) [v5, v6, v7]) = xs[5]? := g5
    rw [e5, c2] at q5
    replace g5 : DataW.trod enc Tryz.prog W base spare held n 23 [v5] = some y5 := q5
    have q6 : DataW.trod enc Tryz.prog W base spare held n 23 (List.take (Tryz.prog.cellsOf 23) [v6, v7]) = xs[6]? := g6
    rw [e6, c2] at q6
    replace g6 : DataW.trod enc Tryz.prog W base spare held n 23 [v6] = some y6 := q6
    have q7 : DataW.trod enc Tryz.prog W base spare held n 26 (List.take (Tryz.prog.cellsOf 26) [v7]) = xs[7]? := g7
    rw [e7, c6] at q7
    replace g7 : DataW.trod enc Tryz.prog W base spare held n 26 [v7] = some y7 := q7
    obtain ⟨kind, h0, _, w0⟩ := DataW.trod_int Tryz.underlying3 g0
    obtain ⟨time, h1, _, w1⟩ := DataW.trod_int Tryz.underlying3 g1
    obtain ⟨node, h2, _, w2⟩ := DataW.trod_int Tryz.underlying3 g2
    obtain ⟨dead, h3, _⟩ := DataW.trod_bool Tryz.underlying4 g3
    obtain ⟨text, h4, _, w4⟩ := DataW.trod_string Tryz.underlying9 g4
    obtain ⟨plus, hp, hpn, hpw⟩ := open_row g5
    obtain ⟨minus, hm, hmn, hmw⟩ := open_row g6
    obtain ⟨flags, h7, _, w7⟩ := DataW.trod_int Tryz.underlying26 g7
    injection h8 with h8 _
    injection h0 with h0 _
    injection h1 with h1 _
    injection h2 with h2 _
    injection h3 with h3 _
    injection h4 with h4 _
    injection h7 with h7 _
    subst h0 h1 h2 h3 h4 h7 h8
    have b7 := wf_u64 w7
    have f7 : ((UInt64.ofNat flags.toNat).toNat : Int) = flags := by
      rw [UInt64.toNat_ofNat_of_lt' (by show flags.toNat < 18446744073709551616; omega)]
      omega
    refine ⟨⟨key.data.toList, ⟨kind, time, node, dead, text.data.toList, plus, minus, UInt64.ofNat flags.toNat⟩⟩, ⟨v5, v6, ?_, hp, hm⟩, ⟨by simpa using w8, ⟨w0, w1, w2, by simpa using w4, hpw, hmw, hpn, hmn⟩⟩⟩
    show Value.agg #[.string key, .int .i64 kind, .int .i64 time, .int .i64 node, .bool dead, .string text, v5, v6, .int .u64 flags] = .agg #[.string ⟨key.data.toList.toArray⟩, .int .i64 kind, .int .i64 time, .int .i64 node, .bool dead, .string ⟨text.data.toList.toArray⟩, v5, v6, .int .u64 ((UInt64.ofNat flags.toNat).toNat : Int)]
    rw [f7, ← str_eta, ← str_eta]
/-- Few. -/
def fewE (E : En) : Bool := fewV E.val && decide ((E.key.length : Int) ≤ 100)
theorem fewE_fit {E : En} (h : fewE E = true) : FitE E := by
  unfold fewE at h
  rw [Bool.and_eq_true, decide_eq_true_eq] at h
  exact ⟨by omega, few_fit h.1⟩
set_option maxRecDepth 100000 in
set_option maxHeartbeats 2000000 in
theorem efew_any (E : En) (v : Value) (w : World) (hv : isEn E v w) (hk : E.key.length ≤ maxLen) : Calls Tryz.prog 12 #[v] w fun e w' => e = .returned (.bool (fewE E)) ∧ Below w.heap.size w w' := by
  have hs : (⟨E.key.toArray⟩ : ByteArray).size = E.key.length := by simp [ByteArray.size]
  have HF := Kept.mk (show fewE E = (fewV E.val && decide ((E.key.length : Int) ≤ 100)) from rfl)
  obtain ⟨pe, me, rfl, hpe, hme⟩ := hv
  obtain ⟨hB, Ve⟩ := ebox w E pe me hpe hme (w.heap.size) (by simp)
  clear hpe hme
  obtain ⟨qe, re, xe, ye, ke0, ke1, ke2, ke3, ke4, ke5, ke6, ke7, ke8⟩ := Ve.out.open_
  have Xe := Kept.mk xe
  have Ye := Kept.mk ye
  clear xe ye
  go_enter Tryz.func12, Tryz.ntmps12
  go_wp2_with fail
  refine (vfew_any E.val _ _ Ye.out).mono ?_
  rintro e W1 ⟨rfl, hb1⟩
  replace hB := Kept.mk (hB.out.trans (hb1.mono hB.out.size))
  replace Ve := Kept.mk (Ve.out.keep hb1)
  clear hb1 Xe Ye ke0 ke1 ke2 ke3 ke4 ke5 ke6 ke7 ke8
  obtain ⟨_, _, _, _, ke0, _⟩ := Ve.out.open_
  cases hz : fewV E.val with
  | false =>
    rw [hz] at HF
    go_wp2
    go_ret
    exact ⟨by rw [HF.out]; rfl, hB.out⟩
  | true =>
    rw [hz] at HF
    go_wp2
    go_ret
    exact ⟨by rw [HF.out]; rfl, hB.out⟩
end Go.Proofs.YtbgconagkgfplaaGreat
end
section
namespace Go.Proofs.YtbgconagkgfplaaGreat
open Go.RowKit
set_option linter.unusedVariables false
set_option linter.unusedSimpArgs false

def fewL (l : List En) (m : Int) : Bool := decide ((l.length : Int) ≤ m) && l.all fewE
def fewA (A : Ar) : Bool := fewL A.slots 12 && decide ((A.index.length : Int) ≤ 40)
theorem fewL_len {l : List En} {m : Int} (h : fewL l m = true) : (l.length : Int) ≤ m := by
  unfold fewL at h
  rw [Bool.and_eq_true, decide_eq_true_eq] at h
  exact h.1
theorem fewL_fit {l : List En} {m : Int} (h : fewL l m = true) : ∀ e ∈ l, FitE e := by
  unfold fewL at h
  rw [Bool.and_eq_true, List.all_eq_true] at h
  exact fun e he => fewE_fit (h.2 e he)
theorem fewA_fit {A : Ar} (h : fewA A = true) : FitA A := by
  unfold fewA at h
  rw [Bool.and_eq_true, decide_eq_true_eq] at h
  have := fewL_len h.1
  exact ⟨by omega, by omega, fewL_fit h.1⟩
set_option maxRecDepth 100000 in
set_option maxHeartbeats 2000000 in
theorem entries_any (l : List En) (m : Int) (v : Value) (w : World) (hv : isEns l v w) (hk : ∀ e ∈ l, e.key.length ≤ maxLen) (hl : l.length ≤ maxLen) (hm0 : 0 ≤ m) (hm : m ≤ 1000) : Calls Tryz.prog 13 #[v, .int .i64 m] w fun e w' => e = .returned (.bool (fewL l m)) ∧ Below w.heap.size w w' := by
  rcases hv.cases_ with ⟨a, cap, rfl, rfl⟩ | ⟨b, off, cap, rfl, hb0, hc⟩
  · have HE := Kept.mk (show fewL [] m = true from by unfold fewL; simp [hm0])
    go_enter Tryz.func13, Tryz.ntmps13
    go_wp2
    go_loopw [5] (fun i wr => i = .int .i64 0 ∧ Kept (Below w.heap.size w wr)) (fun i _ => 0)
    case atStart => exact ⟨rfl, ⟨Below.refl _ _⟩⟩
    case round =>
      obtain ⟨rfl, B⟩ := hrel
      go_wp2
      go_ret
      exact ⟨by rw [HE.out]; rfl, B.out⟩
  · have HC := Kept.mk hc
    have HK := Kept.mk hk
    clear hc hv hk
    generalize hn : l.length = n at hl
    have hl2 : (n : Int) ≤ 9223372036854775807 := by have : maxLen = 9223372036854775807 := rfl; omega
    go_enter Tryz.func13, Tryz.ntmps13
    go_wp2
    go_loopw [5] (fun i wr => ∃ k : Nat, k ≤ n ∧ (k : Int) ≤ m + 1 ∧ i = .int .i64 (k : Int) ∧ Kept (Below w.heap.size w wr) ∧ Kept (∀ j E, j < k → l[j]? = some E → fewE E = true)) (fun i _ => n - (intOf i).toNat)
    case atStart => exact ⟨0, Nat.zero_le _, by omega, rfl, ⟨Below.refl _ _⟩, ⟨fun j E h => absurd h (Nat.not_lt_zero _)⟩⟩
    case round =>
      obtain ⟨k, hk, hk1, rfl, B, A⟩ := hrel
      by_cases hlt : k < n
      · have hlt' : (k : Int) < (n : Int) := by omega
        by_cases hkm : (k : Int) ≤ m
        · obtain ⟨E, hE⟩ : ∃ E, l[k]? = some E := ⟨_, List.getElem?_eq_getElem (by omega)⟩
          obtain ⟨vp, vm, x0, y0, kc0, kc1, kc2, kc3, kc4, kc5, kc6, kc7, kc8⟩ := (HC.out k E hE).keep B.out hb0 |>.open_
          have X := Kept.mk x0
          have FE := Kept.mk (HK.out E (List.mem_of_getElem? hE))
          have HE := Kept.mk hE
          clear x0 y0 hE
          go_wp2_with fail
          refine (efew_any E _ _ X.out FE.out).mono ?_
          rintro e W1 ⟨rfl, hb⟩
          replace B := Kept.mk (B.out.trans (hb.mono B.out.size))
          clear hb X kc0 kc1 kc2 kc3 kc4 kc5 kc6 kc7 kc8
          cases hok : fewE E with
          | true =>
            have HO := Kept.mk hok
            clear hok
            go_wp2
            go_roundw
            case rel =>
              refine ⟨k + 1, by omega, by omega, by go_num, B, ⟨fun j E' hj h => ?_⟩⟩
              by_cases e : j = k
              · subst e; rw [HE.out] at h; injection h with h; rw [← h]; exact HO.out
              · exact A.out j E' (by omega) h
            case measure => simp [intOf]; omega
          | false =>
            have HR := Kept.mk (show fewL l m = false by unfold fewL; rw [show l.all fewE = false by rw [List.all_eq_false]; exact ⟨E, List.mem_of_getElem? HE.out, by simp [hok]⟩]; simp)
            clear hok
            go_wp2
            go_ret
            exact ⟨by rw [HR.out]; rfl, B.out⟩
        · have HR := Kept.mk (show fewL l m = false by unfold fewL; rw [decide_eq_false (by rw [hn]; omega)]; rfl)
          have hnm : ¬ (n : Int) ≤ m := by omega
          go_wp2
          go_ret
          exact ⟨by rw [HR.out]; rfl, B.out⟩
      · have hlt' : ¬ (k : Int) < (n : Int) := by omega
        have HA : l.all fewE = true := by
          rw [List.all_eq_true]; intro x hx
          obtain ⟨j, hj⟩ := List.getElem?_of_mem hx
          have := (List.getElem?_eq_some_iff.1 hj).1
          exact A.out j x (by omega) hj
        have HR := Kept.mk (show fewL l m = decide ((n : Int) ≤ m) by unfold fewL; rw [HA, Bool.and_true, hn])
        clear HA
        by_cases hnm : (n : Int) ≤ m
        · rw [decide_eq_true hnm] at HR
          go_wp2
          go_ret
          exact ⟨by rw [HR.out]; rfl, B.out⟩
        · rw [decide_eq_false hnm] at HR
          go_wp2
          go_ret
          exact ⟨by rw [HR.out]; rfl, B.out⟩
set_option maxRecDepth 100000 in
set_option maxHeartbeats 2000000 in
theorem afew_any (A : Ar) (v : Value) (w : World) (hv : isAr A v w) (hk : ∀ e ∈ A.slots, e.key.length ≤ maxLen) (hl : A.slots.length ≤ maxLen) (hi0 : A.index.length ≤ maxLen) : Calls Tryz.prog 11 #[v] w fun e w' => e = .returned (.bool (fewA A)) ∧ Below w.heap.size w w' := by
  obtain ⟨vs, vi, rfl, hs, hi⟩ := hv
  obtain ⟨hB, Va⟩ := abox w A vs vi hs hi w.heap.size rfl
  clear hs hi
  obtain ⟨qa, ra, xa, sa, ia, ka0, ka1, ka2⟩ := Va.out.open_
  have SA := Kept.mk sa
  clear xa sa ia
  have HC := Kept.mk (show fewA A = (fewL A.slots 12 && decide ((A.index.length : Int) ≤ 40)) from rfl)
  have hi2 : (A.index.length : Int) ≤ 9223372036854775807 := by have : maxLen = 9223372036854775807 := rfl; omega
  go_enter Tryz.func11, Tryz.ntmps11
  go_wp2_with fail
  refine (entries_any A.slots 12 _ _ SA.out hk hl (by decide) (by decide)).mono ?_
  rintro e W1 ⟨rfl, hb⟩
  replace hB := Kept.mk (hB.out.trans (hb.mono hB.out.size))
  replace Va := Kept.mk (Va.out.keep hb)
  clear hb ka0 ka1 ka2 SA
  cases hr : fewL A.slots 12 with
  | false =>
    rw [hr, Bool.false_and] at HC
    go_wp2
    go_ret
    exact ⟨by rw [HC.out]; rfl, hB.out⟩
  | true =>
    rw [hr, Bool.true_and] at HC
    obtain ⟨qb, rb, xb, sb, ib, kb0, kb1, kb2⟩ := Va.out.open_
    obtain ⟨ba, bc, rfl⟩ := ib.len
    rw [List.length_map] at kb2
    clear xb sb ib
    generalize A.index.length = n at *
    go_wp2
    go_ret
    exact ⟨by rw [HC.out]; rfl, hB.out⟩
end Go.Proofs.YtbgconagkgfplaaGreat
end
section
namespace Go.Proofs.YtbgconagkgfplaaGreat
open Go.RowKit Go.ChangeShapes Go.WideShapes
set_option linter.unusedVariables false
set_option linter.unusedSimpArgs false

section
variable {W : World} {H : Type} {enc : TypeId × Value → H} {base : Nat} {spare : Nat → Bool} {held : Bool} {n : Nat}
set_option maxRecDepth 100000 in
set_option maxHeartbeats 2000000 in
theorem open_encells {cs : List Value} {z : DataW H × List MemPlace} (hf0 : DataW.trod enc Tryz.prog W base spare held n 30 cs = some z) :
    ∃ (E : En) (vp vm : Value), cs = [.string ⟨E.key.toArray⟩, .int .i64 E.val.kind, .int .i64 E.val.time, .int .i64 E.val.node, .bool E.val.dead, .string ⟨E.val.text.toArray⟩, vp, vm, .int .u64 (E.val.flags.toNat : Int)] ∧ isCells (E.val.plus.map intC) vp W ∧ isCells (E.val.minus.map intC) vm W ∧ CameE E := by
  obtain ⟨xs0, n0, _, hxe0, hsz, hxl0, hg0⟩ := DataW.trod_struct Tryz.underlying30 hf0
  have hl : cs.length = 9 := hsz.trans (by kernel_rfl)
  match cs, hl with
  | [v8, v0, v1, v2, v3, v4, v5, v6, v7], _ =>
    obtain ⟨z0, ez0⟩ : ∃ y, xs0[0]? = some y := ⟨_, List.getElem?_eq_getElem (by rw [hxl0]; decide)⟩
    obtain ⟨z1, ez1⟩ : ∃ y, xs0[1]? = some y := ⟨_, List.getElem?_eq_getElem (by rw [hxl0]; decide)⟩
    have g8 := hg0 0 _ rfl
    have hf := hg0 1 _ rfl
    have c2 : Tryz.prog.cellsOf 23 = 1 := by kernel_rfl
    have c3 : Tryz.prog.cellsOf 3 = 1 := by kernel_rfl
    have c4 : Tryz.prog.cellsOf 9 = 1 := by kernel_rfl
    have c5 : Tryz.prog.cellsOf 4 = 1 := by kernel_rfl
    have c6 : Tryz.prog.cellsOf 26 = 1 := by kernel_rfl
    have c7 : Tryz.prog.cellsOf 28 = 8 := by kernel_rfl
    have g8a : DataW.trod enc Tryz.prog W base spare held n0 9 (List.take (Tryz.prog.cellsOf 9) [v8, v0, v1, v2, v3, v4, v5, v6, v7]) = xs0[0]? := g8
    have hfa : DataW.trod enc Tryz.prog W base spare held n0 28 (List.take (Tryz.prog.cellsOf 28) [v0, v1, v2, v3, v4, v5, v6, v7]) = xs0[1]? := hf
    rw [ez0, c4] at g8a
    rw [ez1, c7] at hfa
    replace g8 : DataW.trod enc Tryz.prog W base spare held n0 9 [v8] = some z0 := g8a
    replace hf : DataW.trod enc Tryz.prog W base spare held n0 28 [v0, v1, v2, v3, v4, v5, v6, v7] = some z1 := hfa
    obtain ⟨key, h8, _, w8⟩ := DataW.trod_string Tryz.underlying9 g8
    obtain ⟨xs, n, _, hxe, _, hxl, hg⟩ := DataW.trod_struct Tryz.underlying28 hf
    have at_ : ∀ i, i < 8 → ∃ y, xs[i]? = some y := fun i hi => ⟨_, List.getElem?_eq_getElem (by rw [hxl]; exact hi)⟩
    obtain ⟨y0, e0⟩ := at_ 0 (by decide)
    obtain ⟨y1, e1⟩ := at_ 1 (by decide)
    obtain ⟨y2, e2⟩ := at_ 2 (by decide)
    obtain ⟨y3, e3⟩ := at_ 3 (by decide)
    obtain ⟨y4, e4⟩ := at_ 4 (by decide)
    obtain ⟨y5, e5⟩ := at_ 5 (by decide)
    obtain ⟨y6, e6⟩ := at_ 6 (by decide)
    obtain ⟨y7, e7⟩ := at_ 7 (by decide)
    have g0 := hg 0 _ rfl
    have g1 := hg 1 _ rfl
    have g2 := hg 2 _ rfl
    have g3 := hg 3 _ rfl
    have g4 := hg 4 _ rfl
    have g5 := hg 5 _ rfl
    have g6 := hg 6 _ rfl
    have g7 := hg 7 _ rfl
    have q0 : DataW.trod enc Tryz.prog W base spare held n 3 (List.take (Tryz.prog.cellsOf 3) [v0, v1, v2, v3, v4, v5, v6, v7]) = xs[0]? := g0
    rw [e0, c3] at q0
    replace g0 : DataW.trod enc Tryz.prog W base spare held n 3 [v0] = some y0 := q0
    have q1 : DataW.trod enc Tryz.prog W base spare held n 3 (List.take (Tryz.prog.cellsOf 3) [v1, v2, v3, v4, v5, v6, v7]) = xs[1]? := g1
    rw [e1, c3] at q1
    replace g1 : DataW.trod enc Tryz.prog W base spare held n 3 [v1] = some y1 := q1
    have q2 : DataW.trod enc Tryz.prog W base spare held n 3 (List.take (Tryz.prog.cellsOf 3) [v2, v3, v4, v5, v6, v7]) = xs[2]? := g2
    rw [e2, c3] at q2
    replace g2 : DataW.trod enc Tryz.prog W base spare held n 3 [v2] = some y2 := q2
    have q3 : DataW.trod enc Tryz.prog W base spare held n 4 (List.take (Tryz.prog.cellsOf 4) [v3, v4, v5, v6, v7]) = xs[3]? := g3
    rw [e3, c5] at q3
    replace g3 : DataW.trod enc Tryz.prog W base spare held n 4 [v3] = some y3 := q3
    have q4 : DataW.trod enc Tryz.prog W base spare held n 9 (List.take (Tryz.prog.cellsOf 9) [v4, v5, v6, v7]) = xs[4]? := g4
    rw [e4, c4] at q4
    replace g4 : DataW.trod enc Tryz.prog W base spare held n 9 [v4] = some y4 := q4
    have q5 : DataW.trod enc Tryz.prog W base spare held n 23 (List.take (Tryz.prog.cellsOf 23) [v5, v6, v7]) = xs[5]? := g5
    rw [e5, c2] at q5
    replace g5 : DataW.trod enc Tryz.prog W base spare held n 23 [v5] = some y5 := q5
    have q6 : DataW.trod enc Tryz.prog W base spare held n 23 (List.take (Tryz.prog.cellsOf 23) [v6, v7]) = xs[6]? := g6
    rw [e6, c2] at q6
    replace g6 : DataW.trod enc Tryz.prog W base spare held n 23 [v6] = some y6 := q6
    have q7 : DataW.trod enc Tryz.prog W base spare held n 26 (List.take (Tryz.prog.cellsOf 26) [v7]) = xs[7]? := g7
    rw [e7, c6] at q7
    replace g7 : DataW.trod enc Tryz.prog W base spare held n 26 [v7] = some y7 := q7
    obtain ⟨kind, h0, _, w0⟩ := DataW.trod_int Tryz.underlying3 g0
    obtain ⟨time, h1, _, w1⟩ := DataW.trod_int Tryz.underlying3 g1
    obtain ⟨node, h2, _, w2⟩ := DataW.trod_int Tryz.underlying3 g2
    obtain ⟨dead, h3, _⟩ := DataW.trod_bool Tryz.underlying4 g3
    obtain ⟨text, h4, _, w4⟩ := DataW.trod_string Tryz.underlying9 g4
    obtain ⟨plus, hp, hpn, hpw⟩ := open_row g5
    obtain ⟨minus, hm, hmn, hmw⟩ := open_row g6
    obtain ⟨flags, h7, _, w7⟩ := DataW.trod_int Tryz.underlying26 g7
    injection h8 with h8 _
    injection h0 with h0 _
    injection h1 with h1 _
    injection h2 with h2 _
    injection h3 with h3 _
    injection h4 with h4 _
    injection h7 with h7 _
    subst h0 h1 h2 h3 h4 h7 h8
    have b7 := wf_u64 w7
    have f7 : ((UInt64.ofNat flags.toNat).toNat : Int) = flags := by
      rw [UInt64.toNat_ofNat_of_lt' (by show flags.toNat < 18446744073709551616; omega)]
      omega
    refine ⟨⟨key.data.toList, ⟨kind, time, node, dead, text.data.toList, plus, minus, UInt64.ofNat flags.toNat⟩⟩, v5, v6, ?_, hp, hm, ⟨by simpa using w8, ⟨w0, w1, w2, by simpa using w4, hpw, hmw, hpn, hmn⟩⟩⟩
    show [Value.string key, .int .i64 kind, .int .i64 time, .int .i64 node, .bool dead, .string text, v5, v6, .int .u64 flags] = [.string ⟨key.data.toList.toArray⟩, .int .i64 kind, .int .i64 time, .int .i64 node, .bool dead, .string ⟨text.data.toList.toArray⟩, v5, v6, .int .u64 ((UInt64.ofNat flags.toNat).toNat : Int)]
    rw [f7, ← str_eta, ← str_eta]
set_option maxRecDepth 100000 in
set_option maxHeartbeats 2000000 in
theorem open_ens {v : Value} {y : DataW H × List MemPlace} (g : DataW.trod enc Tryz.prog W base spare held n 22 [v] = some y) :
    ∃ l : List En, isEns l v W ∧ l.length ≤ maxLen ∧ ∀ e ∈ l, CameE e := by
  have c9 : Tryz.prog.cellsOf 30 = 9 := by kernel_rfl
  rcases Go.Deep.open_slice Tryz.underlying22 g with ⟨hc, _⟩ | ⟨a, len, cap, m, n', D, Pl, hc, _, hl, hm, hmm, _, hx⟩
  · injection hc with hc _
    subst hc
    exact ⟨[], .inl ⟨rfl, rfl⟩, Nat.zero_le _, (fun s hs => by simp at hs)⟩
  · injection hc with hc _
    subst hc
    have hle : len ≤ m := by rw [hmm]; split <;> omega
    rw [c9] at hx
    haveI : Inhabited En := ⟨⟨[], ⟨0, 0, 0, false, [], [], [], 0⟩⟩⟩
    obtain ⟨f, hf⟩ := Go.Deep.choose_lt (α := En) (n := len) (p := fun i E => (∃ vp vm, (∀ (j : Nat) (x : Value), [.string ⟨E.key.toArray⟩, .int .i64 E.val.kind, .int .i64 E.val.time, .int .i64 E.val.node, .bool E.val.dead, .string ⟨E.val.text.toArray⟩, vp, vm, .int .u64 (E.val.flags.toNat : Int)][j]? = some x → W.cell? (a.add (i * 9 + j)) = some x) ∧ isCells (E.val.plus.map intC) vp W ∧ isCells (E.val.minus.map intC) vm W) ∧ CameE E) (fun i hi => by
      obtain ⟨cs', h1, h2⟩ := hx i (by omega)
      obtain ⟨_, hlen, hcell⟩ := World.cells?_some h1
      obtain ⟨E, vp, vm, rfl, hp, hm', hE⟩ := open_encells h2
      refine ⟨E, ⟨vp, vm, fun j x hj => ?_, hp, hm'⟩, hE⟩
      have hj9 : j < 9 := by have := (List.getElem?_eq_some_iff.1 hj).1; simpa using this
      have := hcell j hj9
      rw [Go.Deep.add_add] at this
      rw [this, hj])
    refine ⟨(List.range len).map f, ?_, by simp; omega, fun e he => ?_⟩
    · cases hlen : len with
      | zero => exact .inr (.inl ⟨a, cap, rfl, rfl⟩)
      | succ k =>
        rw [← hlen]
        obtain ⟨⟨vp, vm, h0, _⟩, _⟩ := hf 0 (by omega)
        have h00 := h0 0 _ rfl
        have e0 : a.add (0 * 9 + 0) = a := by simp [Addr.add]
        rw [e0] at h00
        have ha := spot_none h00
        refine .inr (.inr ⟨a.block, a.off, cap, by rw [← ha]; simp, ?_, fun j E hE => ?_⟩)
        · simp only [World.cell?] at h00
          split at h00
          · rename_i h; exact (Array.getElem?_eq_some_iff.1 h).1
          · simp at h00
        · have hj : j < len := by have := (List.getElem?_eq_some_iff.1 hE).1; simpa using this
          rw [List.getElem?_map, List.getElem?_range hj] at hE
          simp only [Option.map_some, Option.some.injEq] at hE
          subst hE
          obtain ⟨⟨vp, vm, hcj, hp, hm'⟩, _⟩ := hf j hj
          refine ⟨vp, vm, fun k' x hx' => ?_, hp, hm'⟩
          have := hcj k' x hx'
          rw [ha, add_plain] at this
          rw [Nat.add_assoc]
          exact this
    · obtain ⟨i, hi, rfl⟩ := List.mem_map.1 he
      exact (hf i (by simpa using hi)).2
end
structure CameA (A : Ar) : Prop where
  cap : (Lit.int .i64 A.cap).wf = true
  slots : A.slots.length ≤ maxLen
  ents : ∀ e ∈ A.slots, CameE e
  index : A.index.length ≤ maxLen
  idx : ∀ x ∈ A.index, (Lit.int .i64 x).wf = true
theorem CameA.keys {A : Ar} (h : CameA A) : ∀ e ∈ A.slots, e.key.length ≤ maxLen := fun e he => (h.ents e he).key
set_option maxRecDepth 100000 in
set_option maxHeartbeats 2000000 in
theorem open_ar {W : World} {H : Type} {enc : TypeId × Value → H} {base b0 : Nat} {spare : Nat → Bool} {held : Bool} {v : Value} {d : DataW H} {p : List MemPlace} (hv : Value.okWide Tryz.prog W .any b0 25 v)
    (h : DataW.Trod enc Tryz.prog W base spare held 25 v d p) : ∃ A : Ar, isAr A v W ∧ CameA A := by
  obtain ⟨⟨l⟩, rfl, hsz⟩ := okWide_struct Tryz.underlying25 hv
  have hl : l.length = 3 := hsz.trans (by kernel_rfl)
  match l, hl with
  | [v0, v1, v2], _ =>
    obtain ⟨fuel0, hf0⟩ := h
    obtain ⟨xs, n, _, hxe, _, hxl, hg⟩ := DataW.trod_struct Tryz.underlying25 hf0
    have at_ : ∀ i, i < 3 → ∃ y, xs[i]? = some y := fun i hi => ⟨_, List.getElem?_eq_getElem (by rw [hxl]; exact hi)⟩
    obtain ⟨y0, e0⟩ := at_ 0 (by decide)
    obtain ⟨y1, e1⟩ := at_ 1 (by decide)
    obtain ⟨y2, e2⟩ := at_ 2 (by decide)
    have c1 : Tryz.prog.cellsOf 22 = 1 := by kernel_rfl
    have c2 : Tryz.prog.cellsOf 23 = 1 := by kernel_rfl
    have c3 : Tryz.prog.cellsOf 3 = 1 := by kernel_rfl
    have g0 := hg 0 _ rfl
    have g1 := hg 1 _ rfl
    have g2 := hg 2 _ rfl
    have q0 : DataW.trod enc Tryz.prog W base spare held n 3 (List.take (Tryz.prog.cellsOf 3) [v0, v1, v2]) = xs[0]? := g0
    rw [e0, c3] at q0
    replace g0 : DataW.trod enc Tryz.prog W base spare held n 3 [v0] = some y0 := q0
    have q1 : DataW.trod enc Tryz.prog W base spare held n 22 (List.take (Tryz.prog.cellsOf 22) [v1, v2]) = xs[1]? := g1
    rw [e1, c1] at q1
    replace g1 : DataW.trod enc Tryz.prog W base spare held n 22 [v1] = some y1 := q1
    have q2 : DataW.trod enc Tryz.prog W base spare held n 23 (List.take (Tryz.prog.cellsOf 23) [v2]) = xs[2]? := g2
    rw [e2, c2] at q2
    replace g2 : DataW.trod enc Tryz.prog W base spare held n 23 [v2] = some y2 := q2
    obtain ⟨cap, h0, _, w0⟩ := DataW.trod_int Tryz.underlying3 g0
    injection h0 with h0 _
    subst h0
    obtain ⟨sl, hs, hsn, hsc⟩ := open_ens g1
    obtain ⟨ix, hi, hin, hiw⟩ := open_row g2
    exact ⟨⟨cap, sl, ix⟩, ⟨v1, v2, rfl, hs, hi⟩, ⟨w0, hsn, hsc, hin, hiw⟩⟩
set_option maxRecDepth 100000 in
set_option maxHeartbeats 2000000 in
theorem open_el {W : World} {H : Type} {enc : TypeId × Value → H} {base b0 : Nat} {spare : Nat → Bool} {held : Bool} {v : Value} {d : DataW H} {p : List MemPlace} (hv : Value.okWide Tryz.prog W .any b0 22 v)
    (h : DataW.Trod enc Tryz.prog W base spare held 22 v d p) : ∃ l : List En, isEns l v W ∧ l.length ≤ maxLen ∧ ∀ e ∈ l, CameE e := by
  obtain ⟨fuel0, hf0⟩ := h
  have hc : ∃ cs, DataW.trod enc Tryz.prog W base spare held fuel0 22 [v] = some cs := by
    cases v with
    | agg cs =>
      exfalso
      rcases Go.Deep.open_slice Tryz.underlying22 hf0 with ⟨hc, _⟩ | ⟨a, len, cap, m, n', D, Pl, hc, _⟩
      all_goals (simp only [Value.okWide, Tryz.underlying22] at hv; first | (obtain ⟨_, h, _⟩ := hv; cases h) | (rcases hv with h | ⟨_, _, _, h, _⟩ <;> cases h) | cases hv)
    | _ => exact ⟨_, hf0⟩
  obtain ⟨cs, hc⟩ := hc
  exact open_ens hc
end Go.Proofs.YtbgconagkgfplaaGreat
end
section
namespace Go.Proofs.YtbgconagkgfplaaGreat
open Go.RowKit
set_option linter.unusedVariables false
set_option linter.unusedSimpArgs false

theorem ga_join (A : Ar) (Y : En) (G : Ar) (b : Bool) (r : Int) (v u : Value) (w : World) (hv : isAr A v w) (hu : isEn Y u w) (hF : FitA A) (hY : FitE Y) (hG : joinAF A Y = G) (hb : joinAB A Y = b) (hr : joinAE A Y = r) : Calls Tryz.prog 14 #[v, u] w fun e w' => ∃ v', e = .returned (.tuple #[v', .bool b, .int .i64 r]) ∧ isAr G v' w' ∧ Below w.heap.size w w' := by
  subst hG hb hr; exact ajoin_any A Y v u w hv hu hF hY
theorem ga_merge (A : Ar) (L : List En) (G : Ar) (n o : Int) (v u : Value) (w : World) (hv : isAr A v w) (hu : isEns L u w) (hF : FitA A) (hL : ∀ e ∈ L, FitE e) (hLn : L.length ≤ 500) (hG : mergeF A L = G) (hn : (mergeN A L : Int) = n) (ho : (mergeO A L : Int) = o) : Calls Tryz.prog 16 #[v, u] w fun e w' => ∃ v', e = .returned (.tuple #[v', .int .i64 n, .int .i64 o]) ∧ isAr G v' w' ∧ Below w.heap.size w w' := by
  subst hG hn ho; exact amerge_any A L v u w hv hu hF hL hLn
end Go.Proofs.YtbgconagkgfplaaGreat
end
section
namespace Go.Proofs.YtbgconagkgfplaaGreat
open Go.RowKit
set_option linter.unusedVariables false
set_option linter.unusedSimpArgs false
attribute [local irreducible] setN

def noCountB (A : Va) : Bool := decide (A.plus.length + A.minus.length = 0)
def noRegB (A : Va) : Bool := (A.time == 0) && (A.node == 0) && !A.dead && A.text.isEmpty
set_option maxRecDepth 20000 in
set_option maxHeartbeats 1000000 in
theorem noCount_any (A : Va) (v : Value) (w : World) (hv : isVa A v w) (hF : Fit A) :
    Calls Tryz.prog 132 #[v] w fun e w' => e = .returned (.bool (noCountB A)) ∧ Below w.heap.size w w' := by
  obtain ⟨vp, vm, rfl, hp, hm⟩ := hv
  obtain ⟨hB, _⟩ := vbox w A vp vm hp hm w.heap.size rfl
  obtain ⟨a, cap, rfl⟩ := hp.len
  obtain ⟨a2, cap2, rfl⟩ := hm.len
  clear hp hm
  rw [List.length_map, List.length_map] at *
  have h1 := hF.plus
  have h2 := hF.minus
  have HS := Kept.mk (show noCountB A = ((A.plus.length : Int) + (A.minus.length : Int) == 0) by unfold noCountB; rw [Bool.eq_iff_iff, decide_eq_true_eq, beq_iff_eq]; omega)
  generalize A.plus.length = n1 at *
  generalize A.minus.length = n2 at *
  go_enter Tryz.func132, Tryz.ntmps132
  go_wp2
  go_ret
  exact ⟨by rw [HS.out]; rfl, hB.out⟩
set_option maxRecDepth 20000 in
set_option maxHeartbeats 1000000 in
theorem noReg_any (A : Va) (v : Value) (w : World) (hv : isVa A v w) :
    Calls Tryz.prog 134 #[v] w fun e w' => e = .returned (.bool (noRegB A)) ∧ Below w.heap.size w w' := by
  obtain ⟨vp, vm, rfl, hp, hm⟩ := hv
  obtain ⟨hB, _⟩ := vbox w A vp vm hp hm w.heap.size rfl
  clear hp hm
  have HS := Kept.mk (show noRegB A = ((A.time == 0) && (A.node == 0) && !A.dead && A.text.isEmpty) from rfl)
  cases d0 : (A.time == 0) with
  | false =>
    go_enter Tryz.func134, Tryz.ntmps134
    go_wp2
    go_ret
    exact ⟨by rw [HS.out, d0]; rfl, hB.out⟩
  | true =>
    cases d1 : (A.node == 0) with
    | false =>
      go_enter Tryz.func134, Tryz.ntmps134
      go_wp2
      go_ret
      exact ⟨by rw [HS.out, d0, d1]; rfl, hB.out⟩
    | true =>
      cases d2 : A.dead with
      | true =>
        rw [d2] at hB
        go_enter Tryz.func134, Tryz.ntmps134
        go_wp2
        go_ret
        exact ⟨by rw [HS.out, d0, d1, d2]; rfl, hB.out⟩
      | false =>
        rw [d2] at hB
        go_enter Tryz.func134, Tryz.ntmps134
        go_wp2
        go_ret
        exact ⟨by rw [HS.out, d0, d1, d2]; rfl, hB.out⟩
set_option maxRecDepth 20000 in
set_option maxHeartbeats 1000000 in
theorem counts_any (l : List Int) (v : Value) (w : World) (hv : isCells (l.map intC) v w) (hl : l.length ≤ 1000000) :
    Calls Tryz.prog 133 #[v] w fun e w' => e = .returned (.bool (okRow l)) ∧ w = w' := by
  obtain ⟨a, cap, hva⟩ := hv.len
  rw [List.length_map] at hva
  subst hva
  have HV := Kept.mk hv
  clear hv
  go_enter Tryz.func133, Tryz.ntmps133
  go_wp2
  go_loop [3] (fun i => ∃ k : Nat, k ≤ l.length ∧ i = .int .i64 (k : Int) ∧ Kept ((l.take k).all okNum = true)) (fun i => l.length - (intOf i).toNat)
  case atStart => exact ⟨0, Nat.zero_le _, rfl, ⟨rfl⟩⟩
  case round =>
    obtain ⟨k, hk, rfl, HB⟩ := hrel
    by_cases hlt : k < l.length
    · obtain ⟨b, off, cap', hs, hb, hc⟩ := HV.out.some_ (by rw [List.length_map]; omega)
      rw [List.length_map] at hs
      injection hs with h1 h2 h3
      subst h1 h3
      have hcell := hc k _ (get_map intC l k hlt)
      have HD := Kept.mk (show (l.take (k + 1)).all okNum = ((l.take k).all okNum && okNum l[k]) by rw [List.take_succ_eq_append_getElem hlt, List.all_append]; simp)
      have HM := Kept.mk (List.getElem_mem hlt)
      obtain ⟨x, hx⟩ : ∃ x, x = l[k] := ⟨_, rfl⟩
      rw [← hx] at hcell HD HM
      unfold intC at hcell
      clear hc hx
      have d0 : decide ((k : Int) < (l.length : Int)) = true := by simp; omega
      have bad : okNum x = false → okRow l = false := fun h => by
        unfold okRow
        rw [Bool.and_eq_false_iff]
        right
        rw [List.all_eq_false]
        exact ⟨x, HM.out, by rw [h]; simp⟩
      by_cases hz : x < 0
      · have d : decide (x < 0) = true := by simpa using hz
        have HR := Kept.mk (bad (by unfold okNum; simp; omega))
        clear hz bad
        go_wp2
        all_goals go_ret
        all_goals exact ⟨by rw [HR.out]; rfl, rfl⟩
      · have d : decide (x < 0) = false := by simpa using hz
        by_cases hy : 65535 < x
        · have d2 : decide (65535 < x) = true := by simpa using hy
          have HR := Kept.mk (bad (by unfold okNum; simp; omega))
          clear hz hy bad
          go_wp2
          all_goals go_ret
          all_goals exact ⟨by rw [HR.out]; rfl, rfl⟩
        · have d2 : decide (65535 < x) = false := by simpa using hy
          have HR := Kept.mk (show (l.take (k + 1)).all okNum = true by rw [HD.out, HB.out, Bool.true_and]; unfold okNum; simp; omega)
          clear hz hy bad
          go_wp2
          all_goals go_round
          case rel => exact ⟨k + 1, by omega, by go_num, HR⟩
          case measure => simp [intOf]; omega
    · have HR := Kept.mk (show okRow l = ((l.length : Int) == 8) by
        have := HB.out
        rw [List.take_of_length_le (by omega)] at this
        unfold okRow
        rw [this, Bool.and_true, Bool.eq_iff_iff]
        simp
        omega)
      have d0 : decide ((k : Int) < (l.length : Int)) = false := by simp; omega
      go_wp2
      go_ret
      exact ⟨by rw [HR.out]; rfl, rfl⟩
theorem flags_zero (fl : UInt64) : fl = 0 ↔ (fl.toNat : Int) = 0 := by
  rw [← UInt64.toNat_inj]
  simp
theorem beq_nil (l : List UInt8) : (l == []) = l.isEmpty := by cases l <;> rfl
theorem ok_regs (A : Va) (h : A.kind = 1) : okV A = (decide (0 ≤ A.time) && decide (A.time ≤ 2147483647) && decide (0 ≤ A.node) && decide (A.node ≤ 7) && decide ((A.text.length : Int) ≤ 8) && (!A.dead || A.text.isEmpty) && noCountB A && ((A.flags.toNat : Int) == 0)) := by
  rw [Bool.eq_iff_iff]
  constructor
  · intro ho
    obtain ⟨r1, r2⟩ := ok_reg ho h
    have e1 : A.plus = [] := congrArg Va.plus r2
    have e2 : A.minus = [] := congrArg Va.minus r2
    have e3 : A.flags = 0 := congrArg Va.flags r2
    unfold inReg at r1
    rw [beq_nil] at r1
    simp only [Bool.and_eq_true, decide_eq_true_eq] at r1
    obtain ⟨⟨⟨⟨c1, c2⟩, ⟨c3, c4⟩⟩, c5⟩, c6⟩ := r1
    simp only [Bool.and_eq_true, decide_eq_true_eq]
    exact ⟨⟨⟨⟨⟨⟨⟨c1, c2⟩, c3⟩, c4⟩, c5⟩, c6⟩, by unfold noCountB; rw [e1, e2]; rfl⟩, by rw [e3]; rfl⟩
  · intro hh
    simp only [Bool.and_eq_true, decide_eq_true_eq] at hh
    obtain ⟨⟨⟨⟨⟨⟨⟨c1, c2⟩, c3⟩, c4⟩, c5⟩, c6⟩, c7⟩, c8⟩ := hh
    unfold noCountB at c7
    simp only [decide_eq_true_eq] at c7
    have e1 : A.plus = [] := List.eq_nil_of_length_eq_zero (by omega)
    have e2 : A.minus = [] := List.eq_nil_of_length_eq_zero (by omega)
    have e3 : A.flags = 0 := (flags_zero _).2 (by simpa using c8)
    refine reg_ok h ?_ ?_
    · unfold inReg
      rw [beq_nil]
      simp only [Bool.and_eq_true, decide_eq_true_eq]
      exact ⟨⟨⟨⟨c1, c2⟩, ⟨c3, c4⟩⟩, c5⟩, c6⟩
    · unfold onlyReg
      obtain ⟨k, t, n, d, tx, p, mi, fl⟩ := A
      simp only at h e1 e2 e3
      subst h e1 e2 e3
      rfl
theorem ok_counts (A : Va) (h : A.kind = 2) : okV A = (okRow A.plus && okRow A.minus && noRegB A && ((A.flags.toNat : Int) == 0)) := by
  rw [Bool.eq_iff_iff]
  constructor
  · intro ho
    obtain ⟨r1, r2⟩ := ok_count ho h
    have e1 : A.time = 0 := congrArg Va.time r2
    have e2 : A.node = 0 := congrArg Va.node r2
    have e3 : A.flags = 0 := congrArg Va.flags r2
    have e4 : A.dead = false := congrArg Va.dead r2
    have e5 : A.text = [] := congrArg Va.text r2
    unfold inCount at r1
    rw [r1, e3]
    unfold noRegB
    rw [e1, e2, e4, e5]
    rfl
  · intro hh
    simp only [Bool.and_eq_true] at hh
    obtain ⟨⟨⟨c1, c2⟩, c3⟩, c8⟩ := hh
    unfold noRegB at c3
    simp only [Bool.and_eq_true, beq_iff_eq] at c3
    obtain ⟨⟨⟨e1, e2⟩, e4⟩, e5⟩ := c3
    have e3 : A.flags = 0 := (flags_zero _).2 (by simpa using c8)
    refine count_ok h (by unfold inCount; rw [c1, c2]; rfl) ?_
    unfold onlyCount
    obtain ⟨k, t, n, d, tx, p, mi, fl⟩ := A
    simp only at h e1 e2 e3 e4 e5
    have e4' : d = false := by simpa using e4
    have e5' : tx = [] := by simpa using e5
    subst h e1 e2 e3 e4' e5'
    rfl
theorem ok_flagss (A : Va) (h : A.kind = 3) : okV A = (noRegB A && noCountB A) := by
  rw [Bool.eq_iff_iff]
  constructor
  · intro ho
    have r2 := ok_flags ho h
    have e1 : A.time = 0 := congrArg Va.time r2
    have e2 : A.node = 0 := congrArg Va.node r2
    have e4 : A.dead = false := congrArg Va.dead r2
    have e5 : A.text = [] := congrArg Va.text r2
    have e6 : A.plus = [] := congrArg Va.plus r2
    have e7 : A.minus = [] := congrArg Va.minus r2
    unfold noRegB noCountB
    rw [e1, e2, e4, e5, e6, e7]
    rfl
  · intro hh
    simp only [Bool.and_eq_true] at hh
    obtain ⟨c3, c7⟩ := hh
    unfold noRegB at c3
    simp only [Bool.and_eq_true, beq_iff_eq] at c3
    obtain ⟨⟨⟨e1, e2⟩, e4⟩, e5⟩ := c3
    unfold noCountB at c7
    simp only [decide_eq_true_eq] at c7
    have e6 : A.plus = [] := List.eq_nil_of_length_eq_zero (by omega)
    have e7 : A.minus = [] := List.eq_nil_of_length_eq_zero (by omega)
    refine flags_ok h ?_
    unfold onlyFlags
    obtain ⟨k, t, n, d, tx, p, mi, fl⟩ := A
    simp only at h e1 e2 e4 e5 e6 e7
    have e4' : d = false := by simpa using e4
    have e5' : tx = [] := by simpa using e5
    subst h e1 e2 e4' e5' e6 e7
    rfl
set_option maxRecDepth 20000 in
set_option maxHeartbeats 1000000 in
theorem rcheck_reg (A : Va) (v : Value) (w : World) (hv : isVa A v w) (hF : Fit A) (hk : A.kind = 1) :
    Calls Tryz.prog 113 #[v] w fun e w' => e = .returned (.bool (okV A)) ∧ Below w.heap.size w w' := by
  obtain ⟨vp, vm, rfl, hp, hm⟩ := hv
  obtain ⟨hB, hV⟩ := vbox w A vp vm hp hm w.heap.size rfl
  have HP := Kept.mk (stable_cells _ _ _ _ hp hB.out)
  have HM := Kept.mk (stable_cells _ _ _ _ hm hB.out)
  have HXa := Kept.mk (show isVa A (.agg #[.int .i64 A.kind, .int .i64 A.time, .int .i64 A.node, .bool A.dead, .string ⟨A.text.toArray⟩, vp, vm, .int .u64 (A.flags.toNat : Int)]) (w.alloc (.cells #[.int .i64 A.kind, .int .i64 A.time, .int .i64 A.node, .bool A.dead, .string ⟨A.text.toArray⟩, vp, vm, .int .u64 (A.flags.toNat : Int)] 28)) from ⟨vp, vm, rfl, HP.out, HM.out⟩)
  clear hp hm
  have HS := Kept.mk (ok_regs A hk)
  have kk : (A.kind == 1) = true := by simpa using hk
  have hsz : (⟨A.text.toArray⟩ : ByteArray).size = A.text.length := size_mk _
  clear hk
  cases d0 : decide (0 ≤ A.time) with
  | false =>
    go_enter Tryz.func113, Tryz.ntmps113
    go_wp2
    all_goals go_ret
    all_goals exact ⟨by rw [HS.out, d0]; rfl, hB.out⟩
  | true =>
    cases d1 : decide (A.time ≤ 2147483647) with
    | false =>
      go_enter Tryz.func113, Tryz.ntmps113
      go_wp2
      all_goals go_ret
      all_goals exact ⟨by rw [HS.out, d0, d1]; rfl, hB.out⟩
    | true =>
      cases d2 : decide (0 ≤ A.node) with
      | false =>
        go_enter Tryz.func113, Tryz.ntmps113
        go_wp2
        all_goals go_ret
        all_goals exact ⟨by rw [HS.out, d0, d1, d2]; rfl, hB.out⟩
      | true =>
        cases d3 : decide (A.node ≤ 7) with
        | false =>
          go_enter Tryz.func113, Tryz.ntmps113
          go_wp2
          all_goals go_ret
          all_goals exact ⟨by rw [HS.out, d0, d1, d2, d3]; rfl, hB.out⟩
        | true =>
          cases d4 : decide ((A.text.length : Int) ≤ 8) with
          | false =>
            go_enter Tryz.func113, Tryz.ntmps113
            go_wp2
            all_goals go_ret
            all_goals exact ⟨by rw [HS.out, d0, d1, d2, d3, d4]; rfl, hB.out⟩
          | true =>
            cases dd : A.dead with
            | false =>
              rw [dd] at hB hV HXa HS
              have dd2 := Kept.mk dd
              clear dd
              go_enter Tryz.func113, Tryz.ntmps113
              go_wp2_with fail
              ((with_reducible refine (noCount_any A _ _ HXa.out hF).mono ?_); rintro e w1 ⟨rfl, hb1⟩)
              obtain ⟨q, r, -, -, -, k0, k1, k2, k3, k4, k5, k6, k7⟩ := (hV.out.keep hb1).open_
              replace hB := Kept.mk (hB.out.trans (hb1.mono hB.out.size))
              clear hb1
              cases dn : noCountB A with
              | false =>
                go_wp2
                all_goals go_ret
                all_goals exact ⟨by rw [HS.out, d0, d1, d2, d3, d4, dn]; rfl, hB.out⟩
              | true =>
                go_wp2
                all_goals go_ret
                all_goals exact ⟨by rw [HS.out, d0, d1, d2, d3, d4, dn]; rfl, hB.out⟩
            | true =>
              rw [dd] at hB hV HXa HS
              clear dd
              cases de : A.text.isEmpty with
              | false =>
                go_enter Tryz.func113, Tryz.ntmps113
                go_wp2
                all_goals go_ret
                all_goals exact ⟨by rw [HS.out, d0, d1, d2, d3, d4, de]; rfl, hB.out⟩
              | true =>
                go_enter Tryz.func113, Tryz.ntmps113
                go_wp2_with fail
                ((with_reducible refine (noCount_any A _ _ HXa.out hF).mono ?_); rintro e w1 ⟨rfl, hb1⟩)
                obtain ⟨q, r, -, -, -, k0, k1, k2, k3, k4, k5, k6, k7⟩ := (hV.out.keep hb1).open_
                replace hB := Kept.mk (hB.out.trans (hb1.mono hB.out.size))
                clear hb1
                cases dn : noCountB A with
                | false =>
                  go_wp2
                  all_goals go_ret
                  all_goals exact ⟨by rw [HS.out, d0, d1, d2, d3, d4, de, dn]; rfl, hB.out⟩
                | true =>
                  go_wp2
                  all_goals go_ret
                  all_goals exact ⟨by rw [HS.out, d0, d1, d2, d3, d4, de, dn]; rfl, hB.out⟩
set_option maxRecDepth 20000 in
set_option maxHeartbeats 1000000 in
theorem rcheck_count (A : Va) (v : Value) (w : World) (hv : isVa A v w) (hF : Fit A) (hk : A.kind = 2) :
    Calls Tryz.prog 113 #[v] w fun e w' => e = .returned (.bool (okV A)) ∧ Below w.heap.size w w' := by
  obtain ⟨vp, vm, rfl, hp, hm⟩ := hv
  obtain ⟨hB, hV⟩ := vbox w A vp vm hp hm w.heap.size rfl
  have HP := Kept.mk (stable_cells _ _ _ _ hp hB.out)
  have HM := Kept.mk (stable_cells _ _ _ _ hm hB.out)
  have HXa := Kept.mk (show isVa A (.agg #[.int .i64 A.kind, .int .i64 A.time, .int .i64 A.node, .bool A.dead, .string ⟨A.text.toArray⟩, vp, vm, .int .u64 (A.flags.toNat : Int)]) (w.alloc (.cells #[.int .i64 A.kind, .int .i64 A.time, .int .i64 A.node, .bool A.dead, .string ⟨A.text.toArray⟩, vp, vm, .int .u64 (A.flags.toNat : Int)] 28)) from ⟨vp, vm, rfl, HP.out, HM.out⟩)
  clear hp hm
  have HS := Kept.mk (ok_counts A hk)
  have kk : (A.kind == 1) = false := by rw [hk]; decide
  have kk2 : (A.kind == 2) = true := by rw [hk]; decide
  clear hk
  go_enter Tryz.func113, Tryz.ntmps113
  go_wp2_with fail
  ((with_reducible refine (counts_any A.plus _ _ HP.out hF.plus).mono ?_); rintro e w1 ⟨rfl, rfl⟩)
  cases d1 : okRow A.plus with
  | false =>
    go_wp2
    all_goals go_ret
    all_goals exact ⟨by rw [HS.out, d1]; rfl, hB.out⟩
  | true =>
    go_wp2_with fail
    ((with_reducible refine (counts_any A.minus _ _ HM.out hF.minus).mono ?_); rintro e w1 ⟨rfl, rfl⟩)
    cases d2 : okRow A.minus with
    | false =>
      go_wp2
      all_goals go_ret
      all_goals exact ⟨by rw [HS.out, d1, d2]; rfl, hB.out⟩
    | true =>
      go_wp2_with fail
      ((with_reducible refine (noReg_any A _ _ HXa.out).mono ?_); rintro e w1 ⟨rfl, hb1⟩)
      obtain ⟨q, r, -, -, -, k0, k1, k2, k3, k4, k5, k6, k7⟩ := (hV.out.keep hb1).open_
      replace hB := Kept.mk (hB.out.trans (hb1.mono hB.out.size))
      clear hb1
      cases dn : noRegB A with
      | false =>
        go_wp2
        all_goals go_ret
        all_goals exact ⟨by rw [HS.out, d1, d2, dn]; rfl, hB.out⟩
      | true =>
        go_wp2
        all_goals go_ret
        all_goals exact ⟨by rw [HS.out, d1, d2, dn]; rfl, hB.out⟩
set_option maxRecDepth 20000 in
set_option maxHeartbeats 1000000 in
theorem rcheck_flags (A : Va) (v : Value) (w : World) (hv : isVa A v w) (hF : Fit A) (hk : A.kind = 3) :
    Calls Tryz.prog 113 #[v] w fun e w' => e = .returned (.bool (okV A)) ∧ Below w.heap.size w w' := by
  obtain ⟨vp, vm, rfl, hp, hm⟩ := hv
  obtain ⟨hB, hV⟩ := vbox w A vp vm hp hm w.heap.size rfl
  have HP := Kept.mk (stable_cells _ _ _ _ hp hB.out)
  have HM := Kept.mk (stable_cells _ _ _ _ hm hB.out)
  have HXa := Kept.mk (show isVa A (.agg #[.int .i64 A.kind, .int .i64 A.time, .int .i64 A.node, .bool A.dead, .string ⟨A.text.toArray⟩, vp, vm, .int .u64 (A.flags.toNat : Int)]) (w.alloc (.cells #[.int .i64 A.kind, .int .i64 A.time, .int .i64 A.node, .bool A.dead, .string ⟨A.text.toArray⟩, vp, vm, .int .u64 (A.flags.toNat : Int)] 28)) from ⟨vp, vm, rfl, HP.out, HM.out⟩)
  clear hp hm
  have HS := Kept.mk (ok_flagss A hk)
  have kk : (A.kind == 1) = false := by rw [hk]; decide
  have kk2 : (A.kind == 2) = false := by rw [hk]; decide
  have kk3 : (A.kind == 3) = true := by rw [hk]; decide
  clear hk
  go_enter Tryz.func113, Tryz.ntmps113
  go_wp2_with fail
  ((with_reducible refine (noReg_any A _ _ HXa.out).mono ?_); rintro e w1 ⟨rfl, hb1⟩)
  obtain ⟨q, r, x1, -, -, k0, k1, k2, k3, k4, k5, k6, k7⟩ := (hV.out.keep hb1).open_
  have X1 := Kept.mk x1
  replace hB := Kept.mk (hB.out.trans (hb1.mono hB.out.size))
  clear hb1 x1
  cases dn : noRegB A with
  | false =>
    go_wp2
    all_goals go_ret
    all_goals exact ⟨by rw [HS.out, dn]; rfl, hB.out⟩
  | true =>
    go_wp2_with fail
    ((with_reducible refine (noCount_any A _ _ X1.out hF).mono ?_); rintro e w2 ⟨rfl, hb1⟩)
    replace hB := Kept.mk (hB.out.trans (hb1.mono hB.out.size))
    clear hb1 X1 k0 k1 k2 k3 k4 k5 k6 k7
    cases d2 : noCountB A with
    | false =>
      go_wp2
      all_goals go_ret
      all_goals exact ⟨by rw [HS.out, dn, d2]; rfl, hB.out⟩
    | true =>
      go_wp2
      all_goals go_ret
      all_goals exact ⟨by rw [HS.out, dn, d2]; rfl, hB.out⟩
set_option maxRecDepth 20000 in
set_option maxHeartbeats 1000000 in
theorem rcheck_none (A : Va) (v : Value) (w : World) (hv : isVa A v w) (hF : Fit A) (h1 : A.kind ≠ 1) (h2 : A.kind ≠ 2) (h3 : A.kind ≠ 3) :
    Calls Tryz.prog 113 #[v] w fun e w' => e = .returned (.bool (okV A)) ∧ Below w.heap.size w w' := by
  obtain ⟨vp, vm, rfl, hp, hm⟩ := hv
  obtain ⟨hB, hV⟩ := vbox w A vp vm hp hm w.heap.size rfl
  have HP := Kept.mk (stable_cells _ _ _ _ hp hB.out)
  have HM := Kept.mk (stable_cells _ _ _ _ hm hB.out)
  have HXa := Kept.mk (show isVa A (.agg #[.int .i64 A.kind, .int .i64 A.time, .int .i64 A.node, .bool A.dead, .string ⟨A.text.toArray⟩, vp, vm, .int .u64 (A.flags.toNat : Int)]) (w.alloc (.cells #[.int .i64 A.kind, .int .i64 A.time, .int .i64 A.node, .bool A.dead, .string ⟨A.text.toArray⟩, vp, vm, .int .u64 (A.flags.toNat : Int)] 28)) from ⟨vp, vm, rfl, HP.out, HM.out⟩)
  clear hp hm
  have HS := Kept.mk (show okV A = false by unfold okV kindN; rw [if_neg h1, if_neg h2, if_neg h3]; rfl)
  have kk : (A.kind == 1) = false := by simpa using h1
  have kk2 : (A.kind == 2) = false := by simpa using h2
  have kk3 : (A.kind == 3) = false := by simpa using h3
  clear h1 h2 h3
  go_enter Tryz.func113, Tryz.ntmps113
  go_wp2
  all_goals go_ret
  all_goals exact ⟨by rw [HS.out]; rfl, hB.out⟩
theorem rcheck_any (A : Va) (v : Value) (w : World) (hv : isVa A v w) (hF : Fit A) :
    Calls Tryz.prog 113 #[v] w fun e w' => e = .returned (.bool (okV A)) ∧ Below w.heap.size w w' := by
  by_cases h1 : A.kind = 1
  · exact rcheck_reg A v w hv hF h1
  · by_cases h2 : A.kind = 2
    · exact rcheck_count A v w hv hF h2
    · by_cases h3 : A.kind = 3
      · exact rcheck_flags A v w hv hF h3
      · exact rcheck_none A v w hv hF h1 h2 h3
end Go.Proofs.YtbgconagkgfplaaGreat
end
section
namespace Go.Proofs.YtbgconagkgfplaaGreat
open Go.RowKit
set_option linter.unusedVariables false
set_option linter.unusedSimpArgs false

noncomputable def refIntsops : Array Oper := regionOf Tryz.f51 6
set_option maxRecDepth 100000 in
theorem refInts_region (Q : Exit → Act → World → Prop) (a0 : Act) (w0 : World) (hsz : a0.tmps.size = 26) (b1 o1 c1 b2 o2 c2 n j : Nat) (x y : Int) (z : Bool)
    (e0 : a0.tmps.getD 0 undef = .slice (some ⟨b1, o1, none⟩) n c1) (e1 : a0.tmps.getD 1 undef = .slice (some ⟨b2, o2, none⟩) n c2) (e5 : a0.tmps.getD 5 undef = .int .i64 (j : Int)) (hj : j < n)
    (p1 : w0.cell? ⟨b1, o1 + j, none⟩ = some (.int .i64 x)) (l1 : b1 < w0.heap.size) (p2 : w0.cell? ⟨b2, o2 + j, none⟩ = some (.int .i64 y)) (l2 : b2 < w0.heap.size) (hz : (x != y) = z)
    (hQ : ∀ (f : Nat → Value) (w : World), f 25 = .bool z → Below w0.heap.size w0 w → Q .normal { tmps := [17, 18, 19, 20, 21, 22, 23, 24, 25].foldl (fun t s => t.setIfInBounds s (f s)) a0.tmps, defers := a0.defers } w) :
    (Code.region 6 refIntsops true).wp Tryz.prog Q a0 w0 := by
  refine wp_region_flow mixed (by rw [hsz]; kernel_rfl) ?_
  rw [show refIntsops.size = 9 by kernel_rfl]
  refine ⟨isVal (.slice (some ⟨b1, o1, none⟩) n c1), step_move (.tmp 0) (by kernel_rfl) (wanted_none (by kernel_rfl)) (stable_val _) (knows_old 0 (.slice (some ⟨b1, o1, none⟩) n c1) (by kernel_rfl) e0), ?_⟩
  refine ⟨isVal (.int .i64 (j : Int)), step_move (.tmp 5) (by kernel_rfl) (wanted_none (by kernel_rfl)) (stable_val _) (knows_old 5 (.int .i64 (j : Int)) (by kernel_rfl) e5), ?_⟩
  refine ⟨isVal (.pointer (some ⟨b1, o1 + j, none⟩)), step_place 23 3 (.tmp 17) (.tmp 18) b1 o1 n c1 j (by kernel_rfl) (wanted_none (by kernel_rfl)) (knows_new (V := isVal (.slice (some ⟨b1, o1, none⟩) n c1)) 17 0 (by kernel_rfl) (by kernel_rfl) (by kernel_rfl)) (knows_new (V := isVal (.int .i64 (j : Int))) 18 1 (by kernel_rfl) (by kernel_rfl) (by kernel_rfl)) Tryz.underlying23 (by kernel_rfl) hj, ?_⟩
  refine ⟨isVal (.int .i64 x), step_read 3 (.tmp 19) ⟨b1, o1 + j, none⟩ (.int .i64 x) (by kernel_rfl) (wanted_none (by kernel_rfl)) (knows_new (V := isVal (.pointer (some ⟨b1, o1 + j, none⟩))) 19 2 (by kernel_rfl) (by kernel_rfl) (by kernel_rfl)) p1 l1 agg_int, ?_⟩
  refine ⟨isVal (.slice (some ⟨b2, o2, none⟩) n c2), step_move (.tmp 1) (by kernel_rfl) (wanted_none (by kernel_rfl)) (stable_val _) (knows_old 1 (.slice (some ⟨b2, o2, none⟩) n c2) (by kernel_rfl) e1), ?_⟩
  refine ⟨isVal (.int .i64 (j : Int)), step_move (.tmp 5) (by kernel_rfl) (wanted_none (by kernel_rfl)) (stable_val _) (knows_old 5 (.int .i64 (j : Int)) (by kernel_rfl) e5), ?_⟩
  refine ⟨isVal (.pointer (some ⟨b2, o2 + j, none⟩)), step_place 23 3 (.tmp 21) (.tmp 22) b2 o2 n c2 j (by kernel_rfl) (wanted_none (by kernel_rfl)) (knows_new (V := isVal (.slice (some ⟨b2, o2, none⟩) n c2)) 21 4 (by kernel_rfl) (by kernel_rfl) (by kernel_rfl)) (knows_new (V := isVal (.int .i64 (j : Int))) 22 5 (by kernel_rfl) (by kernel_rfl) (by kernel_rfl)) Tryz.underlying23 (by kernel_rfl) hj, ?_⟩
  refine ⟨isVal (.int .i64 y), step_read 3 (.tmp 23) ⟨b2, o2 + j, none⟩ (.int .i64 y) (by kernel_rfl) (wanted_none (by kernel_rfl)) (knows_new (V := isVal (.pointer (some ⟨b2, o2 + j, none⟩))) 23 6 (by kernel_rfl) (by kernel_rfl) (by kernel_rfl)) p2 l2 agg_int, ?_⟩
  refine ⟨isVal (.bool z), step_bin .neq 3 3 (.tmp 20) (.tmp 24) (.int .i64 x) (.int .i64 y) (.bool z) (by kernel_rfl) (wanted_none (by kernel_rfl)) (knows_new (V := isVal (.int .i64 x)) 20 3 (by kernel_rfl) (by kernel_rfl) (by kernel_rfl)) (knows_new (V := isVal (.int .i64 y)) 24 7 (by kernel_rfl) (by kernel_rfl) (by kernel_rfl)) (fun _ => rfl) (neq_int _ _ _ _ _ hz), ?_⟩
  intro a w hkp hb hd
  rw [kept_of hkp ((List.range 9).map fun i => some (i + 17)) [17, 18, 19, 20, 21, 22, 23, 24, 25] (by kernel_rfl) (by decide)]
  exact hQ (fun s => a.tmps.getD s undef) w (fdone_of (hd 8 (by rw [show refIntsops.size = 9 by kernel_rfl]; decide)) (t := 25) (V := isVal (.bool z)) (by kernel_rfl) (by kernel_rfl)) hb
set_option maxRecDepth 20000 in
set_option maxHeartbeats 1000000 in
theorem refInts_any (l m : List (Int)) (v u : Value) (w : World) (hv : isCells (l.map intC) v w) (hu : isCells (m.map intC) u w) (h1 : l.length ≤ 1000000000) (h2 : m.length ≤ 1000000000) :
    Calls Tryz.prog 51 #[v, u] w fun e w' => e = .returned (.bool (decide (l = m))) ∧ Below w.heap.size w w' := by
  by_cases hlen : l.length = m.length
  case neg =>
    obtain ⟨a, cap, rfl⟩ := hv.len
    obtain ⟨b, cap2, rfl⟩ := hu.len
    rw [List.length_map, List.length_map]
    have HN := Kept.mk (show decide (l = m) = false by simp; rintro rfl; exact hlen rfl)
    have d1 : ((l.length : Int) != (m.length : Int)) = true := by simp [bne]; omega
    clear hv hu hlen
    go_enter Tryz.func51, Tryz.ntmps51
    go_wp2
    go_ret
    exact ⟨by rw [HN.out]; rfl, Below.refl _ _⟩
  by_cases h0 : l = []
  · subst h0
    obtain rfl : m = [] := List.eq_nil_of_length_eq_zero (by simpa using hlen.symm)
    obtain ⟨a, cap, rfl⟩ := hv.len
    obtain ⟨b, cap2, rfl⟩ := hu.len
    clear hv hu
    simp only [List.map_nil, List.length_nil]
    go_enter Tryz.func51, Tryz.ntmps51
    go_wp2
    go_loop [5] (fun i => i = .int .i64 0) (fun _ => 0)
    case atStart => rfl
    case round =>
      subst hrel
      go_wp2
      go_ret
      exact ⟨by simp, Below.refl _ _⟩
  · have hl0 : 0 < l.length := List.length_pos_iff.2 h0
    obtain ⟨b1, o1, c1, hv', l1, hc1⟩ := hv.some_ (by simpa using hl0)
    obtain ⟨b2, o2, c2, hu', l2, hc2⟩ := hu.some_ (by rw [List.length_map]; omega)
    rw [List.length_map] at hv' hu'
    subst hv' hu'
    have HM := Kept.mk hlen
    have hmn : m.length = l.length := hlen.symm
    rw [hmn]
    obtain ⟨n, hn⟩ : ∃ n, n = l.length := ⟨_, rfl⟩
    have HN := Kept.mk hn
    rw [← hn] at h1 hl0 ⊢
    have HC1 := Kept.mk hc1
    have HC2 := Kept.mk hc2
    have hB : Below w.heap.size w w := Below.refl _ _
    clear hv hu hlen hmn hn hc1 hc2 h0
    go_enter Tryz.func51, Tryz.ntmps51
    go_wp2
    go_loopw [5] (fun i wr => ∃ j : Nat, j ≤ n ∧ i = .int .i64 (j : Int) ∧ Kept (l.take j = m.take j) ∧ Below w.heap.size w wr) (fun i _ => n - (intOf i).toNat)
    case atStart => exact ⟨0, Nat.zero_le _, rfl, ⟨rfl⟩, hB⟩
    case round =>
      clear hB
      obtain ⟨j, hj, rfl, HT, hB⟩ := hrel
      by_cases hlt : j < n
      · have d1 : decide ((j : Int) < (n : Int)) = true := by simpa using hlt
        have HA := Kept.mk (show j < l.length by rw [← HN.out]; exact hlt)
        have HB := Kept.mk (show j < m.length by rw [← HM.out, ← HN.out]; exact hlt)
        have q1 := Kept.mk ((hB.cell (p := ⟨b1, o1 + j, none⟩) l1).trans (HC1.out j _ (get_map intC l j HA.out)))
        have q2 := Kept.mk ((hB.cell (p := ⟨b2, o2 + j, none⟩) l2).trans (HC2.out j _ (get_map intC m j HB.out)))
        cases hz : (l[j]'HA.out != m[j]'HB.out) with
        | true =>
          have HR := Kept.mk (show decide (l = m) = false by
            simp only [decide_eq_false_iff_not]
            rintro rfl
            simp at hz)
          have HZ := Kept.mk hz
          clear hz
          go_wp2_with fail
          refine refInts_region _ _ _ rfl b1 o1 c1 b2 o2 c2 n j _ _ true rfl rfl rfl hlt q1.out (Nat.lt_of_lt_of_le l1 hB.size) q2.out (Nat.lt_of_lt_of_le l2 hB.size) HZ.out ?_
          clear q1 q2 HZ
          intro f9 W9 hg hb9
          replace hB := hB.trans (hb9.mono hB.size)
          clear hb9
          simp only [List.foldl_cons, List.foldl_nil, hg]
          generalize f9 17 = y17
          generalize f9 18 = y18
          generalize f9 19 = y19
          generalize f9 20 = y20
          generalize f9 21 = y21
          generalize f9 22 = y22
          generalize f9 23 = y23
          generalize f9 24 = y24
          clear hg
          simp only [List.setIfInBounds_toArray, List.set_cons_succ, List.set_cons_zero]
          go_wp2
          go_ret
          exact ⟨by rw [HR.out]; rfl, hB⟩
        | false =>
          have HR := Kept.mk (show l.take (j + 1) = m.take (j + 1) by
            rw [List.take_succ_eq_append_getElem HA.out, List.take_succ_eq_append_getElem HB.out, HT.out]
            simp at hz
            rw [hz])
          have HZ := Kept.mk hz
          clear hz HT
          go_wp2_with fail
          refine refInts_region _ _ _ rfl b1 o1 c1 b2 o2 c2 n j _ _ false rfl rfl rfl hlt q1.out (Nat.lt_of_lt_of_le l1 hB.size) q2.out (Nat.lt_of_lt_of_le l2 hB.size) HZ.out ?_
          clear q1 q2 HZ
          intro f9 W9 hg hb9
          replace hB := hB.trans (hb9.mono hB.size)
          clear hb9
          simp only [List.foldl_cons, List.foldl_nil, hg]
          generalize f9 17 = y17
          generalize f9 18 = y18
          generalize f9 19 = y19
          generalize f9 20 = y20
          generalize f9 21 = y21
          generalize f9 22 = y22
          generalize f9 23 = y23
          generalize f9 24 = y24
          clear hg
          simp only [List.setIfInBounds_toArray, List.set_cons_succ, List.set_cons_zero]
          go_wp2
          go_roundw
          case rel => exact ⟨j + 1, by omega, by go_num, HR, hB⟩
          case measure => simp [intOf]; omega
      · have d1 : decide ((j : Int) < (n : Int)) = false := by simp; omega
        have HR := Kept.mk (show decide (l = m) = true by
          have h := HT.out
          rw [List.take_of_length_le (by rw [← HN.out]; omega), List.take_of_length_le (by rw [← HM.out, ← HN.out]; omega)] at h
          simpa using h)
        go_wp2
        go_ret
        exact ⟨by rw [HR.out]; rfl, hB⟩
end Go.Proofs.YtbgconagkgfplaaGreat
end
