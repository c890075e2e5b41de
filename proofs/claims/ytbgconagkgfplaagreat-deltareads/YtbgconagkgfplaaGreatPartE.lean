/- Joined texts: contracts of the program's functions, and the mathematics that they lean on. -/
import Derived.Test.YtbgconagkgfplaaGreatPartD
import Derived.SizedLaws
import Derived.SliceStrings
import Derived.Carry
import Derived.Deep.Slices
import Derived.OpenShut
section
namespace Go.Proofs.YtbgconagkgfplaaGreat
open Go.RowKit Go.Shelf
set_option linter.unusedVariables false
set_option linter.unusedSimpArgs false
attribute [local irreducible] setN
attribute [local go_sem] Oper.semAt_some

def NmPost (A : Ar) (w : World) (J Jx : List El → World → Prop) (W' : World) : Prop := (∃ ys, (∀ x ∈ ys, OkEl A w x) ∧ ys.map (·.2.1) = (if okA A = true then ordA A else []) ∧ J ys W') ∨ (∃ pre, (∀ x ∈ pre, OkEl A w x) ∧ okA A = true ∧ Jx pre W')
set_option maxRecDepth 100000 in
set_option maxHeartbeats 2000000 in
theorem name1_in (m : Nat) (hm : 1 ≤ m) (l Bs : Nat) (A : Ar) (vs vi : Value) (w : World) (hs : isEns A.slots vs w) (hi : isCells (A.index.map intC) vi w) (hF : FitA A) (J Jx : List El → World → Prop) (B0 : Nat) (hJa : AbidesFrom B0 J)
    (hY : ∀ pre x W, J pre W → OkEl A w x → pre.length < A.slots.length → YieldAt Fence.wide (m - 1) Tryz.prog l (encE x) W fun e W' =>
      (e = .returned (.bool true) ∧ J (pre ++ [x]) W' ∧ KpA w.heap.size Bs W W') ∨ (e = .returned (.bool false) ∧ Jx (pre ++ [x]) W'))
    (W : World) (hI : ItA A vs vi w w.heap.size Bs W) (h0 : J [] W) :
    CallsIn Fence.wide m Tryz.prog 123 #[.func (.yield l) #[] #[], .pointer (some ⟨Bs, 0, none⟩)] W fun e W' => (∃ v, e = .returned v) ∧
      NmPost A w J Jx W' := by
  have k0 := hI.cell 0
  have k1 := hI.cell 1
  have k2 := hI.cell 2
  simp only [List.getElem?_toArray, List.getElem?_cons_zero, List.getElem?_cons_succ] at k0 k1 k2
  have XA := Kept.mk (hI.ar ⟨vs, vi, rfl, hs, hi⟩)
  have HI := Kept.mk hI
  have HJ := Kept.mk h0
  have HS := Kept.mk hs
  have HX := Kept.mk hi
  obtain ⟨sa, cs, e0⟩ := hs.len
  obtain ⟨ia, ci, e1⟩ := hi.len
  rw [List.length_map] at e1
  subst e0 e1
  clear hI h0 hs hi
  have f2 := hF.index
  have f1 := hF.slots
  cases hok : okA A with
  | false =>
    have CK := Kept.mk (chk_A0 hok)
    refine callsIn_of_wp Tryz.func123 rfl trivial ?_ rfl
    simp only [Tryz.ntmps123, List.size_toArray, List.length_cons, List.length_nil, Nat.reduceAdd, Nat.reduceSub, Array.replicate_succ, Array.replicate_zero, List.push_toArray, List.append_toArray, List.nil_append, List.cons_append]
    gi_wp2_with (refine ⟨trivial, (callsIn_wide.2 (acheck_any A _ _ XA.out hF)).mono ?_⟩; rintro e W1 ⟨rfl, hb⟩; rw [CK.out])
    refine bodyPost_ret (results_none rfl _ _ _) rfl ?_
    exact ⟨⟨_, rfl⟩, .inl ⟨[], (fun x hx => by cases hx), by rw [hok]; rfl, abide hJa HJ.out hb⟩⟩
  | true =>
    have CK := Kept.mk (chk_A1 hok)
    have OKA := Kept.mk (okA_iff.1 hok)
    generalize hN : A.index.length = N at *
    have HN := Kept.mk hN
    generalize hM : A.slots.length = M at *
    have HM := Kept.mk hM
    have hNM : N = M := by rw [← hN, ← hM]; exact OKA.out.len
    have HNM := Kept.mk hNM
    clear hN hM hNM
    refine callsIn_of_wp Tryz.func123 rfl trivial ?_ rfl
    simp only [Tryz.ntmps123, List.size_toArray, List.length_cons, List.length_nil, Nat.reduceAdd, Nat.reduceSub, Array.replicate_succ, Array.replicate_zero, List.push_toArray, List.append_toArray, List.nil_append, List.cons_append]
    gi_wp2_with (refine ⟨trivial, (callsIn_wide.2 (acheck_any A _ _ XA.out hF)).mono ?_⟩; rintro e W1 ⟨rfl, hb⟩; rw [CK.out]; have HI1 := Kept.mk (HI.out.kp (kpA_below hb HI.out.size HI.out.lt)); have HJ1 := Kept.mk (abide hJa HJ.out hb); have k3 := HI1.out.cell 2; simp only [List.getElem?_toArray, List.getElem?_cons_zero, List.getElem?_cons_succ] at k3)
    gi_loopw [11] (fun i wr => ∃ k : Nat, k ≤ N ∧ i = .int .i64 (k : Int) ∧ Kept (ItA A (.slice sa M cs) (.slice ia N ci) w w.heap.size Bs wr) ∧ Kept (∃ p : List El, (∀ x ∈ p, OkEl A w x) ∧ p.map (·.2.1) = (ordA A).take k ∧ p.length = k ∧ J p wr)) (fun i _ => N - (intOf i).toNat)
    case atStart => exact ⟨0, Nat.zero_le _, rfl, HI1, ⟨[], (fun x hx => by cases hx), rfl, rfl, HJ1.out⟩⟩
    case round =>
      clear HI1 HJ1 k3 HI HJ XA k0 k1 k2
      obtain ⟨k, hk, rfl, HI, HP⟩ := hrel
      by_cases hlt : k < N
      · have hlt' : (k : Int) < (N : Int) := by omega
        obtain ⟨pl, hpl⟩ : ∃ pl, A.index[k]? = some pl := ⟨_, List.getElem?_eq_getElem (by rw [HN.out]; exact hlt)⟩
        have hr := OKA.out.rng pl (List.mem_of_getElem? hpl)
        obtain ⟨q, rfl⟩ : ∃ q : Nat, pl = (q : Int) := ⟨pl.toNat, by omega⟩
        have hqM : q < M := by have := HM.out; omega
        have hqM' : (q : Int) < (M : Int) := by omega
        obtain ⟨E, hE⟩ : ∃ E, A.slots[q]? = some E := ⟨_, List.getElem?_eq_getElem (by omega)⟩
        have hoE := ord_get hpl hE
        obtain ⟨bs, os, cs', hvs, hbs, ep, em, hcell, hp, hm⟩ := HS.out.get hE
        injection hvs with h1 hx1 h2
        clear hx1
        subst h1 h2
        obtain ⟨bi, oi, ci', hvi, hbi, hci⟩ := cells_get HX.out (by intro e; rw [e] at hpl; simp at hpl)
        injection hvi with h1 hx1 h2
        clear hx1
        subst h1 h2
        have ki : wr.cell? ⟨bi, oi + k, none⟩ = some (.int .i64 (q : Int)) := (HI.out.at_ (k := oi + k) hbi).trans (hci k _ hpl)
        have kb := HI.out.cell 1
        simp only [List.getElem?_toArray, List.getElem?_cons_zero, List.getElem?_cons_succ] at kb
        obtain ⟨p, hpo, hp2, hpl2, hpJ⟩ := HP.out
        have q2 : (p ++ [(q, E, ep, em)]).map (·.2.1) = (ordA A).take (k + 1) := by rw [List.map_append, hp2, List.take_add_one, hoE]; rfl
        obtain ⟨fn, tmps, assign, body, hy, hR⟩ := hY p (q, E, ep, em) _ hpJ ⟨hE, hp, hm⟩ (by have := HM.out; have := HNM.out; omega)
        simp only [encE] at hy
        have HI2 := HI
        have HQ := Kept.mk (And.intro (show ∀ x ∈ p ++ [(q, E, ep, em)], OkEl A w x from fun x hx => (List.mem_append.1 hx).elim (hpo x) (fun hx => by rw [List.mem_singleton] at hx; subst hx; exact ⟨hE, hp, hm⟩)) (And.intro q2 (show (p ++ [(q, E, ep, em)]).length = k + 1 by simp [hpl2])))
        have kc0 : wr.cell? ⟨bs, os + q * 9, none⟩ = _ := (HI.out.at_ (k := os + q * 9 + 0) hbs).trans (hcell 0 _ rfl)
        have kc1 : wr.cell? ⟨bs, os + q * 9 + 1, none⟩ = _ := (HI.out.at_ (k := os + q * 9 + 1) hbs).trans (hcell 1 _ rfl)
        have kc2 : wr.cell? ⟨bs, os + q * 9 + 2, none⟩ = _ := (HI.out.at_ (k := os + q * 9 + 2) hbs).trans (hcell 2 _ rfl)
        have kc3 : wr.cell? ⟨bs, os + q * 9 + 3, none⟩ = _ := (HI.out.at_ (k := os + q * 9 + 3) hbs).trans (hcell 3 _ rfl)
        have kc4 : wr.cell? ⟨bs, os + q * 9 + 4, none⟩ = _ := (HI.out.at_ (k := os + q * 9 + 4) hbs).trans (hcell 4 _ rfl)
        have kc5 : wr.cell? ⟨bs, os + q * 9 + 5, none⟩ = _ := (HI.out.at_ (k := os + q * 9 + 5) hbs).trans (hcell 5 _ rfl)
        have kc6 : wr.cell? ⟨bs, os + q * 9 + 6, none⟩ = _ := (HI.out.at_ (k := os + q * 9 + 6) hbs).trans (hcell 6 _ rfl)
        have kc7 : wr.cell? ⟨bs, os + q * 9 + 7, none⟩ = _ := (HI.out.at_ (k := os + q * 9 + 7) hbs).trans (hcell 7 _ rfl)
        have kc8 : wr.cell? ⟨bs, os + q * 9 + 8, none⟩ = _ := (HI.out.at_ (k := os + q * 9 + 8) hbs).trans (hcell 8 _ rfl)
        clear hcell hp hm hp2 hpl2 hpJ hpo q2 hE hoE hci hpl hr
        gi_wp2
        refine hR.mono ?_
        rintro e W3 (⟨rfl, hJ3, hk3⟩ | ⟨rfl, hJx3⟩)
        · have HI3 := Kept.mk (HI2.out.kp hk3)
          have HP3 : Kept (∃ p : List El, (∀ x ∈ p, OkEl A w x) ∧ p.map (·.2.1) = (ordA A).take (k + 1) ∧ p.length = k + 1 ∧ J p W3) := ⟨_, HQ.out.1, HQ.out.2.1, HQ.out.2.2, hJ3⟩
          clear hJ3 hk3
          gi_wp2
          go_roundw
          case rel => exact ⟨k + 1, by omega, by go_num, HI3, HP3⟩
          case measure => simp [intOf]; omega
        · have HX := Kept.mk hJx3
          clear hJx3
          gi_wp2
          refine bodyPost_ret (results_none rfl _ _ _) rfl ?_
          exact ⟨⟨_, rfl⟩, .inr ⟨_, HQ.out.1, hok, HX.out⟩⟩
      · have hlt' : ¬ (k : Int) < (N : Int) := by omega
        obtain rfl : k = N := by omega
        obtain ⟨p, hpo, hp2, hpl2, hpJ⟩ := HP.out
        have HP2 := Kept.mk (show NmPost A w J Jx wr from .inl ⟨p, hpo, by rw [hok, if_pos rfl, hp2]; exact List.take_of_length_le (by unfold ordA; rw [List.length_map, HN.out]; exact Nat.le_refl _), hpJ⟩)
        clear hpo hp2 hpl2 hpJ
        gi_wp2
        go_end0
        exact ⟨⟨_, rfl⟩, HP2.out⟩
set_option maxRecDepth 100000 in
set_option maxHeartbeats 2000000 in
theorem namec_call (m : Nat) (A : Ar) (vs vi : Value) (w : World) : CallsIn Fence.wide m Tryz.prog 89 #[.agg #[.int .i64 A.cap, vs, vi]] w fun e w' => e = .returned (.func (.func 123) #[] #[.pointer (some ⟨w.heap.size, 0, none⟩)]) ∧ w' = w.alloc (.cells #[.int .i64 A.cap, vs, vi] 25) := by
  refine callsIn_of_wp Tryz.func89 rfl trivial ?_ rfl
  simp only [Tryz.ntmps89, List.size_toArray, List.length_cons, List.length_nil, Nat.reduceAdd, Nat.reduceSub, Array.replicate_succ, Array.replicate_zero, List.push_toArray, List.append_toArray, List.nil_append, List.cons_append]
  gi_wp2
  go_ret
  exact ⟨by simp, rfl⟩
theorem namec_stops (m : Nat) (hm : 1 ≤ m) (Bs : Nat) (A : Ar) (vs vi : Value) (w w0 : World) (hs : isEns A.slots vs w) (hi : isCells (A.index.map intC) vi w) (hF : FitA A) (hI : ItA A vs vi w w.heap.size Bs w0) :
    SeqStopsK Fence.wide m Tryz.prog 123 #[.pointer (some ⟨Bs, 0, none⟩)] (fun x : { x : El // OkEl A w x } => encE x.1) (KpA w.heap.size Bs) (fun ys => ys.map (·.1.2.1) = (if okA A = true then ordA A else [])) (fun _ => okA A = true) A.slots.length w0 := fun l J Jx W hW hJa _ hY h0 =>
  (name1_in m hm l Bs A vs vi w hs hi hF (fun ns W => ∃ p : List { x : El // OkEl A w x }, p.map (·.1) = ns ∧ J p W) (fun ns W => ∃ p : List { x : El // OkEl A w x }, p.map (·.1) = ns ∧ Jx p W) W.heap.size
    (fun s W W' row ⟨p, hp, hJ⟩ hg hr => ⟨p, hp, hJa p W W' row hJ hg hr⟩)
    (fun pre x W ⟨p, hp, hJ⟩ hx h2 => (hY p ⟨x, hx⟩ W hJ (by rw [← hp, List.length_map] at h2; exact h2)).mono fun e W' h => by
      rcases h with ⟨rfl, h, hk⟩ | ⟨rfl, h⟩
      · exact .inl ⟨rfl, ⟨_, by simp [hp], h⟩, hk⟩
      · exact .inr ⟨rfl, ⟨_, by simp [hp], h⟩⟩) W (hI.kp ⟨hW.size, fun b hb => hW.block b (by have := hI.size; have := hI.lt; omega)⟩) ⟨[], rfl, h0⟩).mono fun e W' ⟨he, h⟩ => by
    refine ⟨he, ?_⟩
    rcases h with ⟨ys, _, h2, p, hp, hJ⟩ | ⟨pre, _, hok, p, hp, hJ⟩
    · exact .inl ⟨p, (by rw [← h2, ← hp, List.map_map]; rfl), hJ⟩
    · exact .inr ⟨p, hok, hJ⟩
end Go.Proofs.YtbgconagkgfplaaGreat
end
section
namespace Go.Proofs.YtbgconagkgfplaaGreat
open Go.RowKit Go.Shelf
set_option linter.unusedVariables false
set_option linter.unusedSimpArgs false
attribute [local irreducible] setN
attribute [local go_sem] Oper.semAt_some

/-- The row so far, in the variable of block b1. -/
structure OutS (N0 b1 : Nat) (v : Value) (ps : List (En × Value × Value)) (W : World) : Prop where
  st : Blk W b1 [v]
  own : W.ownsRow N0 30 9 v ps.length (flatE ps)
  rows : RowsOk ps W
  off : ∀ q ∈ ps, ∀ b, v.ownBlock = some b → OffQ b q
  nw : ∀ q ∈ ps, NewB N0 q.2.1 ∧ NewB N0 q.2.2
theorem OutS.bt {N0 b1 : Nat} {v : Value} {ps : List (En × Value × Value)} {S : Nat → Prop} {W W' : World} (h : OutS N0 b1 v ps W) (bt : Bt S W W') (h1 : ¬ S b1) (h2 : ∀ b, N0 ≤ b → (∃ k x, W.cell? ⟨b, k, none⟩ = some x) → ¬ S b) (h3 : ∀ b, v.ownBlock = some b → ¬ S b) : OutS N0 b1 v ps W' := by
  refine ⟨bt.blk h.st h1, bt.own h.own h3, fun q hq => ?_, h.off, h.nw⟩
  have key : ∀ {cs : List Value} {u : Value}, isCells cs u W → NewB N0 u → cs = [] ∨ ∀ b, blk u = some b → ¬ S b := by
    intro cs u hc hn
    by_cases e : cs = []
    · exact .inl e
    · refine .inr (fun b hb => ?_)
      rcases hc with ⟨_, e'⟩ | ⟨_, _, _, e'⟩ | ⟨b', off, cap, eu, hlt, hcc⟩
      · exact absurd e' e
      · exact absurd e' e
      · rw [eu] at hb
        injection hb with hb
        have hbb : b' = b := hb
        subst hbb
        obtain ⟨x, r, rfl⟩ := List.exists_cons_of_ne_nil e
        exact h2 b' (hn b' (by rw [eu]; rfl)) ⟨off + 0, x, hcc 0 x rfl⟩
  exact ⟨bt.cells (h.rows q hq).1 (key (h.rows q hq).1 (h.nw q hq).1), bt.cells (h.rows q hq).2 (key (h.rows q hq).2 (h.nw q hq).2)⟩
theorem OutS.keep {N0 b1 : Nat} {v : Value} {ps : List (En × Value × Value)} {W W' : World} (h : OutS N0 b1 v ps W) (hb : Below W.heap.size W W') : OutS N0 b1 v ps W' :=
  ⟨h.st.keep hb, own_grow h.own hb, fun q hq => ⟨stable_cells _ _ _ _ (h.rows q hq).1 hb, stable_cells _ _ _ _ (h.rows q hq).2 hb⟩, h.off, h.nw⟩
theorem OutS.push {N0 b1 : Nat} {vs : Value} {ps : List (En × Value × Value)} {w w' : World} (h : OutS N0 b1 vs ps w) (hb1 : b1 < N0) (hN : N0 ≤ w.heap.size) (E : En) (v vp vm : Value)
    (h1 : w'.ownsRow N0 30 9 v (ps.length + 1) (flatE ps ++ enL E vp vm)) (h2 : isCells (E.val.plus.map intC) vp w') (h3 : isCells (E.val.minus.map intC) vm w') (h4 : NewB w.heap.size vp) (h5 : NewB w.heap.size vm) (h6 : v.ownBlock = vs.ownBlock ∨ NewB w.heap.size v) (h7 : ∀ b, v.ownBlock = some b → (E.val.plus.map intC = [] ∨ blk vp ≠ some b) ∧ (E.val.minus.map intC = [] ∨ blk vm ≠ some b)) (h8 : Blk w' b1 [v]) (h9 : Bt (fun b => b = b1 ∨ vs.ownBlock = some b) w w') : OutS N0 b1 v (ps ++ [(E, vp, vm)]) w' := by
  refine ⟨h8, by rw [List.length_append, flatE_snoc]; exact h1, fun q hq => ?_, fun q hq b hb => ?_, fun q hq => (List.mem_append.1 hq).elim (h.nw q) (fun hq => by rw [List.mem_singleton] at hq; subst hq; exact ⟨h4.low hN, h5.low hN⟩)⟩
  · rcases List.mem_append.1 hq with hq | hq
    · have o := h.off q hq
      have nw := h.nw q hq
      refine ⟨h9.cells (h.rows q hq).1 ?_, h9.cells (h.rows q hq).2 ?_⟩
      · by_cases e : q.1.val.plus.map intC = []
        · exact .inl e
        · exact .inr (fun b hb hS => by rcases hS with rfl | hS; (· have := nw.1 _ hb; omega); (· exact ((o b hS).1.resolve_left e) hb))
      · by_cases e : q.1.val.minus.map intC = []
        · exact .inl e
        · exact .inr (fun b hb hS => by rcases hS with rfl | hS; (· have := nw.2 _ hb; omega); (· exact ((o b hS).2.resolve_left e) hb))
    · rw [List.mem_singleton] at hq
      subst hq
      exact ⟨h2, h3⟩
  · rcases List.mem_append.1 hq with hq | hq
    · rcases h6 with e | e
      · exact h.off q hq b (by rw [← e]; exact hb)
      · have hbn := e b (own_blk_eq hb)
        refine ⟨(cells_lt (h.rows q hq).1).imp id (fun h3 e3 => ?_), (cells_lt (h.rows q hq).2).imp id (fun h3 e3 => ?_)⟩
        · have := h3 b e3; omega
        · have := h3 b e3; omega
    · rw [List.mem_singleton] at hq
      subst hq
      exact h7 b hb
theorem OutS.ens {N0 b1 : Nat} {v : Value} {ps : List (En × Value × Value)} {W : World} (h : OutS N0 b1 v ps W) : isEns (ps.map (·.1)) v W := own_ens h.own h.rows
theorem cell_cells {W : World} {b k : Nat} {x : Value} (h : W.cell? ⟨b, k, none⟩ = some x) {o : Obj} (ho : W.heap[b]? = some o) : o.isCells = true := by
  cases o <;> first | rfl | (simp [World.cell?, ho] at h)
/-- A step of the loop's own. -/
theorem out_own {B N0 b1 : Nat} (hb : b1 < B) : ∀ {v ps W W' row}, OutS N0 b1 v ps W → W.grownBy W' row → (∀ r, row = some r → B ≤ r ∧ ∃ o : Obj, W.heap[r]? = some o ∧ o.isCells = false) → OutS N0 b1 v ps W' := by
  intro v ps W W' row h hg hr
  have bt : Bt (fun b => row = some b) W W' := gb_bt hg (fun b e => e)
  refine h.bt bt (fun e => by have := (hr _ e).1; omega) (fun b _ ⟨k, x, hx⟩ e => ?_) (fun b hb e => ?_)
  · obtain ⟨_, o, ho, hc⟩ := hr b e
    rw [cell_cells hx ho] at hc; cases hc
  · obtain ⟨_, o, ho, hc⟩ := hr b e
    obtain ⟨_, ⟨rfl, _⟩ | ⟨g, cap, cur, rfl, _, hg', _⟩⟩ := h.own
    · cases hb
    · have : g = b := by injection hb
      subst this
      rw [hg'] at ho
      injection ho with ho
      subst ho
      cases hc
theorem blk_own {B h : Nat} {cs : List Value} (hne : cs ≠ []) {W W' : World} {row : Option Nat} (hb : Blk W h cs) (hg : W.grownBy W' row) (hr : ∀ r, row = some r → B ≤ r ∧ ∃ o : Obj, W.heap[r]? = some o ∧ o.isCells = false) : Blk W' h cs := by
  have bt : Bt (fun b => row = some b) W W' := gb_bt hg (fun b e => e)
  refine bt.blk hb (fun e => ?_)
  obtain ⟨_, o, ho, hc⟩ := hr h e
  obtain ⟨x, r, rfl⟩ := List.exists_cons_of_ne_nil hne
  rw [cell_cells (hb.cells.2 0 x rfl) ho] at hc; cases hc
theorem kpA_put (n0 Bs m : Nat) (h0 : n0 ≤ m) (hb : Bs < m) (W : World) (l : Nat) (o o' : Obj) (h : m ≤ l) (h1 : W.heap[l]? = some o) (h2 : o.isCells = false) (h3 : o.isWalk = false) : KpA n0 Bs W (W.putObj l o') := by
  have hg := grownBy_putObj' W l o'
  exact ⟨hg.size, fun b hb' => hg.block b (by have := (Array.getElem?_eq_some_iff.1 h1).1; omega) (by intro e; injection e with e; omega)⟩
noncomputable def alappOps : Array Oper := regionOfR Tryz.f42 4
set_option maxRecDepth 100000 in
set_option maxHeartbeats 2000000 in
theorem alapp_region {lp nn : Nat} (Q : Exit → Act → World → Prop) (a0 : Act) (w0 : World) (hQo : ¬ LetsOut Q) (hsz : a0.tmps.size = 16) (g h B n : Nat) (l : List Value) (E : En) (vs ep em : Value) (xs : List Value) (e1 : a0.tmps.getD 3 undef = .pointer (some ⟨g, 0, none⟩)) (e2 : a0.tmps.getD 5 undef = .pointer (some ⟨h, 0, none⟩))
    (HG : Blk w0 g l) (hl : l[0]? = some vs) (hE : Blk w0 h [.string ⟨E.key.toArray⟩, .int .i64 E.val.kind, .int .i64 E.val.time, .int .i64 E.val.node, .bool E.val.dead, .string ⟨E.val.text.toArray⟩, ep, em, .int .u64 (E.val.flags.toNat : Int)]) (hp : isCells (E.val.plus.map intC) ep w0) (hm : isCells (E.val.minus.map intC) em w0) (hF : FitE E) (hown : w0.ownsRow B 30 9 vs n xs) (hn : n ≤ 1000) (hB : B ≤ w0.heap.size)
    (hap : ∀ s, vs.ownBlock = some s → s ≠ g ∧ s ≠ h ∧ (E.val.plus.map intC = [] ∨ blk ep ≠ some s) ∧ (E.val.minus.map intC = [] ∨ blk em ≠ some s))
    (hQ : ∀ (y : Nat → Value) (v vp vm : Value) (w : World), w.ownsRow B 30 9 v (n + 1) (xs ++ enL E vp vm) → isCells (E.val.plus.map intC) vp w → isCells (E.val.minus.map intC) vm w → NewB w0.heap.size vp → NewB w0.heap.size vm → (v.ownBlock = vs.ownBlock ∨ NewB w0.heap.size v) → (∀ b, v.ownBlock = some b → (E.val.plus.map intC = [] ∨ blk vp ≠ some b) ∧ (E.val.minus.map intC = [] ∨ blk vm ≠ some b)) → Blk w g (l.set 0 v) → Bt (fun b => b = g ∨ vs.ownBlock = some b) w0 w →
      Q .normal { tmps := [10, 11, 12, 13, 14].foldl (fun t s => t.setIfInBounds s (y s)) a0.tmps, defers := a0.defers } w) :
    (Code.region 4 alappOps true).wpIn (Fence.wide.inRound lp) nn Tryz.prog Q a0 w0 := by
  obtain ⟨r, hr0⟩ : ∃ r, vs.ownBlock = r := ⟨_, rfl⟩
  have hcell : w0.cell? ⟨g, 0, none⟩ = some vs := HG.cells.2 _ _ hl
  have hg := HG.lt
  have hgr : r ≠ some g := by intro e; exact (hap g (hr0.trans e)).1 rfl
  have hhr : r ≠ some h := by intro e; exact (hap h (hr0.trans e)).2.1 rfl
  have opr : E.val.plus.map intC = [] ∨ ∀ s, r = some s → blk ep ≠ some s := by
    cases r with
    | none => exact .inr (fun s e => by cases e)
    | some s => exact (hap s hr0).2.2.1.imp id (fun h s' e => by cases e; exact h)
  have omr : E.val.minus.map intC = [] ∨ ∀ s, r = some s → blk em ≠ some s := by
    cases r with
    | none => exact .inr (fun s e => by cases e)
    | some s => exact (hap s hr0).2.2.2.imp id (fun h s' e => by cases e; exact h)
  have hre : vs.ownBlock = r := hr0
  have hrN : ∀ s, r = some s → s < w0.heap.size := fun s e => (hown.lt s (hr0.trans e)).2
  have hR := gb_pre r
  refine wpIn_region_one (by kernel_rfl) hQo hR 4 [] (fun w => w.ownsRow B 30 9 vs n xs) (by kernel_rfl) (fun _ _ h hb => own_grow h hb) (fun _ h => own_grow h ((Below.refl _ _).drew)) 5 mixed (by rw [hsz]; kernel_rfl) (by kernel_rfl) hown ?_
  rw [show alappOps.size - 5 = 1 by kernel_rfl]
  refine ⟨isVal vs, OStep.of hR (by decide) (stabR_val' _ _) (by kernel_rfl) (by intro w hr; exact step_read 22 (.tmp 3) ⟨g, 0, none⟩ vs (by kernel_rfl) (wanted_none (by kernel_rfl)) (knows_old 3 (.pointer (some ⟨g, 0, none⟩)) (by kernel_rfl) e1) ((hr.cell_ hcell hg hgr)) ((Nat.lt_of_lt_of_le hg hr.size)) (agg_noS)), ?_⟩
  refine ⟨isVal (.agg #[.string ⟨E.key.toArray⟩, .int .i64 E.val.kind, .int .i64 E.val.time, .int .i64 E.val.node, .bool E.val.dead, .string ⟨E.val.text.toArray⟩, ep, em, .int .u64 (E.val.flags.toNat : Int)]), OStep.of hR (by decide) (stabR_val' _ _) (by kernel_rfl) (by intro w hr; exact step_loadA 30 (.tmp 5) (h) (0) [.string ⟨E.key.toArray⟩, .int .i64 E.val.kind, .int .i64 E.val.time, .int .i64 E.val.node, .bool E.val.dead, .string ⟨E.val.text.toArray⟩, ep, em, .int .u64 (E.val.flags.toNat : Int)] (by kernel_rfl) (wanted_none (by kernel_rfl)) (knows_old 5 (.pointer (some ⟨h, 0, none⟩)) (by kernel_rfl) e2) size_en agg_en (⟨Nat.lt_of_lt_of_le hE.lt hr.size, fun j x hx => by rw [Nat.zero_add]; exact hr.cell_ (hE.cells.2 j x hx) hE.lt hhr⟩)), ?_⟩
  refine ⟨(isEnN w0.heap.size E), OStep.of hR (by decide) (enN_R hrN _) (by kernel_rfl) (by intro w hr; exact step_call 90 #[.tmp 11] #[30] #[.agg #[.string ⟨E.key.toArray⟩, .int .i64 E.val.kind, .int .i64 E.val.time, .int .i64 E.val.node, .bool E.val.dead, .string ⟨E.val.text.toArray⟩, ep, em, .int .u64 (E.val.flags.toNat : Int)]] (by kernel_rfl) (wanted_none (by kernel_rfl)) (stable_enN _ _) (args1 (.tmp 11) (.agg #[.string ⟨E.key.toArray⟩, .int .i64 E.val.kind, .int .i64 E.val.time, .int .i64 E.val.node, .bool E.val.dead, .string ⟨E.val.text.toArray⟩, ep, em, .int .u64 (E.val.flags.toNat : Int)]) (knows_new (V := isVal (.agg #[.string ⟨E.key.toArray⟩, .int .i64 E.val.kind, .int .i64 E.val.time, .int .i64 E.val.node, .bool E.val.dead, .string ⟨E.val.text.toArray⟩, ep, em, .int .u64 (E.val.flags.toNat : Int)])) 11 1 (by kernel_rfl) (by kernel_rfl) (by kernel_rfl))) (enters_of Tryz.func90 (by kernel_rfl) rfl) (by intro w' hb; exact twin_at w0.heap.size E _ w' (en_mk (hr.cells hp opr) (hr.cells hm omr) hb) hF (Nat.le_trans hr.size hb.size))), ?_⟩
  refine ⟨(isEn1 w0.heap.size E), OStep.of hR (by decide) (en1_R hrN _) (by kernel_rfl) (by intro w hr; exact step_ent1 w0.heap.size (.tmp 12) E (by kernel_rfl) (wanted_none (by kernel_rfl)) (knows_new (V := (isEnN w0.heap.size E)) 12 2 (by kernel_rfl) (by kernel_rfl) (by kernel_rfl)) (hr.size)), ?_⟩
  refine ⟨isApp B w0.heap.size r E n xs, ostep_app B w0.heap.size r E vs n xs (.tmp 10) (.tmp 13) (by kernel_rfl) (knows_new (V := isVal vs) 10 0 (by kernel_rfl) (by kernel_rfl) (by kernel_rfl)) (knows_new (V := (isEn1 w0.heap.size E)) 13 3 (by kernel_rfl) (by kernel_rfl) (by kernel_rfl)) hn hB hre hrN (Nat.le_refl _) (by kernel_rfl), ?_⟩
  intro a w hk0 hb hd
  have da := fdone_of (rdone_f (hd 4 (by decide))) (t := 14) (V := isApp B w0.heap.size r E n xs) (by kernel_rfl) (by kernel_rfl)
  have dp : a.tmps.getD 3 undef = .pointer (some ⟨g, 0, none⟩) := (hk0.2.2 3 (by kernel_rfl)).trans e1
  generalize hv : a.tmps.getD 14 undef = v at da
  obtain ⟨vp, vm, h1, h2, h3, h4, h5, h6, h7⟩ := da
  have hgw : g < w.heap.size := Nat.lt_of_lt_of_le hg hb.size
  have hvg : v.ownBlock ≠ some g := by
    rcases h6 with h6 | h6
    · rw [h6]; exact hgr
    · intro e; have := h6 g (own_blk_eq e); omega
  have ng : ∀ {cs : List Value} {u : Value}, NewB w0.heap.size u → cs = [] ∨ blk u ≠ some g := fun h => .inr (h.ne hg)
  have HG' : Blk w g l := ⟨⟨hgw, fun j x hx => hb.cell_ (HG.cells.2 j x hx) hg hgr⟩, fun j => (hb.frozen_ hg hgr).trans (HG.free j)⟩
  refine tail_store 22 (.tmp 3) (.tmp 14) ⟨g, 0, none⟩ v vs (by kernel_rfl) (by kernel_rfl) dp hv (by kernel_rfl) (own_one h1).1 (own_one h1).2 (HG'.cells.2 _ _ hl) (HG'.free 0) ?_
  obtain ⟨y, ey⟩ := kept_ex hk0.f [some 10, some 11, some 12, some 13, some 14, none] [10, 11, 12, 13, 14] (by kernel_rfl) (by decide)
  rw [ey]
  have hll : 0 < l.length := (List.getElem?_eq_some_iff.1 hl).1
  exact hQ y v vp vm _ (own_set h1 hvg) (cells_set h2 (ng h4)) (cells_set h3 (ng h5)) h4 h5 (h6.imp (fun e => e.trans hr0.symm) id) h7 (HG'.set 0 v hll) ((gb_bt hb (fun b e => .inr (hr0.trans e))).trans (bt_set g 0 v w (.inl rfl)))
noncomputable def ckappOps : Array Oper := regionOfR Tryz.f46 8
end Go.Proofs.YtbgconagkgfplaaGreat
end
section
namespace Go.Proofs.YtbgconagkgfplaaGreat
open Go.RowKit Go.Shelf
set_option linter.unusedVariables false
set_option linter.unusedSimpArgs false
attribute [local irreducible] setN
attribute [local go_sem] Oper.semAt_some

def IAll (A : Ar) (w : World) (pre : List { x : El // OkEl A w x }) (W : World) : Prop := ∃ v ps, OutS (w.heap.size + 3) (w.heap.size + 1) v ps W ∧ ps.map (·.1) = pre.map (·.1.2.1) ∧ Below w.heap.size w W ∧ w.heap.size + 3 ≤ W.heap.size
theorem iall_own (A : Ar) (w : World) (B : Nat) (hB : w.heap.size + 3 ≤ B) : OwnFrom B (IAll A w) := by
  intro s W W' row ⟨v, ps, h1, h2, h3, h4⟩ hg hr
  exact ⟨v, ps, out_own (B := B) (by omega) h1 hg hr, h2, h3.grown hg (by omega) (fun k e => by have := (hr k e).1; omega), Nat.le_trans h4 hg.size⟩
theorem iall_keep {A : Ar} {w : World} {pre : List { x : El // OkEl A w x }} {W W' : World} (h : IAll A w pre W) (hb : Below W.heap.size W W') : IAll A w pre W' := by
  obtain ⟨v, ps, h1, h2, h3, h4⟩ := h
  exact ⟨v, ps, h1.keep hb, h2, h3.trans (hb.mono (by omega)), Nat.le_trans h4 hb.size⟩
theorem keeps_below {B : Nat} {W W' : World} (hb : Below W.heap.size W W') : KeepsFrom B W W' := ⟨hb.size, fun k o _ hk _ => (hb.block k (Array.getElem?_eq_some_iff.1 hk).1).trans hk⟩
theorem iall_b1 {b B : Nat} {W W' : World} {row : Option Nat} (hg : W.grownBy W' row) (hr : ∀ r, row = some r → B ≤ r ∧ ∃ o : Obj, W.heap[r]? = some o ∧ o.isCells = false) {h : Nat} {cs : List Value} (hb : Blk W h cs) (hlt : b < B ∧ b < W.heap.size) : W'.heap[b]? = W.heap[b]? := hg.block b hlt.2 (fun e => by have := (hr b e.symm).1; omega)
def AxAll (A : Ar) (vs vi : Value) (w : World) (x : { x : El // OkEl A w x }) (a' : Act) (W : World) : Prop := ∃ h, a' = { tmps := #[.agg #[.int .i64 A.cap, vs, vi], .pointer (some ⟨w.heap.size, 0, none⟩), .slice none 0 0, .pointer (some ⟨w.heap.size + 1, 0, none⟩), undef, .pointer (some ⟨h, 0, none⟩), .agg #[.int .i64 A.cap, vs, vi], .func (.func 123) #[] #[.pointer (some ⟨w.heap.size + 1 + 1, 0, none⟩)], .int .i64 (x.1.1 : Int), .agg #[.string ⟨x.1.2.1.key.toArray⟩, .int .i64 x.1.2.1.val.kind, .int .i64 x.1.2.1.val.time, .int .i64 x.1.2.1.val.node, .bool x.1.2.1.val.dead, .string ⟨x.1.2.1.val.text.toArray⟩, x.1.2.2.1, x.1.2.2.2, .int .u64 (x.1.2.1.val.flags.toNat : Int)], undef, undef, undef, undef, undef, undef], defers := [] } ∧ Blk W h [.string ⟨x.1.2.1.key.toArray⟩, .int .i64 x.1.2.1.val.kind, .int .i64 x.1.2.1.val.time, .int .i64 x.1.2.1.val.node, .bool x.1.2.1.val.dead, .string ⟨x.1.2.1.val.text.toArray⟩, x.1.2.2.1, x.1.2.2.2, .int .u64 (x.1.2.1.val.flags.toNat : Int)] ∧ w.heap.size + 3 ≤ h ∧ ∀ u, W.cell? ⟨w.heap.size + 1, 0, none⟩ = some u → u.ownBlock ≠ some h
end Go.Proofs.YtbgconagkgfplaaGreat
end
section
namespace Go.Proofs.YtbgconagkgfplaaGreat
open Go.RowKit Go.Shelf
set_option linter.unusedVariables false
set_option linter.unusedSimpArgs false
attribute [local irreducible] setN
attribute [local go_sem] Oper.semAt_some

def ckStep (at_ n : Int) (o : List En) (x : El) : List En := if at_ ≤ (x.1 : Int) ∧ (o.length : Int) < n then o ++ [x.2.1] else o
def ckL (at_ n : Int) (l : List El) : List En := l.foldl (ckStep at_ n) []
def ICk (A : Ar) (at_ n : Int) (w : World) (pre : List { x : El // OkEl A w x }) (W : World) : Prop := ∃ v ps, OutS (w.heap.size + 5) (w.heap.size + 1 + 1 + 1) v ps W ∧ ps.map (·.1) = ckL at_ n (pre.map (·.1)) ∧ Below w.heap.size w W ∧ w.heap.size + 5 ≤ W.heap.size ∧ Blk W (w.heap.size + 1) [.int .i64 at_] ∧ Blk W (w.heap.size + 1 + 1) [.int .i64 n]
def AxCk (A : Ar) (at_ n : Int) (vs vi : Value) (w : World) (x : { x : El // OkEl A w x }) (a' : Act) (W : World) : Prop := ∃ h, a' = { tmps := #[.agg #[.int .i64 A.cap, vs, vi], .int .i64 at_, .int .i64 n, .pointer (some ⟨w.heap.size, 0, none⟩), .pointer (some ⟨w.heap.size + 1, 0, none⟩), .pointer (some ⟨w.heap.size + 1 + 1, 0, none⟩), .slice none 0 0, .pointer (some ⟨w.heap.size + 1 + 1 + 1, 0, none⟩), .int .i64 (x.1.1 : Int), .pointer (some ⟨h, 0, none⟩), .int .i64 at_, .bool false, .agg #[.int .i64 A.cap, vs, vi], .func (.func 124) #[] #[.pointer (some ⟨w.heap.size + 1 + 1 + 1 + 1, 0, none⟩)], .int .i64 (x.1.1 : Int), .agg #[.string ⟨x.1.2.1.key.toArray⟩, .int .i64 x.1.2.1.val.kind, .int .i64 x.1.2.1.val.time, .int .i64 x.1.2.1.val.node, .bool x.1.2.1.val.dead, .string ⟨x.1.2.1.val.text.toArray⟩, x.1.2.2.1, x.1.2.2.2, .int .u64 (x.1.2.1.val.flags.toNat : Int)], undef, undef, undef, undef, undef, undef, undef, undef, undef, undef, undef, undef, undef, undef, undef], defers := [] } ∧ Blk W h [.string ⟨x.1.2.1.key.toArray⟩, .int .i64 x.1.2.1.val.kind, .int .i64 x.1.2.1.val.time, .int .i64 x.1.2.1.val.node, .bool x.1.2.1.val.dead, .string ⟨x.1.2.1.val.text.toArray⟩, x.1.2.2.1, x.1.2.2.2, .int .u64 (x.1.2.1.val.flags.toNat : Int)] ∧ w.heap.size + 5 ≤ h ∧ ∀ u, W.cell? ⟨w.heap.size + 1 + 1 + 1, 0, none⟩ = some u → u.ownBlock ≠ some h
end Go.Proofs.YtbgconagkgfplaaGreat
end
section
namespace Go.Proofs.YtbgconagkgfplaaGreat
open Go.RowKit
set_option linter.unusedVariables false
set_option linter.unusedSimpArgs false
attribute [local irreducible] setN

noncomputable def blw1Ops : Array Oper := regionOfR Tryz.f44 6
noncomputable def blw2Ops : Array Oper := regionOfR Tryz.f44 6
end Go.Proofs.YtbgconagkgfplaaGreat
end
section
namespace Go.Proofs.YtbgconagkgfplaaGreat
open Go.RowKit Go.Shelf
set_option linter.unusedVariables false
set_option linter.unusedSimpArgs false
attribute [local irreducible] setN
attribute [local go_sem] Oper.semAt_some

structure IBl (A C : Ar) (us ui : Value) (w : World) (N0 : Nat) (W : World) : Prop where
  rb : Blk W (w.heap.size + 1 + 1) [.bool false]
  cb : Blk W (w.heap.size + 1) [.int .i64 C.cap, us, ui]
  lo : Below w.heap.size w W
  sz : N0 ≤ W.heap.size
def IB (A C : Ar) (us ui : Value) (w : World) (N0 : Nat) (pre : List { x : El // OkEl A w x }) (W : World) : Prop := IBl A C us ui w N0 W ∧ ∀ x ∈ pre, inB C x.1.2.1 = true
def IBx (A C : Ar) (w : World) (c : Code) (pre : List { x : El // OkEl A w x }) (W : World) : Prop := c = .ret ∧ Blk W (w.heap.size + 1 + 1) [.bool false] ∧ Below w.heap.size w W ∧ ∃ x ∈ pre, inB C x.1.2.1 = false
theorem IBl.keep {A C : Ar} {us ui : Value} {w : World} {N0 : Nat} {W W' : World} (h : IBl A C us ui w N0 W) (hN : w.heap.size ≤ N0) (hb : Below W.heap.size W W') : IBl A C us ui w N0 W' :=
  ⟨h.rb.keep hb, h.cb.keep hb, h.lo.trans (hb.mono (Nat.le_trans hN h.sz)), Nat.le_trans h.sz hb.size⟩
def AxB (A C : Ar) (vs vi us ui : Value) (w : World) (g3 N0 : Nat) (x : { x : El // OkEl A w x }) (a' : Act) (W : World) : Prop := ∃ h, a' = { tmps := #[.agg #[.int .i64 A.cap, vs, vi], .agg #[.int .i64 C.cap, us, ui], .pointer (some ⟨w.heap.size, 0, none⟩), .pointer (some ⟨w.heap.size + 1, 0, none⟩), .pointer (some ⟨w.heap.size + 1 + 1, 0, none⟩), undef, .pointer (some ⟨h, 0, none⟩), undef, .agg #[.int .i64 A.cap, vs, vi], .int .i64 0, .bool false, .bool false, .agg #[.int .i64 C.cap, us, ui], .int .i64 0, .bool false, .bool false, .agg #[.int .i64 A.cap, vs, vi], .func (.func 124) #[] #[.pointer (some ⟨g3, 0, none⟩)], .int .i64 (x.1.1 : Int), .agg #[.string ⟨x.1.2.1.key.toArray⟩, .int .i64 x.1.2.1.val.kind, .int .i64 x.1.2.1.val.time, .int .i64 x.1.2.1.val.node, .bool x.1.2.1.val.dead, .string ⟨x.1.2.1.val.text.toArray⟩, x.1.2.2.1, x.1.2.2.2, .int .u64 (x.1.2.1.val.flags.toNat : Int)], undef, undef, undef, undef, undef, undef, undef, undef, undef, undef, undef, undef, undef, undef, undef, undef, undef, undef, undef], defers := [] } ∧ Blk W h [.string ⟨x.1.2.1.key.toArray⟩, .int .i64 x.1.2.1.val.kind, .int .i64 x.1.2.1.val.time, .int .i64 x.1.2.1.val.node, .bool x.1.2.1.val.dead, .string ⟨x.1.2.1.val.text.toArray⟩, x.1.2.2.1, x.1.2.2.2, .int .u64 (x.1.2.1.val.flags.toNat : Int)] ∧ N0 ≤ h
end Go.Proofs.YtbgconagkgfplaaGreat
end
section
namespace Go.Proofs.YtbgconagkgfplaaGreat
set_option linter.unusedVariables false
set_option linter.unusedSimpArgs false

/-! ### Entries below each other -/
theorem slotAt_nat (l : List En) (p : Int) (h : 0 ≤ p ∧ p < l.length) : l[p.toNat]? = some (slotAt l p) := by
  unfold slotAt
  rw [List.getElem?_eq_getElem (by omega)]; rfl
/-- The slot of that name, where there is one. -/
def slotOf (A : Ar) (x : En) : En := slotAt A.slots (placeI A x)
theorem slot_spec {A : Ar} (h : OkA A) {x : En} (hh : hitB (ordA A) x = true) : slotOf A x ∈ A.slots ∧ okE (slotOf A x) = true ∧ nameB (slotOf A x) x = true ∧ A.slots[(placeI A x).toNat]? = some (slotOf A x) := by
  obtain ⟨h1, _, _, h4⟩ := place_spec h hh
  exact ⟨slotAt_mem h1, h.ents _ (slotAt_mem h1), h4, slotAt_nat _ _ h1⟩
def InE (C : Ar) (x : En) : Prop := ∃ f ∈ C.slots, nameB f x = true ∧ belowE x f = true
def Named (C : Ar) (x : En) : Prop := ∃ f ∈ C.slots, nameB f x = true
/-- Names in their order, none twice. -/
def nmE (e : En) : Int × List UInt8 := (e.val.kind, e.key)
theorem asc_ext : ∀ {l m : List En}, Asc l → Asc m → (∀ x, x ∈ l ↔ x ∈ m) → l = m
  | [], [], _, _, _ => rfl
  | [], b :: m, _, _, h => by have := (h b).2 (by simp); simp at this
  | a :: l, [], _, _, h => by have := (h a).1 (by simp); simp at this
  | a :: l, b :: m, h1, h2, h => by
    have la : ∀ y ∈ l, lessE a y = true := fun y hy => List.rel_of_pairwise_cons h1 hy
    have lb : ∀ y ∈ m, lessE b y = true := fun y hy => List.rel_of_pairwise_cons h2 hy
    have hab : a = b := by
      rcases List.mem_cons.1 ((h a).1 (by simp)) with e | e
      · exact e
      · rcases List.mem_cons.1 ((h b).2 (by simp)) with e2 | e2
        · exact e2.symm
        · exact (less_both a b (la b e2) (lb a e)).elim
    subst hab
    rw [asc_ext (List.Pairwise.of_cons h1) (List.Pairwise.of_cons h2) (fun x => ?_)]
    constructor
    · intro hx
      rcases List.mem_cons.1 ((h x).1 (by simp [hx])) with e | e
      · subst e; have := la _ hx; rw [lessE_irrefl] at this; cases this
      · exact e
    · intro hx
      rcases List.mem_cons.1 ((h x).2 (by simp [hx])) with e | e
      · subst e; have := lb _ hx; rw [lessE_irrefl] at this; cases this
      · exact e
theorem find_hit {A : Ar} (h : OkA A) {x : En} (hh : hitB (ordA A) x = true) : findI A x = placeI A x := by unfold findI; rw [if_pos (okA_iff.2 h), if_pos hh]
theorem find_bad {A : Ar} (h : okA A = false) (x : En) : findI A x = -1 := by unfold findI; rw [h]; rfl
end Go.Proofs.YtbgconagkgfplaaGreat
end
section
namespace Go.Proofs.YtbgconagkgfplaaGreat
open Go.RowKit
set_option linter.unusedVariables false
set_option linter.unusedSimpArgs false
attribute [local irreducible] setN

end Go.Proofs.YtbgconagkgfplaaGreat
end
section
namespace Go.Proofs.YtbgconagkgfplaaGreat
open Go.RowKit
set_option linter.unusedVariables false
set_option linter.unusedSimpArgs false
attribute [local irreducible] setN

def eX : En := ⟨[98], ⟨3, 0, 0, false, [], [], [], 1⟩⟩
def eY : En := ⟨[97], ⟨3, 0, 0, false, [], [], [], 2⟩⟩
def eZ : En := ⟨[98], ⟨3, 0, 0, false, [], [], [], 3⟩⟩
def eW : En := ⟨[99], ⟨3, 0, 0, false, [], [], [], 1⟩⟩
def aA : Ar := ⟨2, [], []⟩
def aB : Ar := ⟨2, [eX], [0]⟩
def aC : Ar := ⟨2, [eX, eY], [1, 0]⟩
def aD : Ar := ⟨2, [eZ, eY], [1, 0]⟩
theorem w_check (A : Ar) (r : Int) (v : Value) (w : World) (hv : isAr A v w) (hA : FitA A) (hr : chkA A = r) : Calls Tryz.prog 38 #[v] w fun e w' => e = .returned (.int .i64 r) ∧ Below w.heap.size w w' := by
  subst hr; exact acheck_any A v w hv hA
end Go.Proofs.YtbgconagkgfplaaGreat
end
section
namespace Go.Proofs.YtbgconagkgfplaaGreat
open Go.RowKit
set_option linter.unusedVariables false
set_option linter.unusedSimpArgs false
attribute [local irreducible] setN eX eY eZ eW zeroE aA aB aC aD

end Go.Proofs.YtbgconagkgfplaaGreat
end
section
namespace Go.Proofs.YtbgconagkgfplaaGreat
open Go.RowKit Go.ChangeShapes Go.WideShapes
set_option linter.unusedVariables false
set_option linter.unusedSimpArgs false

theorem spot_none {w : World} {a : Addr} {v : Value} (h : w.cell? a = some v) : a = ⟨a.block, a.off, none⟩ := by
  obtain ⟨b, o, s⟩ := a
  cases s with
  | none => rfl
  | some s =>
    simp only [World.cell?] at h
    split at h <;> simp at h
theorem add_plain (b o i : Nat) : (⟨b, o, none⟩ : Addr).add i = ⟨b, o + i, none⟩ := by
  by_cases e : i = 0
  · subst e; simp [Addr.add]
  · simp [Addr.add, e]
/-- A row that came in. -/
theorem cells_came {w : World} {a : Addr} {len cap : Nat} (cs : List Value) (hl : cs.length = len) (hc : ∀ (i : Nat) (x : Value), cs[i]? = some x → w.cell? (a.add i) = some x) : isCells cs (.slice (some a) len cap) w := by
  cases cs with
  | nil => subst hl; exact .inr (.inl ⟨a, cap, rfl, rfl⟩)
  | cons x cs =>
    have h0 := hc 0 x rfl
    have e0 : a.add 0 = a := by simp [Addr.add]
    rw [e0] at h0
    have ha := spot_none h0
    rw [ha] at hc ⊢
    subst hl
    refine .inr (.inr ⟨a.block, a.off, cap, rfl, ?_, fun j y hy => ?_⟩)
    · simp only [World.cell?] at h0
      split at h0
      · rename_i h; exact (Array.getElem?_eq_some_iff.1 h).1
      · simp at h0
    · have := hc j y hy
      rwa [add_plain] at this
section
variable {W : World} {H : Type} {enc : TypeId × Value → H} {base : Nat} {spare : Nat → Bool} {held : Bool} {n : Nat}
theorem open_row {v : Value} {y : DataW H × List MemPlace} (g : DataW.trod enc Tryz.prog W base spare held n 23 [v] = some y) :
    ∃ l : List Int, isCells (l.map intC) v W ∧ l.length ≤ maxLen ∧ (∀ x ∈ l, (Lit.int .i64 x).wf = true) := by
  rcases open_ints Tryz.underlying23 Tryz.underlying3 (by kernel_rfl) g with ⟨hc, _⟩ | ⟨a, len, cap, zs, hc, _, hl, hm, hz, hx0, hcell, hs⟩
  · injection hc with hc _
    subst hc
    exact ⟨[], .inl ⟨rfl, rfl⟩, Nat.zero_le _, (fun s hs => by simp at hs)⟩
  · injection hc with hc _
    subst hc
    have hle : len ≤ zs.length := by rw [hz]; split <;> omega
    refine ⟨zs.take len, cells_came _ (by simp; omega) (fun i x hx => ?_), by simp; omega, (fun s h => hs s (List.mem_of_mem_take h))⟩
    have hi : i < len := by have := (List.getElem?_eq_some_iff.1 hx).1; simp at this; omega
    rw [hcell i (by omega)]
    rw [List.getElem?_map, List.getElem?_take, if_pos hi, List.getElem?_eq_getElem (by omega : i < zs.length)] at hx
    simp only [Option.map_some, Option.some.injEq] at hx
    rw [← hx]
    simp [List.getD_eq_getElem?_getD, show i < zs.length by omega, intC]
end
theorem wf_u64 {x : Int} (h : (Lit.int .u64 x).wf = true) : 0 ≤ x ∧ x ≤ 18446744073709551615 := by
  unfold Lit.wf at h
  rw [Bool.and_eq_true] at h
  exact ⟨of_decide_eq_true h.1, of_decide_eq_true h.2⟩
/-- What a value that came in is. -/
structure CameV (A : Va) : Prop where
  kind : (Lit.int .i64 A.kind).wf = true
  time : (Lit.int .i64 A.time).wf = true
  node : (Lit.int .i64 A.node).wf = true
  text : A.text.length ≤ maxLen
  plus : ∀ x ∈ A.plus, (Lit.int .i64 x).wf = true
  minus : ∀ x ∈ A.minus, (Lit.int .i64 x).wf = true
  np : A.plus.length ≤ maxLen
  nm : A.minus.length ≤ maxLen
end Go.Proofs.YtbgconagkgfplaaGreat
end
section
namespace Go.Proofs.YtbgconagkgfplaaGreat
open Go.RowKit Go.ChangeShapes Go.WideShapes
set_option linter.unusedVariables false
set_option linter.unusedSimpArgs false

structure CameE (E : En) : Prop where
  key : E.key.length ≤ maxLen
  val : CameV E.val
/-- Few. -/
def fewE (E : En) : Bool := fewV E.val && decide ((E.key.length : Int) ≤ 100)
theorem fewE_fit {E : En} (h : fewE E = true) : FitE E := by
  unfold fewE at h
  rw [Bool.and_eq_true, decide_eq_true_eq] at h
  exact ⟨by omega, few_fit h.1⟩
set_option maxRecDepth 100000 in
set_option maxHeartbeats 2000000 in
theorem efew_any (E : En) (v : Value) (w : World) (hv : isEn E v w) (hk : E.key.length ≤ maxLen) : Calls Tryz.prog 12 #[v] w fun e w' => e = .returned (.bool (fewE E)) ∧ Below w.heap.size w w' := by
  have hs : (⟨E.key.toArray⟩ : ByteArray).size = E.key.length := by simp [ByteArray.size]
  have HF := Kept.mk (show fewE E = (fewV E.val && decide ((E.key.length : Int) ≤ 100)) from rfl)
  obtain ⟨pe, me, rfl, hpe, hme⟩ := hv
  obtain ⟨hB, Ve⟩ := ebox w E pe me hpe hme (w.heap.size) (by simp)
  clear hpe hme
  obtain ⟨qe, re, xe, ye, ke0, ke1, ke2, ke3, ke4, ke5, ke6, ke7, ke8⟩ := Ve.out.open_
  have Xe := Kept.mk xe
  have Ye := Kept.mk ye
  clear xe ye
  go_enter Tryz.func12, Tryz.ntmps12
  go_wp2_with fail
  refine (vfew_any E.val _ _ Ye.out).mono ?_
  rintro e W1 ⟨rfl, hb1⟩
  replace hB := Kept.mk (hB.out.trans (hb1.mono hB.out.size))
  replace Ve := Kept.mk (Ve.out.keep hb1)
  clear hb1 Xe Ye ke0 ke1 ke2 ke3 ke4 ke5 ke6 ke7 ke8
  obtain ⟨_, _, _, _, ke0, _⟩ := Ve.out.open_
  cases hz : fewV E.val with
  | false =>
    rw [hz] at HF
    go_wp2
    go_ret
    exact ⟨by rw [HF.out]; rfl, hB.out⟩
  | true =>
    rw [hz] at HF
    go_wp2
    go_ret
    exact ⟨by rw [HF.out]; rfl, hB.out⟩
end Go.Proofs.YtbgconagkgfplaaGreat
end
section
namespace Go.Proofs.YtbgconagkgfplaaGreat
open Go.RowKit
set_option linter.unusedVariables false
set_option linter.unusedSimpArgs false

def fewL (l : List En) (m : Int) : Bool := decide ((l.length : Int) ≤ m) && l.all fewE
def fewA (A : Ar) : Bool := fewL A.slots 12 && decide ((A.index.length : Int) ≤ 40)
theorem fewL_len {l : List En} {m : Int} (h : fewL l m = true) : (l.length : Int) ≤ m := by
  unfold fewL at h
  rw [Bool.and_eq_true, decide_eq_true_eq] at h
  exact h.1
theorem fewL_fit {l : List En} {m : Int} (h : fewL l m = true) : ∀ e ∈ l, FitE e := by
  unfold fewL at h
  rw [Bool.and_eq_true, List.all_eq_true] at h
  exact fun e he => fewE_fit (h.2 e he)
theorem fewA_fit {A : Ar} (h : fewA A = true) : FitA A := by
  unfold fewA at h
  rw [Bool.and_eq_true, decide_eq_true_eq] at h
  have := fewL_len h.1
  exact ⟨by omega, by omega, fewL_fit h.1⟩
set_option maxRecDepth 100000 in
set_option maxHeartbeats 2000000 in
theorem entries_any (l : List En) (m : Int) (v : Value) (w : World) (hv : isEns l v w) (hk : ∀ e ∈ l, e.key.length ≤ maxLen) (hl : l.length ≤ maxLen) (hm0 : 0 ≤ m) (hm : m ≤ 1000) : Calls Tryz.prog 13 #[v, .int .i64 m] w fun e w' => e = .returned (.bool (fewL l m)) ∧ Below w.heap.size w w' := by
  rcases hv.cases_ with ⟨a, cap, rfl, rfl⟩ | ⟨b, off, cap, rfl, hb0, hc⟩
  · have HE := Kept.mk (show fewL [] m = true from by unfold fewL; simp [hm0])
    go_enter Tryz.func13, Tryz.ntmps13
    go_wp2
    go_loopw [5] (fun i wr => i = .int .i64 0 ∧ Kept (Below w.heap.size w wr)) (fun i _ => 0)
    case atStart => exact ⟨rfl, ⟨Below.refl _ _⟩⟩
    case round =>
      obtain ⟨rfl, B⟩ := hrel
      go_wp2
      go_ret
      exact ⟨by rw [HE.out]; rfl, B.out⟩
  · have HC := Kept.mk hc
    have HK := Kept.mk hk
    clear hc hv hk
    generalize hn : l.length = n at hl
    have hl2 : (n : Int) ≤ 9223372036854775807 := by have : maxLen = 9223372036854775807 := rfl; omega
    go_enter Tryz.func13, Tryz.ntmps13
    go_wp2
    go_loopw [5] (fun i wr => ∃ k : Nat, k ≤ n ∧ (k : Int) ≤ m + 1 ∧ i = .int .i64 (k : Int) ∧ Kept (Below w.heap.size w wr) ∧ Kept (∀ j E, j < k → l[j]? = some E → fewE E = true)) (fun i _ => n - (intOf i).toNat)
    case atStart => exact ⟨0, Nat.zero_le _, by omega, rfl, ⟨Below.refl _ _⟩, ⟨fun j E h => absurd h (Nat.not_lt_zero _)⟩⟩
    case round =>
      obtain ⟨k, hk, hk1, rfl, B, A⟩ := hrel
      by_cases hlt : k < n
      · have hlt' : (k : Int) < (n : Int) := by omega
        by_cases hkm : (k : Int) ≤ m
        · obtain ⟨E, hE⟩ : ∃ E, l[k]? = some E := ⟨_, List.getElem?_eq_getElem (by omega)⟩
          obtain ⟨vp, vm, x0, y0, kc0, kc1, kc2, kc3, kc4, kc5, kc6, kc7, kc8⟩ := (HC.out k E hE).keep B.out hb0 |>.open_
          have X := Kept.mk x0
          have FE := Kept.mk (HK.out E (List.mem_of_getElem? hE))
          have HE := Kept.mk hE
          clear x0 y0 hE
          go_wp2_with fail
          refine (efew_any E _ _ X.out FE.out).mono ?_
          rintro e W1 ⟨rfl, hb⟩
          replace B := Kept.mk (B.out.trans (hb.mono B.out.size))
          clear hb X kc0 kc1 kc2 kc3 kc4 kc5 kc6 kc7 kc8
          cases hok : fewE E with
          | true =>
            have HO := Kept.mk hok
            clear hok
            go_wp2
            go_roundw
            case rel =>
              refine ⟨k + 1, by omega, by omega, by go_num, B, ⟨fun j E' hj h => ?_⟩⟩
              by_cases e : j = k
              · subst e; rw [HE.out] at h; injection h with h; rw [← h]; exact HO.out
              · exact A.out j E' (by omega) h
            case measure => simp [intOf]; omega
          | false =>
            have HR := Kept.mk (show fewL l m = false by unfold fewL; rw [show l.all fewE = false by rw [List.all_eq_false]; exact ⟨E, List.mem_of_getElem? HE.out, by simp [hok]⟩]; simp)
            clear hok
            go_wp2
            go_ret
            exact ⟨by rw [HR.out]; rfl, B.out⟩
        · have HR := Kept.mk (show fewL l m = false by unfold fewL; rw [decide_eq_false (by rw [hn]; omega)]; rfl)
          have hnm : ¬ (n : Int) ≤ m := by omega
          go_wp2
          go_ret
          exact ⟨by rw [HR.out]; rfl, B.out⟩
      · have hlt' : ¬ (k : Int) < (n : Int) := by omega
        have HA : l.all fewE = true := by
          rw [List.all_eq_true]; intro x hx
          obtain ⟨j, hj⟩ := List.getElem?_of_mem hx
          have := (List.getElem?_eq_some_iff.1 hj).1
          exact A.out j x (by omega) hj
        have HR := Kept.mk (show fewL l m = decide ((n : Int) ≤ m) by unfold fewL; rw [HA, Bool.and_true, hn])
        clear HA
        by_cases hnm : (n : Int) ≤ m
        · rw [decide_eq_true hnm] at HR
          go_wp2
          go_ret
          exact ⟨by rw [HR.out]; rfl, B.out⟩
        · rw [decide_eq_false hnm] at HR
          go_wp2
          go_ret
          exact ⟨by rw [HR.out]; rfl, B.out⟩
set_option maxRecDepth 100000 in
set_option maxHeartbeats 2000000 in
theorem afew_any (A : Ar) (v : Value) (w : World) (hv : isAr A v w) (hk : ∀ e ∈ A.slots, e.key.length ≤ maxLen) (hl : A.slots.length ≤ maxLen) (hi0 : A.index.length ≤ maxLen) : Calls Tryz.prog 11 #[v] w fun e w' => e = .returned (.bool (fewA A)) ∧ Below w.heap.size w w' := by
  obtain ⟨vs, vi, rfl, hs, hi⟩ := hv
  obtain ⟨hB, Va⟩ := abox w A vs vi hs hi w.heap.size rfl
  clear hs hi
  obtain ⟨qa, ra, xa, sa, ia, ka0, ka1, ka2⟩ := Va.out.open_
  have SA := Kept.mk sa
  clear xa sa ia
  have HC := Kept.mk (show fewA A = (fewL A.slots 12 && decide ((A.index.length : Int) ≤ 40)) from rfl)
  have hi2 : (A.index.length : Int) ≤ 9223372036854775807 := by have : maxLen = 9223372036854775807 := rfl; omega
  go_enter Tryz.func11, Tryz.ntmps11
  go_wp2_with fail
  refine (entries_any A.slots 12 _ _ SA.out hk hl (by decide) (by decide)).mono ?_
  rintro e W1 ⟨rfl, hb⟩
  replace hB := Kept.mk (hB.out.trans (hb.mono hB.out.size))
  replace Va := Kept.mk (Va.out.keep hb)
  clear hb ka0 ka1 ka2 SA
  cases hr : fewL A.slots 12 with
  | false =>
    rw [hr, Bool.false_and] at HC
    go_wp2
    go_ret
    exact ⟨by rw [HC.out]; rfl, hB.out⟩
  | true =>
    rw [hr, Bool.true_and] at HC
    obtain ⟨qb, rb, xb, sb, ib, kb0, kb1, kb2⟩ := Va.out.open_
    obtain ⟨ba, bc, rfl⟩ := ib.len
    rw [List.length_map] at kb2
    clear xb sb ib
    generalize A.index.length = n at *
    go_wp2
    go_ret
    exact ⟨by rw [HC.out]; rfl, hB.out⟩
end Go.Proofs.YtbgconagkgfplaaGreat
end
section
namespace Go.Proofs.YtbgconagkgfplaaGreat
open Go.RowKit Go.ChangeShapes Go.WideShapes
set_option linter.unusedVariables false
set_option linter.unusedSimpArgs false

section
variable {W : World} {H : Type} {enc : TypeId × Value → H} {base : Nat} {spare : Nat → Bool} {held : Bool} {n : Nat}
set_option maxRecDepth 100000 in
set_option maxHeartbeats 2000000 in
theorem open_encells {cs : List Value} {z : DataW H × List MemPlace} (hf0 : DataW.trod enc Tryz.prog W base spare held n 30 cs = some z) :
    ∃ (E : En) (vp vm : Value), cs = [.string ⟨E.key.toArray⟩, .int .i64 E.val.kind, .int .i64 E.val.time, .int .i64 E.val.node, .bool E.val.dead, .string ⟨E.val.text.toArray⟩, vp, vm, .int .u64 (E.val.flags.toNat : Int)] ∧ isCells (E.val.plus.map intC) vp W ∧ isCells (E.val.minus.map intC) vm W ∧ CameE E := by
  obtain ⟨xs0, n0, _, hxe0, hsz, hxl0, hg0⟩ := DataW.trod_struct Tryz.underlying30 hf0
  have hl : cs.length = 9 := hsz.trans (by kernel_rfl)
  match cs, hl with
  | [v8, v0, v1, v2, v3, v4, v5, v6, v7], _ =>
    obtain ⟨z0, ez0⟩ : ∃ y, xs0[0]? = some y := ⟨_, List.getElem?_eq_getElem (by rw [hxl0]; decide)⟩
    obtain ⟨z1, ez1⟩ : ∃ y, xs0[1]? = some y := ⟨_, List.getElem?_eq_getElem (by rw [hxl0]; decide)⟩
    have g8 := hg0 0 _ rfl
    have hf := hg0 1 _ rfl
    have c2 : Tryz.prog.cellsOf 23 = 1 := by kernel_rfl
    have c3 : Tryz.prog.cellsOf 3 = 1 := by kernel_rfl
    have c4 : Tryz.prog.cellsOf 9 = 1 := by kernel_rfl
    have c5 : Tryz.prog.cellsOf 4 = 1 := by kernel_rfl
    have c6 : Tryz.prog.cellsOf 26 = 1 := by kernel_rfl
    have c7 : Tryz.prog.cellsOf 28 = 8 := by kernel_rfl
    have g8a : DataW.trod enc Tryz.prog W base spare held n0 9 (List.take (Tryz.prog.cellsOf 9) [v8, v0, v1, v2, v3, v4, v5, v6, v7]) = xs0[0]? := g8
    have hfa : DataW.trod enc Tryz.prog W base spare held n0 28 (List.take (Tryz.prog.cellsOf 28) [v0, v1, v2, v3, v4, v5, v6, v7]) = xs0[1]? := hf
    rw [ez0, c4] at g8a
    rw [ez1, c7] at hfa
    replace g8 : DataW.trod enc Tryz.prog W base spare held n0 9 [v8] = some z0 := g8a
    replace hf : DataW.trod enc Tryz.prog W base spare held n0 28 [v0, v1, v2, v3, v4, v5, v6, v7] = some z1 := hfa
    obtain ⟨key, h8, _, w8⟩ := DataW.trod_string Tryz.underlying9 g8
    obtain ⟨xs, n, _, hxe, _, hxl, hg⟩ := DataW.trod_struct Tryz.underlying28 hf
    have at_ : ∀ i, i < 8 → ∃ y, xs[i]? = some y := fun i hi => ⟨_, List.getElem?_eq_getElem (by rw [hxl]; exact hi)⟩
    obtain ⟨y0, e0⟩ := at_ 0 (by decide)
    obtain ⟨y1, e1⟩ := at_ 1 (by decide)
    obtain ⟨y2, e2⟩ := at_ 2 (by decide)
    obtain ⟨y3, e3⟩ := at_ 3 (by decide)
    obtain ⟨y4, e4⟩ := at_ 4 (by decide)
    obtain ⟨y5, e5⟩ := at_ 5 (by decide)
    obtain ⟨y6, e6⟩ := at_ 6 (by decide)
    obtain ⟨y7, e7⟩ := at_ 7 (by decide)
    have g0 := hg 0 _ rfl
    have g1 := hg 1 _ rfl
    have g2 := hg 2 _ rfl
    have g3 := hg 3 _ rfl
    have g4 := hg 4 _ rfl
    have g5 := hg 5 _ rfl
    have g6 := hg 6 _ rfl
    have g7 := hg 7 _ rfl
    have q0 : DataW.trod enc Tryz.prog W base spare held n 3 (List.take (Tryz.prog.cellsOf 3) [v0, v1, v2, v3, v4, v5, v6, v7]) = xs[0]? := g0
    rw [e0, c3] at q0
    replace g0 : DataW.trod enc Tryz.prog W base spare held n 3 [v0] = some y0 := q0
    have q1 : DataW.trod enc Tryz.prog W base spare held n 3 (List.take (Tryz.prog.cellsOf 3) [v1, v2, v3, v4, v5, v6, v7]) = xs[1]? := g1
    rw [e1, c3] at q1
    replace g1 : DataW.trod enc Tryz.prog W base spare held n 3 [v1] = some y1 := q1
    have q2 : DataW.trod enc Tryz.prog W base spare held n 3 (List.take (Tryz.prog.cellsOf 3) [v2, v3, v4, v5, v6, v7]) = xs[2]? := g2
    rw [e2, c3] at q2
    replace g2 : DataW.trod enc Tryz.prog W base spare held n 3 [v2] = some y2 := q2
    have q3 : DataW.trod enc Tryz.prog W base spare held n 4 (List.take (Tryz.prog.cellsOf 4) [v3, v4, v5, v6, v7]) = xs[3]? := g3
    rw [e3, c5] at q3
    replace g3 : DataW.trod enc Tryz.prog W base spare held n 4 [v3] = some y3 := q3
    have q4 : DataW.trod enc Tryz.prog W base spare held n 9 (List.take (Tryz.prog.cellsOf 9) [v4, v5, v6, v7]) = xs[4]? := g4
    rw [e4, c4] at q4
    replace g4 : DataW.trod enc Tryz.prog W base spare held n 9 [v4] = some y4 := q4
    have q5 : DataW.trod enc Tryz.prog W base spare held n 23 (List.take (Tryz.prog.cellsOf 23) [v5, v6, v7]) = xs[5]? := g5
    rw [e5, c2] at q5
    replace g5 : DataW.trod enc Tryz.prog W base spare held n 23 [v5] = some y5 := q5
    have q6 : DataW.trod enc Tryz.prog W base spare held n 23 (List.take (Tryz.prog.cellsOf 23) [v6, v7]) = xs[6]? := g6
    rw [e6, c2] at q6
    replace g6 : DataW.trod enc Tryz.prog W base spare held n 23 [v6] = some y6 := q6
    have q7 : DataW.trod enc Tryz.prog W base spare held n 26 (List.take (Tryz.prog.cellsOf 26) [v7]) = xs[7]? := g7
    rw [e7, c6] at q7
    replace g7 : DataW.trod enc Tryz.prog W base spare held n 26 [v7] = some y7 := q7
    obtain ⟨kind, h0, _, w0⟩ := DataW.trod_int Tryz.underlying3 g0
    obtain ⟨time, h1, _, w1⟩ := DataW.trod_int Tryz.underlying3 g1
    obtain ⟨node, h2, _, w2⟩ := DataW.trod_int Tryz.underlying3 g2
    obtain ⟨dead, h3, _⟩ := DataW.trod_bool Tryz.underlying4 g3
    obtain ⟨text, h4, _, w4⟩ := DataW.trod_string Tryz.underlying9 g4
    obtain ⟨plus, hp, hpn, hpw⟩ := open_row g5
    obtain ⟨minus, hm, hmn, hmw⟩ := open_row g6
    obtain ⟨flags, h7, _, w7⟩ := DataW.trod_int Tryz.underlying26 g7
    injection h8 with h8 _
    injection h0 with h0 _
    injection h1 with h1 _
    injection h2 with h2 _
    injection h3 with h3 _
    injection h4 with h4 _
    injection h7 with h7 _
    subst h0 h1 h2 h3 h4 h7 h8
    have b7 := wf_u64 w7
    have f7 : ((UInt64.ofNat flags.toNat).toNat : Int) = flags := by
      rw [UInt64.toNat_ofNat_of_lt' (by show flags.toNat < 18446744073709551616; omega)]
      omega
    refine ⟨⟨key.data.toList, ⟨kind, time, node, dead, text.data.toList, plus, minus, UInt64.ofNat flags.toNat⟩⟩, v5, v6, ?_, hp, hm, ⟨by simpa using w8, ⟨w0, w1, w2, by simpa using w4, hpw, hmw, hpn, hmn⟩⟩⟩
    show [Value.string key, .int .i64 kind, .int .i64 time, .int .i64 node, .bool dead, .string text, v5, v6, .int .u64 flags] = [.string ⟨key.data.toList.toArray⟩, .int .i64 kind, .int .i64 time, .int .i64 node, .bool dead, .string ⟨text.data.toList.toArray⟩, v5, v6, .int .u64 ((UInt64.ofNat flags.toNat).toNat : Int)]
    rw [f7, ← str_eta, ← str_eta]
set_option maxRecDepth 100000 in
set_option maxHeartbeats 2000000 in
theorem open_ens {v : Value} {y : DataW H × List MemPlace} (g : DataW.trod enc Tryz.prog W base spare held n 22 [v] = some y) :
    ∃ l : List En, isEns l v W ∧ l.length ≤ maxLen ∧ ∀ e ∈ l, CameE e := by
  have c9 : Tryz.prog.cellsOf 30 = 9 := by kernel_rfl
  rcases Go.Deep.open_slice Tryz.underlying22 g with ⟨hc, _⟩ | ⟨a, len, cap, m, n', D, Pl, hc, _, hl, hm, hmm, _, hx⟩
  · injection hc with hc _
    subst hc
    exact ⟨[], .inl ⟨rfl, rfl⟩, Nat.zero_le _, (fun s hs => by simp at hs)⟩
  · injection hc with hc _
    subst hc
    have hle : len ≤ m := by rw [hmm]; split <;> omega
    rw [c9] at hx
    haveI : Inhabited En := ⟨⟨[], ⟨0, 0, 0, false, [], [], [], 0⟩⟩⟩
    obtain ⟨f, hf⟩ := Go.Deep.choose_lt (α := En) (n := len) (p := fun i E => (∃ vp vm, (∀ (j : Nat) (x : Value), [.string ⟨E.key.toArray⟩, .int .i64 E.val.kind, .int .i64 E.val.time, .int .i64 E.val.node, .bool E.val.dead, .string ⟨E.val.text.toArray⟩, vp, vm, .int .u64 (E.val.flags.toNat : Int)][j]? = some x → W.cell? (a.add (i * 9 + j)) = some x) ∧ isCells (E.val.plus.map intC) vp W ∧ isCells (E.val.minus.map intC) vm W) ∧ CameE E) (fun i hi => by
      obtain ⟨cs', h1, h2⟩ := hx i (by omega)
      obtain ⟨_, hlen, hcell⟩ := World.cells?_some h1
      obtain ⟨E, vp, vm, rfl, hp, hm', hE⟩ := open_encells h2
      refine ⟨E, ⟨vp, vm, fun j x hj => ?_, hp, hm'⟩, hE⟩
      have hj9 : j < 9 := by have := (List.getElem?_eq_some_iff.1 hj).1; simpa using this
      have := hcell j hj9
      rw [Go.Deep.add_add] at this
      rw [this, hj])
    refine ⟨(List.range len).map f, ?_, by simp; omega, fun e he => ?_⟩
    · cases hlen : len with
      | zero => exact .inr (.inl ⟨a, cap, rfl, rfl⟩)
      | succ k =>
        rw [← hlen]
        obtain ⟨⟨vp, vm, h0, _⟩, _⟩ := hf 0 (by omega)
        have h00 := h0 0 _ rfl
        have e0 : a.add (0 * 9 + 0) = a := by simp [Addr.add]
        rw [e0] at h00
        have ha := spot_none h00
        refine .inr (.inr ⟨a.block, a.off, cap, by rw [← ha]; simp, ?_, fun j E hE => ?_⟩)
        · simp only [World.cell?] at h00
          split at h00
          · rename_i h; exact (Array.getElem?_eq_some_iff.1 h).1
          · simp at h00
        · have hj : j < len := by have := (List.getElem?_eq_some_iff.1 hE).1; simpa using this
          rw [List.getElem?_map, List.getElem?_range hj] at hE
          simp only [Option.map_some, Option.some.injEq] at hE
          subst hE
          obtain ⟨⟨vp, vm, hcj, hp, hm'⟩, _⟩ := hf j hj
          refine ⟨vp, vm, fun k' x hx' => ?_, hp, hm'⟩
          have := hcj k' x hx'
          rw [ha, add_plain] at this
          rw [Nat.add_assoc]
          exact this
    · obtain ⟨i, hi, rfl⟩ := List.mem_map.1 he
      exact (hf i (by simpa using hi)).2
end
structure CameA (A : Ar) : Prop where
  cap : (Lit.int .i64 A.cap).wf = true
  slots : A.slots.length ≤ maxLen
  ents : ∀ e ∈ A.slots, CameE e
  index : A.index.length ≤ maxLen
  idx : ∀ x ∈ A.index, (Lit.int .i64 x).wf = true
theorem CameA.keys {A : Ar} (h : CameA A) : ∀ e ∈ A.slots, e.key.length ≤ maxLen := fun e he => (h.ents e he).key
set_option maxRecDepth 100000 in
set_option maxHeartbeats 2000000 in
theorem open_ar {W : World} {H : Type} {enc : TypeId × Value → H} {base b0 : Nat} {spare : Nat → Bool} {held : Bool} {v : Value} {d : DataW H} {p : List MemPlace} (hv : Value.okWide Tryz.prog W .any b0 25 v)
    (h : DataW.Trod enc Tryz.prog W base spare held 25 v d p) : ∃ A : Ar, isAr A v W ∧ CameA A := by
  obtain ⟨⟨l⟩, rfl, hsz⟩ := okWide_struct Tryz.underlying25 hv
  have hl : l.length = 3 := hsz.trans (by kernel_rfl)
  match l, hl with
  | [v0, v1, v2], _ =>
    obtain ⟨fuel0, hf0⟩ := h
    obtain ⟨xs, n, _, hxe, _, hxl, hg⟩ := DataW.trod_struct Tryz.underlying25 hf0
    have at_ : ∀ i, i < 3 → ∃ y, xs[i]? = some y := fun i hi => ⟨_, List.getElem?_eq_getElem (by rw [hxl]; exact hi)⟩
    obtain ⟨y0, e0⟩ := at_ 0 (by decide)
    obtain ⟨y1, e1⟩ := at_ 1 (by decide)
    obtain ⟨y2, e2⟩ := at_ 2 (by decide)
    have c1 : Tryz.prog.cellsOf 22 = 1 := by kernel_rfl
    have c2 : Tryz.prog.cellsOf 23 = 1 := by kernel_rfl
    have c3 : Tryz.prog.cellsOf 3 = 1 := by kernel_rfl
    have g0 := hg 0 _ rfl
    have g1 := hg 1 _ rfl
    have g2 := hg 2 _ rfl
    have q0 : DataW.trod enc Tryz.prog W base spare held n 3 (List.take (Tryz.prog.cellsOf 3) [v0, v1, v2]) = xs[0]? := g0
    rw [e0, c3] at q0
    replace g0 : DataW.trod enc Tryz.prog W base spare held n 3 [v0] = some y0 := q0
    have q1 : DataW.trod enc Tryz.prog W base spare held n 22 (List.take (Tryz.prog.cellsOf 22) [v1, v2]) = xs[1]? := g1
    rw [e1, c1] at q1
    replace g1 : DataW.trod enc Tryz.prog W base spare held n 22 [v1] = some y1 := q1
    have q2 : DataW.trod enc Tryz.prog W base spare held n 23 (List.take (Tryz.prog.cellsOf 23) [v2]) = xs[2]? := g2
    rw [e2, c2] at q2
    replace g2 : DataW.trod enc Tryz.prog W base spare held n 23 [v2] = some y2 := q2
    obtain ⟨cap, h0, _, w0⟩ := DataW.trod_int Tryz.underlying3 g0
    injection h0 with h0 _
    subst h0
    obtain ⟨sl, hs, hsn, hsc⟩ := open_ens g1
    obtain ⟨ix, hi, hin, hiw⟩ := open_row g2
    exact ⟨⟨cap, sl, ix⟩, ⟨v1, v2, rfl, hs, hi⟩, ⟨w0, hsn, hsc, hin, hiw⟩⟩
end Go.Proofs.YtbgconagkgfplaaGreat
end
section
namespace Go.Proofs.YtbgconagkgfplaaGreat
open Go.RowKit
set_option linter.unusedVariables false
set_option linter.unusedSimpArgs false

theorem ga_join (A : Ar) (Y : En) (G : Ar) (b : Bool) (r : Int) (v u : Value) (w : World) (hv : isAr A v w) (hu : isEn Y u w) (hF : FitA A) (hY : FitE Y) (hG : joinAF A Y = G) (hb : joinAB A Y = b) (hr : joinAE A Y = r) : Calls Tryz.prog 14 #[v, u] w fun e w' => ∃ v', e = .returned (.tuple #[v', .bool b, .int .i64 r]) ∧ isAr G v' w' ∧ Below w.heap.size w w' := by
  subst hG hb hr; exact ajoin_any A Y v u w hv hu hF hY
theorem okA_fit {A : Ar} (h : OkA A) : FitA A := by
  have h1 := h.fits
  have h2 := h.room
  have h3 := h.len
  exact ⟨by omega, by omega, fun e he => ok_fit' (h.ents e he)⟩
end Go.Proofs.YtbgconagkgfplaaGreat
end
section
namespace Go.Proofs.YtbgconagkgfplaaGreat
set_option linter.unusedVariables false
set_option linter.unusedSimpArgs false

def firstE : List Int → Int
  | [] => 0
  | e :: r => if e = 0 then firstE r else e
def heldB (A : Ar) (kind : Int) (key : List UInt8) : Bool := decide (0 ≤ findI A (nameE kind key))
def heldV (A : Ar) (kind : Int) (key : List UInt8) : Va := if 0 ≤ findI A (nameE kind key) then (slotAt A.slots (findI A (nameE kind key))).val else leastF kind
def nodeE (node : Int) : Int := if node < 0 ∨ 8 ≤ node then 10 else 0
def keyE (key : List UInt8) : Int := if key.length = 0 ∨ 8 < key.length then 6 else 0
def longE (text : List UInt8) : Int := if 8 < text.length then 6 else 0
def roomE (A : Ar) (is : Bool) : Int := if is = false ∧ (A.slots.length : Int) = A.cap then 4 else 0
def timeE (v : Va) : Int := if v.time = 2147483647 then 5 else 0
def goneE (is : Bool) (v : Va) : Int := if is = false ∨ v.dead = true then 9 else 0
def argE (n : Int) : Int := if n = 0 ∨ 65535 < n ∨ n < -65535 then 1 else 0
def absI (n : Int) : Int := if n < 0 then -n else n
def sideL (v : Va) (n : Int) : List Int := if n < 0 then v.minus else v.plus
def togI (v : Va) (node n : Int) : Int := ((sideL v n)[node.toNat]?).getD 0 + absI n
def overE (v : Va) (node n : Int) : Int := if 65535 < togI v node n then 5 else 0
def putDE (A : Ar) (node : Int) (key text : List UInt8) : Int := firstE [chkA A, nodeE node, keyE key, longE text, roomE A (heldB A 1 key), timeE (heldV A 1 key)]
def delDE (A : Ar) (node : Int) (key : List UInt8) : Int := firstE [chkA A, nodeE node, keyE key, goneE (heldB A 1 key) (heldV A 1 key), timeE (heldV A 1 key)]
def addDE (A : Ar) (node : Int) (key : List UInt8) (n : Int) : Int := firstE [chkA A, nodeE node, keyE key, argE n, roomE A (heldB A 2 key), overE (heldV A 2 key) node n]
def setDE (A : Ar) (key : List UInt8) : Int := firstE [chkA A, keyE key, roomE A (heldB A 3 key)]
def regE (key : List UInt8) (time node : Int) (dead : Bool) (text : List UInt8) : En := ⟨key, ⟨1, time, node, dead, text, [], [], 0⟩⟩
def onlyI (node x : Int) : List Int := (List.replicate 8 (0 : Int)).set node.toNat x
def cntE (key : List UInt8) (node n x : Int) : En := ⟨key, ⟨2, 0, 0, false, [], if n < 0 then List.replicate 8 0 else onlyI node x, if n < 0 then onlyI node x else List.replicate 8 0, 0⟩⟩
def flgE (key : List UInt8) (flags : UInt64) : En := ⟨key, ⟨3, 0, 0, false, [], [], [], flags⟩⟩
def putDF (A : Ar) (node : Int) (key text : List UInt8) : En := if putDE A node key text = 0 then regE key ((heldV A 1 key).time + 1) node false text else zeroE
def delDF (A : Ar) (node : Int) (key : List UInt8) : En := if delDE A node key = 0 then regE key ((heldV A 1 key).time + 1) node true [] else zeroE
def addDF (A : Ar) (node : Int) (key : List UInt8) (n : Int) : En := if addDE A node key n = 0 then cntE key node n (togI (heldV A 2 key) node n) else zeroE
def setDF (A : Ar) (key : List UInt8) (flags : UInt64) : En := if setDE A key = 0 then flgE key flags else zeroE
def textT (A : Ar) (key : List UInt8) : List UInt8 := if heldB A 1 key = true then (heldV A 1 key).text else []
def textB (A : Ar) (key : List UInt8) : Bool := heldB A 1 key && !(heldV A 1 key).dead
def sumT (A : Ar) (key : List UInt8) : Int := if heldB A 2 key = true then sumN (heldV A 2 key) else 0
def flagT (A : Ar) (key : List UInt8) : UInt64 := if heldB A 3 key = true then (heldV A 3 key).flags else 0
def scanA (A : Ar) : List En := (allA A).filter (fun e => !e.val.dead)

theorem first_zero : ∀ {l : List Int}, firstE l = 0 → ∀ e ∈ l, e = 0
  | [], _, e, he => by simp at he
  | x :: r, h, e, he => by
    unfold firstE at h
    by_cases hx : x = 0
    · rw [if_pos hx] at h
      rcases List.mem_cons.1 he with rfl | he
      · exact hx
      · exact first_zero h e he
    · rw [if_neg hx] at h; exact absurd h hx
theorem node_zero {n : Int} (h : nodeE n = 0) : 0 ≤ n ∧ n < 8 := by
  unfold nodeE at h; split at h
  · cases h
  · omega
/-- What is held of a name. -/
theorem held_hit {A : Ar} (h : OkA A) {kind : Int} {key : List UInt8} (hh : hitB (ordA A) (nameE kind key) = true) : heldB A kind key = true ∧ heldV A kind key = (slotOf A (nameE kind key)).val ∧ okV (heldV A kind key) = true ∧ (heldV A kind key).kind = kind ∧ (slotOf A (nameE kind key)).key = key := by
  have hf := find_hit h hh
  have hp := (place_spec h hh).1
  obtain ⟨s1, s2, s3, s4⟩ := slot_spec h hh
  have e : heldV A kind key = (slotOf A (nameE kind key)).val := by unfold heldV; rw [hf, if_pos hp.1]; rfl
  refine ⟨by unfold heldB; rw [hf]; simpa using hp.1, e, by rw [e]; exact okE_val s2, by rw [e]; exact (name_iff.1 s3).1, (name_iff.1 s3).2⟩
theorem held_no {A : Ar} {kind : Int} {key : List UInt8} (h : okA A = false ∨ hitB (ordA A) (nameE kind key) = false) : heldB A kind key = false ∧ heldV A kind key = leastF kind := by
  have hf : findI A (nameE kind key) = -1 := by
    unfold findI
    rcases h with h | h
    · rw [h]; rfl
    · rw [h]; simp
  unfold heldB heldV
  rw [hf]
  exact ⟨by decide, if_neg (by decide)⟩
theorem held_ok (A : Ar) {kind : Int} (key : List UInt8) (hk : kind = 1 ∨ kind = 2 ∨ kind = 3) : okV (heldV A kind key) = true ∧ (heldV A kind key).kind = kind := by
  cases ho : okA A with
  | false => rw [(held_no (kind := kind) (key := key) (.inl ho)).2]; exact least_ok hk
  | true =>
    cases hh : hitB (ordA A) (nameE kind key) with
    | false => rw [(held_no (A := A) (.inr hh)).2]; exact least_ok hk
    | true => obtain ⟨_, _, h3, h4, _⟩ := held_hit (okA_iff.1 ho) hh; exact ⟨h3, h4⟩
theorem held_time (A : Ar) (key : List UInt8) : 0 ≤ (heldV A 1 key).time ∧ (heldV A 1 key).time ≤ 2147483647 := by
  obtain ⟨h1, h2⟩ := held_ok A (kind := 1) key (.inl rfl)
  have := (ok_reg h1 h2).1
  unfold inReg at this
  simp only [Bool.and_eq_true, decide_eq_true_eq] at this
  exact this.1.1.1
end Go.Proofs.YtbgconagkgfplaaGreat
end
section
namespace Go.Proofs.YtbgconagkgfplaaGreat
open Go.RowKit
set_option linter.unusedVariables false
set_option linter.unusedSimpArgs false
attribute [local irreducible] setN

/-- A function without arguments that tells e, now and later. -/
def isChk (e : Int) : VP := fun v w => ∃ (f : FuncId) (caps : Array Value), v = .func (.func f) #[] caps ∧ Enters Tryz.prog f ∧ ∀ w', Below w.heap.size w w' → Calls Tryz.prog f caps w' fun r w'' => r = .returned (.int .i64 e) ∧ Below w'.heap.size w' w''
theorem stable_chk (e : Int) : Stable (isChk e) := fun v w w' ⟨f, caps, h1, h2, h3⟩ hb => ⟨f, caps, h1, h2, fun w'' hb' => h3 w'' (hb.trans (hb'.mono hb.size))⟩
def timeI (t : Int) : Int := if t = 2147483647 then 5 else 0
def goneI (is dead : Bool) : Int := if is = false ∨ dead = true then 9 else 0
theorem timeE_eq (v : Va) : timeE v = timeI v.time := rfl
theorem when_any (b : Bool) (e : Int) (w : World) : Calls Tryz.prog 58 #[.bool b, .int .i64 e] w fun r w' => r = .returned (.int .i64 (if b = true then e else 0)) ∧ w' = w := by
  go_enter Tryz.func58, Tryz.ntmps58
  cases b <;>
  · go_wp2
    go_ret
    exact ⟨rfl, rfl⟩
theorem when_at (b : Bool) (e r : Int) (w : World) (h : (if b = true then e else 0) = r) : Calls Tryz.prog 58 #[.bool b, .int .i64 e] w fun x w' => x = .returned (.int .i64 r) ∧ w' = w := by
  subst h; exact when_any b e w
set_option maxRecDepth 100000 in
set_option maxHeartbeats 2000000 in
theorem node1_any (g : Nat) (node : Int) (w : World) (hc : w.cell? ⟨g, 0, none⟩ = some (.int .i64 node)) : Calls Tryz.prog 107 #[.pointer (some ⟨g, 0, none⟩)] w fun r w' => r = .returned (.int .i64 (nodeE node)) ∧ Below w.heap.size w w' := by
  go_enter Tryz.func107, Tryz.ntmps107
  by_cases h1 : node < 0
  · have HE := Kept.mk (show nodeE node = 10 by unfold nodeE; rw [if_pos (.inl h1)])
    go_wp2_with fail
    refine (when_at true 10 (nodeE node) _ (by rw [HE.out]; rfl)).mono ?_; rintro r w' ⟨rfl, rfl⟩
    go_wp2
    go_ret
    exact ⟨rfl, Below.refl _ _⟩
  · by_cases h2 : 8 ≤ node
    · have HE := Kept.mk (show nodeE node = 10 by unfold nodeE; rw [if_pos (.inr h2)])
      go_wp2_with fail
      refine (when_at true 10 (nodeE node) _ (by rw [HE.out]; rfl)).mono ?_; rintro r w' ⟨rfl, rfl⟩
      go_wp2
      go_ret
      exact ⟨rfl, Below.refl _ _⟩
    · have HE := Kept.mk (show nodeE node = 0 by unfold nodeE; rw [if_neg (by omega)])
      go_wp2_with fail
      refine (when_at false 10 (nodeE node) _ (by rw [HE.out]; rfl)).mono ?_; rintro r w' ⟨rfl, rfl⟩
      go_wp2
      go_ret
      exact ⟨rfl, Below.refl _ _⟩
set_option maxRecDepth 100000 in
set_option maxHeartbeats 2000000 in
theorem key1_any (g : Nat) (key : List UInt8) (w : World) (hc : w.cell? ⟨g, 0, none⟩ = some (.string ⟨key.toArray⟩)) (hk : key.length ≤ 1000) : Calls Tryz.prog 108 #[.pointer (some ⟨g, 0, none⟩)] w fun r w' => r = .returned (.int .i64 (keyE key)) ∧ Below w.heap.size w w' := by
  have hz : (⟨key.toArray⟩ : ByteArray).size = key.length := by simp [ByteArray.size]
  go_enter Tryz.func108, Tryz.ntmps108
  by_cases h1 : key = []
  · subst h1
    have HE := Kept.mk (show keyE [] = 6 from rfl)
    go_wp2_with fail
    refine (when_at true 6 (keyE []) _ (by rw [HE.out]; rfl)).mono ?_; rintro r w' ⟨rfl, rfl⟩
    go_wp2
    go_ret
    exact ⟨rfl, Below.refl _ _⟩
  · have h0 : ¬ key.length = 0 := fun e => h1 (List.eq_nil_of_length_eq_zero e)
    have hne : (key == []) = false := by rw [beq_eq_false_iff_ne]; exact h1
    by_cases h2 : 8 < key.length
    · have HE := Kept.mk (show keyE key = 6 by unfold keyE; rw [if_pos (.inr h2)])
      have h2i : (8 : Int) < key.length := by omega
      go_wp2_with fail
      refine (when_at true 6 (keyE key) _ (by rw [HE.out]; rfl)).mono ?_; rintro r w' ⟨rfl, rfl⟩
      go_wp2
      go_ret
      exact ⟨rfl, Below.refl _ _⟩
    · have HE := Kept.mk (show keyE key = 0 by unfold keyE; rw [if_neg (by omega)])
      have h2i : ¬ (8 : Int) < key.length := by omega
      go_wp2_with fail
      refine (when_at false 6 (keyE key) _ (by rw [HE.out]; rfl)).mono ?_; rintro r w' ⟨rfl, rfl⟩
      go_wp2
      go_ret
      exact ⟨rfl, Below.refl _ _⟩
set_option maxRecDepth 100000 in
set_option maxHeartbeats 2000000 in
theorem long1_any (g : Nat) (key : List UInt8) (w : World) (hc : w.cell? ⟨g, 0, none⟩ = some (.string ⟨key.toArray⟩)) (hk : key.length ≤ 1000) : Calls Tryz.prog 57 #[.pointer (some ⟨g, 0, none⟩)] w fun r w' => r = .returned (.int .i64 (longE key)) ∧ Below w.heap.size w w' := by
  have hz : (⟨key.toArray⟩ : ByteArray).size = key.length := by simp [ByteArray.size]
  go_enter Tryz.func57, Tryz.ntmps57
  by_cases h2 : 8 < key.length
  · have HE := Kept.mk (show longE key = 6 by unfold longE; rw [if_pos h2])
    have h2i : (8 : Int) < key.length := by omega
    go_wp2_with fail
    refine (when_at true 6 (longE key) _ (by rw [HE.out]; rfl)).mono ?_; rintro r w' ⟨rfl, rfl⟩
    go_wp2
    go_ret
    exact ⟨rfl, Below.refl _ _⟩
  · have HE := Kept.mk (show longE key = 0 by unfold longE; rw [if_neg h2])
    have h2i : ¬ (8 : Int) < key.length := by omega
    go_wp2_with fail
    refine (when_at false 6 (longE key) _ (by rw [HE.out]; rfl)).mono ?_; rintro r w' ⟨rfl, rfl⟩
    go_wp2
    go_ret
    exact ⟨rfl, Below.refl _ _⟩
set_option maxRecDepth 100000 in
set_option maxHeartbeats 2000000 in
theorem time1_any (g : Nat) (t : Int) (w : World) (hc : w.cell? ⟨g, 1, none⟩ = some (.int .i64 t)) : Calls Tryz.prog 110 #[.pointer (some ⟨g, 0, none⟩)] w fun r w' => r = .returned (.int .i64 (timeI t)) ∧ Below w.heap.size w w' := by
  go_enter Tryz.func110, Tryz.ntmps110
  by_cases h2 : t = 2147483647
  · have HE := Kept.mk (show timeI t = 5 by unfold timeI; rw [if_pos h2])
    have h3 : (t == 2147483647) = true := by simpa using h2
    clear h2
    go_wp2_with fail
    refine (when_at true 5 (timeI t) _ (by rw [HE.out]; rfl)).mono ?_; rintro r w' ⟨rfl, rfl⟩
    go_wp2
    go_ret
    exact ⟨rfl, Below.refl _ _⟩
  · have HE := Kept.mk (show timeI t = 0 by unfold timeI; rw [if_neg h2])
    have h3 : (t == 2147483647) = false := by simpa using h2
    clear h2
    go_wp2_with fail
    refine (when_at false 5 (timeI t) _ (by rw [HE.out]; rfl)).mono ?_; rintro r w' ⟨rfl, rfl⟩
    go_wp2
    go_ret
    exact ⟨rfl, Below.refl _ _⟩
set_option maxRecDepth 100000 in
set_option maxHeartbeats 2000000 in
theorem room1_any (g h : Nat) (A : Ar) (is : Bool) (w : World) (hV : VarA w h A) (hc : w.cell? ⟨g, 0, none⟩ = some (.bool is)) (hF : FitA A) : Calls Tryz.prog 109 #[.pointer (some ⟨g, 0, none⟩), .pointer (some ⟨h, 0, none⟩)] w fun r w' => r = .returned (.int .i64 (roomE A is)) ∧ Below w.heap.size w w' := by
  obtain ⟨qa, ra, xa, sa, ia, ka0, ka1, ka2⟩ := hV.open_
  obtain ⟨sb, sc, rfl⟩ := sa.len
  have hl := hF.slots
  clear xa sa ia
  go_enter Tryz.func109, Tryz.ntmps109
  cases is with
  | true =>
    have HE := Kept.mk (show roomE A true = 0 by unfold roomE; rw [if_neg (fun h => by cases h.1)])
    go_wp2_with fail
    refine (when_at false 4 (roomE A true) _ (by rw [HE.out]; rfl)).mono ?_; rintro r w' ⟨rfl, rfl⟩
    go_wp2
    go_ret
    exact ⟨rfl, Below.refl _ _⟩
  | false =>
    by_cases h2 : (A.slots.length : Int) = A.cap
    · have HE := Kept.mk (show roomE A false = 4 by unfold roomE; rw [if_pos ⟨rfl, h2⟩])
      have h3 : ((A.slots.length : Int) == A.cap) = true := by simpa using h2
      clear h2
      go_wp2_with fail
      refine (when_at true 4 (roomE A false) _ (by rw [HE.out]; rfl)).mono ?_; rintro r w' ⟨rfl, rfl⟩
      go_wp2
      go_ret
      exact ⟨rfl, Below.refl _ _⟩
    · have HE := Kept.mk (show roomE A false = 0 by unfold roomE; rw [if_neg (fun h => h2 h.2)])
      have h3 : ((A.slots.length : Int) == A.cap) = false := by simpa using h2
      clear h2
      go_wp2_with fail
      refine (when_at false 4 (roomE A false) _ (by rw [HE.out]; rfl)).mono ?_; rintro r w' ⟨rfl, rfl⟩
      go_wp2
      go_ret
      exact ⟨rfl, Below.refl _ _⟩
set_option maxRecDepth 100000 in
set_option maxHeartbeats 2000000 in
theorem gone1_any (g h : Nat) (is : Bool) (dead : Bool) (w : World) (hc : w.cell? ⟨g, 0, none⟩ = some (.bool is)) (hd : w.cell? ⟨h, 3, none⟩ = some (.bool dead)) : Calls Tryz.prog 64 #[.pointer (some ⟨g, 0, none⟩), .pointer (some ⟨h, 0, none⟩)] w fun r w' => r = .returned (.int .i64 (goneI is dead)) ∧ Below w.heap.size w w' := by
  go_enter Tryz.func64, Tryz.ntmps64
  cases is <;> cases dead
  · go_wp2_with fail
    refine (when_at true 9 9 _ rfl).mono ?_; rintro r w' ⟨rfl, rfl⟩
    go_wp2
    go_ret
    exact ⟨rfl, Below.refl _ _⟩
  · go_wp2_with fail
    refine (when_at true 9 9 _ rfl).mono ?_; rintro r w' ⟨rfl, rfl⟩
    go_wp2
    go_ret
    exact ⟨rfl, Below.refl _ _⟩
  · go_wp2_with fail
    refine (when_at false 9 0 _ rfl).mono ?_; rintro r w' ⟨rfl, rfl⟩
    go_wp2
    go_ret
    exact ⟨rfl, Below.refl _ _⟩
  · go_wp2_with fail
    refine (when_at true 9 9 _ rfl).mono ?_; rintro r w' ⟨rfl, rfl⟩
    go_wp2
    go_ret
    exact ⟨rfl, Below.refl _ _⟩
set_option maxRecDepth 100000 in
set_option maxHeartbeats 2000000 in
theorem may1_any (g : Nat) (A : Ar) (w : World) (hV : VarA w g A) (hF : FitA A) : Calls Tryz.prog 106 #[.pointer (some ⟨g, 0, none⟩)] w fun r w' => r = .returned (.int .i64 (chkA A)) ∧ Below w.heap.size w w' := by
  obtain ⟨qa, ra, xa, sa, ia, ka0, ka1, ka2⟩ := hV.open_
  have X := Kept.mk xa
  obtain ⟨c, hc⟩ : ∃ c, chkA A = c := ⟨_, rfl⟩
  rw [hc]
  have HC := Kept.mk hc
  clear xa sa ia hc
  go_enter Tryz.func106, Tryz.ntmps106
  go_wp2_with fail
  refine (w_check A c _ _ X.out hF HC.out).mono ?_; rintro r w' ⟨rfl, hb⟩
  clear X ka0 ka1 ka2
  go_wp2
  go_ret
  exact ⟨rfl, hb⟩
set_option maxRecDepth 100000 in
set_option maxHeartbeats 2000000 in
theorem arg1_any (g : Nat) (n : Int) (w : World) (hc : w.cell? ⟨g, 0, none⟩ = some (.int .i64 n)) : Calls Tryz.prog 67 #[.pointer (some ⟨g, 0, none⟩)] w fun r w' => r = .returned (.int .i64 (argE n)) ∧ Below w.heap.size w w' := by
  go_enter Tryz.func67, Tryz.ntmps67
  by_cases h1 : n = 0
  · have HE := Kept.mk (show argE n = 1 by unfold argE; rw [if_pos (.inl h1)])
    have h3 : (n == 0) = true := by simpa using h1
    clear h1
    go_wp2_with fail
    refine (when_at true 1 (argE n) _ (by rw [HE.out]; rfl)).mono ?_; rintro r w' ⟨rfl, rfl⟩
    go_wp2
    go_ret
    exact ⟨rfl, Below.refl _ _⟩
  · have h3 : (n == 0) = false := by simpa using h1
    by_cases h2 : 65535 < n
    · have HE := Kept.mk (show argE n = 1 by unfold argE; rw [if_pos (.inr (.inl h2))])
      clear h1
      go_wp2_with fail
      refine (when_at true 1 (argE n) _ (by rw [HE.out]; rfl)).mono ?_; rintro r w' ⟨rfl, rfl⟩
      go_wp2
      go_ret
      exact ⟨rfl, Below.refl _ _⟩
    · by_cases h4 : n < -65535
      · have HE := Kept.mk (show argE n = 1 by unfold argE; rw [if_pos (.inr (.inr h4))])
        clear h1
        go_wp2_with fail
        refine (when_at true 1 (argE n) _ (by rw [HE.out]; rfl)).mono ?_; rintro r w' ⟨rfl, rfl⟩
        go_wp2
        go_ret
        exact ⟨rfl, Below.refl _ _⟩
      · have HE := Kept.mk (show argE n = 0 by unfold argE; rw [if_neg (by omega)])
        clear h1
        go_wp2_with fail
        refine (when_at false 1 (argE n) _ (by rw [HE.out]; rfl)).mono ?_; rintro r w' ⟨rfl, rfl⟩
        go_wp2
        go_ret
        exact ⟨rfl, Below.refl _ _⟩
end Go.Proofs.YtbgconagkgfplaaGreat
end
section
namespace Go.Proofs.YtbgconagkgfplaaGreat
open Go.RowKit
set_option linter.unusedVariables false
set_option linter.unusedSimpArgs false
attribute [local irreducible] setN

theorem cell_box (w : World) (x : Value) (t : TypeId) : (w.alloc (.cells #[x] t)).cell? ⟨w.heap.size, 0, none⟩ = some x := by rw [World.cell?_alloc_new]; rfl
set_option maxRecDepth 100000 in
set_option maxHeartbeats 2000000 in
theorem isNode_any (node : Int) (w : World)  : Calls Tryz.prog 55 #[.int .i64 node] w fun r w' => ∃ v', r = .returned v' ∧ isChk (nodeE node) v' w' ∧ Below w.heap.size w w' := by
  have hB : Below w.heap.size w (w.alloc (.cells #[.int .i64 node] 3)) := (Below.refl _ _).alloc (Nat.le_refl _) _
  have hc := cell_box w (.int .i64 node) 3
  go_enter Tryz.func55, Tryz.ntmps55
  go_wp2
  go_ret
  exact ⟨_, rfl, ⟨107, #[.pointer (some ⟨w.heap.size, 0, none⟩)], rfl, enters_of Tryz.func107 (by kernel_rfl) rfl, fun w' hb => node1_any w.heap.size node w' ((hb.cell (p := ⟨w.heap.size, 0, none⟩) (by simp)).trans hc)⟩, hB⟩
set_option maxRecDepth 100000 in
set_option maxHeartbeats 2000000 in
theorem isKey_any (key : List UInt8) (w : World) (hk : key.length ≤ 1000) : Calls Tryz.prog 56 #[.string ⟨key.toArray⟩] w fun r w' => ∃ v', r = .returned v' ∧ isChk (keyE key) v' w' ∧ Below w.heap.size w w' := by
  have hB : Below w.heap.size w (w.alloc (.cells #[.string ⟨key.toArray⟩] 9)) := (Below.refl _ _).alloc (Nat.le_refl _) _
  have hc := cell_box w (.string ⟨key.toArray⟩) 9
  go_enter Tryz.func56, Tryz.ntmps56
  go_wp2
  go_ret
  exact ⟨_, rfl, ⟨108, #[.pointer (some ⟨w.heap.size, 0, none⟩)], rfl, enters_of Tryz.func108 (by kernel_rfl) rfl, fun w' hb => key1_any w.heap.size key w' ((hb.cell (p := ⟨w.heap.size, 0, none⟩) (by simp)).trans hc) hk⟩, hB⟩
set_option maxRecDepth 100000 in
set_option maxHeartbeats 2000000 in
theorem mayBe_any (A : Ar) (v : Value) (w : World) (hv : isAr A v w) (hF : FitA A) : Calls Tryz.prog 54 #[v] w fun r w' => ∃ v', r = .returned v' ∧ isChk (chkA A) v' w' ∧ Below w.heap.size w w' := by
  obtain ⟨vs, vi, rfl, hs, hi⟩ := hv
  obtain ⟨hB, V⟩ := abox w A vs vi hs hi w.heap.size rfl
  clear hs hi
  go_enter Tryz.func54, Tryz.ntmps54
  go_wp2
  go_ret
  exact ⟨_, rfl, ⟨106, #[.pointer (some ⟨w.heap.size, 0, none⟩)], rfl, enters_of Tryz.func106 (by kernel_rfl) rfl, fun w' hb => may1_any w.heap.size A w' (V.out.keep hb) hF⟩, hB.out⟩
set_option maxRecDepth 100000 in
set_option maxHeartbeats 2000000 in
theorem hasRoom_any (A : Ar) (is : Bool) (v : Value) (w : World) (hv : isAr A v w) (hF : FitA A) : Calls Tryz.prog 59 #[v, .bool is] w fun r w' => ∃ v', r = .returned v' ∧ isChk (roomE A is) v' w' ∧ Below w.heap.size w w' := by
  obtain ⟨vs, vi, rfl, hs, hi⟩ := hv
  obtain ⟨hB, V⟩ := abox w A vs vi hs hi w.heap.size rfl
  clear hs hi
  have hB2 := lit_below (w.alloc (.cells #[.int .i64 A.cap, vs, vi] 25)) (.cells #[.bool is] 4)
  have hc := cell_box (w.alloc (.cells #[.int .i64 A.cap, vs, vi] 25)) (.bool is) 4
  rw [show (w.alloc (.cells #[.int .i64 A.cap, vs, vi] 25)).heap.size = w.heap.size + 1 by simp] at hc
  have V2 := Kept.mk (V.out.keep hB2)
  have hB3 := Kept.mk (hB.out.trans (hB2.mono hB.out.size))
  have hs2 : ((w.alloc (.cells #[.int .i64 A.cap, vs, vi] 25)).alloc (.cells #[.bool is] 4)).heap.size = w.heap.size + 2 := by simp
  clear V hB hB2
  go_enter Tryz.func59, Tryz.ntmps59
  go_wp2
  go_ret
  exact ⟨_, rfl, ⟨109, #[.pointer (some ⟨w.heap.size + 1, 0, none⟩), .pointer (some ⟨w.heap.size, 0, none⟩)], rfl, enters_of Tryz.func109 (by kernel_rfl) rfl, fun w' hb => room1_any (w.heap.size + 1) w.heap.size A is w' (V2.out.keep hb) ((hb.cell (p := ⟨w.heap.size + 1, 0, none⟩) (by rw [hs2]; show w.heap.size + 1 < _; omega)).trans hc) hF⟩, hB3.out⟩
set_option maxRecDepth 100000 in
set_option maxHeartbeats 2000000 in
theorem hasTime_any (A : Va) (v : Value) (w : World) (hv : isVa A v w) : Calls Tryz.prog 60 #[v] w fun r w' => ∃ v', r = .returned v' ∧ isChk (timeE A) v' w' ∧ Below w.heap.size w w' := by
  obtain ⟨vp, vm, rfl, hp, hm⟩ := hv
  obtain ⟨hB, V⟩ := vbox w A vp vm hp hm w.heap.size rfl
  clear hp hm
  rw [timeE_eq]
  go_enter Tryz.func60, Tryz.ntmps60
  go_wp2
  go_ret
  exact ⟨_, rfl, ⟨110, #[.pointer (some ⟨w.heap.size, 0, none⟩)], rfl, enters_of Tryz.func110 (by kernel_rfl) rfl, fun w' hb => by
    obtain ⟨q, r, _, _, _, _, k1, _⟩ := (V.out.keep hb).open_
    exact time1_any w.heap.size A.time w' k1⟩, hB.out⟩
/-- A slice of checks. -/
def isChks (es : List Int) : VP := fun v w => ∃ b cap, v = .slice (some ⟨b, 0, none⟩) es.length cap ∧ b < w.heap.size ∧ ∀ j e, es[j]? = some e → ∃ x, w.cell? ⟨b, j, none⟩ = some x ∧ isChk e x w
theorem stable_chks (es : List Int) : Stable (isChks es) := fun v w w' ⟨b, cap, h1, h2, h3⟩ hb => ⟨b, cap, h1, Nat.lt_of_lt_of_le h2 hb.size, fun j e he => by
  obtain ⟨x, hx, hc⟩ := h3 j e he
  exact ⟨x, (hb.cell (p := ⟨b, j, none⟩) h2).trans hx, stable_chk e _ _ _ hc hb⟩⟩
theorem first_drop {es : List Int} {k : Nat} {e : Int} (h : es[k]? = some e) : firstE (es.drop k) = if e = 0 then firstE (es.drop (k + 1)) else e := by
  obtain ⟨hk, he⟩ := List.getElem?_eq_some_iff.1 h
  rw [List.drop_eq_getElem_cons hk, he]; rfl
set_option maxRecDepth 100000 in
set_option maxHeartbeats 2000000 in
theorem refusal_any (es : List Int) (v : Value) (w : World) (hv : isChks es v w) (hl : es.length ≤ 100) : Calls Tryz.prog 53 #[v] w fun r w' => r = .returned (.int .i64 (firstE es)) ∧ Below w.heap.size w w' := by
  obtain ⟨b, cap, rfl, hb0, hc⟩ := hv
  have HC := Kept.mk hc
  clear hc
  obtain ⟨z, hz⟩ : ∃ z, firstE es = z := ⟨_, rfl⟩
  rw [hz]
  have HZ := Kept.mk hz
  clear hz
  generalize hn : es.length = n at hl
  have HN := Kept.mk hn
  clear hn
  go_enter Tryz.func53, Tryz.ntmps53
  go_wp2
  go_loopw [8] (fun i wr => ∃ k : Nat, k ≤ n ∧ i = .int .i64 (k : Int) ∧ Kept (Below w.heap.size w wr) ∧ Kept (firstE (es.drop k) = z)) (fun i _ => n - (intOf i).toNat)
  case atStart => exact ⟨0, Nat.zero_le _, rfl, ⟨Below.refl _ _⟩, ⟨by rw [List.drop_zero]; exact HZ.out⟩⟩
  case round =>
    obtain ⟨k, hk, rfl, B, A⟩ := hrel
    by_cases hlt : k < n
    · have hlt' : (k : Int) < (n : Int) := by omega
      obtain ⟨e, he⟩ : ∃ e, es[k]? = some e := ⟨_, List.getElem?_eq_getElem (by rw [HN.out]; exact hlt)⟩
      obtain ⟨x, hx, f, caps, rfl, eg, hcall⟩ := HC.out k e he
      have hx' := (B.out.cell (p := ⟨b, k, none⟩) hb0).trans hx
      have HF := Kept.mk (first_drop he)
      have CL := Kept.mk hcall
      clear hx hcall he
      have eg' : ∀ args w, (callFunc f args).run Tryz.prog w = .ok (.enter f args) w := eg
      clear eg
      go_wp2_with fail
      refine (CL.out _ B.out).mono ?_
      rintro r W1 ⟨rfl, hb⟩
      replace B := Kept.mk (B.out.trans (hb.mono B.out.size))
      clear hb hx' CL eg'
      by_cases h0 : e = 0
      · have HA := Kept.mk (show firstE (es.drop (k + 1)) = z by have := HF.out; rw [if_pos h0] at this; rw [← this]; exact A.out)
        subst h0
        clear HF
        go_wp2
        go_roundw
        case rel => exact ⟨k + 1, by omega, by go_num, B, HA⟩
        case measure => simp [intOf]; omega
      · have HA := Kept.mk (show e = z by have := HF.out; rw [if_neg h0] at this; rw [← this]; exact A.out)
        clear HF
        go_wp2
        go_ret
        exact ⟨by rw [HA.out]; rfl, B.out⟩
    · have hlt' : ¬ (k : Int) < (n : Int) := by omega
      have HA := Kept.mk (show z = 0 by rw [← A.out, List.drop_eq_nil_of_le (by rw [HN.out]; omega)]; rfl)
      go_wp2
      go_ret
      exact ⟨by rw [HA.out]; rfl, B.out⟩
section
variable {ops : Array Oper} {base : World} {a0 : Act} {Q : Exit → Act → World → Prop} {kn : Nat → VP} {i : Nat}
theorem step_clos1 (f : FuncId) (x : Operand) (c : Value) (e : Int) (hop : (ops[i]?).map (·.op) = some (.makeFunc (.func f) #[] #[x])) (hw : Wanted ops a0 kn i) (hx : Knows ops a0 kn i x (isVal c)) (he : isChk e (.func (.func f) #[] #[c]) base) : FStep Tryz.prog ops base a0 Q kn i (isChk e) :=
  step_mk (stable_chk e) hw fun o ho a w hk hb hd => by
    have e1 : a.eval x = c := hx a w hk hd
    unfold Oper.wp execOp
    rw [op_of hop ho]
    simp only [List.map_toArray, List.map_cons, List.map_nil, e1, Instr.makeFunc, Sem.run_bind, Sem.run_pure, Result.andThen_ok, Oper.upon]
    exact ⟨_, rfl, stable_chk e _ _ _ he hb, Below.refl _ _⟩
theorem step_clos2 (f : FuncId) (x y : Operand) (c d : Value) (e : Int) (hop : (ops[i]?).map (·.op) = some (.makeFunc (.func f) #[] #[x, y])) (hw : Wanted ops a0 kn i) (hx : Knows ops a0 kn i x (isVal c)) (hy : Knows ops a0 kn i y (isVal d)) (he : isChk e (.func (.func f) #[] #[c, d]) base) : FStep Tryz.prog ops base a0 Q kn i (isChk e) :=
  step_mk (stable_chk e) hw fun o ho a w hk hb hd => by
    have e1 : a.eval x = c := hx a w hk hd
    have e2 : a.eval y = d := hy a w hk hd
    unfold Oper.wp execOp
    rw [op_of hop ho]
    simp only [List.map_toArray, List.map_cons, List.map_nil, e1, e2, Instr.makeFunc, Sem.run_bind, Sem.run_pure, Result.andThen_ok, Oper.upon]
    exact ⟨_, rfl, stable_chk e _ _ _ he hb, Below.refl _ _⟩
theorem step_chks3 (t e : TypeId) (x0 x1 x2 : Operand) (e0 e1 e2 : Int) (ie : TypeInfo) (hop : (ops[i]?).map (·.op) = some (.buildSlice t 3 #[(0, x0), (1, x1), (2, x2)])) (hw : Wanted ops a0 kn i)
    (h0 : Knows ops a0 kn i x0 (isChk e0)) (h1 : Knows ops a0 kn i x1 (isChk e1)) (h2 : Knows ops a0 kn i x2 (isChk e2))
    (hu : Tryz.prog.underlying t = some (.slice e)) (hie : Tryz.prog.info? e = some ie) (hz : ie.zero = some .nilFunc) (hsz : ie.size = 1) : FStep Tryz.prog ops base a0 Q kn i (isChks [e0, e1, e2]) :=
  step_mk (stable_chks _) hw fun o ho a w hk hb hd => by
    have c0 := h0 a w hk hd
    obtain ⟨f0, p0, q0, r0⟩ := id c0
    have c1 := h1 a w hk hd
    obtain ⟨f1, p1, q1, r1⟩ := id c1
    have c2 := h2 a w hk hd
    obtain ⟨f2, p2, q2, r2⟩ := id c2
    have hf : Instr.fill (fun i => some (i * ie.size, ie.size)) ((Array.range (3 * ie.size)).map (Value.nilFunc.cells[· % Value.nilFunc.cells.size]!)) ((#[(0, x0), (1, x1), (2, x2)] : Array (Nat × Operand)).map fun (i, x) => (i, a.eval x)).toList = some #[a.eval x0, a.eval x1, a.eval x2] := by
      have e1 : ((#[(0, x0), (1, x1), (2, x2)] : Array (Nat × Operand)).map fun (i, x) => (i, a.eval x)).toList = (([a.eval x0, a.eval x1, a.eval x2] : List Value).zipIdx 0).map fun x => (x.2, x.1) := by simp
      rw [e1, hsz, Great.fill_flat _ _ (fun v hv => by simp only [List.mem_cons, List.not_mem_nil, or_false] at hv; rcases hv with rfl | rfl | rfl <;> first | (rw [q0]; rfl) | (rw [q1]; rfl) | (rw [q2]; rfl)) (by simp)]
    refine wp_buildSlice t e 3 _ (op_of hop ho) _ ie .nilFunc hu hie hz (by rw [hsz]; omega) (by rw [hsz]; omega) hf ?_
    have hb' : Below w.heap.size w (w.alloc (.cells #[a.eval x0, a.eval x1, a.eval x2] e)) := (Below.refl _ _).alloc (Nat.le_refl _) _
    refine ⟨_, rfl, ⟨w.heap.size, 3, rfl, by simp, fun j v hv => ?_⟩, hb'⟩
    rw [World.cell?_alloc_new]
    match j, hv with
    | 0, hv => obtain rfl : e0 = v := Option.some.inj hv; exact ⟨_, rfl, stable_chk _ _ _ _ c0 hb'⟩
    | 1, hv => obtain rfl : e1 = v := Option.some.inj hv; exact ⟨_, rfl, stable_chk _ _ _ _ c1 hb'⟩
    | 2, hv => obtain rfl : e2 = v := Option.some.inj hv; exact ⟨_, rfl, stable_chk _ _ _ _ c2 hb'⟩
    | m + 3, hv => simp at hv
theorem step_chks5 (t e : TypeId) (x0 x1 x2 x3 x4 : Operand) (e0 e1 e2 e3 e4 : Int) (ie : TypeInfo) (hop : (ops[i]?).map (·.op) = some (.buildSlice t 5 #[(0, x0), (1, x1), (2, x2), (3, x3), (4, x4)])) (hw : Wanted ops a0 kn i)
    (h0 : Knows ops a0 kn i x0 (isChk e0)) (h1 : Knows ops a0 kn i x1 (isChk e1)) (h2 : Knows ops a0 kn i x2 (isChk e2)) (h3 : Knows ops a0 kn i x3 (isChk e3)) (h4 : Knows ops a0 kn i x4 (isChk e4))
    (hu : Tryz.prog.underlying t = some (.slice e)) (hie : Tryz.prog.info? e = some ie) (hz : ie.zero = some .nilFunc) (hsz : ie.size = 1) : FStep Tryz.prog ops base a0 Q kn i (isChks [e0, e1, e2, e3, e4]) :=
  step_mk (stable_chks _) hw fun o ho a w hk hb hd => by
    have c0 := h0 a w hk hd
    obtain ⟨f0, p0, q0, r0⟩ := id c0
    have c1 := h1 a w hk hd
    obtain ⟨f1, p1, q1, r1⟩ := id c1
    have c2 := h2 a w hk hd
    obtain ⟨f2, p2, q2, r2⟩ := id c2
    have c3 := h3 a w hk hd
    obtain ⟨f3, p3, q3, r3⟩ := id c3
    have c4 := h4 a w hk hd
    obtain ⟨f4, p4, q4, r4⟩ := id c4
    have hf : Instr.fill (fun i => some (i * ie.size, ie.size)) ((Array.range (5 * ie.size)).map (Value.nilFunc.cells[· % Value.nilFunc.cells.size]!)) ((#[(0, x0), (1, x1), (2, x2), (3, x3), (4, x4)] : Array (Nat × Operand)).map fun (i, x) => (i, a.eval x)).toList = some #[a.eval x0, a.eval x1, a.eval x2, a.eval x3, a.eval x4] := by
      have e1 : ((#[(0, x0), (1, x1), (2, x2), (3, x3), (4, x4)] : Array (Nat × Operand)).map fun (i, x) => (i, a.eval x)).toList = (([a.eval x0, a.eval x1, a.eval x2, a.eval x3, a.eval x4] : List Value).zipIdx 0).map fun x => (x.2, x.1) := by simp
      rw [e1, hsz, Great.fill_flat _ _ (fun v hv => by simp only [List.mem_cons, List.not_mem_nil, or_false] at hv; rcases hv with rfl | rfl | rfl | rfl | rfl <;> first | (rw [q0]; rfl) | (rw [q1]; rfl) | (rw [q2]; rfl) | (rw [q3]; rfl) | (rw [q4]; rfl)) (by simp)]
    refine wp_buildSlice t e 5 _ (op_of hop ho) _ ie .nilFunc hu hie hz (by rw [hsz]; omega) (by rw [hsz]; omega) hf ?_
    have hb' : Below w.heap.size w (w.alloc (.cells #[a.eval x0, a.eval x1, a.eval x2, a.eval x3, a.eval x4] e)) := (Below.refl _ _).alloc (Nat.le_refl _) _
    refine ⟨_, rfl, ⟨w.heap.size, 5, rfl, by simp, fun j v hv => ?_⟩, hb'⟩
    rw [World.cell?_alloc_new]
    match j, hv with
    | 0, hv => obtain rfl : e0 = v := Option.some.inj hv; exact ⟨_, rfl, stable_chk _ _ _ _ c0 hb'⟩
    | 1, hv => obtain rfl : e1 = v := Option.some.inj hv; exact ⟨_, rfl, stable_chk _ _ _ _ c1 hb'⟩
    | 2, hv => obtain rfl : e2 = v := Option.some.inj hv; exact ⟨_, rfl, stable_chk _ _ _ _ c2 hb'⟩
    | 3, hv => obtain rfl : e3 = v := Option.some.inj hv; exact ⟨_, rfl, stable_chk _ _ _ _ c3 hb'⟩
    | 4, hv => obtain rfl : e4 = v := Option.some.inj hv; exact ⟨_, rfl, stable_chk _ _ _ _ c4 hb'⟩
    | m + 5, hv => simp at hv
theorem step_chks6 (t e : TypeId) (x0 x1 x2 x3 x4 x5 : Operand) (e0 e1 e2 e3 e4 e5 : Int) (ie : TypeInfo) (hop : (ops[i]?).map (·.op) = some (.buildSlice t 6 #[(0, x0), (1, x1), (2, x2), (3, x3), (4, x4), (5, x5)])) (hw : Wanted ops a0 kn i)
    (h0 : Knows ops a0 kn i x0 (isChk e0)) (h1 : Knows ops a0 kn i x1 (isChk e1)) (h2 : Knows ops a0 kn i x2 (isChk e2)) (h3 : Knows ops a0 kn i x3 (isChk e3)) (h4 : Knows ops a0 kn i x4 (isChk e4)) (h5 : Knows ops a0 kn i x5 (isChk e5))
    (hu : Tryz.prog.underlying t = some (.slice e)) (hie : Tryz.prog.info? e = some ie) (hz : ie.zero = some .nilFunc) (hsz : ie.size = 1) : FStep Tryz.prog ops base a0 Q kn i (isChks [e0, e1, e2, e3, e4, e5]) :=
  step_mk (stable_chks _) hw fun o ho a w hk hb hd => by
    have c0 := h0 a w hk hd
    obtain ⟨f0, p0, q0, r0⟩ := id c0
    have c1 := h1 a w hk hd
    obtain ⟨f1, p1, q1, r1⟩ := id c1
    have c2 := h2 a w hk hd
    obtain ⟨f2, p2, q2, r2⟩ := id c2
    have c3 := h3 a w hk hd
    obtain ⟨f3, p3, q3, r3⟩ := id c3
    have c4 := h4 a w hk hd
    obtain ⟨f4, p4, q4, r4⟩ := id c4
    have c5 := h5 a w hk hd
    obtain ⟨f5, p5, q5, r5⟩ := id c5
    have hf : Instr.fill (fun i => some (i * ie.size, ie.size)) ((Array.range (6 * ie.size)).map (Value.nilFunc.cells[· % Value.nilFunc.cells.size]!)) ((#[(0, x0), (1, x1), (2, x2), (3, x3), (4, x4), (5, x5)] : Array (Nat × Operand)).map fun (i, x) => (i, a.eval x)).toList = some #[a.eval x0, a.eval x1, a.eval x2, a.eval x3, a.eval x4, a.eval x5] := by
      have e1 : ((#[(0, x0), (1, x1), (2, x2), (3, x3), (4, x4), (5, x5)] : Array (Nat × Operand)).map fun (i, x) => (i, a.eval x)).toList = (([a.eval x0, a.eval x1, a.eval x2, a.eval x3, a.eval x4, a.eval x5] : List Value).zipIdx 0).map fun x => (x.2, x.1) := by simp
      rw [e1, hsz, Great.fill_flat _ _ (fun v hv => by simp only [List.mem_cons, List.not_mem_nil, or_false] at hv; rcases hv with rfl | rfl | rfl | rfl | rfl | rfl <;> first | (rw [q0]; rfl) | (rw [q1]; rfl) | (rw [q2]; rfl) | (rw [q3]; rfl) | (rw [q4]; rfl) | (rw [q5]; rfl)) (by simp)]
    refine wp_buildSlice t e 6 _ (op_of hop ho) _ ie .nilFunc hu hie hz (by rw [hsz]; omega) (by rw [hsz]; omega) hf ?_
    have hb' : Below w.heap.size w (w.alloc (.cells #[a.eval x0, a.eval x1, a.eval x2, a.eval x3, a.eval x4, a.eval x5] e)) := (Below.refl _ _).alloc (Nat.le_refl _) _
    refine ⟨_, rfl, ⟨w.heap.size, 6, rfl, by simp, fun j v hv => ?_⟩, hb'⟩
    rw [World.cell?_alloc_new]
    match j, hv with
    | 0, hv => obtain rfl : e0 = v := Option.some.inj hv; exact ⟨_, rfl, stable_chk _ _ _ _ c0 hb'⟩
    | 1, hv => obtain rfl : e1 = v := Option.some.inj hv; exact ⟨_, rfl, stable_chk _ _ _ _ c1 hb'⟩
    | 2, hv => obtain rfl : e2 = v := Option.some.inj hv; exact ⟨_, rfl, stable_chk _ _ _ _ c2 hb'⟩
    | 3, hv => obtain rfl : e3 = v := Option.some.inj hv; exact ⟨_, rfl, stable_chk _ _ _ _ c3 hb'⟩
    | 4, hv => obtain rfl : e4 = v := Option.some.inj hv; exact ⟨_, rfl, stable_chk _ _ _ _ c4 hb'⟩
    | 5, hv => obtain rfl : e5 = v := Option.some.inj hv; exact ⟨_, rfl, stable_chk _ _ _ _ c5 hb'⟩
    | m + 6, hv => simp at hv
end
end Go.Proofs.YtbgconagkgfplaaGreat
end
section
namespace Go.Proofs.YtbgconagkgfplaaGreat
open Go.RowKit
set_option linter.unusedVariables false
set_option linter.unusedSimpArgs false
attribute [local irreducible] setN

theorem find_range {A : Ar} {x : En} (h : 0 ≤ findI A x) : ∃ q : Nat, findI A x = (q : Int) ∧ q < A.slots.length ∧ A.slots[q]? = some (slotAt A.slots (findI A x)) ∧ okE (slotAt A.slots (findI A x)) = true := by
  unfold findI at h
  cases ho : okA A with
  | false => rw [ho] at h; simp at h
  | true =>
    have hA := okA_iff.1 ho
    cases hh : hitB (ordA A) x with
    | false => rw [ho, hh] at h; simp at h
    | true =>
      obtain ⟨p1, _, _, _⟩ := place_spec hA hh
      have e := find_hit hA hh
      have hs := slot_spec hA hh
      refine ⟨(placeI A x).toNat, by rw [e]; omega, by omega, ?_, ?_⟩
      · rw [e]; exact hs.2.2.2
      · rw [e]; exact hs.2.1
theorem ga_findk (A : Ar) (kind : Int) (key : List UInt8) (p : Int) (v : Value) (w : World) (hv : isAr A v w) (hF : FitA A) (hp : findI A (nameE kind key) = p) : Calls Tryz.prog 40 #[v, .int .i64 kind, .string ⟨key.toArray⟩] w fun e w' => e = .returned (.int .i64 p) ∧ Below w.heap.size w w' := by
  subst hp; exact find_any A kind key v w hv hF
set_option maxRecDepth 100000 in
set_option maxHeartbeats 2000000 in
theorem text1_any (V : Va) (v : Value) (w : World) (hv : isVa V v w) : Calls Tryz.prog 74 #[v] w fun e w' => e = .returned (.tuple #[.string ⟨V.text.toArray⟩, .bool (!V.dead)]) ∧ Below w.heap.size w w' := by
  obtain ⟨vp, vm, rfl, hp, hm⟩ := hv
  obtain ⟨hB, V1⟩ := vbox w V vp vm hp hm w.heap.size rfl
  clear hp hm
  obtain ⟨q, r, _, _, _, k0, k1, k2, k3, k4, k5, k6, k7⟩ := V1.out.open_
  go_enter Tryz.func74, Tryz.ntmps74
  go_wp2_with fail
  go_region
  all_goals go_wp2
  all_goals go_ret2
  all_goals exact ⟨rfl, hB.out.drew⟩
set_option maxRecDepth 100000 in
set_option maxHeartbeats 2000000 in
theorem sum1_any (V : Va) (v : Value) (w : World) (hv : isVa V v w) (hF : Fit V) : Calls Tryz.prog 76 #[v] w fun e w' => e = .returned (.tuple #[.int .i64 (sumN V), .bool true]) ∧ Below w.heap.size w w' := by
  obtain ⟨vp, vm, rfl, hp, hm⟩ := hv
  obtain ⟨hB, V1⟩ := vbox w V vp vm hp hm w.heap.size rfl
  clear hp hm
  obtain ⟨q, r, x, _, _, k0, k1, k2, k3, k4, k5, k6, k7⟩ := V1.out.open_
  have X := Kept.mk x
  clear x
  obtain ⟨z, hz⟩ : ∃ z, sumN V = z := ⟨_, rfl⟩
  rw [hz]
  have HZ := Kept.mk hz
  clear hz
  go_enter Tryz.func76, Tryz.ntmps76
  go_wp2_with fail
  refine (vsum_any V _ _ X.out hF).mono ?_
  rintro e W1 ⟨rfl, hb⟩
  rw [HZ.out]
  replace hB := Kept.mk (hB.out.trans (hb.mono hB.out.size))
  clear hb X k0 k1 k2 k3 k4 k5 k6 k7
  go_wp2
  go_ret2
  exact ⟨rfl, hB.out⟩
set_option maxRecDepth 100000 in
set_option maxHeartbeats 2000000 in
theorem flags1_any (V : Va) (v : Value) (w : World) (hv : isVa V v w) : Calls Tryz.prog 80 #[v] w fun e w' => e = .returned (.tuple #[.int .u64 (V.flags.toNat : Int), .bool true]) ∧ Below w.heap.size w w' := by
  obtain ⟨vp, vm, rfl, hp, hm⟩ := hv
  obtain ⟨hB, V1⟩ := vbox w V vp vm hp hm w.heap.size rfl
  clear hp hm
  obtain ⟨q, r, _, _, _, k0, k1, k2, k3, k4, k5, k6, k7⟩ := V1.out.open_
  go_enter Tryz.func80, Tryz.ntmps80
  go_wp2
  go_ret2
  exact ⟨rfl, hB.out⟩
set_option maxRecDepth 100000 in
set_option maxHeartbeats 2000000 in
theorem readT_any (A : Ar) (key : List UInt8) (v : Value) (w : World) (hv : isAr A v w) (hF : FitA A) : Calls Tryz.prog 73 #[v, .int .i64 1, .string ⟨key.toArray⟩, .func (.func 74) #[] #[]] w fun e w' => e = .returned (.tuple #[.string ⟨(textT A key).toArray⟩, .bool (textB A key)]) ∧ Below w.heap.size w w' := by
  obtain ⟨pa, ma, rfl, hpa, hma⟩ := hv
  obtain ⟨hB, Va⟩ := abox w A pa ma hpa hma (w.heap.size) (by simp)
  clear hpa hma
  obtain ⟨p, hp⟩ : ∃ p, findI A (nameE 1 key) = p := ⟨_, rfl⟩
  have HP := Kept.mk hp
  have eg : ∀ args w, (callFunc 74 args).run Tryz.prog w = .ok (.enter 74 args) w := enters_of Tryz.func74 (by kernel_rfl) rfl
  go_enter Tryz.func73, Tryz.ntmps73
  obtain ⟨qa, ra, xa, sa, ia, ka0, ka1, ka2⟩ := Va.out.open_
  have Xa := Kept.mk xa
  have Sa := Kept.mk sa
  have Ia := Kept.mk ia
  clear xa sa ia
  go_wp2_with fail
  ((with_reducible refine (ga_findk A 1 key p _ _ Xa.out hF HP.out).mono ?_); rintro e W1 ⟨rfl, hb1⟩)
  clear Xa Sa Ia ka0 ka1 ka2
  replace hB := Kept.mk (hB.out.trans ((hb1).mono hB.out.size))
  replace Va := Kept.mk (Va.out.keep (hb1))
  clear hb1
  by_cases h0 : p < 0
  · have HB := Kept.mk (show heldB A 1 key = false by unfold heldB; rw [hp]; exact decide_eq_false (by omega))
    clear hp
    go_wp2
    go_ret2
    exact ⟨by unfold textT textB; rw [HB.out]; rfl, hB.out⟩
  · have hp0 : 0 ≤ findI A (nameE 1 key) := by rw [hp]; omega
    have HB := Kept.mk (show heldB A 1 key = true by unfold heldB; exact decide_eq_true hp0)
    have HV := Kept.mk (show heldV A 1 key = (slotAt A.slots (findI A (nameE 1 key))).val by unfold heldV; rw [if_pos hp0])
    obtain ⟨q, hq, hql, hqs, hqo⟩ := find_range hp0
    rw [hp] at hq
    subst hq
    generalize slotAt A.slots (findI A (nameE 1 key)) = E at hqs hqo HV
    obtain ⟨qa, ra, xa, sa, ia, ka0, ka1, ka2⟩ := Va.out.open_
    have Xa := Kept.mk xa
    have Sa := Kept.mk sa
    have Ia := Kept.mk ia
    clear xa sa ia
    have hl := hF.slots
    obtain ⟨b, off, cap, rfl, hbl, hEl⟩ := Sa.out.get hqs
    obtain ⟨qe, re, xe, ye, ke0, ke1, ke2, ke3, ke4, ke5, ke6, ke7, ke8⟩ := hEl.open_
    have YE := Kept.mk ye
    have FE := Kept.mk (ok_fit' hqo).val
    have hq1 : (q : Int) < (A.slots.length : Int) := by omega
    generalize A.slots.length = n at *
    clear xe ye hEl hqs hqo hp0 hp Sa Ia Xa
    go_wp2_with fail
    refine (text1_any E.val _ _ YE.out).mono ?_
    rintro e W3 ⟨rfl, hb⟩
    replace hB := Kept.mk (hB.out.trans (hb.mono hB.out.size))
    clear hb YE
    go_wp2
    go_ret2
    exact ⟨by unfold textT textB; rw [HB.out, HV.out]; rfl, hB.out⟩
set_option maxRecDepth 100000 in
set_option maxHeartbeats 2000000 in
theorem readS_any (A : Ar) (key : List UInt8) (v : Value) (w : World) (hv : isAr A v w) (hF : FitA A) : Calls Tryz.prog 75 #[v, .int .i64 2, .string ⟨key.toArray⟩, .func (.func 76) #[] #[]] w fun e w' => e = .returned (.tuple #[.int .i64 (sumT A key), .bool (heldB A 2 key)]) ∧ Below w.heap.size w w' := by
  obtain ⟨pa, ma, rfl, hpa, hma⟩ := hv
  obtain ⟨hB, Va⟩ := abox w A pa ma hpa hma (w.heap.size) (by simp)
  clear hpa hma
  obtain ⟨p, hp⟩ : ∃ p, findI A (nameE 2 key) = p := ⟨_, rfl⟩
  have HP := Kept.mk hp
  have eg : ∀ args w, (callFunc 76 args).run Tryz.prog w = .ok (.enter 76 args) w := enters_of Tryz.func76 (by kernel_rfl) rfl
  go_enter Tryz.func75, Tryz.ntmps75
  obtain ⟨qa, ra, xa, sa, ia, ka0, ka1, ka2⟩ := Va.out.open_
  have Xa := Kept.mk xa
  have Sa := Kept.mk sa
  have Ia := Kept.mk ia
  clear xa sa ia
  go_wp2_with fail
  ((with_reducible refine (ga_findk A 2 key p _ _ Xa.out hF HP.out).mono ?_); rintro e W1 ⟨rfl, hb1⟩)
  clear Xa Sa Ia ka0 ka1 ka2
  replace hB := Kept.mk (hB.out.trans ((hb1).mono hB.out.size))
  replace Va := Kept.mk (Va.out.keep (hb1))
  clear hb1
  by_cases h0 : p < 0
  · have HB := Kept.mk (show heldB A 2 key = false by unfold heldB; rw [hp]; exact decide_eq_false (by omega))
    clear hp
    go_wp2
    go_ret2
    exact ⟨by unfold sumT; rw [HB.out]; rfl, hB.out⟩
  · have hp0 : 0 ≤ findI A (nameE 2 key) := by rw [hp]; omega
    have HB := Kept.mk (show heldB A 2 key = true by unfold heldB; exact decide_eq_true hp0)
    have HV := Kept.mk (show heldV A 2 key = (slotAt A.slots (findI A (nameE 2 key))).val by unfold heldV; rw [if_pos hp0])
    obtain ⟨q, hq, hql, hqs, hqo⟩ := find_range hp0
    rw [hp] at hq
    subst hq
    generalize slotAt A.slots (findI A (nameE 2 key)) = E at hqs hqo HV
    obtain ⟨qa, ra, xa, sa, ia, ka0, ka1, ka2⟩ := Va.out.open_
    have Xa := Kept.mk xa
    have Sa := Kept.mk sa
    have Ia := Kept.mk ia
    clear xa sa ia
    have hl := hF.slots
    obtain ⟨b, off, cap, rfl, hbl, hEl⟩ := Sa.out.get hqs
    obtain ⟨qe, re, xe, ye, ke0, ke1, ke2, ke3, ke4, ke5, ke6, ke7, ke8⟩ := hEl.open_
    have YE := Kept.mk ye
    have FE := Kept.mk (ok_fit' hqo).val
    have hq1 : (q : Int) < (A.slots.length : Int) := by omega
    generalize A.slots.length = n at *
    clear xe ye hEl hqs hqo hp0 hp Sa Ia Xa
    go_wp2_with fail
    refine (sum1_any E.val _ _ YE.out FE.out).mono ?_
    rintro e W3 ⟨rfl, hb⟩
    replace hB := Kept.mk (hB.out.trans (hb.mono hB.out.size))
    clear hb YE
    go_wp2
    go_ret2
    exact ⟨by unfold sumT; rw [HB.out, HV.out]; rfl, hB.out⟩
set_option maxRecDepth 100000 in
set_option maxHeartbeats 2000000 in
theorem readF_any (A : Ar) (key : List UInt8) (v : Value) (w : World) (hv : isAr A v w) (hF : FitA A) : Calls Tryz.prog 79 #[v, .int .i64 3, .string ⟨key.toArray⟩, .func (.func 80) #[] #[]] w fun e w' => e = .returned (.tuple #[.int .u64 ((flagT A key).toNat : Int), .bool (heldB A 3 key)]) ∧ Below w.heap.size w w' := by
  obtain ⟨pa, ma, rfl, hpa, hma⟩ := hv
  obtain ⟨hB, Va⟩ := abox w A pa ma hpa hma (w.heap.size) (by simp)
  clear hpa hma
  obtain ⟨p, hp⟩ : ∃ p, findI A (nameE 3 key) = p := ⟨_, rfl⟩
  have HP := Kept.mk hp
  have eg : ∀ args w, (callFunc 80 args).run Tryz.prog w = .ok (.enter 80 args) w := enters_of Tryz.func80 (by kernel_rfl) rfl
  go_enter Tryz.func79, Tryz.ntmps79
  obtain ⟨qa, ra, xa, sa, ia, ka0, ka1, ka2⟩ := Va.out.open_
  have Xa := Kept.mk xa
  have Sa := Kept.mk sa
  have Ia := Kept.mk ia
  clear xa sa ia
  go_wp2_with fail
  ((with_reducible refine (ga_findk A 3 key p _ _ Xa.out hF HP.out).mono ?_); rintro e W1 ⟨rfl, hb1⟩)
  clear Xa Sa Ia ka0 ka1 ka2
  replace hB := Kept.mk (hB.out.trans ((hb1).mono hB.out.size))
  replace Va := Kept.mk (Va.out.keep (hb1))
  clear hb1
  by_cases h0 : p < 0
  · have HB := Kept.mk (show heldB A 3 key = false by unfold heldB; rw [hp]; exact decide_eq_false (by omega))
    clear hp
    go_wp2
    go_ret2
    exact ⟨by unfold flagT; rw [HB.out]; rfl, hB.out⟩
  · have hp0 : 0 ≤ findI A (nameE 3 key) := by rw [hp]; omega
    have HB := Kept.mk (show heldB A 3 key = true by unfold heldB; exact decide_eq_true hp0)
    have HV := Kept.mk (show heldV A 3 key = (slotAt A.slots (findI A (nameE 3 key))).val by unfold heldV; rw [if_pos hp0])
    obtain ⟨q, hq, hql, hqs, hqo⟩ := find_range hp0
    rw [hp] at hq
    subst hq
    generalize slotAt A.slots (findI A (nameE 3 key)) = E at hqs hqo HV
    obtain ⟨qa, ra, xa, sa, ia, ka0, ka1, ka2⟩ := Va.out.open_
    have Xa := Kept.mk xa
    have Sa := Kept.mk sa
    have Ia := Kept.mk ia
    clear xa sa ia
    have hl := hF.slots
    obtain ⟨b, off, cap, rfl, hbl, hEl⟩ := Sa.out.get hqs
    obtain ⟨qe, re, xe, ye, ke0, ke1, ke2, ke3, ke4, ke5, ke6, ke7, ke8⟩ := hEl.open_
    have YE := Kept.mk ye
    have FE := Kept.mk (ok_fit' hqo).val
    have hq1 : (q : Int) < (A.slots.length : Int) := by omega
    generalize A.slots.length = n at *
    clear xe ye hEl hqs hqo hp0 hp Sa Ia Xa
    go_wp2_with fail
    refine (flags1_any E.val _ _ YE.out).mono ?_
    rintro e W3 ⟨rfl, hb⟩
    replace hB := Kept.mk (hB.out.trans (hb.mono hB.out.size))
    clear hb YE
    go_wp2
    go_ret2
    exact ⟨by unfold flagT; rw [HB.out, HV.out]; rfl, hB.out⟩
set_option maxRecDepth 100000 in
set_option maxHeartbeats 2000000 in
theorem dtext_any (A : Ar) (key : List UInt8) (v : Value) (w : World) (hv : isAr A v w) (hF : FitA A) : Calls Tryz.prog 29 #[v, .string ⟨key.toArray⟩] w fun e w' => e = .returned (.tuple #[.string ⟨(textT A key).toArray⟩, .bool (textB A key)]) ∧ Below w.heap.size w w' := by
  obtain ⟨pa, ma, rfl, hpa, hma⟩ := hv
  obtain ⟨hB, Va⟩ := abox w A pa ma hpa hma (w.heap.size) (by simp)
  clear hpa hma
  have hr := fun v w hv => readT_any A key v w hv hF
  generalize textT A key = x at hr ⊢
  generalize textB A key = y at hr ⊢
  have HR := Kept.mk hr
  clear hr
  go_enter Tryz.func29, Tryz.ntmps29
  obtain ⟨qa, ra, xa, sa, ia, ka0, ka1, ka2⟩ := Va.out.open_
  have Xa := Kept.mk xa
  have Sa := Kept.mk sa
  have Ia := Kept.mk ia
  clear xa sa ia
  go_wp2_with fail
  ((with_reducible refine (HR.out _ _ Xa.out).mono ?_); rintro e W1 ⟨rfl, hb1⟩)
  clear Xa Sa Ia ka0 ka1 ka2
  replace hB := Kept.mk (hB.out.trans ((hb1).mono hB.out.size))
  replace Va := Kept.mk (Va.out.keep (hb1))
  clear hb1
  go_wp2
  go_ret2
  exact ⟨rfl, hB.out⟩
set_option maxRecDepth 100000 in
set_option maxHeartbeats 2000000 in
theorem dsum_any (A : Ar) (key : List UInt8) (v : Value) (w : World) (hv : isAr A v w) (hF : FitA A) : Calls Tryz.prog 31 #[v, .string ⟨key.toArray⟩] w fun e w' => e = .returned (.tuple #[.int .i64 (sumT A key), .bool (heldB A 2 key)]) ∧ Below w.heap.size w w' := by
  obtain ⟨pa, ma, rfl, hpa, hma⟩ := hv
  obtain ⟨hB, Va⟩ := abox w A pa ma hpa hma (w.heap.size) (by simp)
  clear hpa hma
  have hr := fun v w hv => readS_any A key v w hv hF
  generalize sumT A key = x at hr ⊢
  generalize heldB A 2 key = y at hr ⊢
  have HR := Kept.mk hr
  clear hr
  go_enter Tryz.func31, Tryz.ntmps31
  obtain ⟨qa, ra, xa, sa, ia, ka0, ka1, ka2⟩ := Va.out.open_
  have Xa := Kept.mk xa
  have Sa := Kept.mk sa
  have Ia := Kept.mk ia
  clear xa sa ia
  go_wp2_with fail
  ((with_reducible refine (HR.out _ _ Xa.out).mono ?_); rintro e W1 ⟨rfl, hb1⟩)
  clear Xa Sa Ia ka0 ka1 ka2
  replace hB := Kept.mk (hB.out.trans ((hb1).mono hB.out.size))
  replace Va := Kept.mk (Va.out.keep (hb1))
  clear hb1
  go_wp2
  go_ret2
  exact ⟨rfl, hB.out⟩
set_option maxRecDepth 100000 in
set_option maxHeartbeats 2000000 in
theorem dflags_any (A : Ar) (key : List UInt8) (v : Value) (w : World) (hv : isAr A v w) (hF : FitA A) : Calls Tryz.prog 33 #[v, .string ⟨key.toArray⟩] w fun e w' => e = .returned (.tuple #[.int .u64 ((flagT A key).toNat : Int), .bool (heldB A 3 key)]) ∧ Below w.heap.size w w' := by
  obtain ⟨pa, ma, rfl, hpa, hma⟩ := hv
  obtain ⟨hB, Va⟩ := abox w A pa ma hpa hma (w.heap.size) (by simp)
  clear hpa hma
  have hr := fun v w hv => readF_any A key v w hv hF
  generalize flagT A key = x at hr ⊢
  generalize heldB A 3 key = y at hr ⊢
  have HR := Kept.mk hr
  clear hr
  go_enter Tryz.func33, Tryz.ntmps33
  obtain ⟨qa, ra, xa, sa, ia, ka0, ka1, ka2⟩ := Va.out.open_
  have Xa := Kept.mk xa
  have Sa := Kept.mk sa
  have Ia := Kept.mk ia
  clear xa sa ia
  go_wp2_with fail
  ((with_reducible refine (HR.out _ _ Xa.out).mono ?_); rintro e W1 ⟨rfl, hb1⟩)
  clear Xa Sa Ia ka0 ka1 ka2
  replace hB := Kept.mk (hB.out.trans ((hb1).mono hB.out.size))
  replace Va := Kept.mk (Va.out.keep (hb1))
  clear hb1
  go_wp2
  go_ret2
  exact ⟨rfl, hB.out⟩
end Go.Proofs.YtbgconagkgfplaaGreat
end
section
namespace Go.Proofs.YtbgconagkgfplaaGreat
open Go.RowKit
set_option linter.unusedVariables false
set_option linter.unusedSimpArgs false
attribute [local irreducible] setN

/-- A result's cell: laid down, and what is in it. -/
theorem vres (w : World) : Kept (Below w.heap.size w (w.alloc (.cells #[.int .i64 0, .int .i64 0, .int .i64 0, .bool false, .string ⟨#[]⟩, .slice none 0 0, .slice none 0 0, .int .u64 0] 28))) ∧ Kept (CellsN (w.alloc (.cells #[.int .i64 0, .int .i64 0, .int .i64 0, .bool false, .string ⟨#[]⟩, .slice none 0 0, .slice none 0 0, .int .u64 0] 28)) w.heap.size [.int .i64 0, .int .i64 0, .int .i64 0, .bool false, .string ⟨#[]⟩, .slice none 0 0, .slice none 0 0, .int .u64 0]) ∧ Kept (Free5 (w.alloc (.cells #[.int .i64 0, .int .i64 0, .int .i64 0, .bool false, .string ⟨#[]⟩, .slice none 0 0, .slice none 0 0, .int .u64 0] 28)) w.heap.size) :=
  ⟨⟨lit_below w _⟩, ⟨cellsN_at w 28 [.int .i64 0, .int .i64 0, .int .i64 0, .bool false, .string ⟨#[]⟩, .slice none 0 0, .slice none 0 0, .int .u64 0] w.heap.size rfl⟩, ⟨free5_at w #[.int .i64 0, .int .i64 0, .int .i64 0, .bool false, .string ⟨#[]⟩, .slice none 0 0, .slice none 0 0, .int .u64 0] 28 w.heap.size rfl⟩⟩
/-- .. of a value whose rows, if it has any, stand elsewhere. -/
theorem vset3 {B g : Nat} {w0 w : World} (A : Va) (vp vm : Value) (hB : B ≤ g) (hb : Below B w0 w) {old : List Value} (hc : CellsN w g old) (h8 : old.length = 8) (hp : isCells (A.plus.map intC) vp w) (hm : isCells (A.minus.map intC) vm w) (np : A.plus.map intC = [] ∨ blk vp ≠ some g) (nm : A.minus.map intC = [] ∨ blk vm ≠ some g) :
    Kept (Below B w0 (setN w g 0 [.int .i64 A.kind, .int .i64 A.time, .int .i64 A.node, .bool A.dead, .string ⟨A.text.toArray⟩, vp, vm, .int .u64 (A.flags.toNat : Int)])) ∧ Kept (VarE (setN w g 0 [.int .i64 A.kind, .int .i64 A.time, .int .i64 A.node, .bool A.dead, .string ⟨A.text.toArray⟩, vp, vm, .int .u64 (A.flags.toNat : Int)]) g A vp vm) ∧ Kept (Ones [.int .i64 A.kind, .int .i64 A.time, .int .i64 A.node, .bool A.dead, .string ⟨A.text.toArray⟩, vp, vm, .int .u64 (A.flags.toNat : Int)]) := by
  have ap : ∀ (v : Value) (cs : List Value), (cs = [] ∨ blk v ≠ some g) → ∀ b off cap, v = .slice (some ⟨b, off, none⟩) cs.length cap → cs ≠ [] → b ≠ g := by
    rintro v cs h b off cap rfl hne rfl
    exact (h.resolve_left hne) rfl
  exact ⟨⟨below_setN hB _ 0 _ hb⟩, ⟨⟨hc.setN_ _ h8, cells_apart hp (ap vp _ np) _ _, cells_apart hm (ap vm _ nm) _ _⟩⟩, ⟨⟨rfl, rfl, rfl, rfl, rfl, hp.one, hm.one, rfl, trivial⟩⟩⟩
theorem old_ne {cs : List Value} {v : Value} {w : World} (h : isCells cs v w) {g : Nat} (hg : w.heap.size ≤ g) : cs = [] ∨ blk v ≠ some g := (cells_lt h).imp id (fun h e => by have := h g e; omega)
set_option maxRecDepth 100000 in
set_option maxHeartbeats 2000000 in
theorem dleast_any (k : Int) (w : World) : Calls Tryz.prog 70 #[.int .i64 k] w fun e w' => ∃ v', e = .returned v' ∧ isVaN w.heap.size (leastF k) v' w' ∧ Below w.heap.size w w' := by
  obtain ⟨hB, HZ, HF⟩ := vres w
  have hlt : w.heap.size < (w.alloc (.cells #[.int .i64 0, .int .i64 0, .int .i64 0, .bool false, .string ⟨#[]⟩, .slice none 0 0, .slice none 0 0, .int .u64 0] 28)).heap.size := by simp
  obtain ⟨V, hV⟩ : ∃ V, leastF k = V := ⟨_, rfl⟩
  rw [hV]
  obtain ⟨c, hc⟩ : ∃ c, leastE k = c := ⟨_, rfl⟩
  have HL := Kept.mk (fun w => by have h := vleast_any k w; rw [hV, hc] at h; exact h)
  clear hV hc
  go_enter Tryz.func70, Tryz.ntmps70
  go_wp2_with fail
  generalize w.alloc (.cells #[.int .i64 0, .int .i64 0, .int .i64 0, .bool false, .string ⟨#[]⟩, .slice none 0 0, .slice none 0 0, .int .u64 0] 28) = W0 at *
  refine (HL.out _).mono ?_
  rintro e U ⟨v', rfl, ⟨p', m', rfl, hp', hm', np, nm⟩, hb1⟩
  obtain ⟨K1, K2, K3, K4, K5⟩ := vnew U V p' m' hp' hm' U.heap.size rfl
  replace HF := Kept.mk ((HF.out.keep hb1 hlt).keep K3.out (Nat.lt_of_lt_of_le hlt hb1.size))
  replace HZ := Kept.mk ((HZ.out.keep hb1 hlt).keep K3.out (Nat.lt_of_lt_of_le hlt hb1.size))
  replace hB := Kept.mk (hB.out.trans (hb1.mono hB.out.size))
  replace hB := Kept.mk (hB.out.trans (K3.out.mono hB.out.size))
  have hne1 := np.ne hlt
  have hne2 := nm.ne hlt
  have NP := Kept.mk (np.low (show w.heap.size ≤ W0.heap.size by omega))
  have NM := Kept.mk (nm.low (show w.heap.size ≤ W0.heap.size by omega))
  have K6 := Kept.mk K4.out
  clear np nm hp' hm' hb1 hlt
  go_wp2_with (first
    | (have hz0 := K1; refine wpList_storeN 28 rfl (.tmp 3) (.tmp 8) rfl U.heap.size [.int .i64 V.kind, .int .i64 V.time, .int .i64 V.node, .bool V.dead, .string ⟨V.text.toArray⟩, p', m', .int .u64 (V.flags.toNat : Int)] size_va rfl rfl K1.out rfl K2.out K5.out ?_; clear hz0 K1 K2 K3; generalize setN (U.alloc (.cells #[.int .i64 0, .int .i64 0, .int .i64 0, .bool false, .string ⟨#[]⟩, .slice none 0 0, .slice none 0 0, .int .u64 0] 28)) U.heap.size 0 [.int .i64 V.kind, .int .i64 V.time, .int .i64 V.node, .bool V.dead, .string ⟨V.text.toArray⟩, p', m', .int .u64 (V.flags.toNat : Int)] = W2 at *; obtain ⟨J1, J2, J3⟩ := vset V p' m' (g := w.heap.size) (Nat.le_refl _) hB.out HZ.out rfl K6.out.2.1 K6.out.2.2 hne1 hne2; have k0 := K6.out.1.2 0 _ rfl; have k1 := K6.out.1.2 1 _ rfl; have k2 := K6.out.1.2 2 _ rfl; have k3 := K6.out.1.2 3 _ rfl; have k4 := K6.out.1.2 4 _ rfl; have k5 := K6.out.1.2 5 _ rfl; have k6 := K6.out.1.2 6 _ rfl; have k7 := K6.out.1.2 7 _ rfl)
    | (have hz1 := J3; refine wpList_storeN 28 rfl (.tmp 2) (.tmp 10) rfl w.heap.size [.int .i64 V.kind, .int .i64 V.time, .int .i64 V.node, .bool V.dead, .string ⟨V.text.toArray⟩, p', m', .int .u64 (V.flags.toNat : Int)] size_va rfl rfl HZ.out rfl HF.out J3.out ?_; clear hz1))
  exact bodyPost_ret (resultsN1 rfl _ _ w.heap.size [.int .i64 V.kind, .int .i64 V.time, .int .i64 V.node, .bool V.dead, .string ⟨V.text.toArray⟩, p', m', .int .u64 (V.flags.toNat : Int)] size_va agg_va rfl J2.out.1) rfl ⟨_, rfl, ⟨p', m', rfl, J2.out.2.1, J2.out.2.2, NP.out, NM.out⟩, J1.out⟩
set_option maxRecDepth 100000 in
set_option maxHeartbeats 2000000 in
theorem held1_any (V : Va) (vp vm : Value) (w : World) (hp : isCells (V.plus.map intC) vp w) (hm : isCells (V.minus.map intC) vm w) : Calls Tryz.prog 105 #[.agg #[.int .i64 V.kind, .int .i64 V.time, .int .i64 V.node, .bool V.dead, .string ⟨V.text.toArray⟩, vp, vm, .int .u64 (V.flags.toNat : Int)]] w fun e w' => e = .returned (.tuple #[.agg #[.int .i64 V.kind, .int .i64 V.time, .int .i64 V.node, .bool V.dead, .string ⟨V.text.toArray⟩, vp, vm, .int .u64 (V.flags.toNat : Int)], .bool true]) ∧ Below w.heap.size w w' := by
  have hB : Below w.heap.size w ((w.alloc (.cells #[.int .i64 V.kind, .int .i64 V.time, .int .i64 V.node, .bool V.dead, .string ⟨V.text.toArray⟩, vp, vm, .int .u64 (V.flags.toNat : Int)] 28)).alloc (.cells #[.int .i64 0, .int .i64 0, .int .i64 0, .bool false, .string ⟨#[]⟩, .slice none 0 0, .slice none 0 0, .int .u64 0] 28)) := ((Below.refl _ w).alloc (Nat.le_refl _) _).alloc (by simp) _
  have BA := (Blk.new w 28 [.int .i64 V.kind, .int .i64 V.time, .int .i64 V.node, .bool V.dead, .string ⟨V.text.toArray⟩, vp, vm, .int .u64 (V.flags.toNat : Int)] w.heap.size rfl).alloc (.cells #[.int .i64 0, .int .i64 0, .int .i64 0, .bool false, .string ⟨#[]⟩, .slice none 0 0, .slice none 0 0, .int .u64 0] 28)
  have BR := Kept.mk (Blk.new (w.alloc (.cells #[.int .i64 V.kind, .int .i64 V.time, .int .i64 V.node, .bool V.dead, .string ⟨V.text.toArray⟩, vp, vm, .int .u64 (V.flags.toNat : Int)] 28)) 28 [.int .i64 0, .int .i64 0, .int .i64 0, .bool false, .string ⟨#[]⟩, .slice none 0 0, .slice none 0 0, .int .u64 0] (w.heap.size + 1) (by simp))
  have HO : Kept (Ones [.int .i64 V.kind, .int .i64 V.time, .int .i64 V.node, .bool V.dead, .string ⟨V.text.toArray⟩, vp, vm, .int .u64 (V.flags.toNat : Int)]) := ⟨⟨rfl, rfl, rfl, rfl, rfl, hp.one, hm.one, rfl, trivial⟩⟩
  have ka0 := BA.cells.2 0 _ rfl
  have ka1 := BA.cells.2 1 _ rfl
  have ka2 := BA.cells.2 2 _ rfl
  have ka3 := BA.cells.2 3 _ rfl
  have ka4 := BA.cells.2 4 _ rfl
  have ka5 := BA.cells.2 5 _ rfl
  have ka6 := BA.cells.2 6 _ rfl
  have ka7 := BA.cells.2 7 _ rfl
  have HB := Kept.mk hB
  clear BA hp hm hB
  go_enter Tryz.func105, Tryz.ntmps105
  go_wp2_with (have hz0 := HO; refine wpList_storeN 28 rfl (.tmp 2) (.tmp 4) rfl (w.heap.size + 1) [.int .i64 V.kind, .int .i64 V.time, .int .i64 V.node, .bool V.dead, .string ⟨V.text.toArray⟩, vp, vm, .int .u64 (V.flags.toNat : Int)] size_va rfl rfl BR.out.cells rfl BR.out.free HO.out ?_; clear hz0 HO)
  exact bodyPost_ret (resultsN2 rfl _ _ (w.heap.size + 1) [.int .i64 V.kind, .int .i64 V.time, .int .i64 V.node, .bool V.dead, .string ⟨V.text.toArray⟩, vp, vm, .int .u64 (V.flags.toNat : Int)] (.bool true) size_va agg_va rfl rfl (BR.out.all_ (l := [.int .i64 V.kind, .int .i64 V.time, .int .i64 V.node, .bool V.dead, .string ⟨V.text.toArray⟩, vp, vm, .int .u64 (V.flags.toNat : Int)]) rfl).cells) rfl ⟨rfl, below_setN (by omega) _ 0 _ HB.out⟩
set_option maxRecDepth 100000 in
set_option maxHeartbeats 2000000 in
theorem readV_no (A : Ar) (kind : Int) (key : List UInt8) (v : Value) (w : World) (hv : isAr A v w) (hF : FitA A) (hh : heldB A kind key = false) : Calls Tryz.prog 104 #[v, .int .i64 kind, .string ⟨key.toArray⟩, .func (.func 105) #[] #[]] w fun e w' => (∃ v', e = .returned (.tuple #[v', .bool false]) ∧ isVa zeroV v' w') ∧ Below w.heap.size w w' := by
  obtain ⟨vs, vi, rfl, hs, hi⟩ := hv
  have hB : Below w.heap.size w ((w.alloc (.cells #[.int .i64 A.cap, vs, vi] 25)).alloc (.cells #[.int .i64 0, .int .i64 0, .int .i64 0, .bool false, .string ⟨#[]⟩, .slice none 0 0, .slice none 0 0, .int .u64 0] 28)) := ((Below.refl _ w).alloc (Nat.le_refl _) _).alloc (by simp) _
  have XA := Kept.mk (show isAr A (.agg #[.int .i64 A.cap, vs, vi]) ((w.alloc (.cells #[.int .i64 A.cap, vs, vi] 25)).alloc (.cells #[.int .i64 0, .int .i64 0, .int .i64 0, .bool false, .string ⟨#[]⟩, .slice none 0 0, .slice none 0 0, .int .u64 0] 28)) from stable_ar A _ _ _ ⟨vs, vi, rfl, hs, hi⟩ hB)
  have BA := Kept.mk ((Blk.new w 25 [.int .i64 A.cap, vs, vi] w.heap.size rfl).alloc (.cells #[.int .i64 0, .int .i64 0, .int .i64 0, .bool false, .string ⟨#[]⟩, .slice none 0 0, .slice none 0 0, .int .u64 0] 28))
  have BR := Kept.mk (Blk.new (w.alloc (.cells #[.int .i64 A.cap, vs, vi] 25)) 28 [.int .i64 0, .int .i64 0, .int .i64 0, .bool false, .string ⟨#[]⟩, .slice none 0 0, .slice none 0 0, .int .u64 0] (w.heap.size + 1) (by simp))
  have ka0 := BA.out.cells.2 0 _ rfl
  have ka1 := BA.out.cells.2 1 _ rfl
  have ka2 := BA.out.cells.2 2 _ rfl
  obtain ⟨p, hp⟩ : ∃ p, findI A (nameE kind key) = p := ⟨_, rfl⟩
  have HP := Kept.mk hp
  have eg : ∀ args w, (callFunc 105 args).run Tryz.prog w = .ok (.enter 105 args) w := enters_of Tryz.func105 (by kernel_rfl) rfl
  have hsz : w.heap.size + 1 < ((w.alloc (.cells #[.int .i64 A.cap, vs, vi] 25)).alloc (.cells #[.int .i64 0, .int .i64 0, .int .i64 0, .bool false, .string ⟨#[]⟩, .slice none 0 0, .slice none 0 0, .int .u64 0] 28)).heap.size := by simp
  have HB := Kept.mk hB
  clear hB
  have h0 : p < 0 := by unfold heldB at hh; rw [hp] at hh; have := of_decide_eq_false hh; omega
  clear hp hs hi hh
  go_enter Tryz.func104, Tryz.ntmps104
  go_wp2_with fail
  generalize ((w.alloc (.cells #[.int .i64 A.cap, vs, vi] 25)).alloc (.cells #[.int .i64 0, .int .i64 0, .int .i64 0, .bool false, .string ⟨#[]⟩, .slice none 0 0, .slice none 0 0, .int .u64 0] 28)) = W0 at *
  refine (ga_findk A kind key _ _ _ XA.out hF HP.out).mono ?_
  rintro e W1 ⟨rfl, hb⟩
  replace HB := Kept.mk (HB.out.trans (hb.mono HB.out.size))
  replace BA := Kept.mk (BA.out.keep hb)
  replace BR := Kept.mk (BR.out.keep hb)
  clear hb XA ka0 ka1 ka2 hsz
  obtain ⟨HN, HZ, HZF⟩ := vres W1
  have HO : Kept (Ones [.int .i64 0, .int .i64 0, .int .i64 0, .bool false, .string ⟨#[]⟩, .slice none 0 0, .slice none 0 0, .int .u64 0]) := ⟨⟨rfl, rfl, rfl, rfl, rfl, rfl, rfl, rfl, trivial⟩⟩
  have kz0 := HZ.out.2 0 _ rfl
  have kz1 := HZ.out.2 1 _ rfl
  have kz2 := HZ.out.2 2 _ rfl
  have kz3 := HZ.out.2 3 _ rfl
  have kz4 := HZ.out.2 4 _ rfl
  have kz5 := HZ.out.2 5 _ rfl
  have kz6 := HZ.out.2 6 _ rfl
  have kz7 := HZ.out.2 7 _ rfl
  have BR2 := Kept.mk (BR.out.keep HN.out)
  have HB2 := Kept.mk (HB.out.trans (HN.out.mono HB.out.size))
  clear HZ HZF BA
  go_wp2_with (have hz0 := HO; refine wpList_storeN 28 rfl (.tmp 8) (.tmp 18) rfl (w.heap.size + 1) [.int .i64 0, .int .i64 0, .int .i64 0, .bool false, .string ⟨#[]⟩, .slice none 0 0, .slice none 0 0, .int .u64 0] size_va rfl rfl BR2.out.cells rfl BR2.out.free HO.out ?_; clear hz0 HO)
  exact bodyPost_ret (resultsN2 rfl _ _ (w.heap.size + 1) [.int .i64 0, .int .i64 0, .int .i64 0, .bool false, .string ⟨#[]⟩, .slice none 0 0, .slice none 0 0, .int .u64 0] (.bool false) size_va agg_va rfl rfl (BR2.out.all_ (l := [.int .i64 0, .int .i64 0, .int .i64 0, .bool false, .string ⟨#[]⟩, .slice none 0 0, .slice none 0 0, .int .u64 0]) rfl).cells) rfl ⟨⟨_, rfl, ⟨.slice none 0 0, .slice none 0 0, rfl, .inl ⟨rfl, rfl⟩, .inl ⟨rfl, rfl⟩⟩⟩, below_setN (by omega) _ 0 _ HB2.out⟩
set_option maxRecDepth 100000 in
set_option maxHeartbeats 2000000 in
theorem readV_yes (A : Ar) (kind : Int) (key : List UInt8) (V : Va) (v : Value) (wo w : World) (hb0 : Below wo.heap.size wo w) (hv : isAr A v wo) (hF : FitA A) (hh : heldB A kind key = true) (hV : heldV A kind key = V) : Calls Tryz.prog 104 #[v, .int .i64 kind, .string ⟨key.toArray⟩, .func (.func 105) #[] #[]] w fun e w' => (∃ vp vm, e = .returned (.tuple #[.agg #[.int .i64 V.kind, .int .i64 V.time, .int .i64 V.node, .bool V.dead, .string ⟨V.text.toArray⟩, vp, vm, .int .u64 (V.flags.toNat : Int)], .bool true]) ∧ isCells (V.plus.map intC) vp wo ∧ isCells (V.minus.map intC) vm wo) ∧ Below w.heap.size w w' := by
  obtain ⟨vs, vi, rfl, hs, hi⟩ := hv
  have hB : Below w.heap.size w ((w.alloc (.cells #[.int .i64 A.cap, vs, vi] 25)).alloc (.cells #[.int .i64 0, .int .i64 0, .int .i64 0, .bool false, .string ⟨#[]⟩, .slice none 0 0, .slice none 0 0, .int .u64 0] 28)) := ((Below.refl _ w).alloc (Nat.le_refl _) _).alloc (by simp) _
  have XA := Kept.mk (show isAr A (.agg #[.int .i64 A.cap, vs, vi]) ((w.alloc (.cells #[.int .i64 A.cap, vs, vi] 25)).alloc (.cells #[.int .i64 0, .int .i64 0, .int .i64 0, .bool false, .string ⟨#[]⟩, .slice none 0 0, .slice none 0 0, .int .u64 0] 28)) from stable_ar A _ _ _ ⟨vs, vi, rfl, hs, hi⟩ (hb0.trans (hB.mono hb0.size)))
  have BA := Kept.mk ((Blk.new w 25 [.int .i64 A.cap, vs, vi] w.heap.size rfl).alloc (.cells #[.int .i64 0, .int .i64 0, .int .i64 0, .bool false, .string ⟨#[]⟩, .slice none 0 0, .slice none 0 0, .int .u64 0] 28))
  have BR := Kept.mk (Blk.new (w.alloc (.cells #[.int .i64 A.cap, vs, vi] 25)) 28 [.int .i64 0, .int .i64 0, .int .i64 0, .bool false, .string ⟨#[]⟩, .slice none 0 0, .slice none 0 0, .int .u64 0] (w.heap.size + 1) (by simp))
  have ka0 := BA.out.cells.2 0 _ rfl
  have ka1 := BA.out.cells.2 1 _ rfl
  have ka2 := BA.out.cells.2 2 _ rfl
  obtain ⟨p, hp⟩ : ∃ p, findI A (nameE kind key) = p := ⟨_, rfl⟩
  have HP := Kept.mk hp
  have eg : ∀ args w, (callFunc 105 args).run Tryz.prog w = .ok (.enter 105 args) w := enters_of Tryz.func105 (by kernel_rfl) rfl
  have hsz : w.heap.size + 1 < ((w.alloc (.cells #[.int .i64 A.cap, vs, vi] 25)).alloc (.cells #[.int .i64 0, .int .i64 0, .int .i64 0, .bool false, .string ⟨#[]⟩, .slice none 0 0, .slice none 0 0, .int .u64 0] 28)).heap.size := by simp
  have HB := Kept.mk hB
  clear hB
  have hp0 : 0 ≤ findI A (nameE kind key) := by unfold heldB at hh; exact of_decide_eq_true hh
  have hE : (slotAt A.slots (findI A (nameE kind key))).val = V := by unfold heldV at hV; rw [if_pos hp0] at hV; exact hV
  obtain ⟨q, hq, hql, hqs, hqo⟩ := find_range hp0
  rw [hp] at hq
  subst hq
  generalize slotAt A.slots (findI A (nameE kind key)) = E at hqs hqo hE
  subst hE
  obtain ⟨b, off, cap, ea, hbl, ep, em, hec, hep, hem⟩ := hs.get hqs
  have HEA := Kept.mk ea
  have HEP := Kept.mk hep
  have HEM := Kept.mk hem
  have HEC := Kept.mk hec
  have hl := hF.slots
  have hq1 : (q : Int) < (A.slots.length : Int) := by omega
  have h0 : ¬ ((q : Int) < 0) := by omega
  clear hp hi hh hV hqs hqo hp0 hs hep hem hec ea
  go_enter Tryz.func104, Tryz.ntmps104
  go_wp2_with fail
  generalize ((w.alloc (.cells #[.int .i64 A.cap, vs, vi] 25)).alloc (.cells #[.int .i64 0, .int .i64 0, .int .i64 0, .bool false, .string ⟨#[]⟩, .slice none 0 0, .slice none 0 0, .int .u64 0] 28)) = W0 at *
  refine (ga_findk A kind key _ _ _ XA.out hF HP.out).mono ?_
  rintro e W1 ⟨rfl, hb⟩
  replace HB := Kept.mk (HB.out.trans (hb.mono HB.out.size))
  replace BA := Kept.mk (BA.out.keep hb)
  replace BR := Kept.mk (BR.out.keep hb)
  clear hb XA ka0 ka1 ka2 hsz
  have HBo := Kept.mk (hb0.trans (HB.out.mono hb0.size))
  have kb1 := BA.out.cells.2 1 _ rfl
  rw [HEA.out] at kb1
  have ke0 : W1.cell? ⟨b, off + q * 9, none⟩ = _ := (HBo.out.cell (p := ⟨b, off + q * 9 + 0, none⟩) hbl).trans (HEC.out 0 _ rfl)
  have ke1 : W1.cell? ⟨b, off + q * 9 + 1, none⟩ = _ := (HBo.out.cell (p := ⟨b, off + q * 9 + 1, none⟩) hbl).trans (HEC.out 1 _ rfl)
  have ke2 : W1.cell? ⟨b, off + q * 9 + 2, none⟩ = _ := (HBo.out.cell (p := ⟨b, off + q * 9 + 2, none⟩) hbl).trans (HEC.out 2 _ rfl)
  have ke3 : W1.cell? ⟨b, off + q * 9 + 3, none⟩ = _ := (HBo.out.cell (p := ⟨b, off + q * 9 + 3, none⟩) hbl).trans (HEC.out 3 _ rfl)
  have ke4 : W1.cell? ⟨b, off + q * 9 + 4, none⟩ = _ := (HBo.out.cell (p := ⟨b, off + q * 9 + 4, none⟩) hbl).trans (HEC.out 4 _ rfl)
  have ke5 : W1.cell? ⟨b, off + q * 9 + 5, none⟩ = _ := (HBo.out.cell (p := ⟨b, off + q * 9 + 5, none⟩) hbl).trans (HEC.out 5 _ rfl)
  have ke6 : W1.cell? ⟨b, off + q * 9 + 6, none⟩ = _ := (HBo.out.cell (p := ⟨b, off + q * 9 + 6, none⟩) hbl).trans (HEC.out 6 _ rfl)
  have ke7 : W1.cell? ⟨b, off + q * 9 + 7, none⟩ = _ := (HBo.out.cell (p := ⟨b, off + q * 9 + 7, none⟩) hbl).trans (HEC.out 7 _ rfl)
  have ke8 : W1.cell? ⟨b, off + q * 9 + 8, none⟩ = _ := (HBo.out.cell (p := ⟨b, off + q * 9 + 8, none⟩) hbl).trans (HEC.out 8 _ rfl)
  generalize A.slots.length = n at *
  clear BA
  go_wp2_with fail
  refine (held1_any E.val ep em W1 (stable_cells _ _ _ _ HEP.out HBo.out) (stable_cells _ _ _ _ HEM.out HBo.out)).mono ?_
  rintro e W2 ⟨rfl, hb⟩
  replace HB := Kept.mk (HB.out.trans (hb.mono HB.out.size))
  replace BR := Kept.mk (BR.out.keep hb)
  have HO : Kept (Ones [.int .i64 E.val.kind, .int .i64 E.val.time, .int .i64 E.val.node, .bool E.val.dead, .string ⟨E.val.text.toArray⟩, ep, em, .int .u64 (E.val.flags.toNat : Int)]) := ⟨⟨rfl, rfl, rfl, rfl, rfl, HEP.out.one, HEM.out.one, rfl, trivial⟩⟩
  clear hb kb1 ke0 ke1 ke2 ke3 ke4 ke5 ke6 ke7 ke8
  go_wp2_with (have hz0 := HO; refine wpList_storeN 28 rfl (.tmp 8) (.tmp 27) rfl (w.heap.size + 1) [.int .i64 E.val.kind, .int .i64 E.val.time, .int .i64 E.val.node, .bool E.val.dead, .string ⟨E.val.text.toArray⟩, ep, em, .int .u64 (E.val.flags.toNat : Int)] size_va rfl rfl BR.out.cells rfl BR.out.free HO.out ?_; clear hz0 HO)
  exact bodyPost_ret (resultsN2 rfl _ _ (w.heap.size + 1) [.int .i64 E.val.kind, .int .i64 E.val.time, .int .i64 E.val.node, .bool E.val.dead, .string ⟨E.val.text.toArray⟩, ep, em, .int .u64 (E.val.flags.toNat : Int)] (.bool true) size_va agg_va rfl rfl (BR.out.all_ (l := [.int .i64 E.val.kind, .int .i64 E.val.time, .int .i64 E.val.node, .bool E.val.dead, .string ⟨E.val.text.toArray⟩, ep, em, .int .u64 (E.val.flags.toNat : Int)]) rfl).cells) rfl ⟨⟨ep, em, rfl, HEP.out, HEM.out⟩, below_setN (by omega) _ 0 _ HB.out⟩
set_option maxRecDepth 100000 in
set_option maxHeartbeats 2000000 in
theorem held_no_any (A : Ar) (kind : Int) (key : List UInt8) (v : Value) (w : World) (hv : isAr A v w) (hF : FitA A) (hh : heldB A kind key = false) (V : Va) (hV : leastF kind = V) : Calls Tryz.prog 52 #[v, .int .i64 kind, .string ⟨key.toArray⟩] w fun e w' => (∃ v', e = .returned (.tuple #[v', .bool false]) ∧ isVa V v' w') ∧ Below w.heap.size w w' := by
  obtain ⟨vs, vi, rfl, hs, hi⟩ := hv
  have hB : Below w.heap.size w ((w.alloc (.cells #[.int .i64 A.cap, vs, vi] 25)).alloc (.cells #[.int .i64 0, .int .i64 0, .int .i64 0, .bool false, .string ⟨#[]⟩, .slice none 0 0, .slice none 0 0, .int .u64 0] 28)) := ((Below.refl _ w).alloc (Nat.le_refl _) _).alloc (by simp) _
  have XA := Kept.mk (show isAr A (.agg #[.int .i64 A.cap, vs, vi]) ((w.alloc (.cells #[.int .i64 A.cap, vs, vi] 25)).alloc (.cells #[.int .i64 0, .int .i64 0, .int .i64 0, .bool false, .string ⟨#[]⟩, .slice none 0 0, .slice none 0 0, .int .u64 0] 28)) from stable_ar A _ _ _ ⟨vs, vi, rfl, hs, hi⟩ hB)
  have BA := Kept.mk ((Blk.new w 25 [.int .i64 A.cap, vs, vi] w.heap.size rfl).alloc (.cells #[.int .i64 0, .int .i64 0, .int .i64 0, .bool false, .string ⟨#[]⟩, .slice none 0 0, .slice none 0 0, .int .u64 0] 28))
  have BR := Kept.mk (Blk.new (w.alloc (.cells #[.int .i64 A.cap, vs, vi] 25)) 28 [.int .i64 0, .int .i64 0, .int .i64 0, .bool false, .string ⟨#[]⟩, .slice none 0 0, .slice none 0 0, .int .u64 0] (w.heap.size + 1) (by simp))
  have ka0 := BA.out.cells.2 0 _ rfl
  have ka1 := BA.out.cells.2 1 _ rfl
  have ka2 := BA.out.cells.2 2 _ rfl
  have eg : ∀ args w, (callFunc 105 args).run Tryz.prog w = .ok (.enter 105 args) w := enters_of Tryz.func105 (by kernel_rfl) rfl
  have hsz : w.heap.size + 1 < ((w.alloc (.cells #[.int .i64 A.cap, vs, vi] 25)).alloc (.cells #[.int .i64 0, .int .i64 0, .int .i64 0, .bool false, .string ⟨#[]⟩, .slice none 0 0, .slice none 0 0, .int .u64 0] 28)).heap.size := by simp
  have HB := Kept.mk hB
  clear hB
  have HL := Kept.mk (fun w => by have h := dleast_any kind w; rw [hV] at h; exact h)
  have HH := Kept.mk hh
  clear hs hi hV hh eg
  go_enter Tryz.func52, Tryz.ntmps52
  go_wp2_with fail
  generalize ((w.alloc (.cells #[.int .i64 A.cap, vs, vi] 25)).alloc (.cells #[.int .i64 0, .int .i64 0, .int .i64 0, .bool false, .string ⟨#[]⟩, .slice none 0 0, .slice none 0 0, .int .u64 0] 28)) = W0 at *
  refine (readV_no A kind key _ _ XA.out hF HH.out).mono ?_
  rintro e U ⟨⟨v1, rfl, p', m', rfl, hp', hm'⟩, hb⟩
  obtain ⟨K1, K2, K3, K4, K5⟩ := vnew U zeroV p' m' hp' hm' U.heap.size rfl
  replace HB := Kept.mk (HB.out.trans (hb.mono HB.out.size))
  replace HB := Kept.mk (HB.out.trans (K3.out.mono HB.out.size))
  replace BR := Kept.mk ((BR.out.keep hb).keep K3.out)
  have hszU : w.heap.size + 1 < (setN (U.alloc (.cells #[.int .i64 0, .int .i64 0, .int .i64 0, .bool false, .string ⟨#[]⟩, .slice none 0 0, .slice none 0 0, .int .u64 0] 28)) U.heap.size 0 [.int .i64 zeroV.kind, .int .i64 zeroV.time, .int .i64 zeroV.node, .bool zeroV.dead, .string ⟨zeroV.text.toArray⟩, p', m', .int .u64 (zeroV.flags.toNat : Int)]).heap.size := BR.out.lt
  clear hb hp' hm' XA BA ka0 ka1 ka2
  go_wp2_with (have hz0 := K1; refine wpList_storeN 28 rfl (.tmp 8) (.tmp 15) rfl U.heap.size [.int .i64 zeroV.kind, .int .i64 zeroV.time, .int .i64 zeroV.node, .bool zeroV.dead, .string ⟨zeroV.text.toArray⟩, p', m', .int .u64 (zeroV.flags.toNat : Int)] size_va rfl rfl K1.out rfl K2.out K5.out ?_; clear hz0 K1 K2 K3 K4 K5; generalize setN (U.alloc (.cells #[.int .i64 0, .int .i64 0, .int .i64 0, .bool false, .string ⟨#[]⟩, .slice none 0 0, .slice none 0 0, .int .u64 0] 28)) U.heap.size 0 [.int .i64 zeroV.kind, .int .i64 zeroV.time, .int .i64 zeroV.node, .bool zeroV.dead, .string ⟨zeroV.text.toArray⟩, p', m', .int .u64 (zeroV.flags.toNat : Int)] = W2 at *)
  refine (HL.out W2).mono ?_
  rintro e W3 ⟨v2, rfl, ⟨p2, m2, rfl, hp2, hm2, np, nm⟩, hb⟩
  obtain ⟨J1, J2, J3⟩ := vset V p2 m2 (g := w.heap.size + 1) (B := w.heap.size) (by omega) (HB.out.trans (hb.mono HB.out.size)) (BR.out.keep hb).cells rfl hp2 hm2 (np.ne hszU) (nm.ne hszU)
  replace BR := Kept.mk (BR.out.keep hb)
  clear hb hp2 hm2 np nm
  go_wp2_with (have hz1 := J3; refine wpList_storeN 28 rfl (.tmp 6) (.tmp 20) rfl (w.heap.size + 1) [.int .i64 V.kind, .int .i64 V.time, .int .i64 V.node, .bool V.dead, .string ⟨V.text.toArray⟩, p2, m2, .int .u64 (V.flags.toNat : Int)] size_va rfl rfl BR.out.cells rfl BR.out.free J3.out ?_; clear hz1)
  exact bodyPost_ret (resultsN2 rfl _ _ (w.heap.size + 1) [.int .i64 V.kind, .int .i64 V.time, .int .i64 V.node, .bool V.dead, .string ⟨V.text.toArray⟩, p2, m2, .int .u64 (V.flags.toNat : Int)] (.bool false) size_va agg_va rfl rfl J2.out.1) rfl ⟨⟨_, rfl, ⟨p2, m2, rfl, J2.out.2.1, J2.out.2.2⟩⟩, J1.out⟩
set_option maxRecDepth 100000 in
set_option maxHeartbeats 2000000 in
theorem held_yes_any (A : Ar) (kind : Int) (key : List UInt8) (V : Va) (v : Value) (w : World) (hv : isAr A v w) (hF : FitA A) (hh : heldB A kind key = true) (hV : heldV A kind key = V) : Calls Tryz.prog 52 #[v, .int .i64 kind, .string ⟨key.toArray⟩] w fun e w' => (∃ v', e = .returned (.tuple #[v', .bool true]) ∧ isVa V v' w') ∧ Below w.heap.size w w' := by
  obtain ⟨vs, vi, rfl, hs, hi⟩ := hv
  have hB : Below w.heap.size w ((w.alloc (.cells #[.int .i64 A.cap, vs, vi] 25)).alloc (.cells #[.int .i64 0, .int .i64 0, .int .i64 0, .bool false, .string ⟨#[]⟩, .slice none 0 0, .slice none 0 0, .int .u64 0] 28)) := ((Below.refl _ w).alloc (Nat.le_refl _) _).alloc (by simp) _
  have XA := Kept.mk (show isAr A (.agg #[.int .i64 A.cap, vs, vi]) ((w.alloc (.cells #[.int .i64 A.cap, vs, vi] 25)).alloc (.cells #[.int .i64 0, .int .i64 0, .int .i64 0, .bool false, .string ⟨#[]⟩, .slice none 0 0, .slice none 0 0, .int .u64 0] 28)) from stable_ar A _ _ _ ⟨vs, vi, rfl, hs, hi⟩ hB)
  have BA := Kept.mk ((Blk.new w 25 [.int .i64 A.cap, vs, vi] w.heap.size rfl).alloc (.cells #[.int .i64 0, .int .i64 0, .int .i64 0, .bool false, .string ⟨#[]⟩, .slice none 0 0, .slice none 0 0, .int .u64 0] 28))
  have BR := Kept.mk (Blk.new (w.alloc (.cells #[.int .i64 A.cap, vs, vi] 25)) 28 [.int .i64 0, .int .i64 0, .int .i64 0, .bool false, .string ⟨#[]⟩, .slice none 0 0, .slice none 0 0, .int .u64 0] (w.heap.size + 1) (by simp))
  have ka0 := BA.out.cells.2 0 _ rfl
  have ka1 := BA.out.cells.2 1 _ rfl
  have ka2 := BA.out.cells.2 2 _ rfl
  have eg : ∀ args w, (callFunc 105 args).run Tryz.prog w = .ok (.enter 105 args) w := enters_of Tryz.func105 (by kernel_rfl) rfl
  have hsz : w.heap.size + 1 < ((w.alloc (.cells #[.int .i64 A.cap, vs, vi] 25)).alloc (.cells #[.int .i64 0, .int .i64 0, .int .i64 0, .bool false, .string ⟨#[]⟩, .slice none 0 0, .slice none 0 0, .int .u64 0] 28)).heap.size := by simp
  have HB := Kept.mk hB
  clear hB
  have HVO := Kept.mk (show isAr A (.agg #[.int .i64 A.cap, vs, vi]) w from ⟨vs, vi, rfl, hs, hi⟩)
  have HH := Kept.mk hh
  have HV := Kept.mk hV
  clear hs hi hV hh eg
  go_enter Tryz.func52, Tryz.ntmps52
  go_wp2_with fail
  generalize ((w.alloc (.cells #[.int .i64 A.cap, vs, vi] 25)).alloc (.cells #[.int .i64 0, .int .i64 0, .int .i64 0, .bool false, .string ⟨#[]⟩, .slice none 0 0, .slice none 0 0, .int .u64 0] 28)) = W0 at *
  refine (readV_yes A kind key V _ w W0 HB.out HVO.out hF HH.out HV.out).mono ?_
  rintro e U ⟨⟨vp, vm, rfl, hp, hm⟩, hb⟩
  have hn1 := old_ne hp (show w.heap.size ≤ w.heap.size + 1 by omega)
  have hn2 := old_ne hm (show w.heap.size ≤ w.heap.size + 1 by omega)
  replace HB := Kept.mk (HB.out.trans (hb.mono HB.out.size))
  obtain ⟨K1, K2, K3, K4, K5⟩ := vnew U V vp vm (stable_cells _ _ _ _ hp HB.out) (stable_cells _ _ _ _ hm HB.out) U.heap.size rfl
  replace HB := Kept.mk (HB.out.trans (K3.out.mono HB.out.size))
  replace BR := Kept.mk ((BR.out.keep hb).keep K3.out)
  have K6 := Kept.mk K4.out
  obtain ⟨J1, J2, J3⟩ := vset3 V vp vm (g := w.heap.size + 1) (B := w.heap.size) (by omega) HB.out BR.out.cells rfl K6.out.2.1 K6.out.2.2 hn1 hn2
  clear hb hp hm hn1 hn2 XA BA ka0 ka1 ka2
  go_wp2_with (first
    | (have hz0 := K1; refine wpList_storeN 28 rfl (.tmp 8) (.tmp 15) rfl U.heap.size [.int .i64 V.kind, .int .i64 V.time, .int .i64 V.node, .bool V.dead, .string ⟨V.text.toArray⟩, vp, vm, .int .u64 (V.flags.toNat : Int)] size_va rfl rfl K1.out rfl K2.out K5.out ?_; clear hz0 K1 K2 K3 K4 K5; generalize setN (U.alloc (.cells #[.int .i64 0, .int .i64 0, .int .i64 0, .bool false, .string ⟨#[]⟩, .slice none 0 0, .slice none 0 0, .int .u64 0] 28)) U.heap.size 0 [.int .i64 V.kind, .int .i64 V.time, .int .i64 V.node, .bool V.dead, .string ⟨V.text.toArray⟩, vp, vm, .int .u64 (V.flags.toNat : Int)] = W2 at *; have k0 := K6.out.1.2 0 _ rfl; have k1 := K6.out.1.2 1 _ rfl; have k2 := K6.out.1.2 2 _ rfl; have k3 := K6.out.1.2 3 _ rfl; have k4 := K6.out.1.2 4 _ rfl; have k5 := K6.out.1.2 5 _ rfl; have k6 := K6.out.1.2 6 _ rfl; have k7 := K6.out.1.2 7 _ rfl)
    | (have hz1 := J3; refine wpList_storeN 28 rfl (.tmp 6) (.tmp 21) rfl (w.heap.size + 1) [.int .i64 V.kind, .int .i64 V.time, .int .i64 V.node, .bool V.dead, .string ⟨V.text.toArray⟩, vp, vm, .int .u64 (V.flags.toNat : Int)] size_va rfl rfl BR.out.cells rfl BR.out.free J3.out ?_; clear hz1))
  exact bodyPost_ret (resultsN2 rfl _ _ (w.heap.size + 1) [.int .i64 V.kind, .int .i64 V.time, .int .i64 V.node, .bool V.dead, .string ⟨V.text.toArray⟩, vp, vm, .int .u64 (V.flags.toNat : Int)] (.bool true) size_va agg_va rfl rfl J2.out.1) rfl ⟨⟨_, rfl, ⟨vp, vm, rfl, J2.out.2.1, J2.out.2.2⟩⟩, J1.out⟩
end Go.Proofs.YtbgconagkgfplaaGreat
end
section
namespace Go.Proofs.YtbgconagkgfplaaGreat
open Go.RowKit
set_option linter.unusedVariables false
set_option linter.unusedSimpArgs false
attribute [local irreducible] setN

theorem held_any (A : Ar) (kind : Int) (key : List UInt8) (V : Va) (z : Bool) (v : Value) (w : World) (hv : isAr A v w) (hF : FitA A) (hV : heldV A kind key = V) (hz : heldB A kind key = z) : Calls Tryz.prog 52 #[v, .int .i64 kind, .string ⟨key.toArray⟩] w fun e w' => (∃ v', e = .returned (.tuple #[v', .bool z]) ∧ isVa V v' w') ∧ Below w.heap.size w w' := by
  cases z with
  | false => exact held_no_any A kind key v w hv hF hz V (by rw [← hV]; unfold heldV; rw [if_neg (by unfold heldB at hz; exact of_decide_eq_false hz)])
  | true => exact held_yes_any A kind key V v w hv hF hz hV
theorem call_v1 {f : FuncId} {vs : Array Value} {w : World} {r : Value} (h : Calls Tryz.prog f vs w fun e w' => e = .returned r ∧ Below w.heap.size w w') : Calls Tryz.prog f vs w fun e w' => ∃ x, e = .returned x ∧ isVal r x w' ∧ Below w.heap.size w w' := h.mono (by rintro e w' ⟨rfl, hb⟩; exact ⟨_, rfl, rfl, hb⟩)
theorem refusal_at (es : List Int) (r : Int) (v : Value) (w : World) (hv : isChks es v w) (hl : es.length ≤ 100) (hr : firstE es = r) : Calls Tryz.prog 53 #[v] w fun e w' => e = .returned (.int .i64 r) ∧ Below w.heap.size w w' := by subst hr; exact refusal_any es v w hv hl
theorem infoChk : (Tryz.prog.info? 81).map (fun i => (i.zero, i.size)) = some (some .nilFunc, 1) := by kernel_rfl
theorem infoChk' : ∃ ie, Tryz.prog.info? 81 = some ie ∧ ie.zero = some .nilFunc ∧ ie.size = 1 := by
  obtain ⟨ie, h1, h2⟩ := Option.map_eq_some_iff.1 infoChk
  simp only [Prod.mk.injEq] at h2
  exact ⟨ie, h1, h2.1, h2.2⟩
noncomputable def dput_anyROps : Array Oper := regionOf Tryz.f20 2
set_option maxRecDepth 100000 in
set_option maxHeartbeats 2000000 in
theorem dput_anyR_region (Q : Exit → Act → World → Prop) (a0 : Act) (w0 : World) (hsz : a0.tmps.size = 45) (ga gv gt : Nat) (A : Ar) (V : Va) (vs vi vp vm : Value) (z : Bool) (r : Int) (node : Int) (key text : List UInt8) (HA : CellsN w0 ga [.int .i64 A.cap, vs, vi]) (XA : isAr A (.agg #[.int .i64 A.cap, vs, vi]) w0) (HV : CellsN w0 gv [.int .i64 V.kind, .int .i64 V.time, .int .i64 V.node, .bool V.dead, .string ⟨V.text.toArray⟩, vp, vm, .int .u64 (V.flags.toNat : Int)]) (XV : isVa V (.agg #[.int .i64 V.kind, .int .i64 V.time, .int .i64 V.node, .bool V.dead, .string ⟨V.text.toArray⟩, vp, vm, .int .u64 (V.flags.toNat : Int)]) w0) (hF : FitA A) (hk : key.length ≤ 1000) (ht : text.length ≤ 1000) (hgt : gt < w0.heap.size) (HT : w0.cell? ⟨gt, 0, none⟩ = some (.string ⟨text.toArray⟩)) (hr : firstE [chkA A, nodeE node, keyE key, longE text, roomE A z, timeE V] = r) (e4 : a0.tmps.getD 4 undef = .pointer (some ⟨ga, 0, none⟩)) (e10 : a0.tmps.getD 10 undef = .pointer (some ⟨gv, 0, none⟩)) (e1 : a0.tmps.getD 1 undef = .int .i64 node) (e2 : a0.tmps.getD 2 undef = .string ⟨key.toArray⟩) (e7 : a0.tmps.getD 7 undef = .pointer (some ⟨gt, 0, none⟩)) (e11 : a0.tmps.getD 11 undef = .bool z)
    (hQ : ∀ (g : Nat → Value) (w : World), g 12 = .int .i64 r → Below w0.heap.size w0 w → Q .normal { tmps := [19, 20, 21, 22, 23, 24, 25, 26, 27, 28, 29, 30, 31, 32, 12].foldl (fun t s => t.setIfInBounds s (g s)) a0.tmps, defers := a0.defers } w) :
    (Code.region 2 dput_anyROps true).wp Tryz.prog Q a0 w0 := by
  obtain ⟨ie, hie, hiz, his⟩ := infoChk'
  refine wp_region_flow mixed (by rw [hsz]; kernel_rfl) ?_
  rw [show dput_anyROps.size = 15 by kernel_rfl]
  refine ⟨isVal (.agg #[.int .i64 A.cap, vs, vi]), step_loadA 25 (.tmp 4) (ga) (0) [.int .i64 A.cap, vs, vi] (by kernel_rfl) (wanted_none (by kernel_rfl)) (knows_old 4 (.pointer (some ⟨ga, 0, none⟩)) (by kernel_rfl) e4) size_ar agg_ar (⟨HA.1, fun j x hx => by rw [Nat.zero_add]; exact HA.2 j x hx⟩), ?_⟩
  refine ⟨(isChk (chkA A)), step_call 54 #[.tmp 19] #[25] #[.agg #[.int .i64 A.cap, vs, vi]] (by kernel_rfl) (wanted_none (by kernel_rfl)) (stable_chk _) (args1 (.tmp 19) (.agg #[.int .i64 A.cap, vs, vi]) (knows_new (V := isVal (.agg #[.int .i64 A.cap, vs, vi])) 19 0 (by kernel_rfl) (by kernel_rfl) (by kernel_rfl))) (enters_of Tryz.func54 (by kernel_rfl) rfl) (by intro w' hb; exact mayBe_any A _ w' (stable_ar _ _ _ _ XA hb) hF), ?_⟩
  refine ⟨isVal (.int .i64 node), step_move (.tmp 1) (by kernel_rfl) (wanted_none (by kernel_rfl)) (stable_val _) (knows_old 1 (.int .i64 node) (by kernel_rfl) e1), ?_⟩
  refine ⟨(isChk (nodeE node)), step_call 55 #[.tmp 21] #[3] #[.int .i64 node] (by kernel_rfl) (wanted_none (by kernel_rfl)) (stable_chk _) (args1 (.tmp 21) (.int .i64 node) (knows_new (V := isVal (.int .i64 node)) 21 2 (by kernel_rfl) (by kernel_rfl) (by kernel_rfl))) (enters_of Tryz.func55 (by kernel_rfl) rfl) (by intro w' hb; exact isNode_any node w'), ?_⟩
  refine ⟨isVal (.string ⟨key.toArray⟩), step_move (.tmp 2) (by kernel_rfl) (wanted_none (by kernel_rfl)) (stable_val _) (knows_old 2 (.string ⟨key.toArray⟩) (by kernel_rfl) e2), ?_⟩
  refine ⟨(isChk (keyE key)), step_call 56 #[.tmp 23] #[9] #[.string ⟨key.toArray⟩] (by kernel_rfl) (wanted_none (by kernel_rfl)) (stable_chk _) (args1 (.tmp 23) (.string ⟨key.toArray⟩) (knows_new (V := isVal (.string ⟨key.toArray⟩)) 23 4 (by kernel_rfl) (by kernel_rfl) (by kernel_rfl))) (enters_of Tryz.func56 (by kernel_rfl) rfl) (by intro w' hb; exact isKey_any key w' hk), ?_⟩
  refine ⟨(isChk (longE text)), step_clos1 57 (.tmp 7) (.pointer (some ⟨gt, 0, none⟩)) (longE text) (by kernel_rfl) (wanted_none (by kernel_rfl)) (knows_old 7 (.pointer (some ⟨gt, 0, none⟩)) (by kernel_rfl) e7) (⟨57, #[.pointer (some ⟨gt, 0, none⟩)], rfl, enters_of Tryz.func57 (by kernel_rfl) rfl, fun w' hb => long1_any gt text w' ((hb.cell (p := ⟨gt, 0, none⟩) hgt).trans HT) ht⟩), ?_⟩
  refine ⟨isVal (.agg #[.int .i64 A.cap, vs, vi]), step_loadA 25 (.tmp 4) (ga) (0) [.int .i64 A.cap, vs, vi] (by kernel_rfl) (wanted_none (by kernel_rfl)) (knows_old 4 (.pointer (some ⟨ga, 0, none⟩)) (by kernel_rfl) e4) size_ar agg_ar (⟨HA.1, fun j x hx => by rw [Nat.zero_add]; exact HA.2 j x hx⟩), ?_⟩
  refine ⟨isVal (.bool z), step_move (.tmp 11) (by kernel_rfl) (wanted_none (by kernel_rfl)) (stable_val _) (knows_old 11 (.bool z) (by kernel_rfl) e11), ?_⟩
  refine ⟨(isChk (roomE A z)), step_call 59 #[.tmp 26, .tmp 27] #[25, 4] #[.agg #[.int .i64 A.cap, vs, vi], .bool z] (by kernel_rfl) (wanted_none (by kernel_rfl)) (stable_chk _) (args2 (.tmp 26) (.tmp 27) (.agg #[.int .i64 A.cap, vs, vi]) (.bool z) (knows_new (V := isVal (.agg #[.int .i64 A.cap, vs, vi])) 26 7 (by kernel_rfl) (by kernel_rfl) (by kernel_rfl)) (knows_new (V := isVal (.bool z)) 27 8 (by kernel_rfl) (by kernel_rfl) (by kernel_rfl))) (enters_of Tryz.func59 (by kernel_rfl) rfl) (by intro w' hb; exact hasRoom_any A z _ w' (stable_ar _ _ _ _ XA hb) hF), ?_⟩
  refine ⟨isVal (.agg #[.int .i64 V.kind, .int .i64 V.time, .int .i64 V.node, .bool V.dead, .string ⟨V.text.toArray⟩, vp, vm, .int .u64 (V.flags.toNat : Int)]), step_loadA 28 (.tmp 10) (gv) (0) [.int .i64 V.kind, .int .i64 V.time, .int .i64 V.node, .bool V.dead, .string ⟨V.text.toArray⟩, vp, vm, .int .u64 (V.flags.toNat : Int)] (by kernel_rfl) (wanted_none (by kernel_rfl)) (knows_old 10 (.pointer (some ⟨gv, 0, none⟩)) (by kernel_rfl) e10) size_va agg_va (⟨HV.1, fun j x hx => by rw [Nat.zero_add]; exact HV.2 j x hx⟩), ?_⟩
  refine ⟨(isChk (timeE V)), step_call 60 #[.tmp 29] #[28] #[.agg #[.int .i64 V.kind, .int .i64 V.time, .int .i64 V.node, .bool V.dead, .string ⟨V.text.toArray⟩, vp, vm, .int .u64 (V.flags.toNat : Int)]] (by kernel_rfl) (wanted_none (by kernel_rfl)) (stable_chk _) (args1 (.tmp 29) (.agg #[.int .i64 V.kind, .int .i64 V.time, .int .i64 V.node, .bool V.dead, .string ⟨V.text.toArray⟩, vp, vm, .int .u64 (V.flags.toNat : Int)]) (knows_new (V := isVal (.agg #[.int .i64 V.kind, .int .i64 V.time, .int .i64 V.node, .bool V.dead, .string ⟨V.text.toArray⟩, vp, vm, .int .u64 (V.flags.toNat : Int)])) 29 10 (by kernel_rfl) (by kernel_rfl) (by kernel_rfl))) (enters_of Tryz.func60 (by kernel_rfl) rfl) (by intro w' hb; exact hasTime_any V _ w' (stable_va _ _ _ _ XV hb)), ?_⟩
  refine ⟨(isChks [chkA A, nodeE node, keyE key, longE text, roomE A z, timeE V]), step_chks6 124 81 (.tmp 20) (.tmp 22) (.tmp 24) (.tmp 25) (.tmp 28) (.tmp 30) (chkA A) (nodeE node) (keyE key) (longE text) (roomE A z) (timeE V) ie (by kernel_rfl) (wanted_none (by kernel_rfl)) (knows_new (V := (isChk (chkA A))) 20 1 (by kernel_rfl) (by kernel_rfl) (by kernel_rfl)) (knows_new (V := (isChk (nodeE node))) 22 3 (by kernel_rfl) (by kernel_rfl) (by kernel_rfl)) (knows_new (V := (isChk (keyE key))) 24 5 (by kernel_rfl) (by kernel_rfl) (by kernel_rfl)) (knows_new (V := (isChk (longE text))) 25 6 (by kernel_rfl) (by kernel_rfl) (by kernel_rfl)) (knows_new (V := (isChk (roomE A z))) 28 9 (by kernel_rfl) (by kernel_rfl) (by kernel_rfl)) (knows_new (V := (isChk (timeE V))) 30 11 (by kernel_rfl) (by kernel_rfl) (by kernel_rfl)) Tryz.underlying124 hie hiz his, ?_⟩
  refine ⟨isVal (.int .i64 r), step_callP 53 #[.tmp 31] #[124] (by kernel_rfl) (wanted_none (by kernel_rfl)) (stable_val _) (enters_of Tryz.func53 (by kernel_rfl) rfl) (fun vs w => ∃ u, vs = #[u] ∧ isChks [chkA A, nodeE node, keyE key, longE text, roomE A z, timeE V] u w) (pre1 (knows_new (V := (isChks [chkA A, nodeE node, keyE key, longE text, roomE A z, timeE V])) 31 12 (by kernel_rfl) (by kernel_rfl) (by kernel_rfl))) (fun vs w' hb hp => by obtain ⟨u, rfl, hu⟩ := hp; exact call_v1 (refusal_at [chkA A, nodeE node, keyE key, longE text, roomE A z, timeE V] r u w' hu (by simp) hr)), ?_⟩
  refine ⟨isVal (.int .i64 r), step_assign (.tmp 32) (by kernel_rfl) (wanted_none (by kernel_rfl)) (stable_val _) (knows_new (V := isVal (.int .i64 r)) 32 13 (by kernel_rfl) (by kernel_rfl) (by kernel_rfl)), ?_⟩
  intro a w hkp hb hd
  rw [kept_of hkp [some 19, some 20, some 21, some 22, some 23, some 24, some 25, some 26, some 27, some 28, some 29, some 30, some 31, some 32, some 12] [19, 20, 21, 22, 23, 24, 25, 26, 27, 28, 29, 30, 31, 32, 12] (by kernel_rfl) (by decide)]
  have d12 := fdone_of (hd 14 (by rw [show dput_anyROps.size = 15 by kernel_rfl]; decide)) (t := 12) (V := isVal (.int .i64 r)) (by kernel_rfl) (by kernel_rfl)
  exact hQ (fun s => a.tmps.getD s undef) w d12 hb
set_option maxRecDepth 100000 in
set_option maxHeartbeats 2000000 in
theorem dput_any (A : Ar) (node : Int) (key text : List UInt8) (v : Value) (w : World) (hv : isAr A v w) (hF : FitA A) (hk : key.length ≤ 1000) (ht : text.length ≤ 1000) : Calls Tryz.prog 20 #[v, .int .i64 node, .string ⟨key.toArray⟩, .string ⟨text.toArray⟩] w fun e w' => (∃ v', e = .returned (.tuple #[v', .int .i64 (putDE A node key text)]) ∧ isEn (putDF A node key text) v' w') ∧ Below w.heap.size w w' := by
  obtain ⟨vs, vi, rfl, hs, hi⟩ := hv
  obtain ⟨V, hV⟩ : ∃ V, heldV A 1 key = V := ⟨_, rfl⟩
  obtain ⟨z, hz⟩ : ∃ z, heldB A 1 key = z := ⟨_, rfl⟩
  obtain ⟨r, hr⟩ : ∃ r, putDE A node key text = r := ⟨_, rfl⟩
  have HR := Kept.mk hr
  have HV := Kept.mk hV
  have HZ := Kept.mk hz
  have HE := Kept.mk (show firstE [chkA A, nodeE node, keyE key, longE text, roomE A z, timeE V] = r by subst hV; subst hz; subst hr; rfl)
  have hok := (held_ok A (kind := 1) key (by decide)).1
  have htm := held_time A key
  rw [hV] at htm
  have HB := Kept.mk (show Below w.heap.size w (((w.alloc (.cells #[.int .i64 A.cap, vs, vi] 25)).alloc (.cells #[.string ⟨text.toArray⟩] 9)).alloc (.cells #[.string ⟨#[]⟩, .int .i64 0, .int .i64 0, .int .i64 0, .bool false, .string ⟨#[]⟩, .slice none 0 0, .slice none 0 0, .int .u64 0] 30)) from (((Below.refl _ w).alloc (Nat.le_refl _) _).alloc (by simp) _).alloc (by simp; omega) _)
  have XA := Kept.mk (show isAr A (.agg #[.int .i64 A.cap, vs, vi]) (((w.alloc (.cells #[.int .i64 A.cap, vs, vi] 25)).alloc (.cells #[.string ⟨text.toArray⟩] 9)).alloc (.cells #[.string ⟨#[]⟩, .int .i64 0, .int .i64 0, .int .i64 0, .bool false, .string ⟨#[]⟩, .slice none 0 0, .slice none 0 0, .int .u64 0] 30)) from stable_ar A _ _ _ ⟨vs, vi, rfl, hs, hi⟩ HB.out)
  have BA := Kept.mk (((Blk.new w 25 [.int .i64 A.cap, vs, vi] w.heap.size rfl).alloc (.cells #[.string ⟨text.toArray⟩] 9)).alloc (.cells #[.string ⟨#[]⟩, .int .i64 0, .int .i64 0, .int .i64 0, .bool false, .string ⟨#[]⟩, .slice none 0 0, .slice none 0 0, .int .u64 0] 30))
  have BT := Kept.mk ((Blk.new (w.alloc (.cells #[.int .i64 A.cap, vs, vi] 25)) 9 [.string ⟨text.toArray⟩] (w.heap.size + 1) (by simp)).alloc (.cells #[.string ⟨#[]⟩, .int .i64 0, .int .i64 0, .int .i64 0, .bool false, .string ⟨#[]⟩, .slice none 0 0, .slice none 0 0, .int .u64 0] 30))
  have BR := Kept.mk (Blk.new ((w.alloc (.cells #[.int .i64 A.cap, vs, vi] 25)).alloc (.cells #[.string ⟨text.toArray⟩] 9)) 30 [.string ⟨#[]⟩, .int .i64 0, .int .i64 0, .int .i64 0, .bool false, .string ⟨#[]⟩, .slice none 0 0, .slice none 0 0, .int .u64 0] (w.heap.size + 2) (by simp))
  have ka0 := BA.out.cells.2 0 _ rfl
  have ka1 := BA.out.cells.2 1 _ rfl
  have ka2 := BA.out.cells.2 2 _ rfl
  have HSI := Kept.mk (show isAr A (.agg #[.int .i64 A.cap, vs, vi]) w from ⟨vs, vi, rfl, hs, hi⟩)
  clear hs hi hr hz hV hok
  rw [HR.out]
  have HH := Kept.mk (fun v w hv => held_any A 1 key V z v w hv hF HV.out HZ.out)
  go_enter Tryz.func20, Tryz.ntmps20
  go_wp2_with fail
  generalize (((w.alloc (.cells #[.int .i64 A.cap, vs, vi] 25)).alloc (.cells #[.string ⟨text.toArray⟩] 9)).alloc (.cells #[.string ⟨#[]⟩, .int .i64 0, .int .i64 0, .int .i64 0, .bool false, .string ⟨#[]⟩, .slice none 0 0, .slice none 0 0, .int .u64 0] 30)) = W0 at *
  refine (HH.out _ W0 XA.out).mono ?_
  rintro e U ⟨⟨v1, rfl, p', m', rfl, hp', hm'⟩, hb⟩
  replace HB := Kept.mk (HB.out.trans ((hb).mono HB.out.size))
  replace XA := Kept.mk (stable_ar _ _ _ _ XA.out (hb))
  replace BA := Kept.mk (BA.out.keep (hb))
  replace BR := Kept.mk (BR.out.keep (hb))
  replace BT := Kept.mk (BT.out.keep (hb))
  clear ka0 ka1 ka2 hb
  obtain ⟨K1, K2, K3, K4, K5⟩ := vnew U V p' m' hp' hm' U.heap.size rfl
  clear hp' hm'
  go_wp2_with (have hz0 := K1; refine wpList_storeN 28 rfl (.tmp 10) (.tmp 17) rfl U.heap.size [.int .i64 V.kind, .int .i64 V.time, .int .i64 V.node, .bool V.dead, .string ⟨V.text.toArray⟩, p', m', .int .u64 (V.flags.toNat : Int)] size_va rfl rfl K1.out rfl K2.out K5.out ?_; replace HB := Kept.mk (HB.out.trans ((K3.out).mono HB.out.size)); replace XA := Kept.mk (stable_ar _ _ _ _ XA.out (K3.out)); replace BA := Kept.mk (BA.out.keep (K3.out)); replace BR := Kept.mk (BR.out.keep (K3.out)); replace BT := Kept.mk (BT.out.keep (K3.out)); have KV := Kept.mk K4.out; clear hz0 K1 K2 K3 K4 K5; generalize setN (U.alloc (.cells #[.int .i64 0, .int .i64 0, .int .i64 0, .bool false, .string ⟨#[]⟩, .slice none 0 0, .slice none 0 0, .int .u64 0] 28)) U.heap.size 0 [.int .i64 V.kind, .int .i64 V.time, .int .i64 V.node, .bool V.dead, .string ⟨V.text.toArray⟩, p', m', .int .u64 (V.flags.toNat : Int)] = W2 at *; generalize U.heap.size = gv at *)
  have hvp := KV.out.2.1
  have hvm := KV.out.2.2
  refine dput_anyR_region _ _ _ rfl w.heap.size gv (w.heap.size + 1) A V vs vi p' m' z r node key text BA.out.cells XA.out KV.out.1 ⟨_, _, rfl, hvp, hvm⟩ hF hk ht BT.out.lt (BT.out.cells.2 0 _ rfl) HE.out rfl rfl rfl rfl rfl rfl ?_
  intro f9 W9 d12 hb9
  simp only [List.foldl_cons, List.foldl_nil, d12]
  generalize f9 19 = y19
  generalize f9 20 = y20
  generalize f9 21 = y21
  generalize f9 22 = y22
  generalize f9 23 = y23
  generalize f9 24 = y24
  generalize f9 25 = y25
  generalize f9 26 = y26
  generalize f9 27 = y27
  generalize f9 28 = y28
  generalize f9 29 = y29
  generalize f9 30 = y30
  generalize f9 31 = y31
  generalize f9 32 = y32
  clear d12
  simp only [List.setIfInBounds_toArray, List.set_cons_succ, List.set_cons_zero]
  replace HB := Kept.mk (HB.out.trans ((hb9).mono HB.out.size))
  replace XA := Kept.mk (stable_ar _ _ _ _ XA.out (hb9))
  replace BA := Kept.mk (BA.out.keep (hb9))
  replace BR := Kept.mk (BR.out.keep (hb9))
  replace BT := Kept.mk (BT.out.keep (hb9))
  have KV9 := Kept.mk (KV.out.1.keep hb9 KV.out.1.1)
  clear KV hvp hvm hb9
  by_cases h0 : r = 0
  · subst h0
    have KF := Kept.mk (show putDF A node key text = regE key (V.time + 1) node false text by unfold putDF; rw [if_pos HR.out, HV.out])
    have kv1 := KV9.out.2 1 _ rfl
    have kt0 := BT.out.cells.2 0 _ rfl
    have KZ : Kept (Ones [.string ⟨key.toArray⟩, .int .i64 1, .int .i64 (V.time + 1), .int .i64 node, .bool false, .string ⟨text.toArray⟩, .slice none 0 0, .slice none 0 0, .int .u64 0]) := ⟨⟨rfl, rfl, rfl, rfl, rfl, rfl, rfl, rfl, rfl, trivial⟩⟩
    go_wp2_with (have hz0 := KZ; refine wpList_storeN 30 rfl (.tmp 8) (.tmp 44) rfl (w.heap.size + 2) [.string ⟨key.toArray⟩, .int .i64 1, .int .i64 (V.time + 1), .int .i64 node, .bool false, .string ⟨text.toArray⟩, .slice none 0 0, .slice none 0 0, .int .u64 0] size_en rfl rfl BR.out.cells rfl BR.out.free KZ.out ?_; clear hz0)
    rw [KF.out]
    exact bodyPost_ret (resultsN2 rfl _ _ (w.heap.size + 2) [.string ⟨key.toArray⟩, .int .i64 1, .int .i64 (V.time + 1), .int .i64 node, .bool false, .string ⟨text.toArray⟩, .slice none 0 0, .slice none 0 0, .int .u64 0] _ size_en agg_en rfl rfl (BR.out.all_ (l := [.string ⟨key.toArray⟩, .int .i64 1, .int .i64 (V.time + 1), .int .i64 node, .bool false, .string ⟨text.toArray⟩, .slice none 0 0, .slice none 0 0, .int .u64 0]) rfl).cells) rfl ⟨⟨_, rfl, ⟨.slice none 0 0, .slice none 0 0, rfl, .inl ⟨rfl, rfl⟩, .inl ⟨rfl, rfl⟩⟩⟩, below_setN (by omega) _ 0 _ HB.out⟩
  · have KF := Kept.mk (show putDF A node key text = zeroE by unfold putDF; rw [if_neg (by rw [HR.out]; exact h0)])
    have KZ : Kept (Ones [.string ⟨#[]⟩, .int .i64 0, .int .i64 0, .int .i64 0, .bool false, .string ⟨#[]⟩, .slice none 0 0, .slice none 0 0, .int .u64 0]) := ⟨⟨rfl, rfl, rfl, rfl, rfl, rfl, rfl, rfl, rfl, trivial⟩⟩
    go_wp2_with (have hz0 := KZ; refine wpList_storeN 30 rfl (.tmp 8) (.tmp 35) rfl (w.heap.size + 2) [.string ⟨#[]⟩, .int .i64 0, .int .i64 0, .int .i64 0, .bool false, .string ⟨#[]⟩, .slice none 0 0, .slice none 0 0, .int .u64 0] size_en rfl rfl BR.out.cells rfl BR.out.free KZ.out ?_; clear hz0)
    rw [KF.out]
    exact bodyPost_ret (resultsN2 rfl _ _ (w.heap.size + 2) [.string ⟨#[]⟩, .int .i64 0, .int .i64 0, .int .i64 0, .bool false, .string ⟨#[]⟩, .slice none 0 0, .slice none 0 0, .int .u64 0] _ size_en agg_en rfl rfl (BR.out.all_ (l := [.string ⟨#[]⟩, .int .i64 0, .int .i64 0, .int .i64 0, .bool false, .string ⟨#[]⟩, .slice none 0 0, .slice none 0 0, .int .u64 0]) rfl).cells) rfl ⟨⟨_, rfl, ⟨.slice none 0 0, .slice none 0 0, rfl, .inl ⟨rfl, rfl⟩, .inl ⟨rfl, rfl⟩⟩⟩, below_setN (by omega) _ 0 _ HB.out⟩
noncomputable def ddel_anyROps : Array Oper := regionOf Tryz.f22 2
set_option maxRecDepth 100000 in
set_option maxHeartbeats 2000000 in
theorem ddel_anyR_region (Q : Exit → Act → World → Prop) (a0 : Act) (w0 : World) (hsz : a0.tmps.size = 39) (ga gv gi : Nat) (A : Ar) (V : Va) (vs vi vp vm : Value) (z : Bool) (r : Int) (node : Int) (key : List UInt8) (HA : CellsN w0 ga [.int .i64 A.cap, vs, vi]) (XA : isAr A (.agg #[.int .i64 A.cap, vs, vi]) w0) (HV : CellsN w0 gv [.int .i64 V.kind, .int .i64 V.time, .int .i64 V.node, .bool V.dead, .string ⟨V.text.toArray⟩, vp, vm, .int .u64 (V.flags.toNat : Int)]) (XV : isVa V (.agg #[.int .i64 V.kind, .int .i64 V.time, .int .i64 V.node, .bool V.dead, .string ⟨V.text.toArray⟩, vp, vm, .int .u64 (V.flags.toNat : Int)]) w0) (hF : FitA A) (hk : key.length ≤ 1000) (hgi : gi < w0.heap.size) (HI : w0.cell? ⟨gi, 0, none⟩ = some (.bool z)) (hr : firstE [chkA A, nodeE node, keyE key, goneE z V, timeE V] = r) (e3 : a0.tmps.getD 3 undef = .pointer (some ⟨ga, 0, none⟩)) (e8 : a0.tmps.getD 8 undef = .pointer (some ⟨gv, 0, none⟩)) (e1 : a0.tmps.getD 1 undef = .int .i64 node) (e2 : a0.tmps.getD 2 undef = .string ⟨key.toArray⟩) (e9 : a0.tmps.getD 9 undef = .pointer (some ⟨gi, 0, none⟩))
    (hQ : ∀ (g : Nat → Value) (w : World), g 10 = .int .i64 r → Below w0.heap.size w0 w → Q .normal { tmps := [17, 18, 19, 20, 21, 22, 23, 24, 25, 26, 27, 10].foldl (fun t s => t.setIfInBounds s (g s)) a0.tmps, defers := a0.defers } w) :
    (Code.region 2 ddel_anyROps true).wp Tryz.prog Q a0 w0 := by
  obtain ⟨ie, hie, hiz, his⟩ := infoChk'
  refine wp_region_flow mixed (by rw [hsz]; kernel_rfl) ?_
  rw [show ddel_anyROps.size = 12 by kernel_rfl]
  refine ⟨isVal (.agg #[.int .i64 A.cap, vs, vi]), step_loadA 25 (.tmp 3) (ga) (0) [.int .i64 A.cap, vs, vi] (by kernel_rfl) (wanted_none (by kernel_rfl)) (knows_old 3 (.pointer (some ⟨ga, 0, none⟩)) (by kernel_rfl) e3) size_ar agg_ar (⟨HA.1, fun j x hx => by rw [Nat.zero_add]; exact HA.2 j x hx⟩), ?_⟩
  refine ⟨(isChk (chkA A)), step_call 54 #[.tmp 17] #[25] #[.agg #[.int .i64 A.cap, vs, vi]] (by kernel_rfl) (wanted_none (by kernel_rfl)) (stable_chk _) (args1 (.tmp 17) (.agg #[.int .i64 A.cap, vs, vi]) (knows_new (V := isVal (.agg #[.int .i64 A.cap, vs, vi])) 17 0 (by kernel_rfl) (by kernel_rfl) (by kernel_rfl))) (enters_of Tryz.func54 (by kernel_rfl) rfl) (by intro w' hb; exact mayBe_any A _ w' (stable_ar _ _ _ _ XA hb) hF), ?_⟩
  refine ⟨isVal (.int .i64 node), step_move (.tmp 1) (by kernel_rfl) (wanted_none (by kernel_rfl)) (stable_val _) (knows_old 1 (.int .i64 node) (by kernel_rfl) e1), ?_⟩
  refine ⟨(isChk (nodeE node)), step_call 55 #[.tmp 19] #[3] #[.int .i64 node] (by kernel_rfl) (wanted_none (by kernel_rfl)) (stable_chk _) (args1 (.tmp 19) (.int .i64 node) (knows_new (V := isVal (.int .i64 node)) 19 2 (by kernel_rfl) (by kernel_rfl) (by kernel_rfl))) (enters_of Tryz.func55 (by kernel_rfl) rfl) (by intro w' hb; exact isNode_any node w'), ?_⟩
  refine ⟨isVal (.string ⟨key.toArray⟩), step_move (.tmp 2) (by kernel_rfl) (wanted_none (by kernel_rfl)) (stable_val _) (knows_old 2 (.string ⟨key.toArray⟩) (by kernel_rfl) e2), ?_⟩
  refine ⟨(isChk (keyE key)), step_call 56 #[.tmp 21] #[9] #[.string ⟨key.toArray⟩] (by kernel_rfl) (wanted_none (by kernel_rfl)) (stable_chk _) (args1 (.tmp 21) (.string ⟨key.toArray⟩) (knows_new (V := isVal (.string ⟨key.toArray⟩)) 21 4 (by kernel_rfl) (by kernel_rfl) (by kernel_rfl))) (enters_of Tryz.func56 (by kernel_rfl) rfl) (by intro w' hb; exact isKey_any key w' hk), ?_⟩
  refine ⟨(isChk (goneE z V)), step_clos2 64 (.tmp 9) (.tmp 8) (.pointer (some ⟨gi, 0, none⟩)) (.pointer (some ⟨gv, 0, none⟩)) (goneE z V) (by kernel_rfl) (wanted_none (by kernel_rfl)) (knows_old 9 (.pointer (some ⟨gi, 0, none⟩)) (by kernel_rfl) e9) (knows_old 8 (.pointer (some ⟨gv, 0, none⟩)) (by kernel_rfl) e8) (⟨64, #[.pointer (some ⟨gi, 0, none⟩), .pointer (some ⟨gv, 0, none⟩)], rfl, enters_of Tryz.func64 (by kernel_rfl) rfl, fun w' hb => gone1_any gi gv z V.dead w' ((hb.cell (p := ⟨gi, 0, none⟩) hgi).trans HI) ((hb.cell (p := ⟨gv, 3, none⟩) HV.1).trans (HV.2 3 _ rfl))⟩), ?_⟩
  refine ⟨isVal (.agg #[.int .i64 V.kind, .int .i64 V.time, .int .i64 V.node, .bool V.dead, .string ⟨V.text.toArray⟩, vp, vm, .int .u64 (V.flags.toNat : Int)]), step_loadA 28 (.tmp 8) (gv) (0) [.int .i64 V.kind, .int .i64 V.time, .int .i64 V.node, .bool V.dead, .string ⟨V.text.toArray⟩, vp, vm, .int .u64 (V.flags.toNat : Int)] (by kernel_rfl) (wanted_none (by kernel_rfl)) (knows_old 8 (.pointer (some ⟨gv, 0, none⟩)) (by kernel_rfl) e8) size_va agg_va (⟨HV.1, fun j x hx => by rw [Nat.zero_add]; exact HV.2 j x hx⟩), ?_⟩
  refine ⟨(isChk (timeE V)), step_call 60 #[.tmp 24] #[28] #[.agg #[.int .i64 V.kind, .int .i64 V.time, .int .i64 V.node, .bool V.dead, .string ⟨V.text.toArray⟩, vp, vm, .int .u64 (V.flags.toNat : Int)]] (by kernel_rfl) (wanted_none (by kernel_rfl)) (stable_chk _) (args1 (.tmp 24) (.agg #[.int .i64 V.kind, .int .i64 V.time, .int .i64 V.node, .bool V.dead, .string ⟨V.text.toArray⟩, vp, vm, .int .u64 (V.flags.toNat : Int)]) (knows_new (V := isVal (.agg #[.int .i64 V.kind, .int .i64 V.time, .int .i64 V.node, .bool V.dead, .string ⟨V.text.toArray⟩, vp, vm, .int .u64 (V.flags.toNat : Int)])) 24 7 (by kernel_rfl) (by kernel_rfl) (by kernel_rfl))) (enters_of Tryz.func60 (by kernel_rfl) rfl) (by intro w' hb; exact hasTime_any V _ w' (stable_va _ _ _ _ XV hb)), ?_⟩
  refine ⟨(isChks [chkA A, nodeE node, keyE key, goneE z V, timeE V]), step_chks5 124 81 (.tmp 18) (.tmp 20) (.tmp 22) (.tmp 23) (.tmp 25) (chkA A) (nodeE node) (keyE key) (goneE z V) (timeE V) ie (by kernel_rfl) (wanted_none (by kernel_rfl)) (knows_new (V := (isChk (chkA A))) 18 1 (by kernel_rfl) (by kernel_rfl) (by kernel_rfl)) (knows_new (V := (isChk (nodeE node))) 20 3 (by kernel_rfl) (by kernel_rfl) (by kernel_rfl)) (knows_new (V := (isChk (keyE key))) 22 5 (by kernel_rfl) (by kernel_rfl) (by kernel_rfl)) (knows_new (V := (isChk (goneE z V))) 23 6 (by kernel_rfl) (by kernel_rfl) (by kernel_rfl)) (knows_new (V := (isChk (timeE V))) 25 8 (by kernel_rfl) (by kernel_rfl) (by kernel_rfl)) Tryz.underlying124 hie hiz his, ?_⟩
  refine ⟨isVal (.int .i64 r), step_callP 53 #[.tmp 26] #[124] (by kernel_rfl) (wanted_none (by kernel_rfl)) (stable_val _) (enters_of Tryz.func53 (by kernel_rfl) rfl) (fun vs w => ∃ u, vs = #[u] ∧ isChks [chkA A, nodeE node, keyE key, goneE z V, timeE V] u w) (pre1 (knows_new (V := (isChks [chkA A, nodeE node, keyE key, goneE z V, timeE V])) 26 9 (by kernel_rfl) (by kernel_rfl) (by kernel_rfl))) (fun vs w' hb hp => by obtain ⟨u, rfl, hu⟩ := hp; exact call_v1 (refusal_at [chkA A, nodeE node, keyE key, goneE z V, timeE V] r u w' hu (by simp) hr)), ?_⟩
  refine ⟨isVal (.int .i64 r), step_assign (.tmp 27) (by kernel_rfl) (wanted_none (by kernel_rfl)) (stable_val _) (knows_new (V := isVal (.int .i64 r)) 27 10 (by kernel_rfl) (by kernel_rfl) (by kernel_rfl)), ?_⟩
  intro a w hkp hb hd
  rw [kept_of hkp [some 17, some 18, some 19, some 20, some 21, some 22, some 23, some 24, some 25, some 26, some 27, some 10] [17, 18, 19, 20, 21, 22, 23, 24, 25, 26, 27, 10] (by kernel_rfl) (by decide)]
  have d10 := fdone_of (hd 11 (by rw [show ddel_anyROps.size = 12 by kernel_rfl]; decide)) (t := 10) (V := isVal (.int .i64 r)) (by kernel_rfl) (by kernel_rfl)
  exact hQ (fun s => a.tmps.getD s undef) w d10 hb
set_option maxRecDepth 100000 in
set_option maxHeartbeats 2000000 in
theorem ddel_any (A : Ar) (node : Int) (key : List UInt8) (v : Value) (w : World) (hv : isAr A v w) (hF : FitA A) (hk : key.length ≤ 1000) : Calls Tryz.prog 22 #[v, .int .i64 node, .string ⟨key.toArray⟩] w fun e w' => (∃ v', e = .returned (.tuple #[v', .int .i64 (delDE A node key)]) ∧ isEn (delDF A node key) v' w') ∧ Below w.heap.size w w' := by
  obtain ⟨vs, vi, rfl, hs, hi⟩ := hv
  obtain ⟨V, hV⟩ : ∃ V, heldV A 1 key = V := ⟨_, rfl⟩
  obtain ⟨z, hz⟩ : ∃ z, heldB A 1 key = z := ⟨_, rfl⟩
  obtain ⟨r, hr⟩ : ∃ r, delDE A node key = r := ⟨_, rfl⟩
  have HR := Kept.mk hr
  have HV := Kept.mk hV
  have HZ := Kept.mk hz
  have HE := Kept.mk (show firstE [chkA A, nodeE node, keyE key, goneE z V, timeE V] = r by subst hV; subst hz; subst hr; rfl)
  have hok := (held_ok A (kind := 1) key (by decide)).1
  have htm := held_time A key
  rw [hV] at htm
  have HB := Kept.mk (show Below w.heap.size w ((w.alloc (.cells #[.int .i64 A.cap, vs, vi] 25)).alloc (.cells #[.string ⟨#[]⟩, .int .i64 0, .int .i64 0, .int .i64 0, .bool false, .string ⟨#[]⟩, .slice none 0 0, .slice none 0 0, .int .u64 0] 30)) from ((Below.refl _ w).alloc (Nat.le_refl _) _).alloc (by simp) _)
  have XA := Kept.mk (show isAr A (.agg #[.int .i64 A.cap, vs, vi]) ((w.alloc (.cells #[.int .i64 A.cap, vs, vi] 25)).alloc (.cells #[.string ⟨#[]⟩, .int .i64 0, .int .i64 0, .int .i64 0, .bool false, .string ⟨#[]⟩, .slice none 0 0, .slice none 0 0, .int .u64 0] 30)) from stable_ar A _ _ _ ⟨vs, vi, rfl, hs, hi⟩ HB.out)
  have BA := Kept.mk ((Blk.new w 25 [.int .i64 A.cap, vs, vi] w.heap.size rfl).alloc (.cells #[.string ⟨#[]⟩, .int .i64 0, .int .i64 0, .int .i64 0, .bool false, .string ⟨#[]⟩, .slice none 0 0, .slice none 0 0, .int .u64 0] 30))
  have BR := Kept.mk (Blk.new (w.alloc (.cells #[.int .i64 A.cap, vs, vi] 25)) 30 [.string ⟨#[]⟩, .int .i64 0, .int .i64 0, .int .i64 0, .bool false, .string ⟨#[]⟩, .slice none 0 0, .slice none 0 0, .int .u64 0] (w.heap.size + 1) (by simp))
  have ka0 := BA.out.cells.2 0 _ rfl
  have ka1 := BA.out.cells.2 1 _ rfl
  have ka2 := BA.out.cells.2 2 _ rfl
  have HSI := Kept.mk (show isAr A (.agg #[.int .i64 A.cap, vs, vi]) w from ⟨vs, vi, rfl, hs, hi⟩)
  clear hs hi hr hz hV hok
  rw [HR.out]
  have HH := Kept.mk (fun v w hv => held_any A 1 key V z v w hv hF HV.out HZ.out)
  go_enter Tryz.func22, Tryz.ntmps22
  go_wp2_with fail
  generalize ((w.alloc (.cells #[.int .i64 A.cap, vs, vi] 25)).alloc (.cells #[.string ⟨#[]⟩, .int .i64 0, .int .i64 0, .int .i64 0, .bool false, .string ⟨#[]⟩, .slice none 0 0, .slice none 0 0, .int .u64 0] 30)) = W0 at *
  refine (HH.out _ W0 XA.out).mono ?_
  rintro e U ⟨⟨v1, rfl, p', m', rfl, hp', hm'⟩, hb⟩
  replace HB := Kept.mk (HB.out.trans ((hb).mono HB.out.size))
  replace XA := Kept.mk (stable_ar _ _ _ _ XA.out (hb))
  replace BA := Kept.mk (BA.out.keep (hb))
  replace BR := Kept.mk (BR.out.keep (hb))
  clear ka0 ka1 ka2 hb
  have hU := lit_below U (.cells #[.int .i64 0, .int .i64 0, .int .i64 0, .bool false, .string ⟨#[]⟩, .slice none 0 0, .slice none 0 0, .int .u64 0] 28)
  have hU2 := lit_below (U.alloc (.cells #[.int .i64 0, .int .i64 0, .int .i64 0, .bool false, .string ⟨#[]⟩, .slice none 0 0, .slice none 0 0, .int .u64 0] 28)) (.cells #[.bool false] 4)
  have hU3 : Below U.heap.size U ((U.alloc (.cells #[.int .i64 0, .int .i64 0, .int .i64 0, .bool false, .string ⟨#[]⟩, .slice none 0 0, .slice none 0 0, .int .u64 0] 28)).alloc (.cells #[.bool false] 4)) := hU.trans (hU2.mono hU.size)
  have KN := Kept.mk ((Blk.new U 28 [.int .i64 0, .int .i64 0, .int .i64 0, .bool false, .string ⟨#[]⟩, .slice none 0 0, .slice none 0 0, .int .u64 0] U.heap.size rfl).alloc (.cells #[.bool false] 4))
  have KI := Kept.mk (Blk.new (U.alloc (.cells #[.int .i64 0, .int .i64 0, .int .i64 0, .bool false, .string ⟨#[]⟩, .slice none 0 0, .slice none 0 0, .int .u64 0] 28)) 4 [.bool false] (U.heap.size + 1) (by simp))
  obtain ⟨J1, J2, J3⟩ := vset3 V p' m' (g := U.heap.size) (B := U.heap.size) (Nat.le_refl _) hU3 KN.out.cells rfl (stable_cells _ _ _ _ hp' hU3) (stable_cells _ _ _ _ hm' hU3) (old_ne hp' (Nat.le_refl _)) (old_ne hm' (Nat.le_refl _))
  replace KI := Kept.mk (KI.out.apartN (show U.heap.size + 1 ≠ U.heap.size by omega) 0 [.int .i64 V.kind, .int .i64 V.time, .int .i64 V.node, .bool V.dead, .string ⟨V.text.toArray⟩, p', m', .int .u64 (V.flags.toNat : Int)])
  have NP := Kept.mk (old_ne hp' (show U.heap.size ≤ U.heap.size + 1 by omega))
  have NM := Kept.mk (old_ne hm' (show U.heap.size ≤ U.heap.size + 1 by omega))
  have hgr := BR.out.lt
  clear hp' hm' hU hU2 hU3
  go_wp2_with (have hz0 := KN; refine wpList_storeN 28 rfl (.tmp 8) (.tmp 15) rfl U.heap.size [.int .i64 V.kind, .int .i64 V.time, .int .i64 V.node, .bool V.dead, .string ⟨V.text.toArray⟩, p', m', .int .u64 (V.flags.toNat : Int)] size_va rfl rfl KN.out.cells rfl KN.out.free J3.out ?_; replace HB := Kept.mk (HB.out.trans ((J1.out).mono HB.out.size)); replace XA := Kept.mk (stable_ar _ _ _ _ XA.out (J1.out)); replace BA := Kept.mk (BA.out.keep (J1.out)); replace BR := Kept.mk (BR.out.keep (J1.out)); have KV := Kept.mk J2.out; have BV := Kept.mk (KN.out.all_ (l := [.int .i64 V.kind, .int .i64 V.time, .int .i64 V.node, .bool V.dead, .string ⟨V.text.toArray⟩, p', m', .int .u64 (V.flags.toNat : Int)]) rfl); clear hz0 KN J1 J2 J3; generalize setN ((U.alloc (.cells #[.int .i64 0, .int .i64 0, .int .i64 0, .bool false, .string ⟨#[]⟩, .slice none 0 0, .slice none 0 0, .int .u64 0] 28)).alloc (.cells #[.bool false] 4)) U.heap.size 0 [.int .i64 V.kind, .int .i64 V.time, .int .i64 V.node, .bool V.dead, .string ⟨V.text.toArray⟩, p', m', .int .u64 (V.flags.toNat : Int)] = W1 at *; generalize U.heap.size = gv at *; have ki0 := KI.out.cells.2 0 _ rfl; have ki1 := KI.out.free 0)
  have HW := Kept.mk ((bt_set (S := fun b => b = gv + 1) (gv + 1) 0 (.bool z) W1 rfl).below (B := w.heap.size) (fun b e => by omega) HB.out.size)
  replace HB := Kept.mk (HB.out.trans HW.out)
  replace XA := Kept.mk (stable_ar _ _ _ _ HSI.out HB.out)
  replace BA := Kept.mk (BA.out.apart (show _ ≠ gv + 1 by omega) 0 (.bool z))
  replace BR := Kept.mk (BR.out.apart (show _ ≠ gv + 1 by omega) 0 (.bool z))
  replace KI := Kept.mk (show Blk (W1.setCell ⟨gv + 1, 0, none⟩ (.bool z)) (gv + 1) [.bool z] from KI.out.set 0 (.bool z) (by decide))
  replace BV := Kept.mk (BV.out.apart (show gv ≠ gv + 1 by omega) 0 (.bool z))
  replace KV := Kept.mk (show VarE (W1.setCell ⟨gv + 1, 0, none⟩ (.bool z)) gv V p' m' from ⟨BV.out.cells, cells_set KV.out.2.1 NP.out, cells_set KV.out.2.2 NM.out⟩)
  clear HW NP NM ki0 ki1 hgr BV
  generalize (W1.setCell ⟨gv + 1, 0, none⟩ (.bool z)) = W2 at *
  have hvp := KV.out.2.1
  have hvm := KV.out.2.2
  refine ddel_anyR_region _ _ _ rfl w.heap.size gv (gv + 1) A V vs vi p' m' z r node key BA.out.cells XA.out KV.out.1 ⟨_, _, rfl, hvp, hvm⟩ hF hk KI.out.lt (KI.out.cells.2 0 _ rfl) HE.out rfl rfl rfl rfl rfl ?_
  intro f9 W9 d10 hb9
  simp only [List.foldl_cons, List.foldl_nil, d10]
  generalize f9 17 = y17
  generalize f9 18 = y18
  generalize f9 19 = y19
  generalize f9 20 = y20
  generalize f9 21 = y21
  generalize f9 22 = y22
  generalize f9 23 = y23
  generalize f9 24 = y24
  generalize f9 25 = y25
  generalize f9 26 = y26
  generalize f9 27 = y27
  clear d10
  simp only [List.setIfInBounds_toArray, List.set_cons_succ, List.set_cons_zero]
  replace HB := Kept.mk (HB.out.trans ((hb9).mono HB.out.size))
  replace XA := Kept.mk (stable_ar _ _ _ _ XA.out (hb9))
  replace BA := Kept.mk (BA.out.keep (hb9))
  replace BR := Kept.mk (BR.out.keep (hb9))
  have KV9 := Kept.mk (KV.out.1.keep hb9 KV.out.1.1)
  clear KV hvp hvm hb9
  by_cases h0 : r = 0
  · subst h0
    have KF := Kept.mk (show delDF A node key = regE key (V.time + 1) node true [] by unfold delDF; rw [if_pos HR.out, HV.out])
    have kv1 := KV9.out.2 1 _ rfl
    have KZ : Kept (Ones [.string ⟨key.toArray⟩, .int .i64 1, .int .i64 (V.time + 1), .int .i64 node, .bool true, .string ⟨#[]⟩, .slice none 0 0, .slice none 0 0, .int .u64 0]) := ⟨⟨rfl, rfl, rfl, rfl, rfl, rfl, rfl, rfl, rfl, trivial⟩⟩
    go_wp2_with (have hz0 := KZ; refine wpList_storeN 30 rfl (.tmp 6) (.tmp 38) rfl (w.heap.size + 1) [.string ⟨key.toArray⟩, .int .i64 1, .int .i64 (V.time + 1), .int .i64 node, .bool true, .string ⟨#[]⟩, .slice none 0 0, .slice none 0 0, .int .u64 0] size_en rfl rfl BR.out.cells rfl BR.out.free KZ.out ?_; clear hz0)
    rw [KF.out]
    exact bodyPost_ret (resultsN2 rfl _ _ (w.heap.size + 1) [.string ⟨key.toArray⟩, .int .i64 1, .int .i64 (V.time + 1), .int .i64 node, .bool true, .string ⟨#[]⟩, .slice none 0 0, .slice none 0 0, .int .u64 0] _ size_en agg_en rfl rfl (BR.out.all_ (l := [.string ⟨key.toArray⟩, .int .i64 1, .int .i64 (V.time + 1), .int .i64 node, .bool true, .string ⟨#[]⟩, .slice none 0 0, .slice none 0 0, .int .u64 0]) rfl).cells) rfl ⟨⟨_, rfl, ⟨.slice none 0 0, .slice none 0 0, rfl, .inl ⟨rfl, rfl⟩, .inl ⟨rfl, rfl⟩⟩⟩, below_setN (by omega) _ 0 _ HB.out⟩
  · have KF := Kept.mk (show delDF A node key = zeroE by unfold delDF; rw [if_neg (by rw [HR.out]; exact h0)])
    have KZ : Kept (Ones [.string ⟨#[]⟩, .int .i64 0, .int .i64 0, .int .i64 0, .bool false, .string ⟨#[]⟩, .slice none 0 0, .slice none 0 0, .int .u64 0]) := ⟨⟨rfl, rfl, rfl, rfl, rfl, rfl, rfl, rfl, rfl, trivial⟩⟩
    go_wp2_with (have hz0 := KZ; refine wpList_storeN 30 rfl (.tmp 6) (.tmp 30) rfl (w.heap.size + 1) [.string ⟨#[]⟩, .int .i64 0, .int .i64 0, .int .i64 0, .bool false, .string ⟨#[]⟩, .slice none 0 0, .slice none 0 0, .int .u64 0] size_en rfl rfl BR.out.cells rfl BR.out.free KZ.out ?_; clear hz0)
    rw [KF.out]
    exact bodyPost_ret (resultsN2 rfl _ _ (w.heap.size + 1) [.string ⟨#[]⟩, .int .i64 0, .int .i64 0, .int .i64 0, .bool false, .string ⟨#[]⟩, .slice none 0 0, .slice none 0 0, .int .u64 0] _ size_en agg_en rfl rfl (BR.out.all_ (l := [.string ⟨#[]⟩, .int .i64 0, .int .i64 0, .int .i64 0, .bool false, .string ⟨#[]⟩, .slice none 0 0, .slice none 0 0, .int .u64 0]) rfl).cells) rfl ⟨⟨_, rfl, ⟨.slice none 0 0, .slice none 0 0, rfl, .inl ⟨rfl, rfl⟩, .inl ⟨rfl, rfl⟩⟩⟩, below_setN (by omega) _ 0 _ HB.out⟩
noncomputable def dset_anyROps : Array Oper := regionOf Tryz.f26 2
set_option maxRecDepth 100000 in
set_option maxHeartbeats 2000000 in
theorem dset_anyR_region (Q : Exit → Act → World → Prop) (a0 : Act) (w0 : World) (hsz : a0.tmps.size = 34) (ga gv : Nat) (A : Ar) (V : Va) (vs vi vp vm : Value) (z : Bool) (r : Int) (key : List UInt8) (flags : UInt64) (HA : CellsN w0 ga [.int .i64 A.cap, vs, vi]) (XA : isAr A (.agg #[.int .i64 A.cap, vs, vi]) w0) (HV : CellsN w0 gv [.int .i64 V.kind, .int .i64 V.time, .int .i64 V.node, .bool V.dead, .string ⟨V.text.toArray⟩, vp, vm, .int .u64 (V.flags.toNat : Int)]) (XV : isVa V (.agg #[.int .i64 V.kind, .int .i64 V.time, .int .i64 V.node, .bool V.dead, .string ⟨V.text.toArray⟩, vp, vm, .int .u64 (V.flags.toNat : Int)]) w0) (hF : FitA A) (hk : key.length ≤ 1000) (hr : firstE [chkA A, keyE key, roomE A z] = r) (e3 : a0.tmps.getD 3 undef = .pointer (some ⟨ga, 0, none⟩)) (e8 : a0.tmps.getD 8 undef = .pointer (some ⟨gv, 0, none⟩)) (e1 : a0.tmps.getD 1 undef = .string ⟨key.toArray⟩) (e9 : a0.tmps.getD 9 undef = .bool z)
    (hQ : ∀ (g : Nat → Value) (w : World), g 10 = .int .i64 r → Below w0.heap.size w0 w → Q .normal { tmps := [17, 18, 19, 20, 21, 22, 23, 24, 25, 10].foldl (fun t s => t.setIfInBounds s (g s)) a0.tmps, defers := a0.defers } w) :
    (Code.region 2 dset_anyROps true).wp Tryz.prog Q a0 w0 := by
  obtain ⟨ie, hie, hiz, his⟩ := infoChk'
  refine wp_region_flow mixed (by rw [hsz]; kernel_rfl) ?_
  rw [show dset_anyROps.size = 10 by kernel_rfl]
  refine ⟨isVal (.agg #[.int .i64 A.cap, vs, vi]), step_loadA 25 (.tmp 3) (ga) (0) [.int .i64 A.cap, vs, vi] (by kernel_rfl) (wanted_none (by kernel_rfl)) (knows_old 3 (.pointer (some ⟨ga, 0, none⟩)) (by kernel_rfl) e3) size_ar agg_ar (⟨HA.1, fun j x hx => by rw [Nat.zero_add]; exact HA.2 j x hx⟩), ?_⟩
  refine ⟨(isChk (chkA A)), step_call 54 #[.tmp 17] #[25] #[.agg #[.int .i64 A.cap, vs, vi]] (by kernel_rfl) (wanted_none (by kernel_rfl)) (stable_chk _) (args1 (.tmp 17) (.agg #[.int .i64 A.cap, vs, vi]) (knows_new (V := isVal (.agg #[.int .i64 A.cap, vs, vi])) 17 0 (by kernel_rfl) (by kernel_rfl) (by kernel_rfl))) (enters_of Tryz.func54 (by kernel_rfl) rfl) (by intro w' hb; exact mayBe_any A _ w' (stable_ar _ _ _ _ XA hb) hF), ?_⟩
  refine ⟨isVal (.string ⟨key.toArray⟩), step_move (.tmp 1) (by kernel_rfl) (wanted_none (by kernel_rfl)) (stable_val _) (knows_old 1 (.string ⟨key.toArray⟩) (by kernel_rfl) e1), ?_⟩
  refine ⟨(isChk (keyE key)), step_call 56 #[.tmp 19] #[9] #[.string ⟨key.toArray⟩] (by kernel_rfl) (wanted_none (by kernel_rfl)) (stable_chk _) (args1 (.tmp 19) (.string ⟨key.toArray⟩) (knows_new (V := isVal (.string ⟨key.toArray⟩)) 19 2 (by kernel_rfl) (by kernel_rfl) (by kernel_rfl))) (enters_of Tryz.func56 (by kernel_rfl) rfl) (by intro w' hb; exact isKey_any key w' hk), ?_⟩
  refine ⟨isVal (.agg #[.int .i64 A.cap, vs, vi]), step_loadA 25 (.tmp 3) (ga) (0) [.int .i64 A.cap, vs, vi] (by kernel_rfl) (wanted_none (by kernel_rfl)) (knows_old 3 (.pointer (some ⟨ga, 0, none⟩)) (by kernel_rfl) e3) size_ar agg_ar (⟨HA.1, fun j x hx => by rw [Nat.zero_add]; exact HA.2 j x hx⟩), ?_⟩
  refine ⟨isVal (.bool z), step_move (.tmp 9) (by kernel_rfl) (wanted_none (by kernel_rfl)) (stable_val _) (knows_old 9 (.bool z) (by kernel_rfl) e9), ?_⟩
  refine ⟨(isChk (roomE A z)), step_call 59 #[.tmp 21, .tmp 22] #[25, 4] #[.agg #[.int .i64 A.cap, vs, vi], .bool z] (by kernel_rfl) (wanted_none (by kernel_rfl)) (stable_chk _) (args2 (.tmp 21) (.tmp 22) (.agg #[.int .i64 A.cap, vs, vi]) (.bool z) (knows_new (V := isVal (.agg #[.int .i64 A.cap, vs, vi])) 21 4 (by kernel_rfl) (by kernel_rfl) (by kernel_rfl)) (knows_new (V := isVal (.bool z)) 22 5 (by kernel_rfl) (by kernel_rfl) (by kernel_rfl))) (enters_of Tryz.func59 (by kernel_rfl) rfl) (by intro w' hb; exact hasRoom_any A z _ w' (stable_ar _ _ _ _ XA hb) hF), ?_⟩
  refine ⟨(isChks [chkA A, keyE key, roomE A z]), step_chks3 124 81 (.tmp 18) (.tmp 20) (.tmp 23) (chkA A) (keyE key) (roomE A z) ie (by kernel_rfl) (wanted_none (by kernel_rfl)) (knows_new (V := (isChk (chkA A))) 18 1 (by kernel_rfl) (by kernel_rfl) (by kernel_rfl)) (knows_new (V := (isChk (keyE key))) 20 3 (by kernel_rfl) (by kernel_rfl) (by kernel_rfl)) (knows_new (V := (isChk (roomE A z))) 23 6 (by kernel_rfl) (by kernel_rfl) (by kernel_rfl)) Tryz.underlying124 hie hiz his, ?_⟩
  refine ⟨isVal (.int .i64 r), step_callP 53 #[.tmp 24] #[124] (by kernel_rfl) (wanted_none (by kernel_rfl)) (stable_val _) (enters_of Tryz.func53 (by kernel_rfl) rfl) (fun vs w => ∃ u, vs = #[u] ∧ isChks [chkA A, keyE key, roomE A z] u w) (pre1 (knows_new (V := (isChks [chkA A, keyE key, roomE A z])) 24 7 (by kernel_rfl) (by kernel_rfl) (by kernel_rfl))) (fun vs w' hb hp => by obtain ⟨u, rfl, hu⟩ := hp; exact call_v1 (refusal_at [chkA A, keyE key, roomE A z] r u w' hu (by simp) hr)), ?_⟩
  refine ⟨isVal (.int .i64 r), step_assign (.tmp 25) (by kernel_rfl) (wanted_none (by kernel_rfl)) (stable_val _) (knows_new (V := isVal (.int .i64 r)) 25 8 (by kernel_rfl) (by kernel_rfl) (by kernel_rfl)), ?_⟩
  intro a w hkp hb hd
  rw [kept_of hkp [some 17, some 18, some 19, some 20, some 21, some 22, some 23, some 24, some 25, some 10] [17, 18, 19, 20, 21, 22, 23, 24, 25, 10] (by kernel_rfl) (by decide)]
  have d10 := fdone_of (hd 9 (by rw [show dset_anyROps.size = 10 by kernel_rfl]; decide)) (t := 10) (V := isVal (.int .i64 r)) (by kernel_rfl) (by kernel_rfl)
  exact hQ (fun s => a.tmps.getD s undef) w d10 hb
set_option maxRecDepth 100000 in
set_option maxHeartbeats 2000000 in
theorem dset_any (A : Ar) (key : List UInt8) (flags : UInt64) (v : Value) (w : World) (hv : isAr A v w) (hF : FitA A) (hk : key.length ≤ 1000) : Calls Tryz.prog 26 #[v, .string ⟨key.toArray⟩, .int .u64 (flags.toNat : Int)] w fun e w' => (∃ v', e = .returned (.tuple #[v', .int .i64 (setDE A key)]) ∧ isEn (setDF A key flags) v' w') ∧ Below w.heap.size w w' := by
  obtain ⟨vs, vi, rfl, hs, hi⟩ := hv
  obtain ⟨V, hV⟩ : ∃ V, heldV A 3 key = V := ⟨_, rfl⟩
  obtain ⟨z, hz⟩ : ∃ z, heldB A 3 key = z := ⟨_, rfl⟩
  obtain ⟨r, hr⟩ : ∃ r, setDE A key = r := ⟨_, rfl⟩
  have HR := Kept.mk hr
  have HV := Kept.mk hV
  have HZ := Kept.mk hz
  have HE := Kept.mk (show firstE [chkA A, keyE key, roomE A z] = r by subst hV; subst hz; subst hr; rfl)
  have hok := (held_ok A (kind := 3) key (by decide)).1
  have HB := Kept.mk (show Below w.heap.size w ((w.alloc (.cells #[.int .i64 A.cap, vs, vi] 25)).alloc (.cells #[.string ⟨#[]⟩, .int .i64 0, .int .i64 0, .int .i64 0, .bool false, .string ⟨#[]⟩, .slice none 0 0, .slice none 0 0, .int .u64 0] 30)) from ((Below.refl _ w).alloc (Nat.le_refl _) _).alloc (by simp) _)
  have XA := Kept.mk (show isAr A (.agg #[.int .i64 A.cap, vs, vi]) ((w.alloc (.cells #[.int .i64 A.cap, vs, vi] 25)).alloc (.cells #[.string ⟨#[]⟩, .int .i64 0, .int .i64 0, .int .i64 0, .bool false, .string ⟨#[]⟩, .slice none 0 0, .slice none 0 0, .int .u64 0] 30)) from stable_ar A _ _ _ ⟨vs, vi, rfl, hs, hi⟩ HB.out)
  have BA := Kept.mk ((Blk.new w 25 [.int .i64 A.cap, vs, vi] w.heap.size rfl).alloc (.cells #[.string ⟨#[]⟩, .int .i64 0, .int .i64 0, .int .i64 0, .bool false, .string ⟨#[]⟩, .slice none 0 0, .slice none 0 0, .int .u64 0] 30))
  have BR := Kept.mk (Blk.new (w.alloc (.cells #[.int .i64 A.cap, vs, vi] 25)) 30 [.string ⟨#[]⟩, .int .i64 0, .int .i64 0, .int .i64 0, .bool false, .string ⟨#[]⟩, .slice none 0 0, .slice none 0 0, .int .u64 0] (w.heap.size + 1) (by simp))
  have ka0 := BA.out.cells.2 0 _ rfl
  have ka1 := BA.out.cells.2 1 _ rfl
  have ka2 := BA.out.cells.2 2 _ rfl
  have HSI := Kept.mk (show isAr A (.agg #[.int .i64 A.cap, vs, vi]) w from ⟨vs, vi, rfl, hs, hi⟩)
  clear hs hi hr hz hV hok
  rw [HR.out]
  have HH := Kept.mk (fun v w hv => held_any A 3 key V z v w hv hF HV.out HZ.out)
  go_enter Tryz.func26, Tryz.ntmps26
  go_wp2_with fail
  generalize ((w.alloc (.cells #[.int .i64 A.cap, vs, vi] 25)).alloc (.cells #[.string ⟨#[]⟩, .int .i64 0, .int .i64 0, .int .i64 0, .bool false, .string ⟨#[]⟩, .slice none 0 0, .slice none 0 0, .int .u64 0] 30)) = W0 at *
  refine (HH.out _ W0 XA.out).mono ?_
  rintro e U ⟨⟨v1, rfl, p', m', rfl, hp', hm'⟩, hb⟩
  replace HB := Kept.mk (HB.out.trans ((hb).mono HB.out.size))
  replace XA := Kept.mk (stable_ar _ _ _ _ XA.out (hb))
  replace BA := Kept.mk (BA.out.keep (hb))
  replace BR := Kept.mk (BR.out.keep (hb))
  clear ka0 ka1 ka2 hb
  obtain ⟨K1, K2, K3, K4, K5⟩ := vnew U V p' m' hp' hm' U.heap.size rfl
  clear hp' hm'
  go_wp2_with (have hz0 := K1; refine wpList_storeN 28 rfl (.tmp 8) (.tmp 15) rfl U.heap.size [.int .i64 V.kind, .int .i64 V.time, .int .i64 V.node, .bool V.dead, .string ⟨V.text.toArray⟩, p', m', .int .u64 (V.flags.toNat : Int)] size_va rfl rfl K1.out rfl K2.out K5.out ?_; replace HB := Kept.mk (HB.out.trans ((K3.out).mono HB.out.size)); replace XA := Kept.mk (stable_ar _ _ _ _ XA.out (K3.out)); replace BA := Kept.mk (BA.out.keep (K3.out)); replace BR := Kept.mk (BR.out.keep (K3.out)); have KV := Kept.mk K4.out; clear hz0 K1 K2 K3 K4 K5; generalize setN (U.alloc (.cells #[.int .i64 0, .int .i64 0, .int .i64 0, .bool false, .string ⟨#[]⟩, .slice none 0 0, .slice none 0 0, .int .u64 0] 28)) U.heap.size 0 [.int .i64 V.kind, .int .i64 V.time, .int .i64 V.node, .bool V.dead, .string ⟨V.text.toArray⟩, p', m', .int .u64 (V.flags.toNat : Int)] = W2 at *; generalize U.heap.size = gv at *)
  have hvp := KV.out.2.1
  have hvm := KV.out.2.2
  refine dset_anyR_region _ _ _ rfl w.heap.size gv A V vs vi p' m' z r key flags BA.out.cells XA.out KV.out.1 ⟨_, _, rfl, hvp, hvm⟩ hF hk HE.out rfl rfl rfl rfl ?_
  intro f9 W9 d10 hb9
  simp only [List.foldl_cons, List.foldl_nil, d10]
  generalize f9 17 = y17
  generalize f9 18 = y18
  generalize f9 19 = y19
  generalize f9 20 = y20
  generalize f9 21 = y21
  generalize f9 22 = y22
  generalize f9 23 = y23
  generalize f9 24 = y24
  generalize f9 25 = y25
  clear d10
  simp only [List.setIfInBounds_toArray, List.set_cons_succ, List.set_cons_zero]
  replace HB := Kept.mk (HB.out.trans ((hb9).mono HB.out.size))
  replace XA := Kept.mk (stable_ar _ _ _ _ XA.out (hb9))
  replace BA := Kept.mk (BA.out.keep (hb9))
  replace BR := Kept.mk (BR.out.keep (hb9))
  have KV9 := Kept.mk (KV.out.1.keep hb9 KV.out.1.1)
  clear KV hvp hvm hb9
  by_cases h0 : r = 0
  · subst h0
    have KF := Kept.mk (show setDF A key flags = flgE key flags by unfold setDF; rw [if_pos HR.out])
    have KZ : Kept (Ones [.string ⟨key.toArray⟩, .int .i64 3, .int .i64 0, .int .i64 0, .bool false, .string ⟨#[]⟩, .slice none 0 0, .slice none 0 0, .int .u64 (flags.toNat : Int)]) := ⟨⟨rfl, rfl, rfl, rfl, rfl, rfl, rfl, rfl, rfl, trivial⟩⟩
    go_wp2_with (have hz0 := KZ; refine wpList_storeN 30 rfl (.tmp 6) (.tmp 33) rfl (w.heap.size + 1) [.string ⟨key.toArray⟩, .int .i64 3, .int .i64 0, .int .i64 0, .bool false, .string ⟨#[]⟩, .slice none 0 0, .slice none 0 0, .int .u64 (flags.toNat : Int)] size_en rfl rfl BR.out.cells rfl BR.out.free KZ.out ?_; clear hz0)
    rw [KF.out]
    exact bodyPost_ret (resultsN2 rfl _ _ (w.heap.size + 1) [.string ⟨key.toArray⟩, .int .i64 3, .int .i64 0, .int .i64 0, .bool false, .string ⟨#[]⟩, .slice none 0 0, .slice none 0 0, .int .u64 (flags.toNat : Int)] _ size_en agg_en rfl rfl (BR.out.all_ (l := [.string ⟨key.toArray⟩, .int .i64 3, .int .i64 0, .int .i64 0, .bool false, .string ⟨#[]⟩, .slice none 0 0, .slice none 0 0, .int .u64 (flags.toNat : Int)]) rfl).cells) rfl ⟨⟨_, rfl, ⟨.slice none 0 0, .slice none 0 0, rfl, .inl ⟨rfl, rfl⟩, .inl ⟨rfl, rfl⟩⟩⟩, below_setN (by omega) _ 0 _ HB.out⟩
  · have KF := Kept.mk (show setDF A key flags = zeroE by unfold setDF; rw [if_neg (by rw [HR.out]; exact h0)])
    have KZ : Kept (Ones [.string ⟨#[]⟩, .int .i64 0, .int .i64 0, .int .i64 0, .bool false, .string ⟨#[]⟩, .slice none 0 0, .slice none 0 0, .int .u64 0]) := ⟨⟨rfl, rfl, rfl, rfl, rfl, rfl, rfl, rfl, rfl, trivial⟩⟩
    go_wp2_with (have hz0 := KZ; refine wpList_storeN 30 rfl (.tmp 6) (.tmp 28) rfl (w.heap.size + 1) [.string ⟨#[]⟩, .int .i64 0, .int .i64 0, .int .i64 0, .bool false, .string ⟨#[]⟩, .slice none 0 0, .slice none 0 0, .int .u64 0] size_en rfl rfl BR.out.cells rfl BR.out.free KZ.out ?_; clear hz0)
    rw [KF.out]
    exact bodyPost_ret (resultsN2 rfl _ _ (w.heap.size + 1) [.string ⟨#[]⟩, .int .i64 0, .int .i64 0, .int .i64 0, .bool false, .string ⟨#[]⟩, .slice none 0 0, .slice none 0 0, .int .u64 0] _ size_en agg_en rfl rfl (BR.out.all_ (l := [.string ⟨#[]⟩, .int .i64 0, .int .i64 0, .int .i64 0, .bool false, .string ⟨#[]⟩, .slice none 0 0, .slice none 0 0, .int .u64 0]) rfl).cells) rfl ⟨⟨_, rfl, ⟨.slice none 0 0, .slice none 0 0, rfl, .inl ⟨rfl, rfl⟩, .inl ⟨rfl, rfl⟩⟩⟩, below_setN (by omega) _ 0 _ HB.out⟩
end Go.Proofs.YtbgconagkgfplaaGreat
end
section
namespace Go.Proofs.YtbgconagkgfplaaGreat
open Go.RowKit Go.ChangeShapes Go.WideShapes
set_option linter.unusedVariables false
set_option linter.unusedSimpArgs false
attribute [local irreducible] setN

set_option maxRecDepth 20000 in
set_option maxHeartbeats 1000000 in
theorem vleast_own (w : World) : Calls Tryz.prog 112 #[.int .i64 2] w fun e w' => ∃ g1 g2, e = .returned (.tuple #[.agg #[.int .i64 2, .int .i64 0, .int .i64 0, .bool false, .string ⟨#[]⟩, .slice (some ⟨g1, 0, none⟩) 8 8, .slice (some ⟨g2, 0, none⟩) 8 8, .int .u64 0], .int .i64 0]) ∧ w.heap.size ≤ g1 ∧ g1 < g2 ∧ g2 < w'.heap.size ∧ w'.rowIs g1 3 8 (fun _ => intC 0) ∧ w'.rowIs g2 3 8 (fun _ => intC 0) ∧ Below w.heap.size w w' := by
  have hB := Kept.mk (lit_below w (.cells #[.int .i64 0, .int .i64 0, .int .i64 0, .bool false, .string ⟨#[]⟩, .slice none 0 0, .slice none 0 0, .int .u64 0] 28))
  have HZ := Kept.mk (cellsN_at w 28 [.int .i64 0, .int .i64 0, .int .i64 0, .bool false, .string ⟨#[]⟩, .slice none 0 0, .slice none 0 0, .int .u64 0] w.heap.size rfl)
  have HF := Kept.mk (free5_at w #[.int .i64 0, .int .i64 0, .int .i64 0, .bool false, .string ⟨#[]⟩, .slice none 0 0, .slice none 0 0, .int .u64 0] 28 w.heap.size rfl)
  have hs : (w.alloc (.cells #[.int .i64 0, .int .i64 0, .int .i64 0, .bool false, .string ⟨#[]⟩, .slice none 0 0, .slice none 0 0, .int .u64 0] 28)).heap.size = w.heap.size + 1 := by simp
  have hinv : ∀ W : World, (invoke (.fn (.method "ouroboros/value.least") #[]) #[.iface 140 (.agg #[])]).run Tryz.prog W = .ok (.enter 170 #[.agg #[]]) W := fun W => by kernel_rfl
  have HK : Kept (kOf 2 = 2) := ⟨by decide⟩
  have HI : Kept (ifaceK 2 = .iface 140 (.agg #[])) := ⟨rfl⟩
  go_enter Tryz.func112, Tryz.ntmps112
  go_wp2_with fail
  refine (kindOf_any _ _).mono ?_; rintro e w' ⟨rfl, rfl⟩
  rewrite [HK.out, HI.out]
  go_wp2_with fail
  generalize w.alloc (.cells #[.int .i64 0, .int .i64 0, .int .i64 0, .bool false, .string ⟨#[]⟩, .slice none 0 0, .slice none 0 0, .int .u64 0] 28) = W0 at *
  refine (countLeast_own _).mono ?_
  rintro e w1 ⟨g1, g2, rfl, b1, b2, r1, r2, hb1⟩
  have hZ1 := HZ.out.keep hb1 HZ.out.1
  have K1 := Kept.mk hZ1
  have K2 := Kept.mk (HF.out.keep hb1 HZ.out.1)
  have K5 : Kept (Ones [.int .i64 2, .int .i64 0, .int .i64 0, .bool false, .string ⟨#[]⟩, .slice (some ⟨g1, 0, none⟩) 8 8, .slice (some ⟨g2, 0, none⟩) 8 8, .int .u64 0]) := ⟨⟨rfl, rfl, rfl, rfl, rfl, rfl, rfl, rfl, trivial⟩⟩
  have hc' := hZ1.setN_ [.int .i64 2, .int .i64 0, .int .i64 0, .bool false, .string ⟨#[]⟩, .slice (some ⟨g1, 0, none⟩) 8 8, .slice (some ⟨g2, 0, none⟩) 8 8, .int .u64 0] rfl
  have Q1 := Kept.mk (r1.of_block (heap_setN w.heap.size [.int .i64 2, .int .i64 0, .int .i64 0, .bool false, .string ⟨#[]⟩, .slice (some ⟨g1, 0, none⟩) 8 8, .slice (some ⟨g2, 0, none⟩) 8 8, .int .u64 0] 0 w1 g1 (by omega)))
  have Q2 := Kept.mk (r2.of_block (heap_setN w.heap.size [.int .i64 2, .int .i64 0, .int .i64 0, .bool false, .string ⟨#[]⟩, .slice (some ⟨g1, 0, none⟩) 8 8, .slice (some ⟨g2, 0, none⟩) 8 8, .int .u64 0] 0 w1 g2 (by omega)))
  have Q3 := Kept.mk (below_setN (g := w.heap.size) (Nat.le_refl _) [.int .i64 2, .int .i64 0, .int .i64 0, .bool false, .string ⟨#[]⟩, .slice (some ⟨g1, 0, none⟩) 8 8, .slice (some ⟨g2, 0, none⟩) 8 8, .int .u64 0] 0 _ (hB.out.trans (hb1.mono hB.out.size)))
  have Q4 := Q2.out.lt
  have b0 : w.heap.size ≤ g1 := by omega
  clear hZ1 hb1 hinv r1 r2
  go_wp2_with (refine wpList_storeN 28 rfl (.tmp 2) (.tmp 15) rfl w.heap.size [.int .i64 2, .int .i64 0, .int .i64 0, .bool false, .string ⟨#[]⟩, .slice (some ⟨g1, 0, none⟩) 8 8, .slice (some ⟨g2, 0, none⟩) 8 8, .int .u64 0] size_va rfl rfl K1.out rfl K2.out K5.out ?_)
  exact bodyPost_ret (resultsN2 rfl _ _ w.heap.size _ (.int .i64 0) size_va agg_va rfl rfl hc') rfl ⟨_, _, rfl, b0, b2, Q4, Q1.out, Q2.out, Q3.out⟩
end Go.Proofs.YtbgconagkgfplaaGreat
end
section
namespace Go.Proofs.YtbgconagkgfplaaGreat
open Go.RowKit
set_option linter.unusedVariables false
section
variable {P : Program} {ops : Array Oper} {base : World} {a0 : Act} {Q : Exit → Act → World → Prop} {kn : Nat → VP} {i : Nat} {V : VP}
theorem step_max (k : IntKind) (t1 t2 : TypeId) (x y : Operand) (m n r : Int) (hop : (ops[i]?).map (·.op) = some (.call { callee := .builtin .max, args := #[x, y], argTypes := #[t1, t2] })) (hw : Wanted ops a0 kn i) (hx : Knows ops a0 kn i x (isVal (.int k m))) (hy : Knows ops a0 kn i y (isVal (.int k n)))
    (hr : (if n > m then n else m) = r) : FStep P ops base a0 Q kn i (isVal (.int k r)) :=
  step_pure _ hop hw fun o a w ho hk hd => by
    have e1 : a.eval x = .int k m := hx a w hk hd
    have e2 : a.eval y = .int k n := hy a w hk hd
    unfold execOp
    rw [ho]
    simp only [resolve, Sem.run_bind, Sem.run_pure, Result.andThen_ok, invoke, builtin, List.map_toArray, List.map_cons, List.map_nil, e1, e2, run_max_int2, hr]
end
end Go.Proofs.YtbgconagkgfplaaGreat
end
