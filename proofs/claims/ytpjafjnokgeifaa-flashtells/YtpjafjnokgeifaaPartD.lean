/- Joined texts: contracts of the program's functions, and the mathematics that they lean on. -/
import Derived.Test.YtpjafjnokgeifaaPartC
import Derived.Deep.OwnRows
import Derived.ChangeKeysEq
import Derived.Laws.Rows
import Derived.RegionTactic
section
namespace Go.Proofs.Ytpjafjnokgeifaa
open Go.RowKit
set_option linter.unusedVariables false
set_option linter.unusedSimpArgs false

/-- Block g holds the device G. -/
def Var (w : World) (g : Nat) (G : Fl) : Prop := ∃ vp vw, Cells5 w g vp vw (.int .i64 G.fuse) (strC G.torn) (.bool G.dead) ∧ isCells (G.pages.map strC) vp w ∧ isCells (G.wear.map intC) vw w
theorem Var.keep {w w' : World} {g : Nat} {G : Fl} (h : Var w g G) (hb : Below w.heap.size w w') : Var w' g G := by
  obtain ⟨vp, vw, hc, hp, hq⟩ := h
  exact ⟨vp, vw, hc.keep hb hc.1, stable_cells _ _ _ _ hp hb, stable_cells _ _ _ _ hq hb⟩
theorem Var.lt {w : World} {g : Nat} {G : Fl} (h : Var w g G) : g < w.heap.size := by obtain ⟨_, _, hc, _⟩ := h; exact hc.1
theorem Var.open_ {w : World} {g : Nat} {G : Fl} (h : Var w g G) : ∃ vp vw, isFl G (.agg #[vp, vw, .int .i64 G.fuse, strC G.torn, .bool G.dead]) w ∧ w.cell? ⟨g, 0, none⟩ = some vp ∧ w.cell? ⟨g, 1, none⟩ = some vw ∧ w.cell? ⟨g, 2, none⟩ = some (.int .i64 G.fuse) ∧ w.cell? ⟨g, 3, none⟩ = some (strC G.torn) ∧ w.cell? ⟨g, 4, none⟩ = some (.bool G.dead) := by
  obtain ⟨vp, vw, hc, hp, hq⟩ := h
  exact ⟨vp, vw, ⟨vp, vw, rfl, hp, hq⟩, hc.2.1, hc.2.2.1, hc.2.2.2.1, hc.2.2.2.2.1, hc.2.2.2.2.2⟩
/-- A parameter's box. -/
theorem var_box (w : World) (G : Fl) (vp vw : Value) (hp : isCells (G.pages.map strC) vp w) (hq : isCells (G.wear.map intC) vw w) :
    Kept (Below w.heap.size w (w.alloc (.cells #[vp, vw, .int .i64 G.fuse, strC G.torn, .bool G.dead] 25))) ∧ Kept (Var (w.alloc (.cells #[vp, vw, .int .i64 G.fuse, strC G.torn, .bool G.dead] 25)) w.heap.size G) := by
  have hb : Below w.heap.size w (w.alloc (.cells #[vp, vw, .int .i64 G.fuse, strC G.torn, .bool G.dead] 25)) := (Below.refl _ _).alloc (Nat.le_refl _) _
  exact ⟨⟨hb⟩, ⟨⟨vp, vw, cells5_new w 25 _ _ _ _ _, stable_cells _ _ _ _ hp hb, stable_cells _ _ _ _ hq hb⟩⟩⟩
/-- A new variable, in which a device is laid down. -/
theorem var_new (w : World) (G : Fl) (vp vw : Value) (hp : isCells (G.pages.map strC) vp w) (hq : isCells (G.wear.map intC) vw w) :
    Kept (Cells5 (w.alloc (.cells #[.slice none 0 0, .slice none 0 0, .int .i64 0, .string ⟨#[]⟩, .bool false] 25)) w.heap.size (.slice none 0 0) (.slice none 0 0) (.int .i64 0) (.string ⟨#[]⟩) (.bool false)) ∧
    Kept (Free5 (w.alloc (.cells #[.slice none 0 0, .slice none 0 0, .int .i64 0, .string ⟨#[]⟩, .bool false] 25)) w.heap.size) ∧
    Kept (Below w.heap.size w (set5 (w.alloc (.cells #[.slice none 0 0, .slice none 0 0, .int .i64 0, .string ⟨#[]⟩, .bool false] 25)) w.heap.size vp vw (.int .i64 G.fuse) (strC G.torn) (.bool G.dead))) ∧
    Kept (Var (set5 (w.alloc (.cells #[.slice none 0 0, .slice none 0 0, .int .i64 0, .string ⟨#[]⟩, .bool false] 25)) w.heap.size vp vw (.int .i64 G.fuse) (strC G.torn) (.bool G.dead)) w.heap.size G) := by
  have hb : Below w.heap.size w (w.alloc (.cells #[.slice none 0 0, .slice none 0 0, .int .i64 0, .string ⟨#[]⟩, .bool false] 25)) := (Below.refl _ _).alloc (Nat.le_refl _) _
  have hc := cells5_new w 25 (.slice none 0 0) (.slice none 0 0) (.int .i64 0) (.string ⟨#[]⟩) (.bool false)
  have hb5 := below_set5 hb (Nat.le_refl _) vp vw (.int .i64 G.fuse) (strC G.torn) (.bool G.dead)
  exact ⟨⟨hc⟩, ⟨free5_new w _ _⟩, ⟨hb5⟩, ⟨⟨vp, vw, hc.set5_ _ _ _ _ _, stable_cells _ _ _ _ hp hb5, stable_cells _ _ _ _ hq hb5⟩⟩⟩
theorem fl_grow {F : Fl} {v : Value} {w w' : World} (h : isFl F v w) (hb : Below w.heap.size w w') : isFl F v w' := stable_fl F v w w' h hb
/-- Its rows, where they are not empty. -/
theorem Var.rows {w : World} {g : Nat} {G : Fl} (h : Var w g G) {n m : Nat} (hn : G.pages.length = n) (hm : G.wear.length = m) (n0 : 0 < n) (m0 : 0 < m) : ∃ b off cap b2 off2 cap2,
    Cells5 w g (.slice (some ⟨b, off, none⟩) n cap) (.slice (some ⟨b2, off2, none⟩) m cap2) (.int .i64 G.fuse) (strC G.torn) (.bool G.dead) ∧ isFl G (.agg #[.slice (some ⟨b, off, none⟩) n cap, .slice (some ⟨b2, off2, none⟩) m cap2, .int .i64 G.fuse, strC G.torn, .bool G.dead]) w ∧
    b < w.heap.size ∧ b2 < w.heap.size ∧ (∀ (j : Nat) (p : List UInt8), G.pages[j]? = some p → w.cell? ⟨b, off + j, none⟩ = some (.string ⟨p.toArray⟩)) ∧ (∀ (j : Nat) (x : Int), G.wear[j]? = some x → w.cell? ⟨b2, off2 + j, none⟩ = some (.int .i64 x)) := by
  obtain ⟨vp, vw, hc, hp, hq⟩ := h
  obtain ⟨b, off, cap, rfl, hb, hcp⟩ := hp.some_ (by rw [List.length_map]; omega)
  obtain ⟨b2, off2, cap2, rfl, hb2, hcq⟩ := hq.some_ (by rw [List.length_map]; omega)
  rw [List.length_map, hn] at hc hp
  rw [List.length_map, hm] at hc hq
  exact ⟨b, off, cap, b2, off2, cap2, hc, ⟨_, _, rfl, hp, hq⟩, hb, hb2, fun j p hj => hcp j _ (by rw [List.getElem?_map, hj]; rfl), fun j x hj => hcq j _ (by rw [List.getElem?_map, hj]; rfl)⟩

def bigPage (p : List UInt8) : Bool := decide (4000 < (p.length : Int)) && decide ((p.length : Int) ≤ 8192)
def fewB (F : Fl) : Bool := !((F.pages.take 9).any bigPage) && decide ((F.pages.length : Int) ≤ 8) && decide ((F.wear.length : Int) ≤ 20)

theorem few_none (F : Fl) (v : Value) (w : World) (hv : isFl F v w) (h0 : F.pages = []) :
    Calls Try.prog 9 #[v] w fun e w' => e = .returned (.bool (fewB F)) ∧ Below w.heap.size w w' := by
  obtain ⟨vp, vw, rfl, hp, hq⟩ := hv
  obtain ⟨a, cap, rfl⟩ := hp.len
  obtain ⟨a2, cap2, rfl⟩ := hq.len
  have hl : (F.pages.map strC).length = 0 := by simp [h0]
  have hl2 : (F.wear.map intC).length = F.wear.length := by simp
  rw [hl, hl2]
  obtain ⟨hB, hV⟩ := var_box w F (.slice a 0 cap) (.slice a2 F.wear.length cap2) (by rw [hl] at hp; exact hp) (by rw [hl2] at hq; exact hq)
  have HF := Kept.mk (show fewB F = decide ((F.wear.length : Int) ≤ 20) by simp [fewB, h0])
  clear hp hq hl hl2 hV
  go_enter Try.func9, Try.ntmps9
  go_wp2
  go_loop [3] (fun i => i = .int .i64 0) (fun _ => 0)
  case atStart => rfl
  case round =>
    subst hrel
    go_wp2
    go_ret
    exact ⟨by rw [HF.out]; rfl, hB.out⟩

theorem any_take {α : Type} (p : α → Bool) (l : List α) (k : Nat) (h : k < l.length) : (l.take (k + 1)).any p = ((l.take k).any p || p l[k]) := by
  rw [List.take_succ_eq_append_getElem h, List.any_append]; simp
theorem any_more {α : Type} (p : α → Bool) (l : List α) (k m : Nat) (hk : k ≤ m) (h : (l.take k).any p = true) : (l.take m).any p = true := by
  rw [List.any_eq_true] at h ⊢
  obtain ⟨x, hx, hp⟩ := h
  refine ⟨x, ?_, hp⟩
  rw [show l.take k = (l.take m).take k by rw [List.take_take, Nat.min_eq_left hk]] at hx
  exact List.mem_of_mem_take hx
set_option maxRecDepth 20000 in
set_option maxHeartbeats 1000000 in
theorem few_some (F : Fl) (v : Value) (w : World) (hv : isFl F v w) (h0 : 0 < F.pages.length) :
    Calls Try.prog 9 #[v] w fun e w' => e = .returned (.bool (fewB F)) ∧ Below w.heap.size w w' := by
  obtain ⟨vp, vw, rfl, hp, hq⟩ := hv
  obtain ⟨b, off, cap, rfl, hb, hc⟩ := hp.some_ (by simpa using h0)
  obtain ⟨a2, cap2, rfl⟩ := hq.len
  have hl : (F.pages.map strC).length = F.pages.length := by simp
  have hl2 : (F.wear.map intC).length = F.wear.length := by simp
  rw [hl, hl2]
  obtain ⟨hB, hV⟩ := var_box w F (.slice (some ⟨b, off, none⟩) F.pages.length cap) (.slice a2 F.wear.length cap2) (by rw [hl] at hp; exact hp) (by rw [hl2] at hq; exact hq)
  have HC := Kept.mk (show ∀ (k : Nat) (p : List UInt8), F.pages[k]? = some p → (w.alloc (.cells #[.slice (some ⟨b, off, none⟩) F.pages.length cap, .slice a2 F.wear.length cap2, .int .i64 F.fuse, strC F.torn, .bool F.dead] 25)).cell? ⟨b, off + k, none⟩ = some (.string ⟨p.toArray⟩) from
    fun k p hk => (hB.out.cell (p := ⟨b, off + k, none⟩) hb).trans (hc k _ (by rw [List.getElem?_map, hk]; rfl)))
  have HF := Kept.mk (show fewB F = (!((F.pages.take 9).any bigPage) && decide ((F.pages.length : Int) ≤ 8) && decide ((F.wear.length : Int) ≤ 20)) from rfl)
  obtain ⟨n, hn⟩ : ∃ n, n = F.pages.length := ⟨_, rfl⟩
  have HN := Kept.mk hn
  rw [← hn] at HF h0 hB HC ⊢
  clear hp hq hl hl2 hV hc hn
  go_enter Try.func9, Try.ntmps9
  go_wp2
  go_loop [3] (fun i => ∃ k : Nat, k ≤ n ∧ k ≤ 9 ∧ i = .int .i64 (k : Int) ∧ Kept ((F.pages.take k).any bigPage = false)) (fun i => n - (intOf i).toNat)
  case atStart => exact ⟨0, Nat.zero_le _, by omega, rfl, ⟨rfl⟩⟩
  case round =>
    obtain ⟨k, hk, hk9, rfl, HK⟩ := hrel
    by_cases hlt : k < n
    · have d1 : decide ((k : Int) < (n : Int)) = true := by simpa using hlt
      by_cases h8 : k ≤ 8
      · have d2 : decide ((k : Int) ≤ 8) = true := by simp; omega
        have hlp : k < F.pages.length := by rw [← HN.out]; exact hlt
        have hcell := HC.out k F.pages[k] (List.getElem?_eq_getElem hlp)
        have HA := Kept.mk (any_take bigPage F.pages k hlp)
        have hsz : (⟨(F.pages[k]).toArray⟩ : ByteArray).size = (F.pages[k]).length := size_mk _
        obtain ⟨p, hpd⟩ : ∃ p, p = F.pages[k] := ⟨_, rfl⟩
        rw [← hpd] at hcell HA hsz
        clear hpd
        have HBP := Kept.mk (show bigPage p = (decide (4000 < (p.length : Int)) && decide ((p.length : Int) ≤ 8192)) from rfl)
        by_cases b1 : 4000 < p.length
        · have d3 : decide (4000 < (p.length : Int)) = true := by simp; omega
          by_cases b2 : p.length ≤ 8192
          · have d4 : decide ((p.length : Int) ≤ 8192) = true := by simp; omega
            have HR := Kept.mk (show fewB F = false by
              have h9 := any_more bigPage F.pages (k + 1) 9 (by omega) (by rw [HA.out, HBP.out, d3, d4]; simp)
              rw [HF.out, h9]; rfl)
            go_wp2
            go_ret
            exact ⟨by rw [HR.out]; rfl, hB.out⟩
          · have d4 : decide ((p.length : Int) ≤ 8192) = false := by simp; omega
            have HR := Kept.mk (show (F.pages.take (k + 1)).any bigPage = false by rw [HA.out, HK.out, HBP.out, d4]; simp)
            go_wp2
            go_round
            case rel => exact ⟨k + 1, by omega, by omega, by go_num, HR⟩
            case measure => simp [intOf]; omega
        · have d3 : decide (4000 < (p.length : Int)) = false := by simp; omega
          have HR := Kept.mk (show (F.pages.take (k + 1)).any bigPage = false by rw [HA.out, HK.out, HBP.out, d3]; simp)
          go_wp2
          go_round
          case rel => exact ⟨k + 1, by omega, by omega, by go_num, HR⟩
          case measure => simp [intOf]; omega
      · have d2 : decide ((k : Int) ≤ 8) = false := by simp; omega
        have d5 : decide ((n : Int) ≤ 8) = false := by simp; omega
        have HR := Kept.mk (show fewB F = false by rw [HF.out, d5]; simp)
        go_wp2
        go_ret
        exact ⟨by rw [HR.out]; rfl, hB.out⟩
    · have d1 : decide ((k : Int) < (n : Int)) = false := by simp; omega
      obtain rfl : k = n := by omega
      have HR := Kept.mk (show fewB F = (decide ((k : Int) ≤ 8) && decide ((F.wear.length : Int) ≤ 20)) by
        rw [HF.out, List.take_of_length_le (by rw [← HN.out]; exact hk9)]
        have := HK.out
        rw [HN.out, List.take_of_length_le (Nat.le_refl _)] at this
        rw [this]; rfl)
      by_cases h8 : k ≤ 8
      · have d5 : decide ((k : Int) ≤ 8) = true := by simp; omega
        rw [d5] at HR
        go_wp2
        go_ret
        exact ⟨by rw [HR.out]; rfl, hB.out⟩
      · have d5 : decide ((k : Int) ≤ 8) = false := by simp; omega
        rw [d5] at HR
        go_wp2
        go_ret
        exact ⟨by rw [HR.out]; rfl, hB.out⟩
theorem few_any (F : Fl) (v : Value) (w : World) (hv : isFl F v w) :
    Calls Try.prog 9 #[v] w fun e w' => e = .returned (.bool (fewB F)) ∧ Below w.heap.size w w' := by
  by_cases h : 0 < F.pages.length
  · exact few_some F v w hv h
  · exact few_none F v w hv (List.eq_nil_of_length_eq_zero (by omega))
theorem few_facts {F : Fl} (h : fewB F = true) : F.pages.length ≤ 8 ∧ F.wear.length ≤ 20 := by
  simp only [fewB, Bool.and_eq_true, decide_eq_true_eq] at h
  omega
end Go.Proofs.Ytpjafjnokgeifaa
end
section
namespace Go.Proofs.Ytpjafjnokgeifaa
open Go.RowKit
set_option linter.unusedVariables false
set_option linter.unusedSimpArgs false

section
variable {P : Program} {ops : Array Oper} {base : World} {a0 : Act} {Q : Exit → Act → World → Prop} {kn : Nat → VP} {i : Nat} {V : VP}

/-- make([]byte, n) -/
theorem step_make (t e : TypeId) (x : Operand) (n : Nat) (hop : (ops[i]?).map (·.op) = some (.makeSlice t x x)) (hw : Wanted ops a0 kn i) (hx : Knows ops a0 kn i x (isVal (.int .i64 (n : Int))))
    (ht : P.underlying t = some (.slice e)) (hi : (P.info? e).map (fun i => (i.zero, i.size, i.bytes)) = some (some (.int .u8 0), 1, 1)) (hn : n ≤ 1000000) : FStep P ops base a0 Q kn i (isRow (List.replicate n 0)) :=
  step_mk (stable_row _) hw fun o ho a w hk hb hd => by
    have e1 : a.eval x = .int .i64 (n : Int) := hx a w hk hd
    have hr := run_make_row' (P := P) t e (.int .u8 0) 1 ht hi rfl .i64 .i64 n (by omega) (by omega) w
    unfold Oper.wp execOp
    rw [op_of hop ho]
    simp only [e1, Sem.run_bind, hr, Result.andThen_ok, Sem.run_pure]
    refine ⟨_, rfl, ⟨w.heap.size, by simp, by simp, BRow.made w e n⟩, (Below.refl _ _).alloc (Nat.le_refl _) _⟩

/-- A place in an array. -/
theorem step_at (t e : TypeId) (x : Operand) (n k g : Nat) (hop : (ops[i]?).map (·.op) = some (.indexAddr t x (.const (.int .i64 (k : Int))))) (hw : Wanted ops a0 kn i) (hx : Knows ops a0 kn i x (isVal (.pointer (some ⟨g, 0, none⟩))))
    (ht : P.underlying t = some (.array n e)) (hs : P.cellsOf e = 1) (hi : (P.info? e).map (·.size) = some 1) (hk : k < n) : FStep P ops base a0 Q kn i (isVal (.pointer (some (Addr.add ⟨g, 0, none⟩ k)))) :=
  step_pure _ hop hw fun o a w ho hk' hd => by
    have e1 : a.eval x = .pointer (some ⟨g, 0, none⟩) := hx a w hk' hd
    have e2 : a.eval (.const (.int .i64 (k : Int))) = .int .i64 (k : Int) := rfl
    unfold execOp
    rw [ho]
    simp only [e1, e2, Sem.run_bind]
    obtain ⟨ie, hie, hz⟩ := Option.map_eq_some_iff.1 hi
    have hsz : (sizeOf e).run P w = .ok 1 w := by simp [sizeOf, typeInfo, hie, hz]
    simp [Instr.indexAt, run_underlying ht, Instr.sureAddr, asIntOf, hsz, hk]

/-- What stands in a place that was there ahead of the region. -/
theorem step_cell (t : TypeId) (x : Operand) (p : Addr) (v : Value) (d : TypeDesc) (hop : (ops[i]?).map (·.op) = some (.load t x)) (hw : Wanted ops a0 kn i) (hx : Knows ops a0 kn i x (isVal (.pointer (some p))))
    (hc : base.cell? p = some v) (hp : p.block < base.heap.size) (hu : P.underlying t = some (.int .u8)) : FStep P ops base a0 Q kn i (isVal v) :=
  step_mk (stable_val _) hw fun o ho a w hk hb hd => by
    have e1 : a.eval x = .pointer (some p) := hx a w hk hd
    have e2 : w.cell? p = some v := (hb.cell hp).trans hc
    unfold Oper.wp execOp
    rw [op_of hop ho]
    simp only [e1, Instr.loadAt, Instr.sureAddr, Sem.run_bind, Sem.run_pure, Result.andThen_ok]
    simp [loadVar, isAgg, run_underlying hu, e2, Oper.upon]
    exact ⟨v, rfl, rfl, Below.refl _ _⟩

theorem step_whole (t e : TypeId) (x : Operand) (g : Nat) (n : Nat) (cs : Array Value) (t' : TypeId) (fr : Nat × Nat) (hop : (ops[i]?).map (·.op) = some (.load t x)) (hw : Wanted ops a0 kn i) (hx : Knows ops a0 kn i x (isVal (.pointer (some ⟨g, 0, none⟩))))
    (hc : base.heap[g]? = some (.cells cs t' fr)) (hu : P.underlying t = some (.array n e)) (hi : (P.info? t).map (·.size) = some cs.size) : FStep P ops base a0 Q kn i (isVal (.agg cs)) :=
  step_mk (stable_val _) hw fun o ho a w hk hb hd => by
    have e1 : a.eval x = .pointer (some ⟨g, 0, none⟩) := hx a w hk hd
    have hg : g < base.heap.size := (Array.getElem?_eq_some_iff.1 hc).1
    have e2 : w.heap[g]? = some (.cells cs t' fr) := (hb.block g hg).trans hc
    exact wp_load_row t x (op_of hop ho) g e1 t' cs fr _ e2 hu rfl hi ⟨_, rfl, rfl, Below.refl _ _⟩

theorem step_none (t : TypeId) (cs : Array Value) (hop : (ops[i]?).map (·.op) = some (.build t #[])) (hw : Wanted ops a0 kn i) (hb : P.built t [] = some cs) : FStep P ops base a0 Q kn i (isVal (.agg cs)) :=
  step_pure _ hop hw fun o a w ho hk hd => by
    unfold execOp
    rw [ho]
    simp only [Sem.run_bind]
    rw [run_build (P := P) w t _ cs (by simpa using hb)]
    rfl

/-- A literal of four bytes that were found out. -/
theorem step_row4 (t e : TypeId) (x0 x1 x2 x3 : Operand) (b0 b1 b2 b3 : UInt8) (hop : (ops[i]?).map (·.op) = some (.buildSlice t 4 #[(0, x0), (1, x1), (2, x2), (3, x3)])) (hw : Wanted ops a0 kn i)
    (h0 : Knows ops a0 kn i x0 (isVal (.int .u8 (b0.toNat : Int)))) (h1 : Knows ops a0 kn i x1 (isVal (.int .u8 (b1.toNat : Int)))) (h2 : Knows ops a0 kn i x2 (isVal (.int .u8 (b2.toNat : Int)))) (h3 : Knows ops a0 kn i x3 (isVal (.int .u8 (b3.toNat : Int))))
    (hu : P.underlying t = some (.slice e)) (hi : (P.info? e).map (fun i => (i.zero, i.size, i.bytes)) = some (some (.int .u8 0), 1, 1)) : FStep P ops base a0 Q kn i (isRow [b0, b1, b2, b3]) :=
  step_mk (stable_row _) hw fun o ho a w hk hb hd => by
    obtain ⟨ie, hie, hzz⟩ := Option.map_eq_some_iff.1 hi
    simp only [Prod.mk.injEq] at hzz
    obtain ⟨hz, hsz, _⟩ := hzz
    have e0 : a.eval x0 = _ := h0 a w hk hd
    have e1 : a.eval x1 = _ := h1 a w hk hd
    have e2 : a.eval x2 = _ := h2 a w hk hd
    have e3 : a.eval x3 = _ := h3 a w hk hd
    have hf : Instr.fill (fun i => some (i * ie.size, ie.size)) ((Array.range (4 * ie.size)).map ((Value.int .u8 0).cells[· % (Value.int .u8 0).cells.size]!)) (#[(0, x0), (1, x1), (2, x2), (3, x3)].map fun (i, x) => (i, a.eval x)).toList = some ([b0, b1, b2, b3].map fun b => Value.int .u8 (b.toNat : Int)).toArray := by
      have e4 : (#[(0, x0), (1, x1), (2, x2), (3, x3)].map fun (i, x) => (i, a.eval x)).toList = (([b0, b1, b2, b3].map fun b => Value.int .u8 (b.toNat : Int)).zipIdx 0).map fun x => (x.2, x.1) := by
        simp [e0, e1, e2, e3]
      rw [e4, hsz]
      exact Great.fill_flat _ _ (fun v hv => by obtain ⟨n, _, rfl⟩ := List.mem_map.1 hv; rfl) (by simp)
    refine wp_buildSlice t e 4 _ (op_of hop ho) _ ie (.int .u8 0) hu hie hz (by rw [hsz]; omega) (by rw [hsz]; omega) hf ?_
    refine ⟨_, rfl, ⟨w.heap.size, rfl, by simp, fun j hj => ⟨?_, World.frozen?_alloc_new w _ _ _⟩⟩, (Below.refl _ _).alloc (Nat.le_refl _) _⟩
    rw [World.cell?_alloc_new]
    simp only [List.getElem?_toArray, List.getElem?_map, List.getElem?_eq_getElem hj, Option.map_some]
end

/-- Four bytes are alike where each is. -/
theorem eql_four {P : Program} (t e : TypeId) (x0 x1 x2 x3 y0 y1 y2 y3 : Int) (b : Bool) (hu : P.underlying t = some (.array 4 e)) (he : P.underlying e = some (.int .u8)) (hi : (P.info? e).map (·.size) = some 1)
    (hb : (x0 == y0 && x1 == y1 && x2 == y2 && x3 == y3) = b) (w : World) :
    (binOp .eql t (.agg #[.int .u8 x0, .int .u8 x1, .int .u8 x2, .int .u8 x3]) (.agg #[.int .u8 y0, .int .u8 y1, .int .u8 y2, .int .u8 y3])).run P w = .ok (.bool b) w := by
  obtain ⟨ie, hie, hz⟩ := Option.map_eq_some_iff.1 hi
  have hc : P.cellsOf e = 1 := by simp [Program.cellsOf, hie, hz]
  rw [run_eql_struct, show (10000 : Nat) = 9999 + 1 from rfl, run_equalIn_array w 9999 _ _ hu hie, hc]
  have hsz : ∀ w, (sizeOf e).run P w = .ok 1 w := fun w => by simp [sizeOf, typeInfo, hie, hz]
  rw [show List.range 4 = [0, 1, 2, 3] from rfl, ← hb]
  have hp : ∀ (xs : Array Value) (off : Nat) (v : Value) (w : World), xs[off]? = some v → (part e xs off).run P w = .ok v w := fun xs off v w hx => by simp [part, isAgg, run_underlying he, hx]
  have heq : ∀ (x y : Int) (w : World), (Op.equalIn 9999 e (.int .u8 x) (.int .u8 y)).run P w = .ok (x == y) w := fun x y w => run_equalIn_int w 9998 e .u8 .u8 x y he
  simp only [Op.eqItems, Sem.run_bind, Nat.zero_mul, Nat.mul_one]
  rw [hp _ 0 (.int .u8 x0) w rfl]
  simp only [Result.andThen_ok]
  rw [hp _ 0 (.int .u8 y0) w rfl]
  simp only [Result.andThen_ok]
  rw [heq x0 y0]
  cases h0 : x0 == y0 with
  | false => simp
  | true =>
    simp only [Result.andThen_ok, Bool.not_true, Bool.false_eq_true, if_false, Sem.run_pure, Sem.run_bind]
    rw [hp _ 1 (.int .u8 x1) w rfl]
    simp only [Result.andThen_ok]
    rw [hp _ 1 (.int .u8 y1) w rfl]
    simp only [Result.andThen_ok]
    rw [heq x1 y1]
    cases h1 : x1 == y1 with
    | false => simp
    | true =>
      simp only [Result.andThen_ok, Bool.not_true, Bool.false_eq_true, if_false, Sem.run_pure, Sem.run_bind]
      rw [hp _ 2 (.int .u8 x2) w rfl]
      simp only [Result.andThen_ok]
      rw [hp _ 2 (.int .u8 y2) w rfl]
      simp only [Result.andThen_ok]
      rw [heq x2 y2]
      cases h2 : x2 == y2 with
      | false => simp
      | true =>
        simp only [Result.andThen_ok, Bool.not_true, Bool.false_eq_true, if_false, Sem.run_pure, Sem.run_bind]
        rw [hp _ 3 (.int .u8 x3) w rfl]
        simp only [Result.andThen_ok]
        rw [hp _ 3 (.int .u8 y3) w rfl]
        simp only [Result.andThen_ok]
        rw [heq x3 y3]
        cases h3 : x3 == y3 with
        | false => simp
        | true => simp
end Go.Proofs.Ytpjafjnokgeifaa
end
section
namespace Go.Proofs.Ytpjafjnokgeifaa
open Go.RowKit
set_option linter.unusedVariables false
set_option linter.unusedSimpArgs false
attribute [local irreducible] set5

def dv0 : Fl := ⟨[], [], 0, [], false⟩
def dv1 : Fl := ⟨[[255, 255, 255, 255], [255, 255, 255, 255]], [0, 0], (-1), [], false⟩
def dv2 : Fl := ⟨[[255, 255, 255, 255], [255, 240, 255, 255]], [0, 0], (-1), [], false⟩
def dv3 : Fl := ⟨[[255, 255, 255, 255], [255, 0, 15, 255]], [0, 0], (-1), [], false⟩
def dv4 : Fl := ⟨[[255, 255, 255, 255], [255, 255, 255, 255]], [0, 1], (-1), [], false⟩
def dv5 : Fl := ⟨[[255, 255, 255, 255], [255, 255, 255, 255]], [0, 1], 0, [3], false⟩
def dv6 : Fl := ⟨[[252, 252, 255, 255], [255, 255, 255, 255]], [0, 1], 0, [3], true⟩
def dv8 : Fl := ⟨[[252, 252, 254, 255], [255, 255, 255, 255]], [0, 1], 0, [3], true⟩

theorem c_new (w : World) : Calls Try.prog 10 #[.int .i64 2, .int .i64 4] w fun e w' => ∃ v', e = .returned (.tuple #[v', .int .i64 0]) ∧ isFlN w.heap.size dv1 v' w' ∧ Below w.heap.size w w' := by
  have h := new_any 2 4 w
  rwa [show newF 2 4 = dv1 by kernel_rfl, show newE 2 4 = 0 by kernel_rfl] at h
theorem c_prog1 (v : Value) (w : World) (hv : isFl dv1 v w) : Calls Try.prog 36 #[v, .int .i64 1, .int .i64 1, .string ⟨#[240]⟩] w fun e w' => ∃ v', e = .returned (.tuple #[v', .int .i64 0]) ∧ isFlN w.heap.size dv2 v' w' ∧ Below w.heap.size w w' := by
  have h := program_any dv1 1 1 [240] v w hv (by decide) (by decide) (by decide) (by decide)
  rwa [show progF dv1 1 1 [240] = dv2 by kernel_rfl, show progE dv1 1 1 [240] = 0 by kernel_rfl] at h
theorem c_prog2 (v : Value) (w : World) (hv : isFl dv2 v w) : Calls Try.prog 36 #[v, .int .i64 1, .int .i64 1, .string ⟨#[15, 15]⟩] w fun e w' => ∃ v', e = .returned (.tuple #[v', .int .i64 0]) ∧ isFlN w.heap.size dv3 v' w' ∧ Below w.heap.size w w' := by
  have h := program_any dv2 1 1 [15, 15] v w hv (by decide) (by decide) (by decide) (by decide)
  rwa [show progF dv2 1 1 [15, 15] = dv3 by kernel_rfl, show progE dv2 1 1 [15, 15] = 0 by kernel_rfl] at h
theorem c_erase (v : Value) (w : World) (hv : isFl dv3 v w) : Calls Try.prog 37 #[v, .int .i64 1] w fun e w' => ∃ v', e = .returned (.tuple #[v', .int .i64 0]) ∧ isFlN w.heap.size dv4 v' w' ∧ Below w.heap.size w w' := by
  have h := erase_any dv3 1 v w hv (by decide) (by decide) (by decide)
  rwa [show eraseF dv3 1 = dv4 by kernel_rfl, show eraseE dv3 1 = 0 by kernel_rfl] at h
theorem c_wake (v : Value) (w : World) (hv : isFl dv4 v w) : Calls Try.prog 12 #[v, .int .i64 0, .string ⟨#[3]⟩] w fun e w' => ∃ v', e = .returned (.tuple #[v', .int .i64 0]) ∧ isFlN w.heap.size dv5 v' w' ∧ Below w.heap.size w w' := by
  have h := wake_any dv4 0 [3] v w hv (by decide) (by decide)
  rwa [show wakeF dv4 0 [3] = dv5 by kernel_rfl, show wakeE dv4 [3] = 0 by kernel_rfl] at h
theorem c_torn (v : Value) (w : World) (hv : isFl dv5 v w) : Calls Try.prog 36 #[v, .int .i64 0, .int .i64 0, .string ⟨#[0, 0]⟩] w fun e w' => ∃ v', e = .returned (.tuple #[v', .int .i64 8]) ∧ isFlN w.heap.size dv6 v' w' ∧ Below w.heap.size w w' := by
  have h := program_any dv5 0 0 [0, 0] v w hv (by decide) (by decide) (by decide) (by decide)
  rwa [show progF dv5 0 0 [0, 0] = dv6 by kernel_rfl, show progE dv5 0 0 [0, 0] = 8 by kernel_rfl] at h
theorem c_dead (v : Value) (w : World) (hv : isFl dv6 v w) : Calls Try.prog 37 #[v, .int .i64 0] w fun e w' => ∃ v', e = .returned (.tuple #[v', .int .i64 8]) ∧ isFlN w.heap.size dv6 v' w' ∧ Below w.heap.size w w' := by
  have h := erase_any dv6 0 v w hv (by decide) (by decide) (by decide)
  rwa [show eraseF dv6 0 = dv6 by kernel_rfl, show eraseE dv6 0 = 8 by kernel_rfl] at h
theorem c_rot (v : Value) (w : World) (hv : isFl dv6 v w) : Calls Try.prog 14 #[v, .int .i64 0, .int .i64 2, .string ⟨#[1]⟩] w fun e w' => ∃ v', e = .returned (.tuple #[v', .int .i64 0]) ∧ isFlN w.heap.size dv8 v' w' ∧ Below w.heap.size w w' := by
  have h := rot_any dv6 0 2 [1] v w hv (by decide) (by decide) (by decide)
  rwa [show rotF dv6 0 2 [1] = dv8 by kernel_rfl, show rotE dv6 0 2 [1] = 0 by kernel_rfl] at h

theorem lit_back (W : World) (l : List UInt8) : (convert 46 9 (.slice (some ⟨W.heap.size, 0, none⟩) l.length l.length)).run Try.prog (W.alloc (.cells (l.map fun b => Value.int .u8 (b.toNat : Int)).toArray 5)) = .ok (.string ⟨l.toArray⟩) (W.alloc (.cells (l.map fun b => Value.int .u8 (b.toNat : Int)).toArray 5)) := by
  refine run_convert_bytes_back _ 46 9 5 ⟨W.heap.size, 0, none⟩ l.length l Try.underlying46 Try.underlying5 Try.underlying9 (fun j hj => ?_)
  have e : (⟨W.heap.size, 0, none⟩ : Addr).add j = ⟨W.heap.size, j, none⟩ := by
    by_cases e0 : j = 0
    · subst e0; simp [Addr.add]
    · simp [Addr.add, e0]
  rw [e, World.cell?_alloc_new]
  simp [hj]
theorem below_lit (W : World) (o : Obj) : Below W.heap.size W (W.alloc o) := (Below.refl _ _).alloc (Nat.le_refl _) _

theorem f_free (v : Value) (w : World) (hv : isFl dv4 v w) : Calls Try.prog 20 #[v, .int .i64 1] w fun e w' => ∃ x, e = .returned x ∧ isVal (.bool true) x w' ∧ Below w.heap.size w w' :=
  (free_any dv4 1 v w hv (by decide) (by decide)).mono (by rintro e w' ⟨rfl, hb⟩; exact ⟨_, rfl, by rw [show freeB dv4 1 = true by kernel_rfl]; rfl, hb⟩)
theorem f_check (v : Value) (w : World) (hv : isFl dv1 v w) : Calls Try.prog 19 #[v] w fun e w' => ∃ x, e = .returned x ∧ isVal (.int .i64 0) x w' ∧ Below w.heap.size w w' :=
  (check_any dv1 v w hv (by decide) (by decide)).mono (by rintro e w' ⟨rfl, hb⟩; exact ⟨_, rfl, by rw [show checkE dv1 = 0 by kernel_rfl]; rfl, hb⟩)
theorem f_none (w : World) : Calls Try.prog 19 #[.agg #[.slice none 0 0, .slice none 0 0, .int .i64 0, .string ⟨#[]⟩, .bool false]] w fun e w' => ∃ x, e = .returned x ∧ isVal (.int .i64 1) x w' ∧ Below w.heap.size w w' :=
  (check_any dv0 _ w ⟨_, _, rfl, .inl ⟨rfl, rfl⟩, .inl ⟨rfl, rfl⟩⟩ (by decide) (by decide)).mono (by rintro e w' ⟨rfl, hb⟩; exact ⟨_, rfl, by rw [show checkE dv0 = 1 by kernel_rfl]; rfl, hb⟩)
theorem f_same (v : Value) (w : World) (hv : isFl dv1 v w) : Calls Try.prog 21 #[v, v] w fun e w' => ∃ x, e = .returned x ∧ isVal (.bool true) x w' ∧ Below w.heap.size w w' :=
  (same_any dv1 dv1 v v w hv hv (by decide) (by decide) (by decide) (by decide)).mono (by rintro e w' ⟨rfl, hb⟩; exact ⟨_, rfl, by rw [show sameB dv1 dv1 = true by kernel_rfl]; rfl, hb⟩)
theorem f_other (v u : Value) (w : World) (hv : isFl dv1 v w) (hu : isFl dv2 u w) : Calls Try.prog 21 #[v, u] w fun e w' => ∃ x, e = .returned x ∧ isVal (.bool false) x w' ∧ Below w.heap.size w w' :=
  (same_any dv1 dv2 v u w hv hu (by decide) (by decide) (by decide) (by decide)).mono (by rintro e w' ⟨rfl, hb⟩; exact ⟨_, rfl, by rw [show sameB dv1 dv2 = false by kernel_rfl]; rfl, hb⟩)
noncomputable def worksOps : Array Oper := regionOf Try.f8 11
set_option maxRecDepth 100000 in
set_option maxHeartbeats 4000000 in
theorem works_region (Q : Exit → Act → World → Prop) (a0 : Act) (w0 : World) (hsz : a0.tmps.size = 196) (ga ba oa ca da qa sa : Nat) (gb bb ob cb db qb sb : Nat) (gc bc oc cc dc qc sc : Nat) (gd bd od cd dd qd sd : Nat) (gf bf of cf df qf sf : Nat) (gh bh oh ch dh qh sh : Nat) (e1 : a0.tmps.getD 1 undef = .pointer (some ⟨ga, 0, none⟩)) (e3 : a0.tmps.getD 3 undef = .pointer (some ⟨gb, 0, none⟩)) (e5 : a0.tmps.getD 5 undef = .pointer (some ⟨gc, 0, none⟩)) (e7 : a0.tmps.getD 7 undef = .pointer (some ⟨gd, 0, none⟩)) (e11 : a0.tmps.getD 11 undef = .pointer (some ⟨gf, 0, none⟩)) (e15 : a0.tmps.getD 15 undef = .pointer (some ⟨gh, 0, none⟩)) (e2 : a0.tmps.getD 2 undef = .int .i64 0) (e4 : a0.tmps.getD 4 undef = .int .i64 0) (e6 : a0.tmps.getD 6 undef = .int .i64 0) (e8 : a0.tmps.getD 8 undef = .int .i64 0) (e10 : a0.tmps.getD 10 undef = .int .i64 0) (e12 : a0.tmps.getD 12 undef = .int .i64 8) (e14 : a0.tmps.getD 14 undef = .int .i64 8) (e16 : a0.tmps.getD 16 undef = .int .i64 0) (Ca : Cells5 w0 ga (.slice (some ⟨ba, oa, none⟩) 2 ca) (.slice (some ⟨da, qa, none⟩) 2 sa) (.int .i64 dv1.fuse) (strC dv1.torn) (.bool dv1.dead)) (La : isFl dv1 (.agg #[.slice (some ⟨ba, oa, none⟩) 2 ca, .slice (some ⟨da, qa, none⟩) 2 sa, .int .i64 dv1.fuse, strC dv1.torn, .bool dv1.dead]) w0) (lba : ba < w0.heap.size) (lda : da < w0.heap.size) (Pa : ∀ (j : Nat) (p : List UInt8), dv1.pages[j]? = some p → w0.cell? ⟨ba, oa + j, none⟩ = some (.string ⟨p.toArray⟩)) (Ra : ∀ (j : Nat) (x : Int), dv1.wear[j]? = some x → w0.cell? ⟨da, qa + j, none⟩ = some (.int .i64 x)) (Cb : Cells5 w0 gb (.slice (some ⟨bb, ob, none⟩) 2 cb) (.slice (some ⟨db, qb, none⟩) 2 sb) (.int .i64 dv2.fuse) (strC dv2.torn) (.bool dv2.dead)) (Lb : isFl dv2 (.agg #[.slice (some ⟨bb, ob, none⟩) 2 cb, .slice (some ⟨db, qb, none⟩) 2 sb, .int .i64 dv2.fuse, strC dv2.torn, .bool dv2.dead]) w0) (lbb : bb < w0.heap.size) (ldb : db < w0.heap.size) (Pb : ∀ (j : Nat) (p : List UInt8), dv2.pages[j]? = some p → w0.cell? ⟨bb, ob + j, none⟩ = some (.string ⟨p.toArray⟩)) (Rb : ∀ (j : Nat) (x : Int), dv2.wear[j]? = some x → w0.cell? ⟨db, qb + j, none⟩ = some (.int .i64 x)) (Cc : Cells5 w0 gc (.slice (some ⟨bc, oc, none⟩) 2 cc) (.slice (some ⟨dc, qc, none⟩) 2 sc) (.int .i64 dv3.fuse) (strC dv3.torn) (.bool dv3.dead)) (Lc : isFl dv3 (.agg #[.slice (some ⟨bc, oc, none⟩) 2 cc, .slice (some ⟨dc, qc, none⟩) 2 sc, .int .i64 dv3.fuse, strC dv3.torn, .bool dv3.dead]) w0) (lbc : bc < w0.heap.size) (ldc : dc < w0.heap.size) (Pc : ∀ (j : Nat) (p : List UInt8), dv3.pages[j]? = some p → w0.cell? ⟨bc, oc + j, none⟩ = some (.string ⟨p.toArray⟩)) (Rc : ∀ (j : Nat) (x : Int), dv3.wear[j]? = some x → w0.cell? ⟨dc, qc + j, none⟩ = some (.int .i64 x)) (Cd : Cells5 w0 gd (.slice (some ⟨bd, od, none⟩) 2 cd) (.slice (some ⟨dd, qd, none⟩) 2 sd) (.int .i64 dv4.fuse) (strC dv4.torn) (.bool dv4.dead)) (Ld : isFl dv4 (.agg #[.slice (some ⟨bd, od, none⟩) 2 cd, .slice (some ⟨dd, qd, none⟩) 2 sd, .int .i64 dv4.fuse, strC dv4.torn, .bool dv4.dead]) w0) (lbd : bd < w0.heap.size) (ldd : dd < w0.heap.size) (Pd : ∀ (j : Nat) (p : List UInt8), dv4.pages[j]? = some p → w0.cell? ⟨bd, od + j, none⟩ = some (.string ⟨p.toArray⟩)) (Rd : ∀ (j : Nat) (x : Int), dv4.wear[j]? = some x → w0.cell? ⟨dd, qd + j, none⟩ = some (.int .i64 x)) (Cf : Cells5 w0 gf (.slice (some ⟨bf, of, none⟩) 2 cf) (.slice (some ⟨df, qf, none⟩) 2 sf) (.int .i64 dv6.fuse) (strC dv6.torn) (.bool dv6.dead)) (Lf : isFl dv6 (.agg #[.slice (some ⟨bf, of, none⟩) 2 cf, .slice (some ⟨df, qf, none⟩) 2 sf, .int .i64 dv6.fuse, strC dv6.torn, .bool dv6.dead]) w0) (lbf : bf < w0.heap.size) (ldf : df < w0.heap.size) (Pf : ∀ (j : Nat) (p : List UInt8), dv6.pages[j]? = some p → w0.cell? ⟨bf, of + j, none⟩ = some (.string ⟨p.toArray⟩)) (Rf : ∀ (j : Nat) (x : Int), dv6.wear[j]? = some x → w0.cell? ⟨df, qf + j, none⟩ = some (.int .i64 x)) (Ch : Cells5 w0 gh (.slice (some ⟨bh, oh, none⟩) 2 ch) (.slice (some ⟨dh, qh, none⟩) 2 sh) (.int .i64 dv8.fuse) (strC dv8.torn) (.bool dv8.dead)) (Lh : isFl dv8 (.agg #[.slice (some ⟨bh, oh, none⟩) 2 ch, .slice (some ⟨dh, qh, none⟩) 2 sh, .int .i64 dv8.fuse, strC dv8.torn, .bool dv8.dead]) w0) (lbh : bh < w0.heap.size) (ldh : dh < w0.heap.size) (Ph : ∀ (j : Nat) (p : List UInt8), dv8.pages[j]? = some p → w0.cell? ⟨bh, oh + j, none⟩ = some (.string ⟨p.toArray⟩)) (Rh : ∀ (j : Nat) (x : Int), dv8.wear[j]? = some x → w0.cell? ⟨dh, qh + j, none⟩ = some (.int .i64 x))
    (hQ : ∀ (a : Act) (w : World), a.defers = a0.defers → a.tmps.getD 0 undef = .bool true → Below w0.heap.size w0 w → Q .normal a w) :
    (Code.region 11 worksOps true).wp Try.prog Q a0 w0 := by
  obtain ⟨iu8, hiu8, hzu8, hsu8, _⟩ := info_parts Try.infoU8
  refine wp_region_flow mixed (by rw [hsz]; kernel_rfl) ?_
  rw [show worksOps.size = 103 by kernel_rfl]
  refine ⟨isVal (.int .i64 0), step_move (.tmp 2) (by kernel_rfl) (wanted_none (by kernel_rfl)) (stable_val _) (knows_old 2 (.int .i64 0) (by kernel_rfl) e2), ?_⟩
  refine ⟨isVal (.bool true), step_bin .eql 28 28 (.tmp 94) (.const (.int .i64 0)) (.int .i64 0) (.int .i64 0) (.bool true) (by kernel_rfl) (wanted_none (by kernel_rfl)) (knows_new (V := isVal (.int .i64 0)) 94 0 (by kernel_rfl) (by kernel_rfl) (by kernel_rfl)) (knows_const _) (fun _ => rfl) (eql_int _ _ _ _ _ (by decide)), ?_⟩
  refine ⟨isVal (.bool true), step_move (.tmp 95) (by kernel_rfl) (wanted_none (by kernel_rfl)) (stable_val _) (knows_new (V := isVal (.bool true)) 95 1 (by kernel_rfl) (by kernel_rfl) (by kernel_rfl)), ?_⟩
  refine ⟨isVal (.int .i64 0), step_move (.tmp 4) (by kernel_rfl) (wanted_some 2 96 true (by kernel_rfl) (by kernel_rfl) (by kernel_rfl) (by kernel_rfl)) (stable_val _) (knows_old 4 (.int .i64 0) (by kernel_rfl) e4), ?_⟩
  refine ⟨isVal (.bool true), step_bin .eql 28 28 (.tmp 97) (.const (.int .i64 0)) (.int .i64 0) (.int .i64 0) (.bool true) (by kernel_rfl) (wanted_some 2 96 true (by kernel_rfl) (by kernel_rfl) (by kernel_rfl) (by kernel_rfl)) (knows_new (V := isVal (.int .i64 0)) 97 3 (by kernel_rfl) (by kernel_rfl) (by kernel_rfl)) (knows_const _) (fun _ => rfl) (eql_int _ _ _ _ _ (by decide)), ?_⟩
  refine ⟨isVal (.bool true), step_pick (.tmp 96) (.tmp 98) (.const (.bool false)) true (by kernel_rfl) (wanted_none (by kernel_rfl)) (stable_val _) (knows_new (V := isVal (.bool true)) 96 2 (by kernel_rfl) (by kernel_rfl) (by kernel_rfl)) (knows_new (V := isVal (.bool true)) 98 4 (by kernel_rfl) (by kernel_rfl) (by kernel_rfl)), ?_⟩
  refine ⟨isVal (.bool true), step_move (.tmp 99) (by kernel_rfl) (wanted_none (by kernel_rfl)) (stable_val _) (knows_new (V := isVal (.bool true)) 99 5 (by kernel_rfl) (by kernel_rfl) (by kernel_rfl)), ?_⟩
  refine ⟨isVal (.int .i64 0), step_move (.tmp 6) (by kernel_rfl) (wanted_some 6 100 true (by kernel_rfl) (by kernel_rfl) (by kernel_rfl) (by kernel_rfl)) (stable_val _) (knows_old 6 (.int .i64 0) (by kernel_rfl) e6), ?_⟩
  refine ⟨isVal (.bool true), step_bin .eql 28 28 (.tmp 101) (.const (.int .i64 0)) (.int .i64 0) (.int .i64 0) (.bool true) (by kernel_rfl) (wanted_some 6 100 true (by kernel_rfl) (by kernel_rfl) (by kernel_rfl) (by kernel_rfl)) (knows_new (V := isVal (.int .i64 0)) 101 7 (by kernel_rfl) (by kernel_rfl) (by kernel_rfl)) (knows_const _) (fun _ => rfl) (eql_int _ _ _ _ _ (by decide)), ?_⟩
  refine ⟨isVal (.bool true), step_pick (.tmp 100) (.tmp 102) (.const (.bool false)) true (by kernel_rfl) (wanted_none (by kernel_rfl)) (stable_val _) (knows_new (V := isVal (.bool true)) 100 6 (by kernel_rfl) (by kernel_rfl) (by kernel_rfl)) (knows_new (V := isVal (.bool true)) 102 8 (by kernel_rfl) (by kernel_rfl) (by kernel_rfl)), ?_⟩
  refine ⟨isVal (.bool true), step_move (.tmp 103) (by kernel_rfl) (wanted_none (by kernel_rfl)) (stable_val _) (knows_new (V := isVal (.bool true)) 103 9 (by kernel_rfl) (by kernel_rfl) (by kernel_rfl)), ?_⟩
  refine ⟨isVal (.int .i64 0), step_move (.tmp 8) (by kernel_rfl) (wanted_some 10 104 true (by kernel_rfl) (by kernel_rfl) (by kernel_rfl) (by kernel_rfl)) (stable_val _) (knows_old 8 (.int .i64 0) (by kernel_rfl) e8), ?_⟩
  refine ⟨isVal (.bool true), step_bin .eql 28 28 (.tmp 105) (.const (.int .i64 0)) (.int .i64 0) (.int .i64 0) (.bool true) (by kernel_rfl) (wanted_some 10 104 true (by kernel_rfl) (by kernel_rfl) (by kernel_rfl) (by kernel_rfl)) (knows_new (V := isVal (.int .i64 0)) 105 11 (by kernel_rfl) (by kernel_rfl) (by kernel_rfl)) (knows_const _) (fun _ => rfl) (eql_int _ _ _ _ _ (by decide)), ?_⟩
  refine ⟨isVal (.bool true), step_pick (.tmp 104) (.tmp 106) (.const (.bool false)) true (by kernel_rfl) (wanted_none (by kernel_rfl)) (stable_val _) (knows_new (V := isVal (.bool true)) 104 10 (by kernel_rfl) (by kernel_rfl) (by kernel_rfl)) (knows_new (V := isVal (.bool true)) 106 12 (by kernel_rfl) (by kernel_rfl) (by kernel_rfl)), ?_⟩
  refine ⟨isVal (.bool true), step_move (.tmp 107) (by kernel_rfl) (wanted_none (by kernel_rfl)) (stable_val _) (knows_new (V := isVal (.bool true)) 107 13 (by kernel_rfl) (by kernel_rfl) (by kernel_rfl)), ?_⟩
  refine ⟨isVal (.int .i64 0), step_move (.tmp 10) (by kernel_rfl) (wanted_some 14 108 true (by kernel_rfl) (by kernel_rfl) (by kernel_rfl) (by kernel_rfl)) (stable_val _) (knows_old 10 (.int .i64 0) (by kernel_rfl) e10), ?_⟩
  refine ⟨isVal (.bool true), step_bin .eql 28 28 (.tmp 109) (.const (.int .i64 0)) (.int .i64 0) (.int .i64 0) (.bool true) (by kernel_rfl) (wanted_some 14 108 true (by kernel_rfl) (by kernel_rfl) (by kernel_rfl) (by kernel_rfl)) (knows_new (V := isVal (.int .i64 0)) 109 15 (by kernel_rfl) (by kernel_rfl) (by kernel_rfl)) (knows_const _) (fun _ => rfl) (eql_int _ _ _ _ _ (by decide)), ?_⟩
  refine ⟨isVal (.bool true), step_pick (.tmp 108) (.tmp 110) (.const (.bool false)) true (by kernel_rfl) (wanted_none (by kernel_rfl)) (stable_val _) (knows_new (V := isVal (.bool true)) 108 14 (by kernel_rfl) (by kernel_rfl) (by kernel_rfl)) (knows_new (V := isVal (.bool true)) 110 16 (by kernel_rfl) (by kernel_rfl) (by kernel_rfl)), ?_⟩
  refine ⟨isVal (.bool true), step_move (.tmp 111) (by kernel_rfl) (wanted_none (by kernel_rfl)) (stable_val _) (knows_new (V := isVal (.bool true)) 111 17 (by kernel_rfl) (by kernel_rfl) (by kernel_rfl)), ?_⟩
  refine ⟨isVal (.pointer (some ⟨gb, 0, none⟩)), step_field 25 (.tmp 3) 0 ⟨gb, 0, none⟩ ⟨gb, 0, none⟩ (by kernel_rfl) (wanted_some 18 112 true (by kernel_rfl) (by kernel_rfl) (by kernel_rfl) (by kernel_rfl)) (knows_old 3 (.pointer (some ⟨gb, 0, none⟩)) (by kernel_rfl) e3) (field_fl gb 0 (by omega)), ?_⟩
  refine ⟨isVal (.slice (some ⟨bb, ob, none⟩) 2 cb), step_read 22 (.tmp 113) ⟨gb, 0, none⟩ (.slice (some ⟨bb, ob, none⟩) 2 cb) (by kernel_rfl) (wanted_some 18 112 true (by kernel_rfl) (by kernel_rfl) (by kernel_rfl) (by kernel_rfl)) (knows_new (V := isVal (.pointer (some ⟨gb, 0, none⟩))) 113 19 (by kernel_rfl) (by kernel_rfl) (by kernel_rfl)) Cb.2.1 Cb.1 agg_strs, ?_⟩
  refine ⟨isVal (.pointer (some ⟨bb, ob + 1, none⟩)), step_place 22 9 (.tmp 114) (.const (.int .i64 1)) bb ob 2 cb 1 (by kernel_rfl) (wanted_some 18 112 true (by kernel_rfl) (by kernel_rfl) (by kernel_rfl) (by kernel_rfl)) (knows_new (V := isVal (.slice (some ⟨bb, ob, none⟩) 2 cb)) 114 20 (by kernel_rfl) (by kernel_rfl) (by kernel_rfl)) (knows_const _) Try.underlying22 (by kernel_rfl) (by decide), ?_⟩
  refine ⟨isVal (.string ⟨[255, 240, 255, 255].toArray⟩), step_read 9 (.tmp 115) ⟨bb, ob + 1, none⟩ (.string ⟨[255, 240, 255, 255].toArray⟩) (by kernel_rfl) (wanted_some 18 112 true (by kernel_rfl) (by kernel_rfl) (by kernel_rfl) (by kernel_rfl)) (knows_new (V := isVal (.pointer (some ⟨bb, ob + 1, none⟩))) 115 21 (by kernel_rfl) (by kernel_rfl) (by kernel_rfl)) (Pb 1 _ rfl) lbb agg_str, ?_⟩
  refine ⟨isRow [255, 240, 255, 255], step_row 46 5 #[(0, .const (.int .u8 255)), (1, .const (.int .u8 240)), (2, .const (.int .u8 255)), (3, .const (.int .u8 255))] [255, 240, 255, 255] iu8 (by kernel_rfl) (wanted_some 18 112 true (by kernel_rfl) (by kernel_rfl) (by kernel_rfl) (by kernel_rfl)) Try.underlying46 hiu8 hzu8 hsu8 (by decide) (by decide) (by kernel_rfl), ?_⟩
  refine ⟨isVal (.string ⟨[255, 240, 255, 255].toArray⟩), step_convRow 46 9 5 (.tmp 117) [255, 240, 255, 255] (by kernel_rfl) (wanted_some 18 112 true (by kernel_rfl) (by kernel_rfl) (by kernel_rfl) (by kernel_rfl)) (knows_new (V := isRow [255, 240, 255, 255]) 117 23 (by kernel_rfl) (by kernel_rfl) (by kernel_rfl)) Try.underlying46 Try.underlying5 Try.underlying9, ?_⟩
  refine ⟨isVal (.bool true), step_bin .eql 9 9 (.tmp 116) (.tmp 118) (.string ⟨[255, 240, 255, 255].toArray⟩) (.string ⟨[255, 240, 255, 255].toArray⟩) (.bool true) (by kernel_rfl) (wanted_some 18 112 true (by kernel_rfl) (by kernel_rfl) (by kernel_rfl) (by kernel_rfl)) (knows_new (V := isVal (.string ⟨[255, 240, 255, 255].toArray⟩)) 116 22 (by kernel_rfl) (by kernel_rfl) (by kernel_rfl)) (knows_new (V := isVal (.string ⟨[255, 240, 255, 255].toArray⟩)) 118 24 (by kernel_rfl) (by kernel_rfl) (by kernel_rfl)) (fun _ => rfl) (eql_str _ _ _ _ (by decide)), ?_⟩
  refine ⟨isVal (.bool true), step_pick (.tmp 112) (.tmp 119) (.const (.bool false)) true (by kernel_rfl) (wanted_none (by kernel_rfl)) (stable_val _) (knows_new (V := isVal (.bool true)) 112 18 (by kernel_rfl) (by kernel_rfl) (by kernel_rfl)) (knows_new (V := isVal (.bool true)) 119 25 (by kernel_rfl) (by kernel_rfl) (by kernel_rfl)), ?_⟩
  refine ⟨isVal (.bool true), step_move (.tmp 120) (by kernel_rfl) (wanted_none (by kernel_rfl)) (stable_val _) (knows_new (V := isVal (.bool true)) 120 26 (by kernel_rfl) (by kernel_rfl) (by kernel_rfl)), ?_⟩
  refine ⟨isVal (.pointer (some ⟨gc, 0, none⟩)), step_field 25 (.tmp 5) 0 ⟨gc, 0, none⟩ ⟨gc, 0, none⟩ (by kernel_rfl) (wanted_some 27 121 true (by kernel_rfl) (by kernel_rfl) (by kernel_rfl) (by kernel_rfl)) (knows_old 5 (.pointer (some ⟨gc, 0, none⟩)) (by kernel_rfl) e5) (field_fl gc 0 (by omega)), ?_⟩
  refine ⟨isVal (.slice (some ⟨bc, oc, none⟩) 2 cc), step_read 22 (.tmp 122) ⟨gc, 0, none⟩ (.slice (some ⟨bc, oc, none⟩) 2 cc) (by kernel_rfl) (wanted_some 27 121 true (by kernel_rfl) (by kernel_rfl) (by kernel_rfl) (by kernel_rfl)) (knows_new (V := isVal (.pointer (some ⟨gc, 0, none⟩))) 122 28 (by kernel_rfl) (by kernel_rfl) (by kernel_rfl)) Cc.2.1 Cc.1 agg_strs, ?_⟩
  refine ⟨isVal (.pointer (some ⟨bc, oc + 1, none⟩)), step_place 22 9 (.tmp 123) (.const (.int .i64 1)) bc oc 2 cc 1 (by kernel_rfl) (wanted_some 27 121 true (by kernel_rfl) (by kernel_rfl) (by kernel_rfl) (by kernel_rfl)) (knows_new (V := isVal (.slice (some ⟨bc, oc, none⟩) 2 cc)) 123 29 (by kernel_rfl) (by kernel_rfl) (by kernel_rfl)) (knows_const _) Try.underlying22 (by kernel_rfl) (by decide), ?_⟩
  refine ⟨isVal (.string ⟨[255, 0, 15, 255].toArray⟩), step_read 9 (.tmp 124) ⟨bc, oc + 1, none⟩ (.string ⟨[255, 0, 15, 255].toArray⟩) (by kernel_rfl) (wanted_some 27 121 true (by kernel_rfl) (by kernel_rfl) (by kernel_rfl) (by kernel_rfl)) (knows_new (V := isVal (.pointer (some ⟨bc, oc + 1, none⟩))) 124 30 (by kernel_rfl) (by kernel_rfl) (by kernel_rfl)) (Pc 1 _ rfl) lbc agg_str, ?_⟩
  refine ⟨isRow [255, 0, 15, 255], step_row 46 5 #[(0, .const (.int .u8 255)), (1, .const (.int .u8 0)), (2, .const (.int .u8 15)), (3, .const (.int .u8 255))] [255, 0, 15, 255] iu8 (by kernel_rfl) (wanted_some 27 121 true (by kernel_rfl) (by kernel_rfl) (by kernel_rfl) (by kernel_rfl)) Try.underlying46 hiu8 hzu8 hsu8 (by decide) (by decide) (by kernel_rfl), ?_⟩
  refine ⟨isVal (.string ⟨[255, 0, 15, 255].toArray⟩), step_convRow 46 9 5 (.tmp 126) [255, 0, 15, 255] (by kernel_rfl) (wanted_some 27 121 true (by kernel_rfl) (by kernel_rfl) (by kernel_rfl) (by kernel_rfl)) (knows_new (V := isRow [255, 0, 15, 255]) 126 32 (by kernel_rfl) (by kernel_rfl) (by kernel_rfl)) Try.underlying46 Try.underlying5 Try.underlying9, ?_⟩
  refine ⟨isVal (.bool true), step_bin .eql 9 9 (.tmp 125) (.tmp 127) (.string ⟨[255, 0, 15, 255].toArray⟩) (.string ⟨[255, 0, 15, 255].toArray⟩) (.bool true) (by kernel_rfl) (wanted_some 27 121 true (by kernel_rfl) (by kernel_rfl) (by kernel_rfl) (by kernel_rfl)) (knows_new (V := isVal (.string ⟨[255, 0, 15, 255].toArray⟩)) 125 31 (by kernel_rfl) (by kernel_rfl) (by kernel_rfl)) (knows_new (V := isVal (.string ⟨[255, 0, 15, 255].toArray⟩)) 127 33 (by kernel_rfl) (by kernel_rfl) (by kernel_rfl)) (fun _ => rfl) (eql_str _ _ _ _ (by decide)), ?_⟩
  refine ⟨isVal (.bool true), step_pick (.tmp 121) (.tmp 128) (.const (.bool false)) true (by kernel_rfl) (wanted_none (by kernel_rfl)) (stable_val _) (knows_new (V := isVal (.bool true)) 121 27 (by kernel_rfl) (by kernel_rfl) (by kernel_rfl)) (knows_new (V := isVal (.bool true)) 128 34 (by kernel_rfl) (by kernel_rfl) (by kernel_rfl)), ?_⟩
  refine ⟨isVal (.bool true), step_move (.tmp 129) (by kernel_rfl) (wanted_none (by kernel_rfl)) (stable_val _) (knows_new (V := isVal (.bool true)) 129 35 (by kernel_rfl) (by kernel_rfl) (by kernel_rfl)), ?_⟩
  refine ⟨isVal (.agg #[.slice (some ⟨bd, od, none⟩) 2 cd, .slice (some ⟨dd, qd, none⟩) 2 sd, .int .i64 dv4.fuse, strC dv4.torn, .bool dv4.dead]), step_load5 (.tmp 7) gd (by kernel_rfl) (wanted_some 36 130 true (by kernel_rfl) (by kernel_rfl) (by kernel_rfl) (by kernel_rfl)) (knows_old 7 (.pointer (some ⟨gd, 0, none⟩)) (by kernel_rfl) e7) Cd, ?_⟩
  refine ⟨isVal (.bool true), step_call 20 #[.tmp 131, .const (.int .i64 1)] #[25, 3] #[.agg #[.slice (some ⟨bd, od, none⟩) 2 cd, .slice (some ⟨dd, qd, none⟩) 2 sd, .int .i64 dv4.fuse, strC dv4.torn, .bool dv4.dead], .int .i64 1] (by kernel_rfl) (wanted_some 36 130 true (by kernel_rfl) (by kernel_rfl) (by kernel_rfl) (by kernel_rfl)) (stable_val _) (args2 (.tmp 131) (.const (.int .i64 1)) (.agg #[.slice (some ⟨bd, od, none⟩) 2 cd, .slice (some ⟨dd, qd, none⟩) 2 sd, .int .i64 dv4.fuse, strC dv4.torn, .bool dv4.dead]) (.int .i64 1) (knows_new (V := isVal (.agg #[.slice (some ⟨bd, od, none⟩) 2 cd, .slice (some ⟨dd, qd, none⟩) 2 sd, .int .i64 dv4.fuse, strC dv4.torn, .bool dv4.dead])) 131 37 (by kernel_rfl) (by kernel_rfl) (by kernel_rfl)) (knows_const _)) (enters_of Try.func20 (by kernel_rfl) rfl) (by intro w hb; exact f_free _ w (fl_grow Ld hb)), ?_⟩
  refine ⟨isVal (.bool true), step_pick (.tmp 130) (.tmp 132) (.const (.bool false)) true (by kernel_rfl) (wanted_none (by kernel_rfl)) (stable_val _) (knows_new (V := isVal (.bool true)) 130 36 (by kernel_rfl) (by kernel_rfl) (by kernel_rfl)) (knows_new (V := isVal (.bool true)) 132 38 (by kernel_rfl) (by kernel_rfl) (by kernel_rfl)), ?_⟩
  refine ⟨isVal (.bool true), step_move (.tmp 133) (by kernel_rfl) (wanted_none (by kernel_rfl)) (stable_val _) (knows_new (V := isVal (.bool true)) 133 39 (by kernel_rfl) (by kernel_rfl) (by kernel_rfl)), ?_⟩
  refine ⟨isVal (.pointer (some ⟨gd, 1, none⟩)), step_field 25 (.tmp 7) 1 ⟨gd, 0, none⟩ ⟨gd, 1, none⟩ (by kernel_rfl) (wanted_some 40 134 true (by kernel_rfl) (by kernel_rfl) (by kernel_rfl) (by kernel_rfl)) (knows_old 7 (.pointer (some ⟨gd, 0, none⟩)) (by kernel_rfl) e7) (field_fl gd 1 (by omega)), ?_⟩
  refine ⟨isVal (.slice (some ⟨dd, qd, none⟩) 2 sd), step_read 23 (.tmp 135) ⟨gd, 1, none⟩ (.slice (some ⟨dd, qd, none⟩) 2 sd) (by kernel_rfl) (wanted_some 40 134 true (by kernel_rfl) (by kernel_rfl) (by kernel_rfl) (by kernel_rfl)) (knows_new (V := isVal (.pointer (some ⟨gd, 1, none⟩))) 135 41 (by kernel_rfl) (by kernel_rfl) (by kernel_rfl)) Cd.2.2.1 Cd.1 agg_ints, ?_⟩
  refine ⟨isVal (.pointer (some ⟨dd, qd + 1, none⟩)), step_place 23 3 (.tmp 136) (.const (.int .i64 1)) dd qd 2 sd 1 (by kernel_rfl) (wanted_some 40 134 true (by kernel_rfl) (by kernel_rfl) (by kernel_rfl) (by kernel_rfl)) (knows_new (V := isVal (.slice (some ⟨dd, qd, none⟩) 2 sd)) 136 42 (by kernel_rfl) (by kernel_rfl) (by kernel_rfl)) (knows_const _) Try.underlying23 (by kernel_rfl) (by decide), ?_⟩
  refine ⟨isVal (.int .i64 1), step_read 3 (.tmp 137) ⟨dd, qd + 1, none⟩ (.int .i64 1) (by kernel_rfl) (wanted_some 40 134 true (by kernel_rfl) (by kernel_rfl) (by kernel_rfl) (by kernel_rfl)) (knows_new (V := isVal (.pointer (some ⟨dd, qd + 1, none⟩))) 137 43 (by kernel_rfl) (by kernel_rfl) (by kernel_rfl)) (Rd 1 _ rfl) ldd agg_int, ?_⟩
  refine ⟨isVal (.bool true), step_bin .eql 3 3 (.tmp 138) (.const (.int .i64 1)) (.int .i64 1) (.int .i64 1) (.bool true) (by kernel_rfl) (wanted_some 40 134 true (by kernel_rfl) (by kernel_rfl) (by kernel_rfl) (by kernel_rfl)) (knows_new (V := isVal (.int .i64 1)) 138 44 (by kernel_rfl) (by kernel_rfl) (by kernel_rfl)) (knows_const _) (fun _ => rfl) (eql_int _ _ _ _ _ (by decide)), ?_⟩
  refine ⟨isVal (.bool true), step_pick (.tmp 134) (.tmp 139) (.const (.bool false)) true (by kernel_rfl) (wanted_none (by kernel_rfl)) (stable_val _) (knows_new (V := isVal (.bool true)) 134 40 (by kernel_rfl) (by kernel_rfl) (by kernel_rfl)) (knows_new (V := isVal (.bool true)) 139 45 (by kernel_rfl) (by kernel_rfl) (by kernel_rfl)), ?_⟩
  refine ⟨isVal (.bool true), step_move (.tmp 140) (by kernel_rfl) (wanted_none (by kernel_rfl)) (stable_val _) (knows_new (V := isVal (.bool true)) 140 46 (by kernel_rfl) (by kernel_rfl) (by kernel_rfl)), ?_⟩
  refine ⟨isVal (.int .i64 8), step_move (.tmp 12) (by kernel_rfl) (wanted_some 47 141 true (by kernel_rfl) (by kernel_rfl) (by kernel_rfl) (by kernel_rfl)) (stable_val _) (knows_old 12 (.int .i64 8) (by kernel_rfl) e12), ?_⟩
  refine ⟨isVal (.bool true), step_bin .eql 28 28 (.tmp 142) (.const (.int .i64 8)) (.int .i64 8) (.int .i64 8) (.bool true) (by kernel_rfl) (wanted_some 47 141 true (by kernel_rfl) (by kernel_rfl) (by kernel_rfl) (by kernel_rfl)) (knows_new (V := isVal (.int .i64 8)) 142 48 (by kernel_rfl) (by kernel_rfl) (by kernel_rfl)) (knows_const _) (fun _ => rfl) (eql_int _ _ _ _ _ (by decide)), ?_⟩
  refine ⟨isVal (.bool true), step_pick (.tmp 141) (.tmp 143) (.const (.bool false)) true (by kernel_rfl) (wanted_none (by kernel_rfl)) (stable_val _) (knows_new (V := isVal (.bool true)) 141 47 (by kernel_rfl) (by kernel_rfl) (by kernel_rfl)) (knows_new (V := isVal (.bool true)) 143 49 (by kernel_rfl) (by kernel_rfl) (by kernel_rfl)), ?_⟩
  refine ⟨isVal (.bool true), step_move (.tmp 144) (by kernel_rfl) (wanted_none (by kernel_rfl)) (stable_val _) (knows_new (V := isVal (.bool true)) 144 50 (by kernel_rfl) (by kernel_rfl) (by kernel_rfl)), ?_⟩
  refine ⟨isVal (.pointer (some ⟨gf, 4, none⟩)), step_field 25 (.tmp 11) 4 ⟨gf, 0, none⟩ ⟨gf, 4, none⟩ (by kernel_rfl) (wanted_some 51 145 true (by kernel_rfl) (by kernel_rfl) (by kernel_rfl) (by kernel_rfl)) (knows_old 11 (.pointer (some ⟨gf, 0, none⟩)) (by kernel_rfl) e11) (field_fl gf 4 (by omega)), ?_⟩
  refine ⟨isVal (.bool true), step_read 4 (.tmp 146) ⟨gf, 4, none⟩ (.bool true) (by kernel_rfl) (wanted_some 51 145 true (by kernel_rfl) (by kernel_rfl) (by kernel_rfl) (by kernel_rfl)) (knows_new (V := isVal (.pointer (some ⟨gf, 4, none⟩))) 146 52 (by kernel_rfl) (by kernel_rfl) (by kernel_rfl)) Cf.2.2.2.2.2 Cf.1 agg_bool, ?_⟩
  refine ⟨isVal (.bool true), step_pick (.tmp 145) (.tmp 147) (.const (.bool false)) true (by kernel_rfl) (wanted_none (by kernel_rfl)) (stable_val _) (knows_new (V := isVal (.bool true)) 145 51 (by kernel_rfl) (by kernel_rfl) (by kernel_rfl)) (knows_new (V := isVal (.bool true)) 147 53 (by kernel_rfl) (by kernel_rfl) (by kernel_rfl)), ?_⟩
  refine ⟨isVal (.bool true), step_move (.tmp 148) (by kernel_rfl) (wanted_none (by kernel_rfl)) (stable_val _) (knows_new (V := isVal (.bool true)) 148 54 (by kernel_rfl) (by kernel_rfl) (by kernel_rfl)), ?_⟩
  refine ⟨isVal (.pointer (some ⟨gf, 0, none⟩)), step_field 25 (.tmp 11) 0 ⟨gf, 0, none⟩ ⟨gf, 0, none⟩ (by kernel_rfl) (wanted_some 55 149 true (by kernel_rfl) (by kernel_rfl) (by kernel_rfl) (by kernel_rfl)) (knows_old 11 (.pointer (some ⟨gf, 0, none⟩)) (by kernel_rfl) e11) (field_fl gf 0 (by omega)), ?_⟩
  refine ⟨isVal (.slice (some ⟨bf, of, none⟩) 2 cf), step_read 22 (.tmp 150) ⟨gf, 0, none⟩ (.slice (some ⟨bf, of, none⟩) 2 cf) (by kernel_rfl) (wanted_some 55 149 true (by kernel_rfl) (by kernel_rfl) (by kernel_rfl) (by kernel_rfl)) (knows_new (V := isVal (.pointer (some ⟨gf, 0, none⟩))) 150 56 (by kernel_rfl) (by kernel_rfl) (by kernel_rfl)) Cf.2.1 Cf.1 agg_strs, ?_⟩
  refine ⟨isVal (.pointer (some ⟨bf, of + 0, none⟩)), step_place 22 9 (.tmp 151) (.const (.int .i64 0)) bf of 2 cf 0 (by kernel_rfl) (wanted_some 55 149 true (by kernel_rfl) (by kernel_rfl) (by kernel_rfl) (by kernel_rfl)) (knows_new (V := isVal (.slice (some ⟨bf, of, none⟩) 2 cf)) 151 57 (by kernel_rfl) (by kernel_rfl) (by kernel_rfl)) (knows_const _) Try.underlying22 (by kernel_rfl) (by decide), ?_⟩
  refine ⟨isVal (.string ⟨[252, 252, 255, 255].toArray⟩), step_read 9 (.tmp 152) ⟨bf, of + 0, none⟩ (.string ⟨[252, 252, 255, 255].toArray⟩) (by kernel_rfl) (wanted_some 55 149 true (by kernel_rfl) (by kernel_rfl) (by kernel_rfl) (by kernel_rfl)) (knows_new (V := isVal (.pointer (some ⟨bf, of + 0, none⟩))) 152 58 (by kernel_rfl) (by kernel_rfl) (by kernel_rfl)) (Pf 0 _ rfl) lbf agg_str, ?_⟩
  refine ⟨isRow [252, 252, 255, 255], step_row 46 5 #[(0, .const (.int .u8 252)), (1, .const (.int .u8 252)), (2, .const (.int .u8 255)), (3, .const (.int .u8 255))] [252, 252, 255, 255] iu8 (by kernel_rfl) (wanted_some 55 149 true (by kernel_rfl) (by kernel_rfl) (by kernel_rfl) (by kernel_rfl)) Try.underlying46 hiu8 hzu8 hsu8 (by decide) (by decide) (by kernel_rfl), ?_⟩
  refine ⟨isVal (.string ⟨[252, 252, 255, 255].toArray⟩), step_convRow 46 9 5 (.tmp 154) [252, 252, 255, 255] (by kernel_rfl) (wanted_some 55 149 true (by kernel_rfl) (by kernel_rfl) (by kernel_rfl) (by kernel_rfl)) (knows_new (V := isRow [252, 252, 255, 255]) 154 60 (by kernel_rfl) (by kernel_rfl) (by kernel_rfl)) Try.underlying46 Try.underlying5 Try.underlying9, ?_⟩
  refine ⟨isVal (.bool true), step_bin .eql 9 9 (.tmp 153) (.tmp 155) (.string ⟨[252, 252, 255, 255].toArray⟩) (.string ⟨[252, 252, 255, 255].toArray⟩) (.bool true) (by kernel_rfl) (wanted_some 55 149 true (by kernel_rfl) (by kernel_rfl) (by kernel_rfl) (by kernel_rfl)) (knows_new (V := isVal (.string ⟨[252, 252, 255, 255].toArray⟩)) 153 59 (by kernel_rfl) (by kernel_rfl) (by kernel_rfl)) (knows_new (V := isVal (.string ⟨[252, 252, 255, 255].toArray⟩)) 155 61 (by kernel_rfl) (by kernel_rfl) (by kernel_rfl)) (fun _ => rfl) (eql_str _ _ _ _ (by decide)), ?_⟩
  refine ⟨isVal (.bool true), step_pick (.tmp 149) (.tmp 156) (.const (.bool false)) true (by kernel_rfl) (wanted_none (by kernel_rfl)) (stable_val _) (knows_new (V := isVal (.bool true)) 149 55 (by kernel_rfl) (by kernel_rfl) (by kernel_rfl)) (knows_new (V := isVal (.bool true)) 156 62 (by kernel_rfl) (by kernel_rfl) (by kernel_rfl)), ?_⟩
  refine ⟨isVal (.bool true), step_move (.tmp 157) (by kernel_rfl) (wanted_none (by kernel_rfl)) (stable_val _) (knows_new (V := isVal (.bool true)) 157 63 (by kernel_rfl) (by kernel_rfl) (by kernel_rfl)), ?_⟩
  refine ⟨isVal (.int .i64 8), step_move (.tmp 14) (by kernel_rfl) (wanted_some 64 158 true (by kernel_rfl) (by kernel_rfl) (by kernel_rfl) (by kernel_rfl)) (stable_val _) (knows_old 14 (.int .i64 8) (by kernel_rfl) e14), ?_⟩
  refine ⟨isVal (.bool true), step_bin .eql 28 28 (.tmp 159) (.const (.int .i64 8)) (.int .i64 8) (.int .i64 8) (.bool true) (by kernel_rfl) (wanted_some 64 158 true (by kernel_rfl) (by kernel_rfl) (by kernel_rfl) (by kernel_rfl)) (knows_new (V := isVal (.int .i64 8)) 159 65 (by kernel_rfl) (by kernel_rfl) (by kernel_rfl)) (knows_const _) (fun _ => rfl) (eql_int _ _ _ _ _ (by decide)), ?_⟩
  refine ⟨isVal (.bool true), step_pick (.tmp 158) (.tmp 160) (.const (.bool false)) true (by kernel_rfl) (wanted_none (by kernel_rfl)) (stable_val _) (knows_new (V := isVal (.bool true)) 158 64 (by kernel_rfl) (by kernel_rfl) (by kernel_rfl)) (knows_new (V := isVal (.bool true)) 160 66 (by kernel_rfl) (by kernel_rfl) (by kernel_rfl)), ?_⟩
  refine ⟨isVal (.bool true), step_move (.tmp 161) (by kernel_rfl) (wanted_none (by kernel_rfl)) (stable_val _) (knows_new (V := isVal (.bool true)) 161 67 (by kernel_rfl) (by kernel_rfl) (by kernel_rfl)), ?_⟩
  refine ⟨isVal (.int .i64 0), step_move (.tmp 16) (by kernel_rfl) (wanted_some 68 162 true (by kernel_rfl) (by kernel_rfl) (by kernel_rfl) (by kernel_rfl)) (stable_val _) (knows_old 16 (.int .i64 0) (by kernel_rfl) e16), ?_⟩
  refine ⟨isVal (.bool true), step_bin .eql 28 28 (.tmp 163) (.const (.int .i64 0)) (.int .i64 0) (.int .i64 0) (.bool true) (by kernel_rfl) (wanted_some 68 162 true (by kernel_rfl) (by kernel_rfl) (by kernel_rfl) (by kernel_rfl)) (knows_new (V := isVal (.int .i64 0)) 163 69 (by kernel_rfl) (by kernel_rfl) (by kernel_rfl)) (knows_const _) (fun _ => rfl) (eql_int _ _ _ _ _ (by decide)), ?_⟩
  refine ⟨isVal (.bool true), step_pick (.tmp 162) (.tmp 164) (.const (.bool false)) true (by kernel_rfl) (wanted_none (by kernel_rfl)) (stable_val _) (knows_new (V := isVal (.bool true)) 162 68 (by kernel_rfl) (by kernel_rfl) (by kernel_rfl)) (knows_new (V := isVal (.bool true)) 164 70 (by kernel_rfl) (by kernel_rfl) (by kernel_rfl)), ?_⟩
  refine ⟨isVal (.bool true), step_move (.tmp 165) (by kernel_rfl) (wanted_none (by kernel_rfl)) (stable_val _) (knows_new (V := isVal (.bool true)) 165 71 (by kernel_rfl) (by kernel_rfl) (by kernel_rfl)), ?_⟩
  refine ⟨isVal (.pointer (some ⟨gh, 0, none⟩)), step_field 25 (.tmp 15) 0 ⟨gh, 0, none⟩ ⟨gh, 0, none⟩ (by kernel_rfl) (wanted_some 72 166 true (by kernel_rfl) (by kernel_rfl) (by kernel_rfl) (by kernel_rfl)) (knows_old 15 (.pointer (some ⟨gh, 0, none⟩)) (by kernel_rfl) e15) (field_fl gh 0 (by omega)), ?_⟩
  refine ⟨isVal (.slice (some ⟨bh, oh, none⟩) 2 ch), step_read 22 (.tmp 167) ⟨gh, 0, none⟩ (.slice (some ⟨bh, oh, none⟩) 2 ch) (by kernel_rfl) (wanted_some 72 166 true (by kernel_rfl) (by kernel_rfl) (by kernel_rfl) (by kernel_rfl)) (knows_new (V := isVal (.pointer (some ⟨gh, 0, none⟩))) 167 73 (by kernel_rfl) (by kernel_rfl) (by kernel_rfl)) Ch.2.1 Ch.1 agg_strs, ?_⟩
  refine ⟨isVal (.pointer (some ⟨bh, oh + 0, none⟩)), step_place 22 9 (.tmp 168) (.const (.int .i64 0)) bh oh 2 ch 0 (by kernel_rfl) (wanted_some 72 166 true (by kernel_rfl) (by kernel_rfl) (by kernel_rfl) (by kernel_rfl)) (knows_new (V := isVal (.slice (some ⟨bh, oh, none⟩) 2 ch)) 168 74 (by kernel_rfl) (by kernel_rfl) (by kernel_rfl)) (knows_const _) Try.underlying22 (by kernel_rfl) (by decide), ?_⟩
  refine ⟨isVal (.string ⟨[252, 252, 254, 255].toArray⟩), step_read 9 (.tmp 169) ⟨bh, oh + 0, none⟩ (.string ⟨[252, 252, 254, 255].toArray⟩) (by kernel_rfl) (wanted_some 72 166 true (by kernel_rfl) (by kernel_rfl) (by kernel_rfl) (by kernel_rfl)) (knows_new (V := isVal (.pointer (some ⟨bh, oh + 0, none⟩))) 169 75 (by kernel_rfl) (by kernel_rfl) (by kernel_rfl)) (Ph 0 _ rfl) lbh agg_str, ?_⟩
  refine ⟨isRow [252, 252, 254, 255], step_row 46 5 #[(0, .const (.int .u8 252)), (1, .const (.int .u8 252)), (2, .const (.int .u8 254)), (3, .const (.int .u8 255))] [252, 252, 254, 255] iu8 (by kernel_rfl) (wanted_some 72 166 true (by kernel_rfl) (by kernel_rfl) (by kernel_rfl) (by kernel_rfl)) Try.underlying46 hiu8 hzu8 hsu8 (by decide) (by decide) (by kernel_rfl), ?_⟩
  refine ⟨isVal (.string ⟨[252, 252, 254, 255].toArray⟩), step_convRow 46 9 5 (.tmp 171) [252, 252, 254, 255] (by kernel_rfl) (wanted_some 72 166 true (by kernel_rfl) (by kernel_rfl) (by kernel_rfl) (by kernel_rfl)) (knows_new (V := isRow [252, 252, 254, 255]) 171 77 (by kernel_rfl) (by kernel_rfl) (by kernel_rfl)) Try.underlying46 Try.underlying5 Try.underlying9, ?_⟩
  refine ⟨isVal (.bool true), step_bin .eql 9 9 (.tmp 170) (.tmp 172) (.string ⟨[252, 252, 254, 255].toArray⟩) (.string ⟨[252, 252, 254, 255].toArray⟩) (.bool true) (by kernel_rfl) (wanted_some 72 166 true (by kernel_rfl) (by kernel_rfl) (by kernel_rfl) (by kernel_rfl)) (knows_new (V := isVal (.string ⟨[252, 252, 254, 255].toArray⟩)) 170 76 (by kernel_rfl) (by kernel_rfl) (by kernel_rfl)) (knows_new (V := isVal (.string ⟨[252, 252, 254, 255].toArray⟩)) 172 78 (by kernel_rfl) (by kernel_rfl) (by kernel_rfl)) (fun _ => rfl) (eql_str _ _ _ _ (by decide)), ?_⟩
  refine ⟨isVal (.bool true), step_pick (.tmp 166) (.tmp 173) (.const (.bool false)) true (by kernel_rfl) (wanted_none (by kernel_rfl)) (stable_val _) (knows_new (V := isVal (.bool true)) 166 72 (by kernel_rfl) (by kernel_rfl) (by kernel_rfl)) (knows_new (V := isVal (.bool true)) 173 79 (by kernel_rfl) (by kernel_rfl) (by kernel_rfl)), ?_⟩
  refine ⟨isVal (.bool true), step_move (.tmp 174) (by kernel_rfl) (wanted_none (by kernel_rfl)) (stable_val _) (knows_new (V := isVal (.bool true)) 174 80 (by kernel_rfl) (by kernel_rfl) (by kernel_rfl)), ?_⟩
  refine ⟨isVal (.agg #[.slice (some ⟨ba, oa, none⟩) 2 ca, .slice (some ⟨da, qa, none⟩) 2 sa, .int .i64 dv1.fuse, strC dv1.torn, .bool dv1.dead]), step_load5 (.tmp 1) ga (by kernel_rfl) (wanted_some 81 175 true (by kernel_rfl) (by kernel_rfl) (by kernel_rfl) (by kernel_rfl)) (knows_old 1 (.pointer (some ⟨ga, 0, none⟩)) (by kernel_rfl) e1) Ca, ?_⟩
  refine ⟨isVal (.int .i64 0), step_call 19 #[.tmp 176] #[25] #[.agg #[.slice (some ⟨ba, oa, none⟩) 2 ca, .slice (some ⟨da, qa, none⟩) 2 sa, .int .i64 dv1.fuse, strC dv1.torn, .bool dv1.dead]] (by kernel_rfl) (wanted_some 81 175 true (by kernel_rfl) (by kernel_rfl) (by kernel_rfl) (by kernel_rfl)) (stable_val _) (args1 (.tmp 176) (.agg #[.slice (some ⟨ba, oa, none⟩) 2 ca, .slice (some ⟨da, qa, none⟩) 2 sa, .int .i64 dv1.fuse, strC dv1.torn, .bool dv1.dead]) (knows_new (V := isVal (.agg #[.slice (some ⟨ba, oa, none⟩) 2 ca, .slice (some ⟨da, qa, none⟩) 2 sa, .int .i64 dv1.fuse, strC dv1.torn, .bool dv1.dead])) 176 82 (by kernel_rfl) (by kernel_rfl) (by kernel_rfl))) (enters_of Try.func19 (by kernel_rfl) rfl) (by intro w hb; exact f_check _ w (fl_grow La hb)), ?_⟩
  refine ⟨isVal (.bool true), step_bin .eql 28 28 (.tmp 177) (.const (.int .i64 0)) (.int .i64 0) (.int .i64 0) (.bool true) (by kernel_rfl) (wanted_some 81 175 true (by kernel_rfl) (by kernel_rfl) (by kernel_rfl) (by kernel_rfl)) (knows_new (V := isVal (.int .i64 0)) 177 83 (by kernel_rfl) (by kernel_rfl) (by kernel_rfl)) (knows_const _) (fun _ => rfl) (eql_int _ _ _ _ _ (by decide)), ?_⟩
  refine ⟨isVal (.bool true), step_pick (.tmp 175) (.tmp 178) (.const (.bool false)) true (by kernel_rfl) (wanted_none (by kernel_rfl)) (stable_val _) (knows_new (V := isVal (.bool true)) 175 81 (by kernel_rfl) (by kernel_rfl) (by kernel_rfl)) (knows_new (V := isVal (.bool true)) 178 84 (by kernel_rfl) (by kernel_rfl) (by kernel_rfl)), ?_⟩
  refine ⟨isVal (.bool true), step_move (.tmp 179) (by kernel_rfl) (wanted_none (by kernel_rfl)) (stable_val _) (knows_new (V := isVal (.bool true)) 179 85 (by kernel_rfl) (by kernel_rfl) (by kernel_rfl)), ?_⟩
  refine ⟨isVal (.agg #[.slice none 0 0, .slice none 0 0, .int .i64 0, .string ⟨#[]⟩, .bool false]), step_none 25 #[.slice none 0 0, .slice none 0 0, .int .i64 0, .string ⟨#[]⟩, .bool false] (by kernel_rfl) (wanted_some 86 180 true (by kernel_rfl) (by kernel_rfl) (by kernel_rfl) (by kernel_rfl)) (by kernel_rfl), ?_⟩
  refine ⟨isVal (.int .i64 1), step_call 19 #[.tmp 181] #[25] #[.agg #[.slice none 0 0, .slice none 0 0, .int .i64 0, .string ⟨#[]⟩, .bool false]] (by kernel_rfl) (wanted_some 86 180 true (by kernel_rfl) (by kernel_rfl) (by kernel_rfl) (by kernel_rfl)) (stable_val _) (args1 (.tmp 181) (.agg #[.slice none 0 0, .slice none 0 0, .int .i64 0, .string ⟨#[]⟩, .bool false]) (knows_new (V := isVal (.agg #[.slice none 0 0, .slice none 0 0, .int .i64 0, .string ⟨#[]⟩, .bool false])) 181 87 (by kernel_rfl) (by kernel_rfl) (by kernel_rfl))) (enters_of Try.func19 (by kernel_rfl) rfl) (by intro w hb; exact f_none w), ?_⟩
  refine ⟨isVal (.bool true), step_bin .eql 28 28 (.tmp 182) (.const (.int .i64 1)) (.int .i64 1) (.int .i64 1) (.bool true) (by kernel_rfl) (wanted_some 86 180 true (by kernel_rfl) (by kernel_rfl) (by kernel_rfl) (by kernel_rfl)) (knows_new (V := isVal (.int .i64 1)) 182 88 (by kernel_rfl) (by kernel_rfl) (by kernel_rfl)) (knows_const _) (fun _ => rfl) (eql_int _ _ _ _ _ (by decide)), ?_⟩
  refine ⟨isVal (.bool true), step_pick (.tmp 180) (.tmp 183) (.const (.bool false)) true (by kernel_rfl) (wanted_none (by kernel_rfl)) (stable_val _) (knows_new (V := isVal (.bool true)) 180 86 (by kernel_rfl) (by kernel_rfl) (by kernel_rfl)) (knows_new (V := isVal (.bool true)) 183 89 (by kernel_rfl) (by kernel_rfl) (by kernel_rfl)), ?_⟩
  refine ⟨isVal (.bool true), step_move (.tmp 184) (by kernel_rfl) (wanted_none (by kernel_rfl)) (stable_val _) (knows_new (V := isVal (.bool true)) 184 90 (by kernel_rfl) (by kernel_rfl) (by kernel_rfl)), ?_⟩
  refine ⟨isVal (.agg #[.slice (some ⟨ba, oa, none⟩) 2 ca, .slice (some ⟨da, qa, none⟩) 2 sa, .int .i64 dv1.fuse, strC dv1.torn, .bool dv1.dead]), step_load5 (.tmp 1) ga (by kernel_rfl) (wanted_some 91 185 true (by kernel_rfl) (by kernel_rfl) (by kernel_rfl) (by kernel_rfl)) (knows_old 1 (.pointer (some ⟨ga, 0, none⟩)) (by kernel_rfl) e1) Ca, ?_⟩
  refine ⟨isVal (.agg #[.slice (some ⟨ba, oa, none⟩) 2 ca, .slice (some ⟨da, qa, none⟩) 2 sa, .int .i64 dv1.fuse, strC dv1.torn, .bool dv1.dead]), step_load5 (.tmp 1) ga (by kernel_rfl) (wanted_some 91 185 true (by kernel_rfl) (by kernel_rfl) (by kernel_rfl) (by kernel_rfl)) (knows_old 1 (.pointer (some ⟨ga, 0, none⟩)) (by kernel_rfl) e1) Ca, ?_⟩
  refine ⟨isVal (.bool true), step_call 21 #[.tmp 186, .tmp 187] #[25, 25] #[.agg #[.slice (some ⟨ba, oa, none⟩) 2 ca, .slice (some ⟨da, qa, none⟩) 2 sa, .int .i64 dv1.fuse, strC dv1.torn, .bool dv1.dead], .agg #[.slice (some ⟨ba, oa, none⟩) 2 ca, .slice (some ⟨da, qa, none⟩) 2 sa, .int .i64 dv1.fuse, strC dv1.torn, .bool dv1.dead]] (by kernel_rfl) (wanted_some 91 185 true (by kernel_rfl) (by kernel_rfl) (by kernel_rfl) (by kernel_rfl)) (stable_val _) (args2 (.tmp 186) (.tmp 187) (.agg #[.slice (some ⟨ba, oa, none⟩) 2 ca, .slice (some ⟨da, qa, none⟩) 2 sa, .int .i64 dv1.fuse, strC dv1.torn, .bool dv1.dead]) (.agg #[.slice (some ⟨ba, oa, none⟩) 2 ca, .slice (some ⟨da, qa, none⟩) 2 sa, .int .i64 dv1.fuse, strC dv1.torn, .bool dv1.dead]) (knows_new (V := isVal (.agg #[.slice (some ⟨ba, oa, none⟩) 2 ca, .slice (some ⟨da, qa, none⟩) 2 sa, .int .i64 dv1.fuse, strC dv1.torn, .bool dv1.dead])) 186 92 (by kernel_rfl) (by kernel_rfl) (by kernel_rfl)) (knows_new (V := isVal (.agg #[.slice (some ⟨ba, oa, none⟩) 2 ca, .slice (some ⟨da, qa, none⟩) 2 sa, .int .i64 dv1.fuse, strC dv1.torn, .bool dv1.dead])) 187 93 (by kernel_rfl) (by kernel_rfl) (by kernel_rfl))) (enters_of Try.func21 (by kernel_rfl) rfl) (by intro w hb; exact f_same _ w (fl_grow La hb)), ?_⟩
  refine ⟨isVal (.bool true), step_pick (.tmp 185) (.tmp 188) (.const (.bool false)) true (by kernel_rfl) (wanted_none (by kernel_rfl)) (stable_val _) (knows_new (V := isVal (.bool true)) 185 91 (by kernel_rfl) (by kernel_rfl) (by kernel_rfl)) (knows_new (V := isVal (.bool true)) 188 94 (by kernel_rfl) (by kernel_rfl) (by kernel_rfl)), ?_⟩
  refine ⟨isVal (.bool true), step_move (.tmp 189) (by kernel_rfl) (wanted_none (by kernel_rfl)) (stable_val _) (knows_new (V := isVal (.bool true)) 189 95 (by kernel_rfl) (by kernel_rfl) (by kernel_rfl)), ?_⟩
  refine ⟨isVal (.agg #[.slice (some ⟨ba, oa, none⟩) 2 ca, .slice (some ⟨da, qa, none⟩) 2 sa, .int .i64 dv1.fuse, strC dv1.torn, .bool dv1.dead]), step_load5 (.tmp 1) ga (by kernel_rfl) (wanted_some 96 190 true (by kernel_rfl) (by kernel_rfl) (by kernel_rfl) (by kernel_rfl)) (knows_old 1 (.pointer (some ⟨ga, 0, none⟩)) (by kernel_rfl) e1) Ca, ?_⟩
  refine ⟨isVal (.agg #[.slice (some ⟨bb, ob, none⟩) 2 cb, .slice (some ⟨db, qb, none⟩) 2 sb, .int .i64 dv2.fuse, strC dv2.torn, .bool dv2.dead]), step_load5 (.tmp 3) gb (by kernel_rfl) (wanted_some 96 190 true (by kernel_rfl) (by kernel_rfl) (by kernel_rfl) (by kernel_rfl)) (knows_old 3 (.pointer (some ⟨gb, 0, none⟩)) (by kernel_rfl) e3) Cb, ?_⟩
  refine ⟨isVal (.bool false), step_call 21 #[.tmp 191, .tmp 192] #[25, 25] #[.agg #[.slice (some ⟨ba, oa, none⟩) 2 ca, .slice (some ⟨da, qa, none⟩) 2 sa, .int .i64 dv1.fuse, strC dv1.torn, .bool dv1.dead], .agg #[.slice (some ⟨bb, ob, none⟩) 2 cb, .slice (some ⟨db, qb, none⟩) 2 sb, .int .i64 dv2.fuse, strC dv2.torn, .bool dv2.dead]] (by kernel_rfl) (wanted_some 96 190 true (by kernel_rfl) (by kernel_rfl) (by kernel_rfl) (by kernel_rfl)) (stable_val _) (args2 (.tmp 191) (.tmp 192) (.agg #[.slice (some ⟨ba, oa, none⟩) 2 ca, .slice (some ⟨da, qa, none⟩) 2 sa, .int .i64 dv1.fuse, strC dv1.torn, .bool dv1.dead]) (.agg #[.slice (some ⟨bb, ob, none⟩) 2 cb, .slice (some ⟨db, qb, none⟩) 2 sb, .int .i64 dv2.fuse, strC dv2.torn, .bool dv2.dead]) (knows_new (V := isVal (.agg #[.slice (some ⟨ba, oa, none⟩) 2 ca, .slice (some ⟨da, qa, none⟩) 2 sa, .int .i64 dv1.fuse, strC dv1.torn, .bool dv1.dead])) 191 97 (by kernel_rfl) (by kernel_rfl) (by kernel_rfl)) (knows_new (V := isVal (.agg #[.slice (some ⟨bb, ob, none⟩) 2 cb, .slice (some ⟨db, qb, none⟩) 2 sb, .int .i64 dv2.fuse, strC dv2.torn, .bool dv2.dead])) 192 98 (by kernel_rfl) (by kernel_rfl) (by kernel_rfl))) (enters_of Try.func21 (by kernel_rfl) rfl) (by intro w hb; exact f_other _ _ w (fl_grow La hb) (fl_grow Lb hb)), ?_⟩
  refine ⟨isVal (.bool true), step_un .not 4 (.tmp 193) (.bool false) (.bool true) (by kernel_rfl) (wanted_some 96 190 true (by kernel_rfl) (by kernel_rfl) (by kernel_rfl) (by kernel_rfl)) (knows_new (V := isVal (.bool false)) 193 99 (by kernel_rfl) (by kernel_rfl) (by kernel_rfl)) (fun _ => rfl), ?_⟩
  refine ⟨isVal (.bool true), step_pick (.tmp 190) (.tmp 194) (.const (.bool false)) true (by kernel_rfl) (wanted_none (by kernel_rfl)) (stable_val _) (knows_new (V := isVal (.bool true)) 190 96 (by kernel_rfl) (by kernel_rfl) (by kernel_rfl)) (knows_new (V := isVal (.bool true)) 194 100 (by kernel_rfl) (by kernel_rfl) (by kernel_rfl)), ?_⟩
  refine ⟨isVal (.bool true), step_assign (.tmp 195) (by kernel_rfl) (wanted_none (by kernel_rfl)) (stable_val _) (knows_new (V := isVal (.bool true)) 195 101 (by kernel_rfl) (by kernel_rfl) (by kernel_rfl)), ?_⟩
  intro a w hkp hb hd
  exact hQ a w hkp.1 (fdone_of (hd 102 (by rw [show worksOps.size = 103 by kernel_rfl]; decide)) (t := 0) (V := isVal (.bool true)) (by kernel_rfl) (by kernel_rfl)) hb

set_option maxRecDepth 100000 in
set_option maxHeartbeats 4000000 in
theorem works_any (w : World) : Calls Try.prog 8 #[] w fun e w' => e = .returned (.bool true) ∧ Below w.heap.size w w' := by
  have hB : Kept (Below w.heap.size w w) := ⟨Below.refl _ _⟩
  have hl240 : ∀ W : World, (convert 46 9 (.slice (some ⟨W.heap.size, 0, none⟩) 1 1)).run Try.prog (W.alloc (.cells #[.int .u8 240] 5)) = .ok (.string ⟨#[240]⟩) (W.alloc (.cells #[.int .u8 240] 5)) := fun W => lit_back W [240]
  have hl15_15 : ∀ W : World, (convert 46 9 (.slice (some ⟨W.heap.size, 0, none⟩) 2 2)).run Try.prog (W.alloc (.cells #[.int .u8 15, .int .u8 15] 5)) = .ok (.string ⟨#[15, 15]⟩) (W.alloc (.cells #[.int .u8 15, .int .u8 15] 5)) := fun W => lit_back W [15, 15]
  have hl3 : ∀ W : World, (convert 46 9 (.slice (some ⟨W.heap.size, 0, none⟩) 1 1)).run Try.prog (W.alloc (.cells #[.int .u8 3] 5)) = .ok (.string ⟨#[3]⟩) (W.alloc (.cells #[.int .u8 3] 5)) := fun W => lit_back W [3]
  have hl0_0 : ∀ W : World, (convert 46 9 (.slice (some ⟨W.heap.size, 0, none⟩) 2 2)).run Try.prog (W.alloc (.cells #[.int .u8 0, .int .u8 0] 5)) = .ok (.string ⟨#[0, 0]⟩) (W.alloc (.cells #[.int .u8 0, .int .u8 0] 5)) := fun W => lit_back W [0, 0]
  have hl1 : ∀ W : World, (convert 46 9 (.slice (some ⟨W.heap.size, 0, none⟩) 1 1)).run Try.prog (W.alloc (.cells #[.int .u8 1] 5)) = .ok (.string ⟨#[1]⟩) (W.alloc (.cells #[.int .u8 1] 5)) := fun W => lit_back W [1]
  go_enter Try.func8, Try.ntmps8
  go_wp2_with fail
  ((with_reducible refine (c_new _).mono ?_); rintro e U ⟨v', rfl, hf', hb1⟩)
  obtain ⟨vp', vw', rfl, hp', hq'⟩ := hf'.fl
  have o1 := hp'.one
  have o2 := hq'.one
  obtain ⟨K1, K2, K3, K4⟩ := var_new U dv1 vp' vw' hp' hq'
  clear hp' hq' hf'
  replace hB := Kept.mk (hB.out.trans ((hb1).mono hB.out.size))
  clear hb1
  go_wp2_with (refine wpList_store5 rfl (.tmp 1) (.tmp 19) rfl U.heap.size vp' vw' (.int .i64 dv1.fuse) (strC dv1.torn) (.bool dv1.dead) rfl rfl K1.out K2.out o1 o2 rfl rfl rfl ?_; replace hB := Kept.mk (hB.out.trans ((K3.out).mono hB.out.size)); have Va := K4; clear K1 K2 K3 K4 o1 o2; generalize set5 (U.alloc (.cells #[.slice none 0 0, .slice none 0 0, .int .i64 0, .string ⟨#[]⟩, .bool false] 25)) U.heap.size vp' vw' (.int .i64 dv1.fuse) (strC dv1.torn) (.bool dv1.dead) = W1 at *; generalize U.heap.size = ga at *; obtain ⟨vpa, vwa, fla, ka0, ka1, ka2, ka3, ka4⟩ := Va.out.open_)
  ((with_reducible refine (c_prog1 _ _ (fl_grow fla (below_lit W1 _))).mono ?_); rintro e U ⟨v', rfl, hf', hb1⟩)
  obtain ⟨vp', vw', rfl, hp', hq'⟩ := hf'.fl
  have o1 := hp'.one
  have o2 := hq'.one
  obtain ⟨K1, K2, K3, K4⟩ := var_new U dv2 vp' vw' hp' hq'
  clear hp' hq' hf'
  clear ka0 ka1 ka2 ka3 ka4 fla
  replace hB := Kept.mk (hB.out.trans (((below_lit W1 _).trans (hb1.mono (below_lit W1 _).size)).mono hB.out.size))
  replace Va := Kept.mk (Va.out.keep ((below_lit W1 _).trans (hb1.mono (below_lit W1 _).size)))
  clear hb1
  go_wp2_with (refine wpList_store5 rfl (.tmp 3) (.tmp 26) rfl U.heap.size vp' vw' (.int .i64 dv2.fuse) (strC dv2.torn) (.bool dv2.dead) rfl rfl K1.out K2.out o1 o2 rfl rfl rfl ?_; replace hB := Kept.mk (hB.out.trans ((K3.out).mono hB.out.size)); replace Va := Kept.mk (Va.out.keep (K3.out)); have Vb := K4; clear K1 K2 K3 K4 o1 o2; generalize set5 (U.alloc (.cells #[.slice none 0 0, .slice none 0 0, .int .i64 0, .string ⟨#[]⟩, .bool false] 25)) U.heap.size vp' vw' (.int .i64 dv2.fuse) (strC dv2.torn) (.bool dv2.dead) = W2 at *; generalize U.heap.size = gb at *; obtain ⟨vpb, vwb, flb, kb0, kb1, kb2, kb3, kb4⟩ := Vb.out.open_)
  ((with_reducible refine (c_prog2 _ _ (fl_grow flb (below_lit W2 _))).mono ?_); rintro e U ⟨v', rfl, hf', hb1⟩)
  obtain ⟨vp', vw', rfl, hp', hq'⟩ := hf'.fl
  have o1 := hp'.one
  have o2 := hq'.one
  obtain ⟨K1, K2, K3, K4⟩ := var_new U dv3 vp' vw' hp' hq'
  clear hp' hq' hf'
  clear kb0 kb1 kb2 kb3 kb4 flb
  replace hB := Kept.mk (hB.out.trans (((below_lit W2 _).trans (hb1.mono (below_lit W2 _).size)).mono hB.out.size))
  replace Va := Kept.mk (Va.out.keep ((below_lit W2 _).trans (hb1.mono (below_lit W2 _).size)))
  replace Vb := Kept.mk (Vb.out.keep ((below_lit W2 _).trans (hb1.mono (below_lit W2 _).size)))
  clear hb1
  go_wp2_with (refine wpList_store5 rfl (.tmp 5) (.tmp 33) rfl U.heap.size vp' vw' (.int .i64 dv3.fuse) (strC dv3.torn) (.bool dv3.dead) rfl rfl K1.out K2.out o1 o2 rfl rfl rfl ?_; replace hB := Kept.mk (hB.out.trans ((K3.out).mono hB.out.size)); replace Va := Kept.mk (Va.out.keep (K3.out)); replace Vb := Kept.mk (Vb.out.keep (K3.out)); have Vc := K4; clear K1 K2 K3 K4 o1 o2; generalize set5 (U.alloc (.cells #[.slice none 0 0, .slice none 0 0, .int .i64 0, .string ⟨#[]⟩, .bool false] 25)) U.heap.size vp' vw' (.int .i64 dv3.fuse) (strC dv3.torn) (.bool dv3.dead) = W3 at *; generalize U.heap.size = gc at *; obtain ⟨vpc, vwc, flc, kc0, kc1, kc2, kc3, kc4⟩ := Vc.out.open_)
  ((with_reducible refine (c_erase _ _ flc).mono ?_); rintro e U ⟨v', rfl, hf', hb1⟩)
  obtain ⟨vp', vw', rfl, hp', hq'⟩ := hf'.fl
  have o1 := hp'.one
  have o2 := hq'.one
  obtain ⟨K1, K2, K3, K4⟩ := var_new U dv4 vp' vw' hp' hq'
  clear hp' hq' hf'
  clear kc0 kc1 kc2 kc3 kc4 flc
  replace hB := Kept.mk (hB.out.trans ((hb1).mono hB.out.size))
  replace Va := Kept.mk (Va.out.keep (hb1))
  replace Vb := Kept.mk (Vb.out.keep (hb1))
  replace Vc := Kept.mk (Vc.out.keep (hb1))
  clear hb1
  go_wp2_with (refine wpList_store5 rfl (.tmp 7) (.tmp 38) rfl U.heap.size vp' vw' (.int .i64 dv4.fuse) (strC dv4.torn) (.bool dv4.dead) rfl rfl K1.out K2.out o1 o2 rfl rfl rfl ?_; replace hB := Kept.mk (hB.out.trans ((K3.out).mono hB.out.size)); replace Va := Kept.mk (Va.out.keep (K3.out)); replace Vb := Kept.mk (Vb.out.keep (K3.out)); replace Vc := Kept.mk (Vc.out.keep (K3.out)); have Vd := K4; clear K1 K2 K3 K4 o1 o2; generalize set5 (U.alloc (.cells #[.slice none 0 0, .slice none 0 0, .int .i64 0, .string ⟨#[]⟩, .bool false] 25)) U.heap.size vp' vw' (.int .i64 dv4.fuse) (strC dv4.torn) (.bool dv4.dead) = W4 at *; generalize U.heap.size = gd at *; obtain ⟨vpd, vwd, fld, kd0, kd1, kd2, kd3, kd4⟩ := Vd.out.open_)
  ((with_reducible refine (c_wake _ _ (fl_grow fld (below_lit W4 _))).mono ?_); rintro e U ⟨v', rfl, hf', hb1⟩)
  obtain ⟨vp', vw', rfl, hp', hq'⟩ := hf'.fl
  have o1 := hp'.one
  have o2 := hq'.one
  obtain ⟨K1, K2, K3, K4⟩ := var_new U dv5 vp' vw' hp' hq'
  clear hp' hq' hf'
  clear kd0 kd1 kd2 kd3 kd4 fld
  replace hB := Kept.mk (hB.out.trans (((below_lit W4 _).trans (hb1.mono (below_lit W4 _).size)).mono hB.out.size))
  replace Va := Kept.mk (Va.out.keep ((below_lit W4 _).trans (hb1.mono (below_lit W4 _).size)))
  replace Vb := Kept.mk (Vb.out.keep ((below_lit W4 _).trans (hb1.mono (below_lit W4 _).size)))
  replace Vc := Kept.mk (Vc.out.keep ((below_lit W4 _).trans (hb1.mono (below_lit W4 _).size)))
  replace Vd := Kept.mk (Vd.out.keep ((below_lit W4 _).trans (hb1.mono (below_lit W4 _).size)))
  clear hb1
  go_wp2_with (refine wpList_store5 rfl (.tmp 9) (.tmp 45) rfl U.heap.size vp' vw' (.int .i64 dv5.fuse) (strC dv5.torn) (.bool dv5.dead) rfl rfl K1.out K2.out o1 o2 rfl rfl rfl ?_; replace hB := Kept.mk (hB.out.trans ((K3.out).mono hB.out.size)); replace Va := Kept.mk (Va.out.keep (K3.out)); replace Vb := Kept.mk (Vb.out.keep (K3.out)); replace Vc := Kept.mk (Vc.out.keep (K3.out)); replace Vd := Kept.mk (Vd.out.keep (K3.out)); have Ve := K4; clear K1 K2 K3 K4 o1 o2; generalize set5 (U.alloc (.cells #[.slice none 0 0, .slice none 0 0, .int .i64 0, .string ⟨#[]⟩, .bool false] 25)) U.heap.size vp' vw' (.int .i64 dv5.fuse) (strC dv5.torn) (.bool dv5.dead) = W5 at *; generalize U.heap.size = ge at *; obtain ⟨vpe, vwe, fle, ke0, ke1, ke2, ke3, ke4⟩ := Ve.out.open_)
  ((with_reducible refine (c_torn _ _ (fl_grow fle (below_lit W5 _))).mono ?_); rintro e U ⟨v', rfl, hf', hb1⟩)
  obtain ⟨vp', vw', rfl, hp', hq'⟩ := hf'.fl
  have o1 := hp'.one
  have o2 := hq'.one
  obtain ⟨K1, K2, K3, K4⟩ := var_new U dv6 vp' vw' hp' hq'
  clear hp' hq' hf'
  clear ke0 ke1 ke2 ke3 ke4 fle
  replace hB := Kept.mk (hB.out.trans (((below_lit W5 _).trans (hb1.mono (below_lit W5 _).size)).mono hB.out.size))
  replace Va := Kept.mk (Va.out.keep ((below_lit W5 _).trans (hb1.mono (below_lit W5 _).size)))
  replace Vb := Kept.mk (Vb.out.keep ((below_lit W5 _).trans (hb1.mono (below_lit W5 _).size)))
  replace Vc := Kept.mk (Vc.out.keep ((below_lit W5 _).trans (hb1.mono (below_lit W5 _).size)))
  replace Vd := Kept.mk (Vd.out.keep ((below_lit W5 _).trans (hb1.mono (below_lit W5 _).size)))
  replace Ve := Kept.mk (Ve.out.keep ((below_lit W5 _).trans (hb1.mono (below_lit W5 _).size)))
  clear hb1
  go_wp2_with (refine wpList_store5 rfl (.tmp 11) (.tmp 52) rfl U.heap.size vp' vw' (.int .i64 dv6.fuse) (strC dv6.torn) (.bool dv6.dead) rfl rfl K1.out K2.out o1 o2 rfl rfl rfl ?_; replace hB := Kept.mk (hB.out.trans ((K3.out).mono hB.out.size)); replace Va := Kept.mk (Va.out.keep (K3.out)); replace Vb := Kept.mk (Vb.out.keep (K3.out)); replace Vc := Kept.mk (Vc.out.keep (K3.out)); replace Vd := Kept.mk (Vd.out.keep (K3.out)); replace Ve := Kept.mk (Ve.out.keep (K3.out)); have Vf := K4; clear K1 K2 K3 K4 o1 o2; generalize set5 (U.alloc (.cells #[.slice none 0 0, .slice none 0 0, .int .i64 0, .string ⟨#[]⟩, .bool false] 25)) U.heap.size vp' vw' (.int .i64 dv6.fuse) (strC dv6.torn) (.bool dv6.dead) = W6 at *; generalize U.heap.size = gf at *; obtain ⟨vpf, vwf, flf, kf0, kf1, kf2, kf3, kf4⟩ := Vf.out.open_)
  ((with_reducible refine (c_dead _ _ flf).mono ?_); rintro e U ⟨v', rfl, hf', hb1⟩)
  obtain ⟨vp', vw', rfl, hp', hq'⟩ := hf'.fl
  have o1 := hp'.one
  have o2 := hq'.one
  obtain ⟨K1, K2, K3, K4⟩ := var_new U dv6 vp' vw' hp' hq'
  clear hp' hq' hf'
  clear kf0 kf1 kf2 kf3 kf4 flf
  replace hB := Kept.mk (hB.out.trans ((hb1).mono hB.out.size))
  replace Va := Kept.mk (Va.out.keep (hb1))
  replace Vb := Kept.mk (Vb.out.keep (hb1))
  replace Vc := Kept.mk (Vc.out.keep (hb1))
  replace Vd := Kept.mk (Vd.out.keep (hb1))
  replace Ve := Kept.mk (Ve.out.keep (hb1))
  replace Vf := Kept.mk (Vf.out.keep (hb1))
  clear hb1
  go_wp2_with (refine wpList_store5 rfl (.tmp 13) (.tmp 57) rfl U.heap.size vp' vw' (.int .i64 dv6.fuse) (strC dv6.torn) (.bool dv6.dead) rfl rfl K1.out K2.out o1 o2 rfl rfl rfl ?_; replace hB := Kept.mk (hB.out.trans ((K3.out).mono hB.out.size)); replace Va := Kept.mk (Va.out.keep (K3.out)); replace Vb := Kept.mk (Vb.out.keep (K3.out)); replace Vc := Kept.mk (Vc.out.keep (K3.out)); replace Vd := Kept.mk (Vd.out.keep (K3.out)); replace Ve := Kept.mk (Ve.out.keep (K3.out)); replace Vf := Kept.mk (Vf.out.keep (K3.out)); have Vg := K4; clear K1 K2 K3 K4 o1 o2; generalize set5 (U.alloc (.cells #[.slice none 0 0, .slice none 0 0, .int .i64 0, .string ⟨#[]⟩, .bool false] 25)) U.heap.size vp' vw' (.int .i64 dv6.fuse) (strC dv6.torn) (.bool dv6.dead) = W7 at *; generalize U.heap.size = gg at *; obtain ⟨vpf, vwf, flf, kf0, kf1, kf2, kf3, kf4⟩ := Vf.out.open_)
  ((with_reducible refine (c_rot _ _ (fl_grow flf (below_lit W7 _))).mono ?_); rintro e U ⟨v', rfl, hf', hb1⟩)
  obtain ⟨vp', vw', rfl, hp', hq'⟩ := hf'.fl
  have o1 := hp'.one
  have o2 := hq'.one
  obtain ⟨K1, K2, K3, K4⟩ := var_new U dv8 vp' vw' hp' hq'
  clear hp' hq' hf'
  clear kf0 kf1 kf2 kf3 kf4 flf
  replace hB := Kept.mk (hB.out.trans (((below_lit W7 _).trans (hb1.mono (below_lit W7 _).size)).mono hB.out.size))
  replace Va := Kept.mk (Va.out.keep ((below_lit W7 _).trans (hb1.mono (below_lit W7 _).size)))
  replace Vb := Kept.mk (Vb.out.keep ((below_lit W7 _).trans (hb1.mono (below_lit W7 _).size)))
  replace Vc := Kept.mk (Vc.out.keep ((below_lit W7 _).trans (hb1.mono (below_lit W7 _).size)))
  replace Vd := Kept.mk (Vd.out.keep ((below_lit W7 _).trans (hb1.mono (below_lit W7 _).size)))
  replace Ve := Kept.mk (Ve.out.keep ((below_lit W7 _).trans (hb1.mono (below_lit W7 _).size)))
  replace Vf := Kept.mk (Vf.out.keep ((below_lit W7 _).trans (hb1.mono (below_lit W7 _).size)))
  replace Vg := Kept.mk (Vg.out.keep ((below_lit W7 _).trans (hb1.mono (below_lit W7 _).size)))
  clear hb1
  go_wp2_with (refine wpList_store5 rfl (.tmp 15) (.tmp 64) rfl U.heap.size vp' vw' (.int .i64 dv8.fuse) (strC dv8.torn) (.bool dv8.dead) rfl rfl K1.out K2.out o1 o2 rfl rfl rfl ?_; replace hB := Kept.mk (hB.out.trans ((K3.out).mono hB.out.size)); replace Va := Kept.mk (Va.out.keep (K3.out)); replace Vb := Kept.mk (Vb.out.keep (K3.out)); replace Vc := Kept.mk (Vc.out.keep (K3.out)); replace Vd := Kept.mk (Vd.out.keep (K3.out)); replace Ve := Kept.mk (Ve.out.keep (K3.out)); replace Vf := Kept.mk (Vf.out.keep (K3.out)); replace Vg := Kept.mk (Vg.out.keep (K3.out)); have Vh := K4; clear K1 K2 K3 K4 o1 o2; generalize set5 (U.alloc (.cells #[.slice none 0 0, .slice none 0 0, .int .i64 0, .string ⟨#[]⟩, .bool false] 25)) U.heap.size vp' vw' (.int .i64 dv8.fuse) (strC dv8.torn) (.bool dv8.dead) = W8 at *; generalize U.heap.size = gh at *; obtain ⟨ba, oa, ca, da, qa, sa, Ca, La, lba, lda, Pa, Ra⟩ := Va.out.rows (n := 2) (m := 2) rfl rfl (by decide) (by decide); obtain ⟨bb, ob, cb, db, qb, sb, Cb, Lb, lbb, ldb, Pb, Rb⟩ := Vb.out.rows (n := 2) (m := 2) rfl rfl (by decide) (by decide); obtain ⟨bc, oc, cc, dc, qc, sc, Cc, Lc, lbc, ldc, Pc, Rc⟩ := Vc.out.rows (n := 2) (m := 2) rfl rfl (by decide) (by decide); obtain ⟨bd, od, cd, dd, qd, sd, Cd, Ld, lbd, ldd, Pd, Rd⟩ := Vd.out.rows (n := 2) (m := 2) rfl rfl (by decide) (by decide); obtain ⟨bf, of, cf, df, qf, sf, Cf, Lf, lbf, ldf, Pf, Rf⟩ := Vf.out.rows (n := 2) (m := 2) rfl rfl (by decide) (by decide); obtain ⟨bh, oh, ch, dh, qh, sh, Ch, Lh, lbh, ldh, Ph, Rh⟩ := Vh.out.rows (n := 2) (m := 2) rfl rfl (by decide) (by decide); have kb0 := Cb.2.1; have kc0 := Cc.2.1; have kd1 := Cd.2.2.1; have kf0 := Cf.2.1; have kh0 := Ch.2.1; have Caq := Kept.mk Ca; have Paq := Kept.mk Pa; have Raq := Kept.mk Ra; have Cbq := Kept.mk Cb; have Pbq := Kept.mk Pb; have Rbq := Kept.mk Rb; have Ccq := Kept.mk Cc; have Pcq := Kept.mk Pc; have Rcq := Kept.mk Rc; have Cdq := Kept.mk Cd; have Pdq := Kept.mk Pd; have Rdq := Kept.mk Rd; have Cfq := Kept.mk Cf; have Pfq := Kept.mk Pf; have Rfq := Kept.mk Rf; have Chq := Kept.mk Ch; have Phq := Kept.mk Ph; have Rhq := Kept.mk Rh; clear Ca Pa Ra Cb Pb Rb Cc Pc Rc Cd Pd Rd Cf Pf Rf Ch Ph Rh)
  clear kb0 kc0 kd1 kf0 kh0
  refine works_region _ _ _ rfl _ _ _ _ _ _ _ _ _ _ _ _ _ _ _ _ _ _ _ _ _ _ _ _ _ _ _ _ _ _ _ _ _ _ _ _ _ _ _ _ _ _ rfl rfl rfl rfl rfl rfl rfl rfl rfl rfl rfl rfl rfl rfl Caq.out La lba lda Paq.out Raq.out Cbq.out Lb lbb ldb Pbq.out Rbq.out Ccq.out Lc lbc ldc Pcq.out Rcq.out Cdq.out Ld lbd ldd Pdq.out Rdq.out Cfq.out Lf lbf ldf Pfq.out Rfq.out Chq.out Lh lbh ldh Phq.out Rhq.out ?_
  intro a w5 hd h0 hb5
  have hB2 := hB.out.trans (hb5.mono hB.out.size)
  go_wp2
  refine bodyPost_ret (results_tmp rfl a.tmps Try.prog w5) hd ⟨?_, hB2⟩
  rw [h0]
end Go.Proofs.Ytpjafjnokgeifaa
end
section
namespace Go.Proofs.Ytpjafjnokgeifaa
open Go.RowKit
set_option linter.unusedVariables false
set_option linter.unusedSimpArgs false

noncomputable def refIntsops : Array Oper := regionOf Try.f52 6
set_option maxRecDepth 100000 in
theorem refInts_region (Q : Exit → Act → World → Prop) (a0 : Act) (w0 : World) (hsz : a0.tmps.size = 26) (b1 o1 c1 b2 o2 c2 n j : Nat) (x y : Int) (z : Bool)
    (e0 : a0.tmps.getD 0 undef = .slice (some ⟨b1, o1, none⟩) n c1) (e1 : a0.tmps.getD 1 undef = .slice (some ⟨b2, o2, none⟩) n c2) (e5 : a0.tmps.getD 5 undef = .int .i64 (j : Int)) (hj : j < n)
    (p1 : w0.cell? ⟨b1, o1 + j, none⟩ = some (.int .i64 x)) (l1 : b1 < w0.heap.size) (p2 : w0.cell? ⟨b2, o2 + j, none⟩ = some (.int .i64 y)) (l2 : b2 < w0.heap.size) (hz : (x != y) = z)
    (hQ : ∀ (f : Nat → Value) (w : World), f 25 = .bool z → Below w0.heap.size w0 w → Q .normal { tmps := [17, 18, 19, 20, 21, 22, 23, 24, 25].foldl (fun t s => t.setIfInBounds s (f s)) a0.tmps, defers := a0.defers } w) :
    (Code.region 6 refIntsops true).wp Try.prog Q a0 w0 := by
  refine wp_region_flow mixed (by rw [hsz]; kernel_rfl) ?_
  rw [show refIntsops.size = 9 by kernel_rfl]
  refine ⟨isVal (.slice (some ⟨b1, o1, none⟩) n c1), step_move (.tmp 0) (by kernel_rfl) (wanted_none (by kernel_rfl)) (stable_val _) (knows_old 0 (.slice (some ⟨b1, o1, none⟩) n c1) (by kernel_rfl) e0), ?_⟩
  refine ⟨isVal (.int .i64 (j : Int)), step_move (.tmp 5) (by kernel_rfl) (wanted_none (by kernel_rfl)) (stable_val _) (knows_old 5 (.int .i64 (j : Int)) (by kernel_rfl) e5), ?_⟩
  refine ⟨isVal (.pointer (some ⟨b1, o1 + j, none⟩)), step_place 23 3 (.tmp 17) (.tmp 18) b1 o1 n c1 j (by kernel_rfl) (wanted_none (by kernel_rfl)) (knows_new (V := isVal (.slice (some ⟨b1, o1, none⟩) n c1)) 17 0 (by kernel_rfl) (by kernel_rfl) (by kernel_rfl)) (knows_new (V := isVal (.int .i64 (j : Int))) 18 1 (by kernel_rfl) (by kernel_rfl) (by kernel_rfl)) Try.underlying23 (by kernel_rfl) hj, ?_⟩
  refine ⟨isVal (.int .i64 x), step_read 3 (.tmp 19) ⟨b1, o1 + j, none⟩ (.int .i64 x) (by kernel_rfl) (wanted_none (by kernel_rfl)) (knows_new (V := isVal (.pointer (some ⟨b1, o1 + j, none⟩))) 19 2 (by kernel_rfl) (by kernel_rfl) (by kernel_rfl)) p1 l1 agg_int, ?_⟩
  refine ⟨isVal (.slice (some ⟨b2, o2, none⟩) n c2), step_move (.tmp 1) (by kernel_rfl) (wanted_none (by kernel_rfl)) (stable_val _) (knows_old 1 (.slice (some ⟨b2, o2, none⟩) n c2) (by kernel_rfl) e1), ?_⟩
  refine ⟨isVal (.int .i64 (j : Int)), step_move (.tmp 5) (by kernel_rfl) (wanted_none (by kernel_rfl)) (stable_val _) (knows_old 5 (.int .i64 (j : Int)) (by kernel_rfl) e5), ?_⟩
  refine ⟨isVal (.pointer (some ⟨b2, o2 + j, none⟩)), step_place 23 3 (.tmp 21) (.tmp 22) b2 o2 n c2 j (by kernel_rfl) (wanted_none (by kernel_rfl)) (knows_new (V := isVal (.slice (some ⟨b2, o2, none⟩) n c2)) 21 4 (by kernel_rfl) (by kernel_rfl) (by kernel_rfl)) (knows_new (V := isVal (.int .i64 (j : Int))) 22 5 (by kernel_rfl) (by kernel_rfl) (by kernel_rfl)) Try.underlying23 (by kernel_rfl) hj, ?_⟩
  refine ⟨isVal (.int .i64 y), step_read 3 (.tmp 23) ⟨b2, o2 + j, none⟩ (.int .i64 y) (by kernel_rfl) (wanted_none (by kernel_rfl)) (knows_new (V := isVal (.pointer (some ⟨b2, o2 + j, none⟩))) 23 6 (by kernel_rfl) (by kernel_rfl) (by kernel_rfl)) p2 l2 agg_int, ?_⟩
  refine ⟨isVal (.bool z), step_bin .neq 3 3 (.tmp 20) (.tmp 24) (.int .i64 x) (.int .i64 y) (.bool z) (by kernel_rfl) (wanted_none (by kernel_rfl)) (knows_new (V := isVal (.int .i64 x)) 20 3 (by kernel_rfl) (by kernel_rfl) (by kernel_rfl)) (knows_new (V := isVal (.int .i64 y)) 24 7 (by kernel_rfl) (by kernel_rfl) (by kernel_rfl)) (fun _ => rfl) (neq_int _ _ _ _ _ hz), ?_⟩
  intro a w hkp hb hd
  rw [kept_of hkp ((List.range 9).map fun i => some (i + 17)) [17, 18, 19, 20, 21, 22, 23, 24, 25] (by kernel_rfl) (by decide)]
  exact hQ (fun s => a.tmps.getD s undef) w (fdone_of (hd 8 (by rw [show refIntsops.size = 9 by kernel_rfl]; decide)) (t := 25) (V := isVal (.bool z)) (by kernel_rfl) (by kernel_rfl)) hb
set_option maxRecDepth 20000 in
set_option maxHeartbeats 1000000 in
theorem refInts_any (l m : List (Int)) (v u : Value) (w : World) (hv : isCells (l.map intC) v w) (hu : isCells (m.map intC) u w) (h1 : l.length ≤ 1000000000) (h2 : m.length ≤ 1000000000) :
    Calls Try.prog 52 #[v, u] w fun e w' => e = .returned (.bool (decide (l = m))) ∧ Below w.heap.size w w' := by
  by_cases hlen : l.length = m.length
  case neg =>
    obtain ⟨a, cap, rfl⟩ := hv.len
    obtain ⟨b, cap2, rfl⟩ := hu.len
    rw [List.length_map, List.length_map]
    have HN := Kept.mk (show decide (l = m) = false by simp; rintro rfl; exact hlen rfl)
    have d1 : ((l.length : Int) != (m.length : Int)) = true := by simp [bne]; omega
    clear hv hu hlen
    go_enter Try.func52, Try.ntmps52
    go_wp2
    go_ret
    exact ⟨by rw [HN.out]; rfl, Below.refl _ _⟩
  by_cases h0 : l = []
  · subst h0
    obtain rfl : m = [] := List.eq_nil_of_length_eq_zero (by simpa using hlen.symm)
    obtain ⟨a, cap, rfl⟩ := hv.len
    obtain ⟨b, cap2, rfl⟩ := hu.len
    clear hv hu
    simp only [List.map_nil, List.length_nil]
    go_enter Try.func52, Try.ntmps52
    go_wp2
    go_loop [5] (fun i => i = .int .i64 0) (fun _ => 0)
    case atStart => rfl
    case round =>
      subst hrel
      go_wp2
      go_ret
      exact ⟨by simp, Below.refl _ _⟩
  · have hl0 : 0 < l.length := List.length_pos_iff.2 h0
    obtain ⟨b1, o1, c1, hv', l1, hc1⟩ := hv.some_ (by simpa using hl0)
    obtain ⟨b2, o2, c2, hu', l2, hc2⟩ := hu.some_ (by rw [List.length_map]; omega)
    rw [List.length_map] at hv' hu'
    subst hv' hu'
    have HM := Kept.mk hlen
    have hmn : m.length = l.length := hlen.symm
    rw [hmn]
    obtain ⟨n, hn⟩ : ∃ n, n = l.length := ⟨_, rfl⟩
    have HN := Kept.mk hn
    rw [← hn] at h1 hl0 ⊢
    have HC1 := Kept.mk hc1
    have HC2 := Kept.mk hc2
    have hB : Below w.heap.size w w := Below.refl _ _
    clear hv hu hlen hmn hn hc1 hc2 h0
    go_enter Try.func52, Try.ntmps52
    go_wp2
    go_loopw [5] (fun i wr => ∃ j : Nat, j ≤ n ∧ i = .int .i64 (j : Int) ∧ Kept (l.take j = m.take j) ∧ Below w.heap.size w wr) (fun i _ => n - (intOf i).toNat)
    case atStart => exact ⟨0, Nat.zero_le _, rfl, ⟨rfl⟩, hB⟩
    case round =>
      clear hB
      obtain ⟨j, hj, rfl, HT, hB⟩ := hrel
      by_cases hlt : j < n
      · have d1 : decide ((j : Int) < (n : Int)) = true := by simpa using hlt
        have HA := Kept.mk (show j < l.length by rw [← HN.out]; exact hlt)
        have HB := Kept.mk (show j < m.length by rw [← HM.out, ← HN.out]; exact hlt)
        have q1 := Kept.mk ((hB.cell (p := ⟨b1, o1 + j, none⟩) l1).trans (HC1.out j _ (get_map intC l j HA.out)))
        have q2 := Kept.mk ((hB.cell (p := ⟨b2, o2 + j, none⟩) l2).trans (HC2.out j _ (get_map intC m j HB.out)))
        cases hz : (l[j]'HA.out != m[j]'HB.out) with
        | true =>
          have HR := Kept.mk (show decide (l = m) = false by
            simp only [decide_eq_false_iff_not]
            rintro rfl
            simp at hz)
          have HZ := Kept.mk hz
          clear hz
          go_wp2_with fail
          refine refInts_region _ _ _ rfl b1 o1 c1 b2 o2 c2 n j _ _ true rfl rfl rfl hlt q1.out (Nat.lt_of_lt_of_le l1 hB.size) q2.out (Nat.lt_of_lt_of_le l2 hB.size) HZ.out ?_
          clear q1 q2 HZ
          intro f9 W9 hg hb9
          replace hB := hB.trans (hb9.mono hB.size)
          clear hb9
          simp only [List.foldl_cons, List.foldl_nil, hg]
          generalize f9 17 = y17
          generalize f9 18 = y18
          generalize f9 19 = y19
          generalize f9 20 = y20
          generalize f9 21 = y21
          generalize f9 22 = y22
          generalize f9 23 = y23
          generalize f9 24 = y24
          clear hg
          simp only [List.setIfInBounds_toArray, List.set_cons_succ, List.set_cons_zero]
          go_wp2
          go_ret
          exact ⟨by rw [HR.out]; rfl, hB⟩
        | false =>
          have HR := Kept.mk (show l.take (j + 1) = m.take (j + 1) by
            rw [List.take_succ_eq_append_getElem HA.out, List.take_succ_eq_append_getElem HB.out, HT.out]
            simp at hz
            rw [hz])
          have HZ := Kept.mk hz
          clear hz HT
          go_wp2_with fail
          refine refInts_region _ _ _ rfl b1 o1 c1 b2 o2 c2 n j _ _ false rfl rfl rfl hlt q1.out (Nat.lt_of_lt_of_le l1 hB.size) q2.out (Nat.lt_of_lt_of_le l2 hB.size) HZ.out ?_
          clear q1 q2 HZ
          intro f9 W9 hg hb9
          replace hB := hB.trans (hb9.mono hB.size)
          clear hb9
          simp only [List.foldl_cons, List.foldl_nil, hg]
          generalize f9 17 = y17
          generalize f9 18 = y18
          generalize f9 19 = y19
          generalize f9 20 = y20
          generalize f9 21 = y21
          generalize f9 22 = y22
          generalize f9 23 = y23
          generalize f9 24 = y24
          clear hg
          simp only [List.setIfInBounds_toArray, List.set_cons_succ, List.set_cons_zero]
          go_wp2
          go_roundw
          case rel => exact ⟨j + 1, by omega, by go_num, HR, hB⟩
          case measure => simp [intOf]; omega
      · have d1 : decide ((j : Int) < (n : Int)) = false := by simp; omega
        have HR := Kept.mk (show decide (l = m) = true by
          have h := HT.out
          rw [List.take_of_length_le (by rw [← HN.out]; omega), List.take_of_length_le (by rw [← HM.out, ← HN.out]; omega)] at h
          simpa using h)
        go_wp2
        go_ret
        exact ⟨by rw [HR.out]; rfl, hB⟩

noncomputable def refTextsops : Array Oper := regionOf Try.f51 6
set_option maxRecDepth 100000 in
theorem refTexts_region (Q : Exit → Act → World → Prop) (a0 : Act) (w0 : World) (hsz : a0.tmps.size = 26) (b1 o1 c1 b2 o2 c2 n j : Nat) (x y : List UInt8) (z : Bool)
    (e0 : a0.tmps.getD 0 undef = .slice (some ⟨b1, o1, none⟩) n c1) (e1 : a0.tmps.getD 1 undef = .slice (some ⟨b2, o2, none⟩) n c2) (e5 : a0.tmps.getD 5 undef = .int .i64 (j : Int)) (hj : j < n)
    (p1 : w0.cell? ⟨b1, o1 + j, none⟩ = some (.string ⟨x.toArray⟩)) (l1 : b1 < w0.heap.size) (p2 : w0.cell? ⟨b2, o2 + j, none⟩ = some (.string ⟨y.toArray⟩)) (l2 : b2 < w0.heap.size) (hz : (x != y) = z)
    (hQ : ∀ (f : Nat → Value) (w : World), f 25 = .bool z → Below w0.heap.size w0 w → Q .normal { tmps := [17, 18, 19, 20, 21, 22, 23, 24, 25].foldl (fun t s => t.setIfInBounds s (f s)) a0.tmps, defers := a0.defers } w) :
    (Code.region 6 refTextsops true).wp Try.prog Q a0 w0 := by
  refine wp_region_flow mixed (by rw [hsz]; kernel_rfl) ?_
  rw [show refTextsops.size = 9 by kernel_rfl]
  refine ⟨isVal (.slice (some ⟨b1, o1, none⟩) n c1), step_move (.tmp 0) (by kernel_rfl) (wanted_none (by kernel_rfl)) (stable_val _) (knows_old 0 (.slice (some ⟨b1, o1, none⟩) n c1) (by kernel_rfl) e0), ?_⟩
  refine ⟨isVal (.int .i64 (j : Int)), step_move (.tmp 5) (by kernel_rfl) (wanted_none (by kernel_rfl)) (stable_val _) (knows_old 5 (.int .i64 (j : Int)) (by kernel_rfl) e5), ?_⟩
  refine ⟨isVal (.pointer (some ⟨b1, o1 + j, none⟩)), step_place 22 9 (.tmp 17) (.tmp 18) b1 o1 n c1 j (by kernel_rfl) (wanted_none (by kernel_rfl)) (knows_new (V := isVal (.slice (some ⟨b1, o1, none⟩) n c1)) 17 0 (by kernel_rfl) (by kernel_rfl) (by kernel_rfl)) (knows_new (V := isVal (.int .i64 (j : Int))) 18 1 (by kernel_rfl) (by kernel_rfl) (by kernel_rfl)) Try.underlying22 (by kernel_rfl) hj, ?_⟩
  refine ⟨isVal (.string ⟨x.toArray⟩), step_read 9 (.tmp 19) ⟨b1, o1 + j, none⟩ (.string ⟨x.toArray⟩) (by kernel_rfl) (wanted_none (by kernel_rfl)) (knows_new (V := isVal (.pointer (some ⟨b1, o1 + j, none⟩))) 19 2 (by kernel_rfl) (by kernel_rfl) (by kernel_rfl)) p1 l1 agg_str, ?_⟩
  refine ⟨isVal (.slice (some ⟨b2, o2, none⟩) n c2), step_move (.tmp 1) (by kernel_rfl) (wanted_none (by kernel_rfl)) (stable_val _) (knows_old 1 (.slice (some ⟨b2, o2, none⟩) n c2) (by kernel_rfl) e1), ?_⟩
  refine ⟨isVal (.int .i64 (j : Int)), step_move (.tmp 5) (by kernel_rfl) (wanted_none (by kernel_rfl)) (stable_val _) (knows_old 5 (.int .i64 (j : Int)) (by kernel_rfl) e5), ?_⟩
  refine ⟨isVal (.pointer (some ⟨b2, o2 + j, none⟩)), step_place 22 9 (.tmp 21) (.tmp 22) b2 o2 n c2 j (by kernel_rfl) (wanted_none (by kernel_rfl)) (knows_new (V := isVal (.slice (some ⟨b2, o2, none⟩) n c2)) 21 4 (by kernel_rfl) (by kernel_rfl) (by kernel_rfl)) (knows_new (V := isVal (.int .i64 (j : Int))) 22 5 (by kernel_rfl) (by kernel_rfl) (by kernel_rfl)) Try.underlying22 (by kernel_rfl) hj, ?_⟩
  refine ⟨isVal (.string ⟨y.toArray⟩), step_read 9 (.tmp 23) ⟨b2, o2 + j, none⟩ (.string ⟨y.toArray⟩) (by kernel_rfl) (wanted_none (by kernel_rfl)) (knows_new (V := isVal (.pointer (some ⟨b2, o2 + j, none⟩))) 23 6 (by kernel_rfl) (by kernel_rfl) (by kernel_rfl)) p2 l2 agg_str, ?_⟩
  refine ⟨isVal (.bool z), step_bin .neq 9 9 (.tmp 20) (.tmp 24) (.string ⟨x.toArray⟩) (.string ⟨y.toArray⟩) (.bool z) (by kernel_rfl) (wanted_none (by kernel_rfl)) (knows_new (V := isVal (.string ⟨x.toArray⟩)) 20 3 (by kernel_rfl) (by kernel_rfl) (by kernel_rfl)) (knows_new (V := isVal (.string ⟨y.toArray⟩)) 24 7 (by kernel_rfl) (by kernel_rfl) (by kernel_rfl)) (fun _ => rfl) (neq_str _ _ _ _ hz), ?_⟩
  intro a w hkp hb hd
  rw [kept_of hkp ((List.range 9).map fun i => some (i + 17)) [17, 18, 19, 20, 21, 22, 23, 24, 25] (by kernel_rfl) (by decide)]
  exact hQ (fun s => a.tmps.getD s undef) w (fdone_of (hd 8 (by rw [show refTextsops.size = 9 by kernel_rfl]; decide)) (t := 25) (V := isVal (.bool z)) (by kernel_rfl) (by kernel_rfl)) hb
set_option maxRecDepth 20000 in
set_option maxHeartbeats 1000000 in
theorem refTexts_any (l m : List (List UInt8)) (v u : Value) (w : World) (hv : isCells (l.map strC) v w) (hu : isCells (m.map strC) u w) (h1 : l.length ≤ 1000000000) (h2 : m.length ≤ 1000000000) :
    Calls Try.prog 51 #[v, u] w fun e w' => e = .returned (.bool (decide (l = m))) ∧ Below w.heap.size w w' := by
  by_cases hlen : l.length = m.length
  case neg =>
    obtain ⟨a, cap, rfl⟩ := hv.len
    obtain ⟨b, cap2, rfl⟩ := hu.len
    rw [List.length_map, List.length_map]
    have HN := Kept.mk (show decide (l = m) = false by simp; rintro rfl; exact hlen rfl)
    have d1 : ((l.length : Int) != (m.length : Int)) = true := by simp [bne]; omega
    clear hv hu hlen
    go_enter Try.func51, Try.ntmps51
    go_wp2
    go_ret
    exact ⟨by rw [HN.out]; rfl, Below.refl _ _⟩
  by_cases h0 : l = []
  · subst h0
    obtain rfl : m = [] := List.eq_nil_of_length_eq_zero (by simpa using hlen.symm)
    obtain ⟨a, cap, rfl⟩ := hv.len
    obtain ⟨b, cap2, rfl⟩ := hu.len
    clear hv hu
    simp only [List.map_nil, List.length_nil]
    go_enter Try.func51, Try.ntmps51
    go_wp2
    go_loop [5] (fun i => i = .int .i64 0) (fun _ => 0)
    case atStart => rfl
    case round =>
      subst hrel
      go_wp2
      go_ret
      exact ⟨by simp, Below.refl _ _⟩
  · have hl0 : 0 < l.length := List.length_pos_iff.2 h0
    obtain ⟨b1, o1, c1, hv', l1, hc1⟩ := hv.some_ (by simpa using hl0)
    obtain ⟨b2, o2, c2, hu', l2, hc2⟩ := hu.some_ (by rw [List.length_map]; omega)
    rw [List.length_map] at hv' hu'
    subst hv' hu'
    have HM := Kept.mk hlen
    have hmn : m.length = l.length := hlen.symm
    rw [hmn]
    obtain ⟨n, hn⟩ : ∃ n, n = l.length := ⟨_, rfl⟩
    have HN := Kept.mk hn
    rw [← hn] at h1 hl0 ⊢
    have HC1 := Kept.mk hc1
    have HC2 := Kept.mk hc2
    have hB : Below w.heap.size w w := Below.refl _ _
    clear hv hu hlen hmn hn hc1 hc2 h0
    go_enter Try.func51, Try.ntmps51
    go_wp2
    go_loopw [5] (fun i wr => ∃ j : Nat, j ≤ n ∧ i = .int .i64 (j : Int) ∧ Kept (l.take j = m.take j) ∧ Below w.heap.size w wr) (fun i _ => n - (intOf i).toNat)
    case atStart => exact ⟨0, Nat.zero_le _, rfl, ⟨rfl⟩, hB⟩
    case round =>
      clear hB
      obtain ⟨j, hj, rfl, HT, hB⟩ := hrel
      by_cases hlt : j < n
      · have d1 : decide ((j : Int) < (n : Int)) = true := by simpa using hlt
        have HA := Kept.mk (show j < l.length by rw [← HN.out]; exact hlt)
        have HB := Kept.mk (show j < m.length by rw [← HM.out, ← HN.out]; exact hlt)
        have q1 := Kept.mk ((hB.cell (p := ⟨b1, o1 + j, none⟩) l1).trans (HC1.out j _ (get_map strC l j HA.out)))
        have q2 := Kept.mk ((hB.cell (p := ⟨b2, o2 + j, none⟩) l2).trans (HC2.out j _ (get_map strC m j HB.out)))
        cases hz : (l[j]'HA.out != m[j]'HB.out) with
        | true =>
          have HR := Kept.mk (show decide (l = m) = false by
            simp only [decide_eq_false_iff_not]
            rintro rfl
            simp at hz)
          have HZ := Kept.mk hz
          clear hz
          go_wp2_with fail
          refine refTexts_region _ _ _ rfl b1 o1 c1 b2 o2 c2 n j _ _ true rfl rfl rfl hlt q1.out (Nat.lt_of_lt_of_le l1 hB.size) q2.out (Nat.lt_of_lt_of_le l2 hB.size) HZ.out ?_
          clear q1 q2 HZ
          intro f9 W9 hg hb9
          replace hB := hB.trans (hb9.mono hB.size)
          clear hb9
          simp only [List.foldl_cons, List.foldl_nil, hg]
          generalize f9 17 = y17
          generalize f9 18 = y18
          generalize f9 19 = y19
          generalize f9 20 = y20
          generalize f9 21 = y21
          generalize f9 22 = y22
          generalize f9 23 = y23
          generalize f9 24 = y24
          clear hg
          simp only [List.setIfInBounds_toArray, List.set_cons_succ, List.set_cons_zero]
          go_wp2
          go_ret
          exact ⟨by rw [HR.out]; rfl, hB⟩
        | false =>
          have HR := Kept.mk (show l.take (j + 1) = m.take (j + 1) by
            rw [List.take_succ_eq_append_getElem HA.out, List.take_succ_eq_append_getElem HB.out, HT.out]
            simp at hz
            rw [hz])
          have HZ := Kept.mk hz
          clear hz HT
          go_wp2_with fail
          refine refTexts_region _ _ _ rfl b1 o1 c1 b2 o2 c2 n j _ _ false rfl rfl rfl hlt q1.out (Nat.lt_of_lt_of_le l1 hB.size) q2.out (Nat.lt_of_lt_of_le l2 hB.size) HZ.out ?_
          clear q1 q2 HZ
          intro f9 W9 hg hb9
          replace hB := hB.trans (hb9.mono hB.size)
          clear hb9
          simp only [List.foldl_cons, List.foldl_nil, hg]
          generalize f9 17 = y17
          generalize f9 18 = y18
          generalize f9 19 = y19
          generalize f9 20 = y20
          generalize f9 21 = y21
          generalize f9 22 = y22
          generalize f9 23 = y23
          generalize f9 24 = y24
          clear hg
          simp only [List.setIfInBounds_toArray, List.set_cons_succ, List.set_cons_zero]
          go_wp2
          go_roundw
          case rel => exact ⟨j + 1, by omega, by go_num, HR, hB⟩
          case measure => simp [intOf]; omega
      · have d1 : decide ((j : Int) < (n : Int)) = false := by simp; omega
        have HR := Kept.mk (show decide (l = m) = true by
          have h := HT.out
          rw [List.take_of_length_le (by rw [← HN.out]; omega), List.take_of_length_le (by rw [← HM.out, ← HN.out]; omega)] at h
          simpa using h)
        go_wp2
        go_ret
        exact ⟨by rw [HR.out]; rfl, hB⟩
end Go.Proofs.Ytpjafjnokgeifaa
end
section
namespace Go.Proofs.Ytpjafjnokgeifaa
open Go.RowKit
set_option linter.unusedVariables false
set_option linter.unusedSimpArgs false
attribute [local irreducible] set5

end Go.Proofs.Ytpjafjnokgeifaa
end
section
namespace Go.Proofs.Ytpjafjnokgeifaa
open Go.RowKit
set_option linter.unusedVariables false
set_option linter.unusedSimpArgs false
attribute [local irreducible] setN

theorem worn_min (x : Int) (h : x ≤ 2147483647) : intC (wornN x) = .int .i64 (min (x + 1) 2147483647) := by
  unfold wornN intC
  rw [show (if x + 1 ≤ 2147483647 then x + 1 else 2147483647) = min (x + 1) 2147483647 by split <;> omega]
theorem Try.infoInt1 : (Try.prog.info? 3).map (fun i => (i.zero, i.size, i.bytes)) = some (some (.int .i64 0), 1, 8) := by kernel_rfl
theorem Try.infoStr1 : (Try.prog.info? 9).map (fun i => (i.zero, i.size, i.bytes)) = some (some (.string ⟨#[]⟩), 1, 16) := by kernel_rfl
set_option maxRecDepth 100000 in
set_option maxHeartbeats 4000000 in
theorem rwith_any (F : Fl) (k : Nat) (s : List UInt8) (vp vw : Value) (w : World) (hp : isCells (F.pages.map strC) vp w) (hq : isCells (F.wear.map intC) vw w) (hk : k < F.pages.length) (h1 : F.pages.length ≤ 1000)  :
    Calls Try.prog 49 #[.agg #[vp, vw, .int .i64 F.fuse, .string ⟨F.torn.toArray⟩, .bool F.dead], .int .i64 (k : Int), .string ⟨s.toArray⟩] w fun e w' => ∃ p', e = .returned (.agg #[p', vw, .int .i64 F.fuse, .string ⟨F.torn.toArray⟩, .bool F.dead]) ∧ isCells ((F.pages.set k s).map strC) p' w' ∧ NewB w.heap.size p' ∧ Below w.heap.size w w' := by
  obtain ⟨i0, hi, hz0, hz1, hz2⟩ := info_parts Try.infoStr1
  have ho1 := hq.one
  have hl : (F.pages.map strC).length = F.pages.length := List.length_map _
  rcases cells_src hp with ⟨rfl, h0⟩ | ⟨ad, cap, rfl, hc⟩
  · rw [h0] at hl; simp at hl; omega
  rw [hl]
  show Calls Try.prog 49 #[.agg #[(.slice (some ad) F.pages.length cap), vw, .int .i64 F.fuse, .string ⟨F.torn.toArray⟩, .bool F.dead], .int .i64 (k : Int), .string ⟨s.toArray⟩] w _
  have hb0 := (lit_below w (.cells #[(.slice (some ad) F.pages.length cap), vw, .int .i64 F.fuse, .string ⟨F.torn.toArray⟩, .bool F.dead] 25)).trans ((lit_below (w.alloc (.cells #[(.slice (some ad) F.pages.length cap), vw, .int .i64 F.fuse, .string ⟨F.torn.toArray⟩, .bool F.dead] 25)) (.cells #[.slice none 0 0, .slice none 0 0, .int .i64 0, .string ⟨#[]⟩, .bool false] 25)).mono (lit_below w (.cells #[(.slice (some ad) F.pages.length cap), vw, .int .i64 F.fuse, .string ⟨F.torn.toArray⟩, .bool F.dead] 25)).size)
  have HB := Kept.mk hb0
  have HO := Kept.mk hq
  have HX := Kept.mk ((Blk.new w 25 [(.slice (some ad) F.pages.length cap), vw, .int .i64 F.fuse, .string ⟨F.torn.toArray⟩, .bool F.dead] w.heap.size rfl).alloc (.cells #[.slice none 0 0, .slice none 0 0, .int .i64 0, .string ⟨#[]⟩, .bool false] 25))
  have HR := Kept.mk (Blk.new (w.alloc (.cells #[(.slice (some ad) F.pages.length cap), vw, .int .i64 F.fuse, .string ⟨F.torn.toArray⟩, .bool F.dead] 25)) 25 [.slice none 0 0, .slice none 0 0, .int .i64 0, .string ⟨#[]⟩, .bool false] (w.heap.size + 1) (by simp))
  have hcc : ∀ (j : Nat) (u : Value), (F.pages.map strC)[j]? = some u → ((w.alloc (.cells #[(.slice (some ad) F.pages.length cap), vw, .int .i64 F.fuse, .string ⟨F.torn.toArray⟩, .bool F.dead] 25)).alloc (.cells #[.slice none 0 0, .slice none 0 0, .int .i64 0, .string ⟨#[]⟩, .bool false] 25)).cell? (ad.add j) = some u := fun j u hu => by
    have hj := hc j u hu
    have hlt : (ad.add j).block < w.heap.size := by
      have h := hj
      simp only [World.cell?] at h
      split at h
      · rename_i hh; exact (Array.getElem?_eq_some_iff.1 hh).1
      · simp at h
    exact (hb0.cell hlt).trans hj
  have HCC := Kept.mk hcc
  have hs0 : ((w.alloc (.cells #[(.slice (some ad) F.pages.length cap), vw, .int .i64 F.fuse, .string ⟨F.torn.toArray⟩, .bool F.dead] 25)).alloc (.cells #[.slice none 0 0, .slice none 0 0, .int .i64 0, .string ⟨#[]⟩, .bool false] 25)).heap.size = w.heap.size + 2 := by simp
  have kx := HX.out.cells.2 0 _ rfl
  clear hb0 hcc hp hq hc
  go_enter Try.func49, Try.ntmps49
  go_wp2_with (first | (at_builtin; refine wpList_append_own _ rfl _ _ 22 rfl (w.heap.size + 2) 9 i0 (.string ⟨#[]⟩) 1 16 Try.underlying22 hi hz0 hz1 hz2 rfl (by decide) _ _ _ rfl (World.ownsRow_nil _ _ _ _) ad F.pages.length cap (F.pages.map strC) rfl (by rw [hl]; omega) HCC.out (by intro u hu; obtain ⟨x, _, rfl⟩ := List.mem_map.1 hu; rfl) (by unfold maxLen; omega) (by omega) (by omega) ?_; intro v1 w1 hown hgrow _; rw [Nat.zero_add, List.nil_append] at hown; obtain ⟨g, c1, rfl, hBg, hcap, hG⟩ := own_blk hown (by omega); have hb1 : Below ((w.alloc (.cells #[(.slice (some ad) F.pages.length cap), vw, .int .i64 F.fuse, .string ⟨F.torn.toArray⟩, .bool F.dead] 25)).alloc (.cells #[.slice none 0 0, .slice none 0 0, .int .i64 0, .string ⟨#[]⟩, .bool false] 25)).heap.size ((w.alloc (.cells #[(.slice (some ad) F.pages.length cap), vw, .int .i64 F.fuse, .string ⟨F.torn.toArray⟩, .bool F.dead] 25)).alloc (.cells #[.slice none 0 0, .slice none 0 0, .int .i64 0, .string ⟨#[]⟩, .bool false] 25)) w1 := (Below.refl _ _).grown hgrow (Nat.le_refl _) (by intro j hj; cases hj); have HB1 := Kept.mk (HB.out.trans (hb1.mono HB.out.size)); have HX1 := Kept.mk (HX.out.keep hb1); have HR1 := Kept.mk (HR.out.keep hb1); have HG := Kept.mk hG; clear hown hgrow hb1 hG kx; have n1 : ¬ g = w.heap.size := (by omega); have n2 : ¬ w.heap.size = g := (by omega); have kx0 := HX1.out.cells.2 0 _ rfl; have kx1 := HX1.out.cells.2 1 _ rfl; have kx2 := HX1.out.cells.2 2 _ rfl; have kx3 := HX1.out.cells.2 3 _ rfl; have kx4 := HX1.out.cells.2 4 _ rfl; have fx := HX1.out.free 0; have kg := HG.out.cells.2 k _ (get_map strC F.pages k hk); have fg := HG.out.free k; unfold strC at kg; have HR2 := Kept.mk (((HR1.out.apart (b' := g) (by omega) k (.string ⟨s.toArray⟩)).apart (b' := w.heap.size) (by omega) 0 (.slice (some ⟨g, 0, none⟩) F.pages.length c1))); have HG2 := Kept.mk (((HG.out.set k (.string ⟨s.toArray⟩) (by rw [hl]; exact hk)).apart (b' := w.heap.size) (by omega) 0 (.slice (some ⟨g, 0, none⟩) F.pages.length c1))); have HB2 := Kept.mk (((HB1.out.setCell (p := ⟨g, k, none⟩) (by show w.heap.size ≤ g; omega) (.string ⟨s.toArray⟩)).setCell (p := ⟨w.heap.size, 0, none⟩) (Nat.le_refl _) (.slice (some ⟨g, 0, none⟩) F.pages.length c1))); have K5 : Kept (Ones [.slice (some ⟨g, 0, none⟩) F.pages.length c1, vw, .int .i64 F.fuse, .string ⟨F.torn.toArray⟩, .bool F.dead]) := ⟨⟨rfl, ho1, rfl, rfl, rfl, trivial⟩⟩; clear HX1 HR1 HG HB1) | (have hz1 := K5; refine wpList_storeN 25 rfl (.tmp 6) (.tmp 18) rfl (w.heap.size + 1) [.slice (some ⟨g, 0, none⟩) F.pages.length c1, vw, .int .i64 F.fuse, .string ⟨F.torn.toArray⟩, .bool F.dead] size_fl rfl rfl HR2.out.cells rfl HR2.out.free K5.out ?_; clear hz1 K5))
  exact bodyPost_ret (resultsN1 rfl _ _ (w.heap.size + 1) _ size_fl agg_fl rfl (HR2.out.all_ (l := [.slice (some ⟨g, 0, none⟩) F.pages.length c1, vw, .int .i64 F.fuse, .string ⟨F.torn.toArray⟩, .bool F.dead]) rfl).cells) rfl ⟨_, rfl, by rw [show (F.pages.set k s).map strC = (F.pages.map strC).set k (strC s) from List.map_set ..]; exact blk_cells (HG2.out.apartN (b' := w.heap.size + 1) (by omega) 0 _) (by rw [List.length_set, hl]), newB_row (by omega) _ _ _, (below_setN (by omega) _ 0 _ HB2.out)⟩
end Go.Proofs.Ytpjafjnokgeifaa
end
section
namespace Go.Proofs.Ytpjafjnokgeifaa
open Go.RowKit
set_option linter.unusedVariables false
set_option linter.unusedSimpArgs false
attribute [local irreducible] setN

def goodP (F : Fl) (j : Nat) : Prop := 1 ≤ (F.pages.getD j []).length ∧ (F.pages.getD j []).length ≤ 8192 ∧ (F.pages.getD j []).length = (F.pages.getD 0 []).length ∧ 0 ≤ F.wear.getD j 0 ∧ F.wear.getD j 0 ≤ 2147483647
def preB (F : Fl) : Prop := 1 ≤ F.pages.length ∧ F.pages.length ≤ 6 ∧ F.wear.length = F.pages.length ∧ F.torn.length ≤ 64
theorem getD_zero_head (l : List (List UInt8)) : l.headD [] = l.getD 0 [] := by cases l <;> rfl
theorem may_iff (F : Fl) : mayB F = true ↔ preB F ∧ ∀ j, j < F.pages.length → goodP F j := by
  unfold mayB oneSize okWear preB goodP
  simp only [Bool.and_eq_true, decide_eq_true_eq, List.all_eq_true, getD_zero_head]
  constructor
  · rintro ⟨⟨⟨⟨h1, h6⟩, ⟨⟨ha, hb⟩, hc⟩⟩, ⟨hl, hw⟩⟩, ht⟩
    refine ⟨⟨by omega, by omega, hl, by omega⟩, fun j hj => ?_⟩
    have e1 : F.pages.getD j [] = F.pages[j] := by rw [List.getD_eq_getElem?_getD, List.getElem?_eq_getElem hj]; rfl
    have e2 : F.wear.getD j 0 = F.wear[j] := by rw [List.getD_eq_getElem?_getD, List.getElem?_eq_getElem (by omega)]; rfl
    have hcj := hc _ (List.getElem_mem hj)
    have hwj := hw _ (List.getElem_mem (show j < F.wear.length by omega))
    rw [e1, e2, hcj]
    exact ⟨by omega, by omega, rfl, hwj.1, hwj.2⟩
  · rintro ⟨⟨h1, h6, hl, ht⟩, hg⟩
    have g0 := hg 0 (by omega)
    refine ⟨⟨⟨⟨by omega, by omega⟩, ⟨⟨by omega, by omega⟩, fun p hp => ?_⟩⟩, ⟨hl, fun x hx => ?_⟩⟩, by omega⟩
    · obtain ⟨j, hj, rfl⟩ := List.getElem_of_mem hp
      have := (hg j hj).2.2.1
      rwa [show F.pages.getD j [] = F.pages[j] by rw [List.getD_eq_getElem?_getD, List.getElem?_eq_getElem hj]; rfl] at this
    · obtain ⟨j, hj, rfl⟩ := List.getElem_of_mem hx
      have := (hg j (by omega)).2.2.2
      rwa [show F.wear.getD j 0 = F.wear[j] by rw [List.getD_eq_getElem?_getD, List.getElem?_eq_getElem hj]; rfl] at this
theorem may_no {F : Fl} (h : ¬ (preB F ∧ ∀ j, j < F.pages.length → goodP F j)) : mayB F = false := by
  cases hm : mayB F with
  | false => rfl
  | true => exact absurd ((may_iff F).1 hm) h
set_option maxRecDepth 100000 in
set_option maxHeartbeats 4000000 in
theorem rfcheck_no1 (F : Fl) (v : Value) (w : World) (hv : isFl F v w) (hz1 : F.pages.length ≤ 1000000) (hz2 : F.wear.length ≤ 1000000) (hz3 : F.torn.length ≤ 9223372036854775807) (h : F.pages.length < 1) :
    Calls Try.prog 17 #[v] w fun e w' => e = .returned (.bool false) ∧ Below w.heap.size w w' := by
  obtain ⟨vp, vw, rfl, hpp, hqq⟩ := hv
  obtain ⟨ap, cp, rfl⟩ := hpp.len
  obtain ⟨aw, cw, rfl⟩ := hqq.len
  rw [List.length_map, List.length_map]
  show Calls Try.prog 17 #[.agg #[.slice ap F.pages.length cp, .slice aw F.wear.length cw, .int .i64 F.fuse, .string ⟨F.torn.toArray⟩, .bool F.dead]] w _
  have hts : (⟨F.torn.toArray⟩ : ByteArray).size = F.torn.length := by simp [ByteArray.size]
  have HB := Kept.mk (lit_below w (.cells #[.slice ap F.pages.length cp, .slice aw F.wear.length cw, .int .i64 F.fuse, .string ⟨F.torn.toArray⟩, .bool F.dead] 25))
  clear hpp hqq
  have d1 : decide ((F.pages.length : Int) < 1) = true := by rw [decide_eq_true_eq]; omega
  go_enter Try.func17, Try.ntmps17
  go_wp2
  go_ret
  exact ⟨rfl, HB.out⟩
set_option maxRecDepth 100000 in
set_option maxHeartbeats 4000000 in
theorem rfcheck_no2 (F : Fl) (v : Value) (w : World) (hv : isFl F v w) (hz1 : F.pages.length ≤ 1000000) (hz2 : F.wear.length ≤ 1000000) (hz3 : F.torn.length ≤ 9223372036854775807) (h0 : 1 ≤ F.pages.length) (h : 6 < F.pages.length) :
    Calls Try.prog 17 #[v] w fun e w' => e = .returned (.bool false) ∧ Below w.heap.size w w' := by
  obtain ⟨vp, vw, rfl, hpp, hqq⟩ := hv
  obtain ⟨ap, cp, rfl⟩ := hpp.len
  obtain ⟨aw, cw, rfl⟩ := hqq.len
  rw [List.length_map, List.length_map]
  show Calls Try.prog 17 #[.agg #[.slice ap F.pages.length cp, .slice aw F.wear.length cw, .int .i64 F.fuse, .string ⟨F.torn.toArray⟩, .bool F.dead]] w _
  have hts : (⟨F.torn.toArray⟩ : ByteArray).size = F.torn.length := by simp [ByteArray.size]
  have HB := Kept.mk (lit_below w (.cells #[.slice ap F.pages.length cp, .slice aw F.wear.length cw, .int .i64 F.fuse, .string ⟨F.torn.toArray⟩, .bool F.dead] 25))
  clear hpp hqq
  have d1 : decide ((F.pages.length : Int) < 1) = false := by simp; omega
  have d2 : decide ((6 : Int) < (F.pages.length : Int)) = true := by simp; omega
  go_enter Try.func17, Try.ntmps17
  go_wp2
  go_ret
  exact ⟨rfl, HB.out⟩
set_option maxRecDepth 100000 in
set_option maxHeartbeats 4000000 in
theorem rfcheck_no3 (F : Fl) (v : Value) (w : World) (hv : isFl F v w) (hz1 : F.pages.length ≤ 1000000) (hz2 : F.wear.length ≤ 1000000) (hz3 : F.torn.length ≤ 9223372036854775807) (h0 : 1 ≤ F.pages.length) (h6 : F.pages.length ≤ 6) (h : ¬ F.wear.length = F.pages.length) :
    Calls Try.prog 17 #[v] w fun e w' => e = .returned (.bool false) ∧ Below w.heap.size w w' := by
  obtain ⟨vp, vw, rfl, hpp, hqq⟩ := hv
  obtain ⟨ap, cp, rfl⟩ := hpp.len
  obtain ⟨aw, cw, rfl⟩ := hqq.len
  rw [List.length_map, List.length_map]
  show Calls Try.prog 17 #[.agg #[.slice ap F.pages.length cp, .slice aw F.wear.length cw, .int .i64 F.fuse, .string ⟨F.torn.toArray⟩, .bool F.dead]] w _
  have hts : (⟨F.torn.toArray⟩ : ByteArray).size = F.torn.length := by simp [ByteArray.size]
  have HB := Kept.mk (lit_below w (.cells #[.slice ap F.pages.length cp, .slice aw F.wear.length cw, .int .i64 F.fuse, .string ⟨F.torn.toArray⟩, .bool F.dead] 25))
  clear hpp hqq
  have d1 : decide ((F.pages.length : Int) < 1) = false := by simp; omega
  have d2 : decide ((6 : Int) < (F.pages.length : Int)) = false := by simp; omega
  have hn : ((F.wear.length : Int) == (F.pages.length : Int)) = false := by simp; omega
  have hn2 : ((F.wear.length : Int) != (F.pages.length : Int)) = true := by simp; omega
  go_enter Try.func17, Try.ntmps17
  go_wp2
  go_ret
  exact ⟨rfl, HB.out⟩
set_option maxRecDepth 100000 in
set_option maxHeartbeats 4000000 in
theorem rfcheck_no4 (F : Fl) (v : Value) (w : World) (hv : isFl F v w) (hz1 : F.pages.length ≤ 1000000) (hz2 : F.wear.length ≤ 1000000) (hz3 : F.torn.length ≤ 9223372036854775807) (h0 : 1 ≤ F.pages.length) (h6 : F.pages.length ≤ 6) (h3 : F.wear.length = F.pages.length) (h : 64 < F.torn.length) :
    Calls Try.prog 17 #[v] w fun e w' => e = .returned (.bool false) ∧ Below w.heap.size w w' := by
  obtain ⟨vp, vw, rfl, hpp, hqq⟩ := hv
  obtain ⟨ap, cp, rfl⟩ := hpp.len
  obtain ⟨aw, cw, rfl⟩ := hqq.len
  rw [List.length_map, List.length_map]
  show Calls Try.prog 17 #[.agg #[.slice ap F.pages.length cp, .slice aw F.wear.length cw, .int .i64 F.fuse, .string ⟨F.torn.toArray⟩, .bool F.dead]] w _
  have hts : (⟨F.torn.toArray⟩ : ByteArray).size = F.torn.length := by simp [ByteArray.size]
  have HB := Kept.mk (lit_below w (.cells #[.slice ap F.pages.length cp, .slice aw F.wear.length cw, .int .i64 F.fuse, .string ⟨F.torn.toArray⟩, .bool F.dead] 25))
  clear hpp hqq
  have d1 : decide ((F.pages.length : Int) < 1) = false := by simp; omega
  have d2 : decide ((6 : Int) < (F.pages.length : Int)) = false := by simp; omega
  have hn : ((F.wear.length : Int) == (F.pages.length : Int)) = true := by simp; omega
  have hn2 : ((F.wear.length : Int) != (F.pages.length : Int)) = false := by simp; omega
  have d3 : decide ((64 : Int) < (F.torn.length : Int)) = true := by simp; omega
  clear h3
  go_enter Try.func17, Try.ntmps17
  go_wp2
  go_ret
  exact ⟨rfl, HB.out⟩
set_option maxRecDepth 100000 in
set_option maxHeartbeats 4000000 in
theorem rfcheck_loop (F : Fl) (v : Value) (w : World) (hv : isFl F v w) (h1 : 1 ≤ F.pages.length) (h6 : F.pages.length ≤ 6) (hw : F.wear.length = F.pages.length) (ht : F.torn.length ≤ 64) (hp : ∀ p ∈ F.pages, p.length ≤ 9223372036854775807) :
    Calls Try.prog 17 #[v] w fun e w' => e = .returned (.bool (mayB F)) ∧ Below w.heap.size w w' := by
  have HPRE := Kept.mk (show preB F from ⟨h1, h6, hw, ht⟩)
  have HPL := Kept.mk hp
  obtain ⟨vp, vw, rfl, hpp, hqq⟩ := hv
  have lp : (F.pages.map strC).length = F.pages.length := List.length_map _
  have lw : (F.wear.map intC).length = F.wear.length := List.length_map _
  obtain ⟨b, off, c, rfl, hb, hc⟩ := hpp.some_ (by omega)
  obtain ⟨b2, off2, c2, rfl, hb2, hc2⟩ := hqq.some_ (by omega)
  rw [lp, lw]
  show Calls Try.prog 17 #[.agg #[.slice (some ⟨b, off, none⟩) F.pages.length c, .slice (some ⟨b2, off2, none⟩) F.wear.length c2, .int .i64 F.fuse, .string ⟨F.torn.toArray⟩, .bool F.dead]] w _
  have hts : (⟨F.torn.toArray⟩ : ByteArray).size = F.torn.length := by simp [ByteArray.size]
  have HB := Kept.mk (lit_below w (.cells #[.slice (some ⟨b, off, none⟩) F.pages.length c, .slice (some ⟨b2, off2, none⟩) F.wear.length c2, .int .i64 F.fuse, .string ⟨F.torn.toArray⟩, .bool F.dead] 25))
  have HX := Kept.mk (Blk.new w 25 [.slice (some ⟨b, off, none⟩) F.pages.length c, .slice (some ⟨b2, off2, none⟩) F.wear.length c2, .int .i64 F.fuse, .string ⟨F.torn.toArray⟩, .bool F.dead] w.heap.size rfl)
  have HC := Kept.mk hc
  have HC2 := Kept.mk hc2
  have k0 := HX.out.cells.2 0 _ rfl
  have k1 := HX.out.cells.2 1 _ rfl
  have k3 := HX.out.cells.2 3 _ rfl
  have hn : ((F.wear.length : Int) != (F.pages.length : Int)) = false := by simp; omega
  have HL := Kept.mk hw
  have d1 : decide ((F.pages.length : Int) < 1) = false := by simp; omega
  have d2 : decide ((6 : Int) < (F.pages.length : Int)) = false := by simp; omega
  have d3 : decide ((64 : Int) < (F.torn.length : Int)) = false := by simp; omega
  clear hc hc2 hpp hqq hw hp lp lw
  go_enter Try.func17, Try.ntmps17
  go_wp2
  clear k0 k1 k3 hn d1 d2 d3
  generalize w.alloc (.cells #[.slice (some ⟨b, off, none⟩) F.pages.length c, .slice (some ⟨b2, off2, none⟩) F.wear.length c2, .int .i64 F.fuse, .string ⟨F.torn.toArray⟩, .bool F.dead] 25) = W0 at *
  go_loopw [3] (fun i wr => ∃ j : Nat, j ≤ F.pages.length ∧ i = .int .i64 (j : Int) ∧ Kept (Below w.heap.size w wr) ∧ Kept (Blk wr w.heap.size [.slice (some ⟨b, off, none⟩) F.pages.length c, .slice (some ⟨b2, off2, none⟩) F.wear.length c2, .int .i64 F.fuse, .string ⟨F.torn.toArray⟩, .bool F.dead]) ∧ Kept (∀ i, i < j → goodP F i)) (fun i _ => F.pages.length - (intOf i).toNat)
  case atStart => exact ⟨0, Nat.zero_le _, rfl, HB, HX, ⟨fun i hi => by omega⟩⟩
  case round =>
    clear HB HX
    obtain ⟨j, hj, rfl, HB, HX, HGD⟩ := hrel
    have k0 := HX.out.cells.2 0 _ rfl
    have k1 := HX.out.cells.2 1 _ rfl
    by_cases hlt : j < F.pages.length
    · have e1 : decide ((j : Int) < (F.pages.length : Int)) = true := by simpa using hlt
      have hlw : j < F.wear.length := by rw [HL.out]; exact hlt
      have cj := (HB.out.cell (p := ⟨b, off + j, none⟩) hb).trans (HC.out j _ (get_map strC F.pages j hlt))
      have c0 := (HB.out.cell (p := ⟨b, off + 0, none⟩) hb).trans (HC.out 0 _ (get_map strC F.pages 0 (by omega)))
      have wj := (HB.out.cell (p := ⟨b2, off2 + j, none⟩) hb2).trans (HC2.out j _ (get_map intC F.wear j hlw))
      unfold strC at cj c0
      unfold intC at wj
      rw [Nat.add_zero] at c0
      obtain ⟨p, hpj⟩ : ∃ p, F.pages[j] = p := ⟨_, rfl⟩
      obtain ⟨q, hq0⟩ : ∃ q, F.pages[0] = q := ⟨_, rfl⟩
      obtain ⟨x, hxj⟩ : ∃ x, F.wear[j] = x := ⟨_, rfl⟩
      have hpl : p.length ≤ 9223372036854775807 := by rw [← hpj]; exact HPL.out _ (List.getElem_mem hlt)
      have hql : q.length ≤ 9223372036854775807 := by rw [← hq0]; exact HPL.out _ (List.getElem_mem (by omega))
      rw [hpj] at cj
      rw [hq0] at c0
      rw [hxj] at wj
      have HGJ := Kept.mk (show goodP F j ↔ (1 ≤ p.length ∧ p.length ≤ 8192 ∧ p.length = q.length ∧ 0 ≤ x ∧ x ≤ 2147483647) by
        unfold goodP
        rw [show F.pages.getD j [] = p by rw [List.getD_eq_getElem?_getD, List.getElem?_eq_getElem hlt]; exact hpj, show F.pages.getD 0 [] = q by rw [List.getD_eq_getElem?_getD, List.getElem?_eq_getElem (by omega)]; exact hq0, show F.wear.getD j 0 = x by rw [List.getD_eq_getElem?_getD, List.getElem?_eq_getElem hlw]; exact hxj])
      clear hpj hq0 hxj
      have zp : (⟨p.toArray⟩ : ByteArray).size = p.length := by simp [ByteArray.size]
      have zq : (⟨q.toArray⟩ : ByteArray).size = q.length := by simp [ByteArray.size]
      have hij : 0 ≤ (j : Int) ∧ (j : Int) < (F.pages.length : Int) := by omega
      have hiw : 0 ≤ (j : Int) ∧ (j : Int) < (F.wear.length : Int) := by omega
      have hi0 : (0 : Int) < (F.pages.length : Int) := by omega
      by_cases tg1 : p.length < 1
      · have HM := Kept.mk (may_no (F := F) (fun h => by have := HGJ.out.1 (h.2 j hlt); omega))
        have g1 : decide ((p.length : Int) < 1) = true := by rw [decide_eq_true_eq]; omega
        clear HGJ
        clear tg1
        go_wp2_with fail
        go_region
        go_wp2
        go_ret
        exact ⟨by rw [HM.out]; rfl, HB.out.drew⟩
      have g1 : decide ((p.length : Int) < 1) = false := by rw [decide_eq_false_iff_not]; omega
      by_cases tg2 : 8192 < p.length
      · have HM := Kept.mk (may_no (F := F) (fun h => by have := HGJ.out.1 (h.2 j hlt); omega))
        have g2 : decide ((8192 : Int) < (p.length : Int)) = true := by rw [decide_eq_true_eq]; omega
        clear HGJ
        clear tg2
        go_wp2_with fail
        go_region
        go_wp2
        go_ret
        exact ⟨by rw [HM.out]; rfl, HB.out.drew⟩
      have g2 : decide ((8192 : Int) < (p.length : Int)) = false := by rw [decide_eq_false_iff_not]; omega
      by_cases tg3 : ¬ p.length = q.length
      · have HM := Kept.mk (may_no (F := F) (fun h => by have := HGJ.out.1 (h.2 j hlt); omega))
        have g3 : ((p.length : Int) != (q.length : Int)) = true := by simp; omega
        have g3b : ((p.length : Int) == (q.length : Int)) = false := by simp; omega
        clear HGJ
        clear tg3
        go_wp2_with fail
        go_region
        go_wp2
        go_ret
        exact ⟨by rw [HM.out]; rfl, HB.out.drew⟩
      have g3 : ((p.length : Int) != (q.length : Int)) = false := by simp; omega
      have g3b : ((p.length : Int) == (q.length : Int)) = true := by simp; omega
      by_cases tg4 : x < 0
      · have HM := Kept.mk (may_no (F := F) (fun h => by have := HGJ.out.1 (h.2 j hlt); omega))
        have g4 : decide (x < 0) = true := by rw [decide_eq_true_eq]; omega
        clear HGJ
        clear tg4
        go_wp2_with fail
        go_region
        go_wp2
        go_ret
        exact ⟨by rw [HM.out]; rfl, HB.out.drew⟩
      have g4 : decide (x < 0) = false := by rw [decide_eq_false_iff_not]; omega
      by_cases tg5 : 2147483647 < x
      · have HM := Kept.mk (may_no (F := F) (fun h => by have := HGJ.out.1 (h.2 j hlt); omega))
        have g5 : decide ((2147483647 : Int) < x) = true := by rw [decide_eq_true_eq]; omega
        clear HGJ
        clear tg5
        go_wp2_with fail
        go_region
        go_wp2
        go_ret
        exact ⟨by rw [HM.out]; rfl, HB.out.drew⟩
      have g5 : decide ((2147483647 : Int) < x) = false := by rw [decide_eq_false_iff_not]; omega
      have HGG := Kept.mk (HGJ.out.2 ⟨by omega, by omega, by omega, by omega, by omega⟩)
      clear HGJ tg3
      go_wp2_with fail
      go_region
      go_wp2
      go_roundw
      case rel => exact ⟨j + 1, by omega, by go_num, ⟨HB.out.drew⟩, ⟨HX.out.keep ((Below.refl _ _).drew)⟩, ⟨fun i hi => by by_cases e : i = j; exact e ▸ HGG.out; exact HGD.out i (by omega)⟩⟩
      case measure => simp [intOf]; omega
    · have e1 : decide ((j : Int) < (F.pages.length : Int)) = false := by simpa using hlt
      have HM := Kept.mk ((may_iff F).2 ⟨HPRE.out, fun i hi => HGD.out i (by omega)⟩)
      go_wp2
      go_ret
      exact ⟨by rw [HM.out]; rfl, HB.out⟩
end Go.Proofs.Ytpjafjnokgeifaa
end
section
namespace Go.Proofs.Ytpjafjnokgeifaa
open Go.RowKit
set_option linter.unusedVariables false
set_option linter.unusedSimpArgs false
attribute [local irreducible] setN

/-- A device that is looked at. -/
structure FewF (F : Fl) : Prop where
  pages : F.pages.length ≤ 1000
  wear : F.wear.length ≤ 1000
  torn : F.torn.length ≤ 9223372036854775807
  page : ∀ p ∈ F.pages, p.length ≤ 9223372036854775807
theorem rfcheck_any (F : Fl) (v : Value) (w : World) (hv : isFl F v w) (hf : FewF F) : Calls Try.prog 17 #[v] w fun e w' => e = .returned (.bool (mayB F)) ∧ Below w.heap.size w w' := by
  have z1 := hf.pages
  have z2 := hf.wear
  have z3 := hf.torn
  by_cases h1 : F.pages.length < 1
  · rw [may_no (fun h => by have := h.1.1; omega)]; exact rfcheck_no1 F v w hv (by omega) (by omega) (by omega) h1
  · by_cases h2 : 6 < F.pages.length
    · rw [may_no (fun h => by have := h.1.2.1; omega)]; exact rfcheck_no2 F v w hv (by omega) (by omega) (by omega) (by omega) h2
    · by_cases h3 : F.wear.length = F.pages.length
      · by_cases h4 : 64 < F.torn.length
        · rw [may_no (fun h => by have := h.1.2.2.2; omega)]; exact rfcheck_no4 F v w hv (by omega) (by omega) (by omega) (by omega) (by omega) h3 h4
        · exact rfcheck_loop F v w hv (by omega) (by omega) h3 (by omega) (fun p hp => by have := hf.page p hp; omega)
      · rw [may_no (fun h => h3 h.1.2.2.1)]; exact rfcheck_no3 F v w hv (by omega) (by omega) (by omega) (by omega) (by omega) h3
set_option maxRecDepth 100000 in
set_option maxHeartbeats 4000000 in
theorem rpage_any (F : Fl) (n : Int) (v : Value) (w : World) (hv : isFl F v w) (hf : FewF F) : Calls Try.prog 48 #[v, .int .i64 n] w fun e w' => e = .returned (.bool (hasB F n)) ∧ Below w.heap.size w w' := by
  have hv0 := hv
  obtain ⟨vp, vw, rfl, hpp, hqq⟩ := hv
  obtain ⟨ap, cp, rfl⟩ := hpp.len
  rw [List.length_map] at hv0 ⊢
  replace hv0 : isFl F (.agg #[.slice ap F.pages.length cp, vw, .int .i64 F.fuse, .string ⟨F.torn.toArray⟩, .bool F.dead]) w := hv0
  show Calls Try.prog 48 #[.agg #[.slice ap F.pages.length cp, vw, .int .i64 F.fuse, .string ⟨F.torn.toArray⟩, .bool F.dead], .int .i64 n] w _
  have HB := Kept.mk (lit_below w (.cells #[.slice ap F.pages.length cp, vw, .int .i64 F.fuse, .string ⟨F.torn.toArray⟩, .bool F.dead] 25))
  have HX := Kept.mk (Blk.new w 25 [.slice ap F.pages.length cp, vw, .int .i64 F.fuse, .string ⟨F.torn.toArray⟩, .bool F.dead] w.heap.size rfl)
  have HV := Kept.mk (stable_fl F _ _ _ hv0 HB.out)
  have hs : F.pages.length ≤ 1000 := hf.pages
  clear hpp hqq hv0
  go_enter Try.func48, Try.ntmps48
  go_wp2_with fail
  generalize w.alloc (.cells #[.slice ap F.pages.length cp, vw, .int .i64 F.fuse, .string ⟨F.torn.toArray⟩, .bool F.dead] 25) = W0 at *
  refine (rfcheck_any F _ W0 HV.out hf).mono ?_
  rintro e W1 ⟨rfl, hb⟩
  replace HX := Kept.mk (HX.out.keep hb)
  replace HB := Kept.mk (HB.out.trans (hb.mono HB.out.size))
  clear hb
  have k0 := HX.out.cells.2 0 _ rfl
  cases hm : mayB F with
  | false =>
    have HH := Kept.mk (show hasB F n = false by unfold hasB; rw [hm]; rfl)
    go_wp2
    go_ret
    exact ⟨by rw [HH.out]; rfl, HB.out⟩
  | true =>
    by_cases h0 : 0 ≤ n
    · have d0 : decide (0 ≤ n) = true := by simpa using h0
      have HH := Kept.mk (show hasB F n = decide (n < F.pages.length) by unfold hasB; rw [hm, d0]; rfl)
      go_wp2
      go_ret
      exact ⟨by rw [HH.out]; rfl, HB.out⟩
    · have d0 : decide (0 ≤ n) = false := by simpa using h0
      have HH := Kept.mk (show hasB F n = false by unfold hasB; rw [hm, d0]; rfl)
      go_wp2
      go_ret
      exact ⟨by rw [HH.out]; rfl, HB.out⟩
end Go.Proofs.Ytpjafjnokgeifaa
end
section
namespace Go.Proofs.Ytpjafjnokgeifaa
open Go.RowKit
set_option linter.unusedVariables false
set_option linter.unusedSimpArgs false
attribute [local irreducible] setN
set_option maxRecDepth 100000 in
set_option maxHeartbeats 4000000 in
theorem rwake_no1 (F : Fl) (fuse : Int) (torn : List UInt8) (v : Value) (w : World) (hv : isFl F v w) (hf : FewF F) (ht : torn.length ≤ 1000000) (hm : mayB F = false) :
    Calls Try.prog 13 #[v, .int .i64 fuse, .string ⟨torn.toArray⟩] w fun e w' => ∃ v', e = .returned (.tuple #[v', .int .i64 1]) ∧ isFl F v' w' ∧ Below w.heap.size w w' := by
  obtain ⟨vp, vw, rfl, hpp, hqq⟩ := hv
  have o1 := hpp.one
  have o2 := hqq.one
  have HP := Kept.mk hpp
  have HQ := Kept.mk hqq
  have hb0 := (lit_below w (.cells #[vp, vw, .int .i64 F.fuse, .string ⟨F.torn.toArray⟩, .bool F.dead] 25)).trans ((lit_below (w.alloc (.cells #[vp, vw, .int .i64 F.fuse, .string ⟨F.torn.toArray⟩, .bool F.dead] 25)) (.cells #[.slice none 0 0, .slice none 0 0, .int .i64 0, .string ⟨#[]⟩, .bool false] 25)).mono (lit_below w (.cells #[vp, vw, .int .i64 F.fuse, .string ⟨F.torn.toArray⟩, .bool F.dead] 25)).size)
  have HB := Kept.mk hb0
  have HX := Kept.mk ((Blk.new w 25 [vp, vw, .int .i64 F.fuse, .string ⟨F.torn.toArray⟩, .bool F.dead] w.heap.size rfl).alloc (.cells #[.slice none 0 0, .slice none 0 0, .int .i64 0, .string ⟨#[]⟩, .bool false] 25))
  have HR := Kept.mk (Blk.new (w.alloc (.cells #[vp, vw, .int .i64 F.fuse, .string ⟨F.torn.toArray⟩, .bool F.dead] 25)) 25 [.slice none 0 0, .slice none 0 0, .int .i64 0, .string ⟨#[]⟩, .bool false] (w.heap.size + 1) (by simp))
  have HV := Kept.mk (show isFl F (.agg #[vp, vw, .int .i64 F.fuse, .string ⟨F.torn.toArray⟩, .bool F.dead]) ((w.alloc (.cells #[vp, vw, .int .i64 F.fuse, .string ⟨F.torn.toArray⟩, .bool F.dead] 25)).alloc (.cells #[.slice none 0 0, .slice none 0 0, .int .i64 0, .string ⟨#[]⟩, .bool false] 25)) from ⟨vp, vw, rfl, stable_cells _ _ _ _ hpp hb0, stable_cells _ _ _ _ hqq hb0⟩)
  have hs0 : ((w.alloc (.cells #[vp, vw, .int .i64 F.fuse, .string ⟨F.torn.toArray⟩, .bool F.dead] 25)).alloc (.cells #[.slice none 0 0, .slice none 0 0, .int .i64 0, .string ⟨#[]⟩, .bool false] 25)).heap.size = w.heap.size + 2 := by simp
  clear hb0 hpp hqq
  show Calls Try.prog 13 #[.agg #[vp, vw, .int .i64 F.fuse, .string ⟨F.torn.toArray⟩, .bool F.dead], .int .i64 fuse, .string ⟨torn.toArray⟩] w _
  have HM := Kept.mk hm
  clear hm
  go_enter Try.func13, Try.ntmps13
  go_wp2_with fail
  generalize ((w.alloc (.cells #[vp, vw, .int .i64 F.fuse, .string ⟨F.torn.toArray⟩, .bool F.dead] 25)).alloc (.cells #[.slice none 0 0, .slice none 0 0, .int .i64 0, .string ⟨#[]⟩, .bool false] 25)) = W at *
  refine (rfcheck_any F _ W HV.out hf).mono ?_
  rintro e W1 ⟨rfl, hb⟩
  rewrite [HM.out]
  have hs1 := hb.size
  replace HX := Kept.mk (HX.out.keep hb)
  replace HR := Kept.mk (HR.out.keep hb)
  replace HB := Kept.mk (HB.out.trans (hb.mono HB.out.size))
  clear hb
  have kx0 := HX.out.cells.2 0 _ rfl
  have kx1 := HX.out.cells.2 1 _ rfl
  have kx2 := HX.out.cells.2 2 _ rfl
  have kx3 := HX.out.cells.2 3 _ rfl
  have kx4 := HX.out.cells.2 4 _ rfl
  have fx0 := HX.out.free 0
  have fx1 := HX.out.free 1
  have fx2 := HX.out.free 2
  have fx3 := HX.out.free 3
  have fx4 := HX.out.free 4
  have HR2 := HR
  have HB2 := HB
  have K5 : Kept (Ones [vp, vw, .int .i64 F.fuse, .string ⟨F.torn.toArray⟩, .bool F.dead]) := ⟨⟨o1, o2, rfl, rfl, rfl, trivial⟩⟩
  go_wp2_with (have hz1 := K5; refine wpList_storeN 25 rfl (.tmp 6) (.tmp 16) rfl (w.heap.size + 1) [vp, vw, .int .i64 F.fuse, .string ⟨F.torn.toArray⟩, .bool F.dead] size_fl rfl rfl HR2.out.cells rfl HR2.out.free K5.out ?_; clear hz1 K5)
  have B := below_setN (show w.heap.size ≤ w.heap.size + 1 by omega) [vp, vw, .int .i64 F.fuse, .string ⟨F.torn.toArray⟩, .bool F.dead] 0 _ HB2.out
  exact bodyPost_ret (resultsN2 rfl _ _ (w.heap.size + 1) _ (.int .i64 1) size_fl agg_fl rfl rfl (HR2.out.all_ (l := [vp, vw, .int .i64 F.fuse, .string ⟨F.torn.toArray⟩, .bool F.dead]) rfl).cells) rfl ⟨_, rfl, ⟨vp, vw, rfl, stable_cells _ _ _ _ HP.out B, stable_cells _ _ _ _ HQ.out B⟩, B⟩
set_option maxRecDepth 100000 in
set_option maxHeartbeats 4000000 in
theorem rwake_no2 (F : Fl) (fuse : Int) (torn : List UInt8) (v : Value) (w : World) (hv : isFl F v w) (hf : FewF F) (ht : torn.length ≤ 1000000) (hm : mayB F = true) (h64 : 64 < torn.length) :
    Calls Try.prog 13 #[v, .int .i64 fuse, .string ⟨torn.toArray⟩] w fun e w' => ∃ v', e = .returned (.tuple #[v', .int .i64 1]) ∧ isFl F v' w' ∧ Below w.heap.size w w' := by
  obtain ⟨vp, vw, rfl, hpp, hqq⟩ := hv
  have o1 := hpp.one
  have o2 := hqq.one
  have HP := Kept.mk hpp
  have HQ := Kept.mk hqq
  have hb0 := (lit_below w (.cells #[vp, vw, .int .i64 F.fuse, .string ⟨F.torn.toArray⟩, .bool F.dead] 25)).trans ((lit_below (w.alloc (.cells #[vp, vw, .int .i64 F.fuse, .string ⟨F.torn.toArray⟩, .bool F.dead] 25)) (.cells #[.slice none 0 0, .slice none 0 0, .int .i64 0, .string ⟨#[]⟩, .bool false] 25)).mono (lit_below w (.cells #[vp, vw, .int .i64 F.fuse, .string ⟨F.torn.toArray⟩, .bool F.dead] 25)).size)
  have HB := Kept.mk hb0
  have HX := Kept.mk ((Blk.new w 25 [vp, vw, .int .i64 F.fuse, .string ⟨F.torn.toArray⟩, .bool F.dead] w.heap.size rfl).alloc (.cells #[.slice none 0 0, .slice none 0 0, .int .i64 0, .string ⟨#[]⟩, .bool false] 25))
  have HR := Kept.mk (Blk.new (w.alloc (.cells #[vp, vw, .int .i64 F.fuse, .string ⟨F.torn.toArray⟩, .bool F.dead] 25)) 25 [.slice none 0 0, .slice none 0 0, .int .i64 0, .string ⟨#[]⟩, .bool false] (w.heap.size + 1) (by simp))
  have HV := Kept.mk (show isFl F (.agg #[vp, vw, .int .i64 F.fuse, .string ⟨F.torn.toArray⟩, .bool F.dead]) ((w.alloc (.cells #[vp, vw, .int .i64 F.fuse, .string ⟨F.torn.toArray⟩, .bool F.dead] 25)).alloc (.cells #[.slice none 0 0, .slice none 0 0, .int .i64 0, .string ⟨#[]⟩, .bool false] 25)) from ⟨vp, vw, rfl, stable_cells _ _ _ _ hpp hb0, stable_cells _ _ _ _ hqq hb0⟩)
  have hs0 : ((w.alloc (.cells #[vp, vw, .int .i64 F.fuse, .string ⟨F.torn.toArray⟩, .bool F.dead] 25)).alloc (.cells #[.slice none 0 0, .slice none 0 0, .int .i64 0, .string ⟨#[]⟩, .bool false] 25)).heap.size = w.heap.size + 2 := by simp
  clear hb0 hpp hqq
  show Calls Try.prog 13 #[.agg #[vp, vw, .int .i64 F.fuse, .string ⟨F.torn.toArray⟩, .bool F.dead], .int .i64 fuse, .string ⟨torn.toArray⟩] w _
  have HM := Kept.mk hm
  clear hm
  have hsz : (⟨torn.toArray⟩ : ByteArray).size = torn.length := size_mk torn
  have d1 : decide ((64 : Int) < (torn.length : Int)) = true := decide_eq_true (by omega)
  go_enter Try.func13, Try.ntmps13
  go_wp2_with fail
  generalize ((w.alloc (.cells #[vp, vw, .int .i64 F.fuse, .string ⟨F.torn.toArray⟩, .bool F.dead] 25)).alloc (.cells #[.slice none 0 0, .slice none 0 0, .int .i64 0, .string ⟨#[]⟩, .bool false] 25)) = W at *
  refine (rfcheck_any F _ W HV.out hf).mono ?_
  rintro e W1 ⟨rfl, hb⟩
  rewrite [HM.out]
  have hs1 := hb.size
  replace HX := Kept.mk (HX.out.keep hb)
  replace HR := Kept.mk (HR.out.keep hb)
  replace HB := Kept.mk (HB.out.trans (hb.mono HB.out.size))
  clear hb
  have kx0 := HX.out.cells.2 0 _ rfl
  have kx1 := HX.out.cells.2 1 _ rfl
  have kx2 := HX.out.cells.2 2 _ rfl
  have kx3 := HX.out.cells.2 3 _ rfl
  have kx4 := HX.out.cells.2 4 _ rfl
  have fx0 := HX.out.free 0
  have fx1 := HX.out.free 1
  have fx2 := HX.out.free 2
  have fx3 := HX.out.free 3
  have fx4 := HX.out.free 4
  have HR2 := HR
  have HB2 := HB
  have K5 : Kept (Ones [vp, vw, .int .i64 F.fuse, .string ⟨F.torn.toArray⟩, .bool F.dead]) := ⟨⟨o1, o2, rfl, rfl, rfl, trivial⟩⟩
  go_wp2_with (have hz1 := K5; refine wpList_storeN 25 rfl (.tmp 6) (.tmp 16) rfl (w.heap.size + 1) [vp, vw, .int .i64 F.fuse, .string ⟨F.torn.toArray⟩, .bool F.dead] size_fl rfl rfl HR2.out.cells rfl HR2.out.free K5.out ?_; clear hz1 K5)
  have B := below_setN (show w.heap.size ≤ w.heap.size + 1 by omega) [vp, vw, .int .i64 F.fuse, .string ⟨F.torn.toArray⟩, .bool F.dead] 0 _ HB2.out
  exact bodyPost_ret (resultsN2 rfl _ _ (w.heap.size + 1) _ (.int .i64 1) size_fl agg_fl rfl rfl (HR2.out.all_ (l := [vp, vw, .int .i64 F.fuse, .string ⟨F.torn.toArray⟩, .bool F.dead]) rfl).cells) rfl ⟨_, rfl, ⟨vp, vw, rfl, stable_cells _ _ _ _ HP.out B, stable_cells _ _ _ _ HQ.out B⟩, B⟩
set_option maxRecDepth 100000 in
set_option maxHeartbeats 4000000 in
theorem rwake_yes (F : Fl) (fuse : Int) (torn : List UInt8) (v : Value) (w : World) (hv : isFl F v w) (hf : FewF F) (ht : torn.length ≤ 1000000) (hm : mayB F = true) (h64 : ¬ 64 < torn.length) :
    Calls Try.prog 13 #[v, .int .i64 fuse, .string ⟨torn.toArray⟩] w fun e w' => ∃ v', e = .returned (.tuple #[v', .int .i64 0]) ∧ isFl { F with fuse := fuse, torn := torn, dead := false } v' w' ∧ Below w.heap.size w w' := by
  obtain ⟨vp, vw, rfl, hpp, hqq⟩ := hv
  have o1 := hpp.one
  have o2 := hqq.one
  have HP := Kept.mk hpp
  have HQ := Kept.mk hqq
  have hb0 := (lit_below w (.cells #[vp, vw, .int .i64 F.fuse, .string ⟨F.torn.toArray⟩, .bool F.dead] 25)).trans ((lit_below (w.alloc (.cells #[vp, vw, .int .i64 F.fuse, .string ⟨F.torn.toArray⟩, .bool F.dead] 25)) (.cells #[.slice none 0 0, .slice none 0 0, .int .i64 0, .string ⟨#[]⟩, .bool false] 25)).mono (lit_below w (.cells #[vp, vw, .int .i64 F.fuse, .string ⟨F.torn.toArray⟩, .bool F.dead] 25)).size)
  have HB := Kept.mk hb0
  have HX := Kept.mk ((Blk.new w 25 [vp, vw, .int .i64 F.fuse, .string ⟨F.torn.toArray⟩, .bool F.dead] w.heap.size rfl).alloc (.cells #[.slice none 0 0, .slice none 0 0, .int .i64 0, .string ⟨#[]⟩, .bool false] 25))
  have HR := Kept.mk (Blk.new (w.alloc (.cells #[vp, vw, .int .i64 F.fuse, .string ⟨F.torn.toArray⟩, .bool F.dead] 25)) 25 [.slice none 0 0, .slice none 0 0, .int .i64 0, .string ⟨#[]⟩, .bool false] (w.heap.size + 1) (by simp))
  have HV := Kept.mk (show isFl F (.agg #[vp, vw, .int .i64 F.fuse, .string ⟨F.torn.toArray⟩, .bool F.dead]) ((w.alloc (.cells #[vp, vw, .int .i64 F.fuse, .string ⟨F.torn.toArray⟩, .bool F.dead] 25)).alloc (.cells #[.slice none 0 0, .slice none 0 0, .int .i64 0, .string ⟨#[]⟩, .bool false] 25)) from ⟨vp, vw, rfl, stable_cells _ _ _ _ hpp hb0, stable_cells _ _ _ _ hqq hb0⟩)
  have hs0 : ((w.alloc (.cells #[vp, vw, .int .i64 F.fuse, .string ⟨F.torn.toArray⟩, .bool F.dead] 25)).alloc (.cells #[.slice none 0 0, .slice none 0 0, .int .i64 0, .string ⟨#[]⟩, .bool false] 25)).heap.size = w.heap.size + 2 := by simp
  clear hb0 hpp hqq
  show Calls Try.prog 13 #[.agg #[vp, vw, .int .i64 F.fuse, .string ⟨F.torn.toArray⟩, .bool F.dead], .int .i64 fuse, .string ⟨torn.toArray⟩] w _
  have HM := Kept.mk hm
  clear hm
  have hsz : (⟨torn.toArray⟩ : ByteArray).size = torn.length := size_mk torn
  have d1 : decide ((64 : Int) < (torn.length : Int)) = false := decide_eq_false (by omega)
  go_enter Try.func13, Try.ntmps13
  go_wp2_with fail
  generalize ((w.alloc (.cells #[vp, vw, .int .i64 F.fuse, .string ⟨F.torn.toArray⟩, .bool F.dead] 25)).alloc (.cells #[.slice none 0 0, .slice none 0 0, .int .i64 0, .string ⟨#[]⟩, .bool false] 25)) = W at *
  refine (rfcheck_any F _ W HV.out hf).mono ?_
  rintro e W1 ⟨rfl, hb⟩
  rewrite [HM.out]
  have hs1 := hb.size
  replace HX := Kept.mk (HX.out.keep hb)
  replace HR := Kept.mk (HR.out.keep hb)
  replace HB := Kept.mk (HB.out.trans (hb.mono HB.out.size))
  clear hb
  have kx0 := HX.out.cells.2 0 _ rfl
  have kx1 := HX.out.cells.2 1 _ rfl
  have kx2 := HX.out.cells.2 2 _ rfl
  have kx3 := HX.out.cells.2 3 _ rfl
  have kx4 := HX.out.cells.2 4 _ rfl
  have fx0 := HX.out.free 0
  have fx1 := HX.out.free 1
  have fx2 := HX.out.free 2
  have fx3 := HX.out.free 3
  have fx4 := HX.out.free 4
  have HR2 := Kept.mk (((HR.out.apart (b' := w.heap.size) (by omega) 4 (.bool false)).apart (b' := w.heap.size) (by omega) 2 (.int .i64 fuse)).apart (b' := w.heap.size) (by omega) 3 (.string ⟨torn.toArray⟩))
  have HB2 := Kept.mk (((HB.out.setCell (p := ⟨w.heap.size, 4, none⟩) (Nat.le_refl _) (.bool false)).setCell (p := ⟨w.heap.size, 2, none⟩) (Nat.le_refl _) (.int .i64 fuse)).setCell (p := ⟨w.heap.size, 3, none⟩) (Nat.le_refl _) (.string ⟨torn.toArray⟩))
  have K5 : Kept (Ones [vp, vw, .int .i64 fuse, .string ⟨torn.toArray⟩, .bool false]) := ⟨⟨o1, o2, rfl, rfl, rfl, trivial⟩⟩
  go_wp2_with (have hz1 := K5; refine wpList_storeN 25 rfl (.tmp 6) (.tmp 22) rfl (w.heap.size + 1) [vp, vw, .int .i64 fuse, .string ⟨torn.toArray⟩, .bool false] size_fl rfl rfl HR2.out.cells rfl HR2.out.free K5.out ?_; clear hz1 K5)
  have B := below_setN (show w.heap.size ≤ w.heap.size + 1 by omega) [vp, vw, .int .i64 fuse, .string ⟨torn.toArray⟩, .bool false] 0 _ HB2.out
  exact bodyPost_ret (resultsN2 rfl _ _ (w.heap.size + 1) _ (.int .i64 0) size_fl agg_fl rfl rfl (HR2.out.all_ (l := [vp, vw, .int .i64 fuse, .string ⟨torn.toArray⟩, .bool false]) rfl).cells) rfl ⟨_, rfl, ⟨vp, vw, rfl, stable_cells _ _ _ _ HP.out B, stable_cells _ _ _ _ HQ.out B⟩, B⟩
theorem rwake_any (F : Fl) (fuse : Int) (torn : List UInt8) (v : Value) (w : World) (hv : isFl F v w) (hf : FewF F) (ht : torn.length ≤ 1000000) :
    Calls Try.prog 13 #[v, .int .i64 fuse, .string ⟨torn.toArray⟩] w fun e w' => ∃ v', e = .returned (.tuple #[v', .int .i64 (wakeE F torn)]) ∧ isFl (wakeF F fuse torn) v' w' ∧ Below w.heap.size w w' := by
  unfold wakeE wakeF
  cases hm : mayB F with
  | false =>
    rw [if_neg (by simp [wakeB, hm]), if_neg (by simp [wakeB, hm])]
    exact rwake_no1 F fuse torn v w hv hf ht hm
  | true =>
    by_cases h : 64 < torn.length
    · have hb : ¬ wakeB F torn = true := by simp [wakeB, hm]; omega
      rw [if_neg hb, if_neg hb]
      exact rwake_no2 F fuse torn v w hv hf ht hm h
    · have hb : wakeB F torn = true := by simp [wakeB, hm]; omega
      rw [if_pos hb, if_pos hb]
      exact rwake_yes F fuse torn v w hv hf ht hm h
end Go.Proofs.Ytpjafjnokgeifaa
end
section
namespace Go.Proofs.Ytpjafjnokgeifaa
open Go.RowKit
set_option linter.unusedVariables false
set_option linter.unusedSimpArgs false
/-- Each of the first ones is waited for by a later one of them, or by the first of the last ones; each other of these waits for the one ahead of it. -/
def tailOkC (ops : Array Oper) (k0 : Nat) : Bool :=
  decide (k0 ≤ ops.size) && (List.range ops.size).all fun j => if j < k0 then ((List.range (k0 + 1)).any fun i => decide (j < i) && waits ops i j) else if j = k0 then true else waits ops j (j - 1)
section
variable {P : Program} {ops : Array Oper} {base : World} {a0 : Act} {Q : Exit → Act → World → Prop}
theorem wpAny_tailC {n k0 : Nat} (hok : flowOk ops n = true) (ht : tailOkC ops k0 = true) : ∀ (c i fuel : Nat) (listed : Array Bool) (a : Act) (w : World), i + c = ops.size → k0 ≤ i → c ≤ fuel → listed.size = ops.size →
    (∀ j, j < ops.size → listed.getD j false = decide (j < i)) → Tail P ops Q c i a w → wpAny P .any ops Q fuel listed a w := by
  have tk : ∀ j, j < ops.size → k0 < j → waits ops j (j - 1) = true := by
    intro j hj hk
    unfold tailOkC at ht
    simp only [Bool.and_eq_true, List.all_eq_true, List.mem_range] at ht
    have := ht.2 j hj
    rwa [if_neg (by omega), if_neg (by omega)] at this
  intro c
  induction c with
  | zero =>
    intro i fuel listed a w hi hk hc hl hd h
    have hr : Region.ready .any ops listed = [] := by
      apply List.eq_nil_iff_forall_not_mem.2
      intro j hj
      have := ready_un hl hj
      rw [hd j this.1] at this
      simp at this
      omega
    cases fuel with
    | zero => exact ⟨hr, h⟩
    | succ fuel => exact ⟨fun _ => h, fun j hj => by rw [hr] at hj; cases hj⟩
  | succ c ih =>
    intro i fuel listed a w hi hk hc hl hd h
    cases fuel with
    | zero => omega
    | succ fuel =>
      have hmem : i ∈ Region.ready .any ops listed := ready_of hok hl (by omega) (by rw [hd i (by omega)]; simp) (fun j hj => by rw [hd j (by omega)]; simpa using hj)
      refine ⟨fun hr => (by rw [hr] at hmem; cases hmem), fun j hj => ?_⟩
      have hju := ready_un hl hj
      have hji : j = i := by
        rw [hd j hju.1] at hju
        have hge : i ≤ j := by simpa using hju.2
        by_cases e : j = i
        · exact e
        · exfalso
          have := waits_ready hj (tk j hju.1 (by omega))
          rw [hd (j - 1) (by omega)] at this
          simp at this
          omega
      subst hji
      refine wpOp_mono ?_ h
      intro a' w' h'
      refine ih (j + 1) fuel (listed.setIfInBounds j true) a' w' (by omega) (by omega) (by omega) (by simpa using hl) ?_ h'
      intro m hm
      by_cases e : m = j
      · subst e; rw [getD_set_same (by omega)]; simp
      · rw [getD_set_ne e, hd m hm, decide_eq_decide]; omega

theorem wpAny_flowTailC {k0 : Nat} (hok : flowOk ops a0.tmps.size = true) (ht : tailOkC ops k0 = true) {kn : Nat → VP} (hs : ∀ m, m < k0 → FStep P ops base a0 Q kn m (kn m))
    (he : FlowTail P ops base a0 Q k0 (ops.size - k0) 0 k0 kn) :
    ∀ (u fuel : Nat) (listed : Array Bool) (a : Act) (w : World), listed.size = ops.size → ((List.range k0).filter fun i => !listed.getD i false).length ≤ u → u + (ops.size - k0) ≤ fuel → (∀ j, k0 ≤ j → listed.getD j false = false) → (∀ j, listed.getD j false = true → ∀ m, waits ops j m = true → listed.getD m false = true) →
      FKept ops a0 a → Below base.heap.size base w → (∀ j, listed.getD j false = true → FDone ops kn a w j) → wpAny P .any ops Q fuel listed a w := by
  obtain ⟨ok1, ok2, ok3⟩ := flowOk_spec hok
  have hk0 : k0 ≤ ops.size := by unfold tailOkC at ht; simp only [Bool.and_eq_true, decide_eq_true_eq] at ht; exact ht.1
  have tk : ∀ j, j < ops.size → k0 < j → waits ops j (j - 1) = true := by
    intro j hj hk
    unfold tailOkC at ht
    simp only [Bool.and_eq_true, List.all_eq_true, List.mem_range] at ht
    have := ht.2 j hj
    rwa [if_neg (by omega), if_neg (by omega)] at this
  have tk0 : ∀ m, m < k0 → ∃ j, m < j ∧ j ≤ k0 ∧ waits ops j m = true := by
    intro m hk
    unfold tailOkC at ht
    simp only [Bool.and_eq_true, List.all_eq_true, List.mem_range] at ht
    have := ht.2 m (by omega)
    rw [if_pos hk, List.any_eq_true] at this
    obtain ⟨j, hj, h⟩ := this
    rw [Bool.and_eq_true, decide_eq_true_eq] at h
    exact ⟨j, h.1, by simpa [Nat.lt_succ_iff] using hj, h.2⟩
  intro u
  induction u with
  | zero =>
    intro fuel listed a w hl hu hf htl hcl hk hb hd
    have hall : ∀ j, j < k0 → listed.getD j false = true := by
      intro j hj
      have h0 : ((List.range k0).filter fun i => !listed.getD i false) = [] := List.eq_nil_of_length_eq_zero (by omega)
      rw [List.filter_eq_nil_iff] at h0
      have := h0 j (by simpa using hj)
      simpa using this
    refine wpAny_tailC hok ht (ops.size - k0) k0 fuel listed a w (by omega) (Nat.le_refl _) (by omega) hl ?_ (he a w hk hb (fun j hj => hd j (hall j hj)))
    intro j hj
    by_cases e : j < k0
    · rw [hall j e]; simp [e]
    · rw [htl j (by omega)]; simp [e]
  | succ u ih =>
    intro fuel listed a w hl hu hf htl hcl hk hb hd
    by_cases hall : ∀ j, j < k0 → listed.getD j false = true
    · refine wpAny_tailC hok ht (ops.size - k0) k0 fuel listed a w (by omega) (Nat.le_refl _) (by omega) hl ?_ (he a w hk hb (fun j hj => hd j (hall j hj)))
      intro j hj
      by_cases e : j < k0
      · rw [hall j e]; simp [e]
      · rw [htl j (by omega)]; simp [e]
    · -- the least that is not yet done
      have hex : ∃ m, m < k0 ∧ listed.getD m false = false ∧ ∀ j, j < m → listed.getD j false = true := by
        have key : ∀ n, n ≤ k0 → (∀ j, j < n → listed.getD j false = true) ∨ ∃ m, m < n ∧ listed.getD m false = false ∧ ∀ j, j < m → listed.getD j false = true := by
          intro n
          induction n with
          | zero => intro _; exact .inl (fun j hj => absurd hj (by omega))
          | succ n ihn =>
            intro hn
            rcases ihn (by omega) with h | ⟨m, hm, h1, h2⟩
            · cases hc : listed.getD n false with
              | true => exact .inl (fun j hj => by by_cases e : j = n; exact e ▸ hc; exact h j (by omega))
              | false => exact .inr ⟨n, by omega, hc, h⟩
            · exact .inr ⟨m, by omega, h1, h2⟩
        rcases key k0 (Nat.le_refl _) with h | h
        · exact absurd h hall
        · exact h
      obtain ⟨m, hm, hmu, hmd⟩ := hex
      have hmem : m ∈ Region.ready .any ops listed := ready_of hok hl (by omega) hmu hmd
      cases fuel with
      | zero => omega
      | succ fuel =>
        refine ⟨fun hr => (by rw [hr] at hmem; cases hmem), fun i hi => ?_⟩
        have hiu := ready_un hl hi
        have hik : i < k0 := by
          by_cases e : i < k0
          · exact e
          · exfalso
            by_cases e2 : i = k0
            · subst e2
              have cov : ∀ d m, m + d = i → 0 < d → listed.getD m false = true := by
                intro d
                induction d using Nat.strongRecOn with
                | _ d ihd =>
                  intro m' hm' hd'
                  obtain ⟨j, h1, h2, h3⟩ := tk0 m' (by omega)
                  by_cases e3 : j = i
                  · rw [e3] at h3; exact waits_ready hi h3
                  · exact hcl j (ihd (i - j) (by omega) j (by omega) (by omega)) m' h3
              have := cov (i - m) m (by omega) (by omega)
              rw [hmu] at this
              cases this
            · have := waits_ready hi (tk i hiu.1 (by omega))
              rw [htl (i - 1) (by omega)] at this
              cases this
        obtain ⟨o, ho⟩ : ∃ o, ops[i]? = some o := ⟨_, Array.getElem?_eq_getElem hiu.1⟩
        have hstep := (hs i hik).2 o ho a w hk hb (by
          intro o' ho' e he' hbd
          rw [ho] at ho'
          cases ho'
          refine hd e.on (waits_ready hi ?_)
          unfold waits
          rw [ho]
          simp only [Option.any_some, List.any_eq_true, Bool.and_eq_true, beq_iff_eq]
          exact ⟨e, he', rfl, hbd⟩)
        refine wpOp_mono ?_ hstep
        rintro a' w' ⟨v, rfl, hV, hbw⟩
        refine ih fuel (listed.setIfInBounds i true) _ w' (by simpa using hl) ?_ (by omega) ?_ ?_ ?_ (hb.trans (hbw.mono hb.size)) ?_
        · have hsub : ((List.range k0).filter fun j => !(listed.setIfInBounds i true).getD j false).length < ((List.range k0).filter fun j => !listed.getD j false).length := by
            have e1 : ((List.range k0).filter fun j => !(listed.setIfInBounds i true).getD j false) = ((List.range k0).filter fun j => !listed.getD j false).filter (fun j => j != i) := by
              rw [List.filter_filter]
              apply List.filter_congr
              intro j hj
              by_cases e : j = i
              · subst e; rw [getD_set_same (by omega)]; simp
              · rw [getD_set_ne e]; simp [e]
            rw [e1]
            refine List.length_filter_lt_length_iff_exists.2 ⟨i, ?_, by simp⟩
            simp only [List.mem_filter, List.mem_range]
            exact ⟨hik, by rw [hiu.2]; rfl⟩
          omega
        · intro j hj
          rw [getD_set_ne (by omega)]
          exact htl j hj
        · intro j hj m' hm'
          by_cases e4 : m' = i
          · subst e4; exact getD_set_same (by omega)
          · rw [getD_set_ne e4]
            by_cases e5 : j = i
            · subst e5; exact waits_ready hi hm'
            · rw [getD_set_ne e5] at hj; exact hcl j hj m' hm'
        · refine ⟨by rw [defers_put]; exact hk.1, by rw [size_put]; exact hk.2.1, fun t ht' => ?_⟩
          cases hdst : o.dst with
          | none => simp only [Act.put]; exact hk.2.2 t ht'
          | some s =>
            have : s ≠ t := by
              rintro rfl
              have := List.all_eq_true.1 ht' o (by rw [Array.mem_toList_iff]; exact Array.mem_of_getElem? ho)
              rw [hdst] at this
              simp at this
            rw [getD_put (fun h => this h.symm)]
            exact hk.2.2 t ht'
        · intro j hj o' ho' t ht'
          by_cases e : j = i
          · subst e
            rw [ho] at ho'
            cases ho'
            rw [ht', getD_put_self (by rw [hk.2.1]; exact ok3 j o t ho ht')]
            exact hV
          · rw [getD_set_ne e] at hj
            have hne : o.dst ≠ some t := fun hh => e (ok2 j i o' o t ho' ho ht' hh)
            have hold := hd j hj o' ho' t ht'
            have hslot : (a.put o.dst v).tmps.getD t undef = a.tmps.getD t undef := by
              cases hdst : o.dst with
              | none => rfl
              | some s => exact getD_put (fun h => hne (by rw [hdst, h]))
            rw [hslot]
            have hjk : j < k0 := by
              by_cases e2 : j < k0
              · exact e2
              · rw [htl j (by omega)] at hj; cases hj
            exact (hs j hjk).1 _ _ _ hold hbw

/-- THE LAW. -/
theorem wp_region_cov (k0 : Nat) {id : Nat} {a : Act} {w : World} (hm : P.follows .mixedOrders = true) (hok : flowOk ops a.tmps.size = true) (ht : tailOkC ops k0 = true)
    (h : FlowTail P ops w a Q k0 (ops.size - k0) k0 0 (fun _ _ _ => False)) : (Code.region id ops true).wp P Q a w := by
  refine wp_region_any hm ?_
  obtain ⟨kn, hs, he⟩ := flowTail_family hok k0 0 _ (by omega) (fun m hm => absurd hm (by omega)) h
  have hk0 : k0 ≤ ops.size := by unfold tailOkC at ht; simp only [Bool.and_eq_true, decide_eq_true_eq] at ht; exact ht.1
  refine wpAny_flowTailC hok ht hs he k0 ops.size _ a _ (by simp) ?_ (by omega) ?_ ?_ ⟨rfl, rfl, fun _ _ => rfl⟩ ((Below.refl _ w).drew) ?_
  · exact Nat.le_trans (List.length_filter_le _ _) (by simp)
  · intro j hj
    simp [Array.getD_eq_getD_getElem?, Array.getElem?_replicate]
    split <;> rfl
  · intro j hj
    simp [Array.getD_eq_getD_getElem?, Array.getElem?_replicate] at hj
    split at hj <;> simp at hj
  · intro j hj
    simp [Array.getD_eq_getD_getElem?, Array.getElem?_replicate] at hj
    split at hj <;> simp at hj
end
section
variable {R : World → World → Prop} {P : Program} {ops : Array Oper} {base : World} {a0 : Act} {Q : Exit → Act → World → Prop}
theorem wpAny_relTailC {k0 : Nat} (hR : Pre R) (hok : flowOk ops a0.tmps.size = true) (ht : tailOkC ops k0 = true) {kn : Nat → VP} (hs : ∀ m, m < k0 → RStep R P ops base a0 Q k0 kn m (kn m))
    (he : RelTail R P ops base a0 Q k0 (ops.size - k0) 0 k0 kn) :
    ∀ (u fuel : Nat) (listed : Array Bool) (a : Act) (w : World), listed.size = ops.size → ((List.range k0).filter fun i => !listed.getD i false).length ≤ u → u + (ops.size - k0) ≤ fuel → (∀ j, k0 ≤ j → listed.getD j false = false) → (∀ j, listed.getD j false = true → ∀ m, waits ops j m = true → listed.getD m false = true) →
      FKeptN ops k0 a0 a → R base w → (∀ j, listed.getD j false = true → RDone ops kn a w j) → wpAny P .any ops Q fuel listed a w := by
  obtain ⟨ok1, ok2, ok3⟩ := flowOk_spec hok
  have hk0 : k0 ≤ ops.size := by unfold tailOkC at ht; simp only [Bool.and_eq_true, decide_eq_true_eq] at ht; exact ht.1
  have tk : ∀ j, j < ops.size → k0 < j → waits ops j (j - 1) = true := by
    intro j hj hk
    unfold tailOkC at ht
    simp only [Bool.and_eq_true, List.all_eq_true, List.mem_range] at ht
    have := ht.2 j hj
    rwa [if_neg (by omega), if_neg (by omega)] at this
  have tk0 : ∀ m, m < k0 → ∃ j, m < j ∧ j ≤ k0 ∧ waits ops j m = true := by
    intro m hk
    unfold tailOkC at ht
    simp only [Bool.and_eq_true, List.all_eq_true, List.mem_range] at ht
    have := ht.2 m (by omega)
    rw [if_pos hk, List.any_eq_true] at this
    obtain ⟨j, hj, h⟩ := this
    rw [Bool.and_eq_true, decide_eq_true_eq] at h
    exact ⟨j, h.1, by simpa [Nat.lt_succ_iff] using hj, h.2⟩
  intro u
  induction u with
  | zero =>
    intro fuel listed a w hl hu hf htl hcl hk hb hd
    have hall : ∀ j, j < k0 → listed.getD j false = true := by
      intro j hj
      have h0 : ((List.range k0).filter fun i => !listed.getD i false) = [] := List.eq_nil_of_length_eq_zero (by omega)
      rw [List.filter_eq_nil_iff] at h0
      have := h0 j (by simpa using hj)
      simpa using this
    refine wpAny_tailC hok ht (ops.size - k0) k0 fuel listed a w (by omega) (Nat.le_refl _) (by omega) hl ?_ (he a w hk hb (fun j hj => hd j (hall j hj)))
    intro j hj
    by_cases e : j < k0
    · rw [hall j e]; simp [e]
    · rw [htl j (by omega)]; simp [e]
  | succ u ih =>
    intro fuel listed a w hl hu hf htl hcl hk hb hd
    by_cases hall : ∀ j, j < k0 → listed.getD j false = true
    · refine wpAny_tailC hok ht (ops.size - k0) k0 fuel listed a w (by omega) (Nat.le_refl _) (by omega) hl ?_ (he a w hk hb (fun j hj => hd j (hall j hj)))
      intro j hj
      by_cases e : j < k0
      · rw [hall j e]; simp [e]
      · rw [htl j (by omega)]; simp [e]
    · -- the least that is not yet done
      have hex : ∃ m, m < k0 ∧ listed.getD m false = false ∧ ∀ j, j < m → listed.getD j false = true := by
        have key : ∀ n, n ≤ k0 → (∀ j, j < n → listed.getD j false = true) ∨ ∃ m, m < n ∧ listed.getD m false = false ∧ ∀ j, j < m → listed.getD j false = true := by
          intro n
          induction n with
          | zero => intro _; exact .inl (fun j hj => absurd hj (by omega))
          | succ n ihn =>
            intro hn
            rcases ihn (by omega) with h | ⟨m, hm, h1, h2⟩
            · cases hc : listed.getD n false with
              | true => exact .inl (fun j hj => by by_cases e : j = n; exact e ▸ hc; exact h j (by omega))
              | false => exact .inr ⟨n, by omega, hc, h⟩
            · exact .inr ⟨m, by omega, h1, h2⟩
        rcases key k0 (Nat.le_refl _) with h | h
        · exact absurd h hall
        · exact h
      obtain ⟨m, hm, hmu, hmd⟩ := hex
      have hmem : m ∈ Region.ready .any ops listed := ready_of hok hl (by omega) hmu hmd
      cases fuel with
      | zero => omega
      | succ fuel =>
        refine ⟨fun hr => (by rw [hr] at hmem; cases hmem), fun i hi => ?_⟩
        have hiu := ready_un hl hi
        have hik : i < k0 := by
          by_cases e : i < k0
          · exact e
          · exfalso
            by_cases e2 : i = k0
            · subst e2
              have cov : ∀ d m, m + d = i → 0 < d → listed.getD m false = true := by
                intro d
                induction d using Nat.strongRecOn with
                | _ d ihd =>
                  intro m' hm' hd'
                  obtain ⟨j, h1, h2, h3⟩ := tk0 m' (by omega)
                  by_cases e3 : j = i
                  · rw [e3] at h3; exact waits_ready hi h3
                  · exact hcl j (ihd (i - j) (by omega) j (by omega) (by omega)) m' h3
              have := cov (i - m) m (by omega) (by omega)
              rw [hmu] at this
              cases this
            · have := waits_ready hi (tk i hiu.1 (by omega))
              rw [htl (i - 1) (by omega)] at this
              cases this
        obtain ⟨o, ho⟩ : ∃ o, ops[i]? = some o := ⟨_, Array.getElem?_eq_getElem hiu.1⟩
        have hstep := (hs i hik).2 o ho a w hk hb (by
          intro o' ho' e he' hbd
          rw [ho] at ho'
          cases ho'
          refine hd e.on (waits_ready hi ?_)
          unfold waits
          rw [ho]
          simp only [Option.any_some, List.any_eq_true, Bool.and_eq_true, beq_iff_eq]
          exact ⟨e, he', rfl, hbd⟩)
        refine wpOp_mono ?_ hstep
        rintro a' w' ⟨v, rfl, hvn, hV, hbw⟩
        refine ih fuel (listed.setIfInBounds i true) _ w' (by simpa using hl) ?_ (by omega) ?_ ?_ ?_ (hR.trans _ _ _ hb hbw) ?_
        · have hsub : ((List.range k0).filter fun j => !(listed.setIfInBounds i true).getD j false).length < ((List.range k0).filter fun j => !listed.getD j false).length := by
            have e1 : ((List.range k0).filter fun j => !(listed.setIfInBounds i true).getD j false) = ((List.range k0).filter fun j => !listed.getD j false).filter (fun j => j != i) := by
              rw [List.filter_filter]
              apply List.filter_congr
              intro j hj
              by_cases e : j = i
              · subst e; rw [getD_set_same (by omega)]; simp
              · rw [getD_set_ne e]; simp [e]
            rw [e1]
            refine List.length_filter_lt_length_iff_exists.2 ⟨i, ?_, by simp⟩
            simp only [List.mem_filter, List.mem_range]
            exact ⟨hik, by rw [hiu.2]; rfl⟩
          omega
        · intro j hj
          rw [getD_set_ne (by omega)]
          exact htl j hj
        · intro j hj m' hm'
          by_cases e4 : m' = i
          · subst e4; exact getD_set_same (by omega)
          · rw [getD_set_ne e4]
            by_cases e5 : j = i
            · subst e5; exact waits_ready hi hm'
            · rw [getD_set_ne e5] at hj; exact hcl j hj m' hm'
        · refine ⟨by rw [defers_put]; exact hk.1, by rw [size_put]; exact hk.2.1, fun t ht' => ?_⟩
          cases hdst : o.dst with
          | none => simp only [Act.put]; exact hk.2.2 t ht'
          | some s =>
            have : s ≠ t := by
              rintro rfl
              have := List.all_eq_true.1 ht' i (by simpa using hik)
              rw [ho] at this
              simp [hdst] at this
            rw [getD_put (fun h => this h.symm)]
            exact hk.2.2 t ht'
        · intro j hj o' ho'
          by_cases e : j = i
          · subst e
            rw [ho] at ho'
            cases ho'
            cases hdst : o.dst with
            | none => rw [hvn hdst] at hV; exact hV
            | some t =>
              show kn j (_) w'
              simp only []
              rw [getD_put_self (by rw [hk.2.1]; exact ok3 j o t ho hdst)]
              exact hV
          · rw [getD_set_ne e] at hj
            have hold := hd j hj o' ho'
            have hjk : j < k0 := by
              by_cases e2 : j < k0
              · exact e2
              · rw [htl j (by omega)] at hj; cases hj
            refine (hs j hjk).1 _ _ _ ?_ hbw
            cases hdst' : o'.dst with
            | none => rw [hdst'] at hold; exact hold
            | some t =>
              rw [hdst'] at hold
              have hne : o.dst ≠ some t := fun hh => e (ok2 j i o' o t ho' ho hdst' hh)
              have hslot : (a.put o.dst v).tmps.getD t undef = a.tmps.getD t undef := by
                cases hdst : o.dst with
                | none => rfl
                | some s => exact getD_put (fun h => hne (by rw [hdst, h]))
              simp only [hslot]
              exact hold

theorem wp_region_relC (hR : Pre R) (k0 : Nat) {id : Nat} {a : Act} {w : World} (hm : P.follows .mixedOrders = true) (hok : flowOk ops a.tmps.size = true) (ht : tailOkC ops k0 = true)
    (h : RelTail R P ops w a Q k0 (ops.size - k0) k0 0 (fun _ _ _ => False)) : (Code.region id ops true).wp P Q a w := by
  refine wp_region_any hm ?_
  obtain ⟨kn, hs, he⟩ := relTail_family hok k0 0 _ (by omega) (fun m hm => absurd hm (by omega)) h
  have hk0 : k0 ≤ ops.size := by unfold tailOkC at ht; simp only [Bool.and_eq_true, decide_eq_true_eq] at ht; exact ht.1
  refine wpAny_relTailC hR hok ht hs he k0 ops.size _ a _ (by simp) ?_ (by omega) ?_ ?_ ⟨rfl, rfl, fun _ _ => rfl⟩ (hR.drew w) ?_
  · exact Nat.le_trans (List.length_filter_le _ _) (by simp)
  · intro j hj
    simp [Array.getD_eq_getD_getElem?, Array.getElem?_replicate]
    split <;> rfl
  · intro j hj
    simp [Array.getD_eq_getD_getElem?, Array.getElem?_replicate] at hj
    split at hj <;> simp at hj
  · intro j hj
    simp [Array.getD_eq_getD_getElem?, Array.getElem?_replicate] at hj
    split at hj <;> simp at hj
/-- Memory grows. -/
def Grows (w w' : World) : Prop := Below w.heap.size w w'
theorem grows_pre : Pre Grows where
  refl w := Below.refl _ _
  trans a b c h1 h2 := h1.trans (h2.mono h1.size)
  grow w w' h := h
  drew w := (Below.refl _ w).drew
/-- What stood in a slot that the last ones alone write. -/
theorem RStep.old {k0 : Nat} {kn : Nat → VP} {i : Nat} (t : Tmp) (v : Value) (hop : (ops[i]?).map (fun o => (o.op, o.guard)) = some (.move (.tmp t), none)) (hd : ((ops[i]?).bind (·.dst)).isSome = true) (hk : ((List.range k0).all fun i => (ops[i]?).all fun o => o.dst != some t) = true)
    (hv : a0.tmps.getD t undef = v) : RStep Grows P ops base a0 Q k0 kn i (isVal v) := by
  refine ⟨fun _ _ _ h _ => h, fun o ho a w hkp hb hdp => ?_⟩
  rw [ho] at hop hd
  simp only [Option.map_some, Option.some.injEq, Prod.mk.injEq] at hop
  have e : a.eval (.tmp t) = v := (hkp.2.2 t hk).trans hv
  unfold wpOp
  simp only [ho]
  rw [show Region.wanted o (yielded ops a.tmps) = true by simp [Region.wanted, hop.2]]
  refine .inl ?_
  unfold Oper.wp execOp
  rw [hop.1]
  refine ⟨_, rfl, fun hn => ?_, e, Below.refl _ _⟩
  simp [hn] at hd
end
end Go.Proofs.Ytpjafjnokgeifaa
end
section
namespace Go.Proofs.Ytpjafjnokgeifaa
open Go.RowKit
set_option linter.unusedVariables false
set_option linter.unusedSimpArgs false

/-- Block g's first cell holds x, and may be written. -/
structure At (w : World) (g : Nat) (x : Value) : Prop where
  cell : w.cell? ⟨g, 0, none⟩ = some x
  free : w.frozen? ⟨g, 0, none⟩ = false
  lt : g < w.heap.size
/-- Block g's first cell has come to be x; no other block that was there has turned. -/
structure Wr (g : Nat) (x : Value) (w w' : World) : Prop where
  os : w'.os = w.os
  tape : w'.tape = w.tape
  output : w'.output = w.output
  size : w.heap.size ≤ w'.heap.size
  block : ∀ k, k < w.heap.size → k ≠ g → w'.heap[k]? = w.heap[k]?
  at_ : At w' g x
theorem At.keep {w w' : World} {g : Nat} {x : Value} (h : At w g x) (hb : Below w.heap.size w w') : At w' g x :=
  ⟨(hb.cell (p := ⟨g, 0, none⟩) h.lt).trans h.cell, (hb.frozen (p := ⟨g, 0, none⟩) h.lt).trans h.free, Nat.lt_of_lt_of_le h.lt hb.size⟩
theorem Wr.trans {g : Nat} {x y : Value} {a b c : World} (h : Wr g x a b) (k : Wr g y b c) : Wr g y a c :=
  ⟨k.os.trans h.os, k.tape.trans h.tape, k.output.trans h.output, Nat.le_trans h.size k.size, fun i hi hne => (k.block i (Nat.lt_of_lt_of_le hi h.size) hne).trans (h.block i hi hne), k.at_⟩
theorem Wr.then_ {g : Nat} {x : Value} {a b c : World} (h : Wr g x a b) (k : Below b.heap.size b c) : Wr g x a c :=
  ⟨k.os.trans h.os, k.tape.trans h.tape, k.output.trans h.output, Nat.le_trans h.size k.size, fun i hi hne => (k.block i (Nat.lt_of_lt_of_le hi h.size)).trans (h.block i hi hne), h.at_.keep k⟩
theorem Wr.behind {g : Nat} {x : Value} {a b c : World} (h : Below a.heap.size a b) (k : Wr g x b c) : Wr g x a c :=
  ⟨k.os.trans h.os, k.tape.trans h.tape, k.output.trans h.output, Nat.le_trans h.size k.size, fun i hi hne => (k.block i (Nat.lt_of_lt_of_le hi h.size) hne).trans (h.block i hi), k.at_⟩
theorem Wr.refl {g : Nat} {x : Value} {w : World} (h : At w g x) : Wr g x w w := ⟨rfl, rfl, rfl, Nat.le_refl _, fun _ _ _ => rfl, h⟩
theorem Wr.set {g : Nat} {x : Value} {w : World} (h : At w g x) (y : Value) : Wr g y w (w.setCell ⟨g, 0, none⟩ y) where
  os := rfl
  tape := rfl
  output := rfl
  size := by simp
  block k hk hne := Below.heap_setCell w _ y k hne
  at_ := ⟨World.cell?_setCell_same w _ _ h.cell, by rw [World.frozen?_setCell]; exact h.free, by simpa using h.lt⟩
/-- Seen from below g nothing has turned. -/
theorem Wr.below {g B : Nat} {x : Value} {w w' : World} (h : Wr g x w w') (hB : B ≤ g) (hs : B ≤ w.heap.size) : Below B w w' :=
  ⟨h.os, h.tape, h.output, h.size, fun k hk => h.block k (by omega) (by omega)⟩
theorem Wr.cell {g : Nat} {x : Value} {w w' : World} (h : Wr g x w w') {p : Addr} (hp : p.block < w.heap.size) (hne : p.block ≠ g) : w'.cell? p = w.cell? p := World.cell?_of_block (w := w) (h.block p.block hp hne)
theorem Wr.frozen {g : Nat} {x : Value} {w w' : World} (h : Wr g x w w') {p : Addr} (hp : p.block < w.heap.size) (hne : p.block ≠ g) : w'.frozen? p = w.frozen? p := World.frozen?_of_block (w := w) (h.block p.block hp hne)

theorem kept_ex {ops : Array Oper} {a0 a : Act} (h : FKept ops a0 a) (D : List (Option Nat)) (L : List Nat) (hD : ops.toList.map (·.dst) = D) (hL : D.filterMap id = L) : ∃ y : Nat → Value, a = { tmps := L.foldl (fun t s => t.setIfInBounds s (y s)) a0.tmps, defers := a0.defers } := ⟨fun s => a.tmps.getD s undef, kept_of h D L hD hL⟩
theorem put_kept {Q : Exit → Act → World → Prop} {a : Act} {d : Tmp} {v : Value} {t : Array Value} {ds : List Deferred} {w : World} (e : a = { tmps := t, defers := ds }) (h : Q .normal { tmps := t.setIfInBounds d v, defers := ds } w) : Q .normal (a.put (some d) v) w := by
  subst e
  exact h
section
variable {P : Program} {ops : Array Oper} {Q : Exit → Act → World → Prop} {i : Nat} {a : Act} {w : World} {c : Nat}
/-- A call among the last operations; its own world may turn as it likes. -/
theorem tail_call (f : FuncId) (xs : Array Operand) (ts : Array TypeId) (vs : Array Value) (d : Tmp) (hop : (ops[i]?).map (fun o => (o.op, o.guard)) = some (.call { callee := .value (.func f), args := xs, argTypes := ts }, none)) (hd : (ops[i]?).bind (·.dst) = some d)
    (hx : xs.map a.eval = vs) (hent : Enters P f) (h : Calls P f vs w fun e w' => ∃ v, e = .returned v ∧ Tail P ops Q c (i + 1) (a.put (some d) v) w') : Tail P ops Q (c + 1) i a w := by
  show wpOp P ops Q i (fun a' w' => Tail P ops Q c (i + 1) a' w') a w
  unfold wpOp
  cases ho : ops[i]? with
  | none => rw [ho] at hop; simp at hop
  | some o =>
    rw [ho] at hop hd
    simp only [Option.map_some, Option.some.injEq, Prod.mk.injEq] at hop
    simp only [Option.bind_some] at hd
    simp only []
    rw [show Region.wanted o (yielded ops a.tmps) = true by simp [Region.wanted, hop.2]]
    refine .inl ?_
    unfold Oper.wp execOp
    rw [hop.1]
    have e2 : a.eval (.func f) = .func (.func f) #[] #[] := rfl
    simp only [resolve, hx, e2, Deferred.ofValue, Sem.run_bind, Sem.run_pure, Result.andThen_ok, invoke, Array.append_empty, Array.empty_append]
    rw [hent]
    simp only [Oper.upon]
    refine h.mono ?_
    rintro e w' ⟨v, rfl, hv⟩
    rw [← hd] at hv
    exact hv
/-- A call of a function value. -/
theorem tail_callV (x : Operand) (f : FuncId) (first : Array Value) (xs : Array Operand) (ts : Array TypeId) (vs : Array Value) (d : Tmp) (hop : (ops[i]?).map (fun o => (o.op, o.guard)) = some (.call { callee := .value x, args := xs, argTypes := ts }, none)) (hd : (ops[i]?).bind (·.dst) = some d)
    (hv : a.eval x = .func (.func f) first #[]) (hx : xs.map a.eval = vs) (hent : Enters P f) (h : Calls P f (first ++ vs) w fun e w' => ∃ v, e = .returned v ∧ Tail P ops Q c (i + 1) (a.put (some d) v) w') : Tail P ops Q (c + 1) i a w := by
  show wpOp P ops Q i (fun a' w' => Tail P ops Q c (i + 1) a' w') a w
  unfold wpOp
  cases ho : ops[i]? with
  | none => rw [ho] at hop; simp at hop
  | some o =>
    rw [ho] at hop hd
    simp only [Option.map_some, Option.some.injEq, Prod.mk.injEq] at hop
    simp only [Option.bind_some] at hd
    simp only []
    rw [show Region.wanted o (yielded ops a.tmps) = true by simp [Region.wanted, hop.2]]
    refine .inl ?_
    unfold Oper.wp execOp
    rw [hop.1]
    simp only [resolve, hx, hv, Deferred.ofValue, Sem.run_bind, Sem.run_pure, Result.andThen_ok, invoke, Array.append_empty, Array.empty_append]
    rw [hent]
    simp only [Oper.upon]
    refine h.mono ?_
    rintro e w' ⟨v, rfl, hv⟩
    rw [← hd] at hv
    exact hv
end
end Go.Proofs.Ytpjafjnokgeifaa
end
section
namespace Go.Proofs.Ytpjafjnokgeifaa
open Go.RowKit
set_option linter.unusedVariables false
set_option linter.unusedSimpArgs false
attribute [local irreducible] setN

/-- A row that does not lie in block g. -/
def Off (g : Nat) (cs : List Value) (v : Value) : Prop := ∀ b off cap, v = .slice (some ⟨b, off, none⟩) cs.length cap → cs ≠ [] → b ≠ g
theorem off_old {g : Nat} {cs : List Value} {v : Value} {w : World} (h : isCells cs v w) (hg : w.heap.size ≤ g) : Off g cs v := by
  rintro b off cap rfl hne rfl
  rcases h with ⟨h, e⟩ | ⟨a, c, h, e⟩ | ⟨b', off', cap', e, hlt, hc⟩
  · exact hne e
  · exact hne e
  · injection e with e; injection e with e; injection e with e; omega
theorem off_new {g B : Nat} {cs : List Value} {v : Value} (h : NewB B v) (hg : g < B) : Off g cs v := by
  rintro b off cap rfl hne rfl
  have := h b rfl
  omega
/-- A device whose rows lie outside block g. -/
def isW (g : Nat) (P Q : List Value) (fu : Int) (tn : List UInt8) (de : Bool) : VP := fun v w => ∃ p q, v = .agg #[p, q, .int .i64 fu, .string ⟨tn.toArray⟩, .bool de] ∧ isCells P p w ∧ isCells Q q w ∧ Off g P p ∧ Off g Q q
theorem stable_W (g : Nat) (P Q : List Value) (fu : Int) (tn : List UInt8) (de : Bool) : Stable (isW g P Q fu tn de) := by
  rintro v w w' ⟨p, q, e, h1, h2, h3, h4⟩ hb
  exact ⟨p, q, e, stable_cells _ _ _ _ h1 hb, stable_cells _ _ _ _ h2 hb, h3, h4⟩
/-- with, where the block r is older than what it makes. -/
theorem cwith (F : Fl) (k r : Nat) (s : List UInt8) (vp vw : Value) (w : World) (hp : isCells (F.pages.map strC) vp w) (hq : isCells (F.wear.map intC) vw w) (hk : k < F.pages.length) (h1 : F.pages.length ≤ 6) (ho : Off r (F.wear.map intC) vw) (hr : r < w.heap.size) :
    Calls Try.prog 49 #[.agg #[vp, vw, .int .i64 F.fuse, .string ⟨F.torn.toArray⟩, .bool F.dead], .int .i64 (k : Int), .string ⟨s.toArray⟩] w fun e w' => ∃ v, e = .returned v ∧ isW r ((F.pages.set k s).map strC) (F.wear.map intC) F.fuse F.torn F.dead v w' ∧ Below w.heap.size w w' :=
  (rwith_any F k s vp vw w hp hq hk (by omega)).mono (by
    rintro e w' ⟨p', rfl, hc, hn, hb⟩
    exact ⟨_, rfl, ⟨p', vw, rfl, hc, stable_cells _ _ _ _ hq hb, off_new hn hr, ho⟩, hb⟩)
def lessN (x : Int) : Int := if 0 < x then x - 1 else x
theorem cones (n : Nat) (hn : n ≤ 100000) (w : World) : Calls Try.prog 42 #[.int .i64 (n : Int)] w fun e w' => ∃ v, e = .returned v ∧ isVal (.string ⟨(List.replicate n 255).toArray⟩) v w' ∧ Below w.heap.size w w' :=
  (refOnes_any n w).mono (by
    rintro e w' ⟨rfl, hb⟩
    refine ⟨_, rfl, ?_, hb⟩
    unfold onesL
    by_cases h : 0 < n
    · rw [if_pos (by omega), Int.toNat_natCast]; rfl
    · have : n = 0 := by omega
      subst this; rfl)
end Go.Proofs.Ytpjafjnokgeifaa
end
