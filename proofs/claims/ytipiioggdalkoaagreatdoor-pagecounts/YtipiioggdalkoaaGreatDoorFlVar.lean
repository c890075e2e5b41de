/- Variables that hold devices; whether a device is looked at (Few). -/
import Derived.Test.YtipiioggdalkoaaGreatDoorFlNew2
namespace Go.Proofs.YtipiioggdalkoaaGreatDoor
open Go.RowKit
set_option linter.unusedVariables false
set_option linter.unusedSimpArgs false

/-- Block g holds the device G. -/
def Var (w : World) (g : Nat) (G : Fl) : Prop := ∃ vp vw, Cells5 w g vp vw (.int .i64 G.fuse) (strC G.torn) (.bool G.dead) ∧ isCells (G.pages.map strC) vp w ∧ isCells (G.wear.map intC) vw w
theorem Var.keep {w w' : World} {g : Nat} {G : Fl} (h : Var w g G) (hb : Below w.heap.size w w') : Var w' g G := by
  obtain ⟨vp, vw, hc, hp, hq⟩ := h
  exact ⟨vp, vw, hc.keep hb hc.1, stable_cells _ _ _ _ hp hb, stable_cells _ _ _ _ hq hb⟩
theorem Var.lt {w : World} {g : Nat} {G : Fl} (h : Var w g G) : g < w.heap.size := by obtain ⟨_, _, hc, _⟩ := h; exact hc.1
theorem Var.open_ {w : World} {g : Nat} {G : Fl} (h : Var w g G) : ∃ vp vw, isFl G (.agg #[vp, vw, .int .i64 G.fuse, strC G.torn, .bool G.dead]) w ∧ w.cell? ⟨g, 0, none⟩ = some vp ∧ w.cell? ⟨g, 1, none⟩ = some vw ∧ w.cell? ⟨g, 2, none⟩ = some (.int .i64 G.fuse) ∧ w.cell? ⟨g, 3, none⟩ = some (strC G.torn) ∧ w.cell? ⟨g, 4, none⟩ = some (.bool G.dead) := by
  obtain ⟨vp, vw, hc, hp, hq⟩ := h
  exact ⟨vp, vw, ⟨vp, vw, rfl, hp, hq⟩, hc.2.1, hc.2.2.1, hc.2.2.2.1, hc.2.2.2.2.1, hc.2.2.2.2.2⟩
/-- A parameter's box. -/
theorem var_box (w : World) (G : Fl) (vp vw : Value) (hp : isCells (G.pages.map strC) vp w) (hq : isCells (G.wear.map intC) vw w) :
    Kept (Below w.heap.size w (w.alloc (.cells #[vp, vw, .int .i64 G.fuse, strC G.torn, .bool G.dead] 31))) ∧ Kept (Var (w.alloc (.cells #[vp, vw, .int .i64 G.fuse, strC G.torn, .bool G.dead] 31)) w.heap.size G) := by
  have hb : Below w.heap.size w (w.alloc (.cells #[vp, vw, .int .i64 G.fuse, strC G.torn, .bool G.dead] 31)) := (Below.refl _ _).alloc (Nat.le_refl _) _
  exact ⟨⟨hb⟩, ⟨⟨vp, vw, cells5_new w 31 _ _ _ _ _, stable_cells _ _ _ _ hp hb, stable_cells _ _ _ _ hq hb⟩⟩⟩
/-- A new variable, in which a device is laid down. -/
theorem var_new (w : World) (G : Fl) (vp vw : Value) (hp : isCells (G.pages.map strC) vp w) (hq : isCells (G.wear.map intC) vw w) :
    Kept (Cells5 (w.alloc (.cells #[.slice none 0 0, .slice none 0 0, .int .i64 0, .string ⟨#[]⟩, .bool false] 31)) w.heap.size (.slice none 0 0) (.slice none 0 0) (.int .i64 0) (.string ⟨#[]⟩) (.bool false)) ∧
    Kept (Free5 (w.alloc (.cells #[.slice none 0 0, .slice none 0 0, .int .i64 0, .string ⟨#[]⟩, .bool false] 31)) w.heap.size) ∧
    Kept (Below w.heap.size w (set5 (w.alloc (.cells #[.slice none 0 0, .slice none 0 0, .int .i64 0, .string ⟨#[]⟩, .bool false] 31)) w.heap.size vp vw (.int .i64 G.fuse) (strC G.torn) (.bool G.dead))) ∧
    Kept (Var (set5 (w.alloc (.cells #[.slice none 0 0, .slice none 0 0, .int .i64 0, .string ⟨#[]⟩, .bool false] 31)) w.heap.size vp vw (.int .i64 G.fuse) (strC G.torn) (.bool G.dead)) w.heap.size G) := by
  have hb : Below w.heap.size w (w.alloc (.cells #[.slice none 0 0, .slice none 0 0, .int .i64 0, .string ⟨#[]⟩, .bool false] 31)) := (Below.refl _ _).alloc (Nat.le_refl _) _
  have hc := cells5_new w 31 (.slice none 0 0) (.slice none 0 0) (.int .i64 0) (.string ⟨#[]⟩) (.bool false)
  have hb5 := below_set5 hb (Nat.le_refl _) vp vw (.int .i64 G.fuse) (strC G.torn) (.bool G.dead)
  exact ⟨⟨hc⟩, ⟨free5_new w _ _⟩, ⟨hb5⟩, ⟨⟨vp, vw, hc.set5_ _ _ _ _ _, stable_cells _ _ _ _ hp hb5, stable_cells _ _ _ _ hq hb5⟩⟩⟩
theorem isCells.one {cs : List Value} {v : Value} {w : World} (h : isCells cs v w) : v.oneCell' = true := by
  obtain ⟨a, cap, rfl⟩ := h.len
  rfl

theorem fl_grow {F : Fl} {v : Value} {w w' : World} (h : isFl F v w) (hb : Below w.heap.size w w') : isFl F v w' := stable_fl F v w w' h hb
/-- Its rows, where they are not empty. -/
theorem Var.rows {w : World} {g : Nat} {G : Fl} (h : Var w g G) {n m : Nat} (hn : G.pages.length = n) (hm : G.wear.length = m) (n0 : 0 < n) (m0 : 0 < m) : ∃ b off cap b2 off2 cap2,
    Cells5 w g (.slice (some ⟨b, off, none⟩) n cap) (.slice (some ⟨b2, off2, none⟩) m cap2) (.int .i64 G.fuse) (strC G.torn) (.bool G.dead) ∧ isFl G (.agg #[.slice (some ⟨b, off, none⟩) n cap, .slice (some ⟨b2, off2, none⟩) m cap2, .int .i64 G.fuse, strC G.torn, .bool G.dead]) w ∧
    b < w.heap.size ∧ b2 < w.heap.size ∧ (∀ (j : Nat) (p : List UInt8), G.pages[j]? = some p → w.cell? ⟨b, off + j, none⟩ = some (.string ⟨p.toArray⟩)) ∧ (∀ (j : Nat) (x : Int), G.wear[j]? = some x → w.cell? ⟨b2, off2 + j, none⟩ = some (.int .i64 x)) := by
  obtain ⟨vp, vw, hc, hp, hq⟩ := h
  obtain ⟨b, off, cap, rfl, hb, hcp⟩ := hp.some_ (by rw [List.length_map]; omega)
  obtain ⟨b2, off2, cap2, rfl, hb2, hcq⟩ := hq.some_ (by rw [List.length_map]; omega)
  rw [List.length_map, hn] at hc hp
  rw [List.length_map, hm] at hc hq
  exact ⟨b, off, cap, b2, off2, cap2, hc, ⟨_, _, rfl, hp, hq⟩, hb, hb2, fun j p hj => hcp j _ (by rw [List.getElem?_map, hj]; rfl), fun j x hj => hcq j _ (by rw [List.getElem?_map, hj]; rfl)⟩

def bigPage (p : List UInt8) : Bool := decide (4000 < (p.length : Int)) && decide ((p.length : Int) ≤ 8192)
def fewB (F : Fl) : Bool := !((F.pages.take 9).any bigPage) && decide ((F.pages.length : Int) ≤ 8) && decide ((F.wear.length : Int) ≤ 20)

theorem few_none (F : Fl) (v : Value) (w : World) (hv : isFl F v w) (h0 : F.pages = []) :
    Calls Tryz.prog 21 #[v] w fun e w' => e = .returned (.bool (fewB F)) ∧ Below w.heap.size w w' := by
  obtain ⟨vp, vw, rfl, hp, hq⟩ := hv
  obtain ⟨a, cap, rfl⟩ := hp.len
  obtain ⟨a2, cap2, rfl⟩ := hq.len
  have hl : (F.pages.map strC).length = 0 := by simp [h0]
  have hl2 : (F.wear.map intC).length = F.wear.length := by simp
  rw [hl, hl2]
  obtain ⟨hB, hV⟩ := var_box w F (.slice a 0 cap) (.slice a2 F.wear.length cap2) (by rw [hl] at hp; exact hp) (by rw [hl2] at hq; exact hq)
  have HF := Kept.mk (show fewB F = decide ((F.wear.length : Int) ≤ 20) by simp [fewB, h0])
  clear hp hq hl hl2 hV
  go_enter Tryz.func21, Tryz.ntmps21
  go_wp2
  go_loop [3] (fun i => i = .int .i64 0) (fun _ => 0)
  case atStart => rfl
  case round =>
    subst hrel
    go_wp2
    go_ret
    exact ⟨by rw [HF.out]; rfl, hB.out⟩

theorem any_take {α : Type} (p : α → Bool) (l : List α) (k : Nat) (h : k < l.length) : (l.take (k + 1)).any p = ((l.take k).any p || p l[k]) := by
  rw [List.take_succ_eq_append_getElem h, List.any_append]; simp
theorem any_more {α : Type} (p : α → Bool) (l : List α) (k m : Nat) (hk : k ≤ m) (h : (l.take k).any p = true) : (l.take m).any p = true := by
  rw [List.any_eq_true] at h ⊢
  obtain ⟨x, hx, hp⟩ := h
  refine ⟨x, ?_, hp⟩
  rw [show l.take k = (l.take m).take k by rw [List.take_take, Nat.min_eq_left hk]] at hx
  exact List.mem_of_mem_take hx
set_option maxRecDepth 20000 in
set_option maxHeartbeats 1000000 in
theorem few_some (F : Fl) (v : Value) (w : World) (hv : isFl F v w) (h0 : 0 < F.pages.length) :
    Calls Tryz.prog 21 #[v] w fun e w' => e = .returned (.bool (fewB F)) ∧ Below w.heap.size w w' := by
  obtain ⟨vp, vw, rfl, hp, hq⟩ := hv
  obtain ⟨b, off, cap, rfl, hb, hc⟩ := hp.some_ (by simpa using h0)
  obtain ⟨a2, cap2, rfl⟩ := hq.len
  have hl : (F.pages.map strC).length = F.pages.length := by simp
  have hl2 : (F.wear.map intC).length = F.wear.length := by simp
  rw [hl, hl2]
  obtain ⟨hB, hV⟩ := var_box w F (.slice (some ⟨b, off, none⟩) F.pages.length cap) (.slice a2 F.wear.length cap2) (by rw [hl] at hp; exact hp) (by rw [hl2] at hq; exact hq)
  have HC := Kept.mk (show ∀ (k : Nat) (p : List UInt8), F.pages[k]? = some p → (w.alloc (.cells #[.slice (some ⟨b, off, none⟩) F.pages.length cap, .slice a2 F.wear.length cap2, .int .i64 F.fuse, strC F.torn, .bool F.dead] 31)).cell? ⟨b, off + k, none⟩ = some (.string ⟨p.toArray⟩) from
    fun k p hk => (hB.out.cell (p := ⟨b, off + k, none⟩) hb).trans (hc k _ (by rw [List.getElem?_map, hk]; rfl)))
  have HF := Kept.mk (show fewB F = (!((F.pages.take 9).any bigPage) && decide ((F.pages.length : Int) ≤ 8) && decide ((F.wear.length : Int) ≤ 20)) from rfl)
  obtain ⟨n, hn⟩ : ∃ n, n = F.pages.length := ⟨_, rfl⟩
  have HN := Kept.mk hn
  rw [← hn] at HF h0 hB HC ⊢
  clear hp hq hl hl2 hV hc hn
  go_enter Tryz.func21, Tryz.ntmps21
  go_wp2
  go_loop [3] (fun i => ∃ k : Nat, k ≤ n ∧ k ≤ 9 ∧ i = .int .i64 (k : Int) ∧ Kept ((F.pages.take k).any bigPage = false)) (fun i => n - (intOf i).toNat)
  case atStart => exact ⟨0, Nat.zero_le _, by omega, rfl, ⟨rfl⟩⟩
  case round =>
    obtain ⟨k, hk, hk9, rfl, HK⟩ := hrel
    by_cases hlt : k < n
    · have d1 : decide ((k : Int) < (n : Int)) = true := by simpa using hlt
      by_cases h8 : k ≤ 8
      · have d2 : decide ((k : Int) ≤ 8) = true := by simp; omega
        have hlp : k < F.pages.length := by rw [← HN.out]; exact hlt
        have hcell := HC.out k F.pages[k] (List.getElem?_eq_getElem hlp)
        have HA := Kept.mk (any_take bigPage F.pages k hlp)
        have hsz : (⟨(F.pages[k]).toArray⟩ : ByteArray).size = (F.pages[k]).length := size_mk _
        obtain ⟨p, hpd⟩ : ∃ p, p = F.pages[k] := ⟨_, rfl⟩
        rw [← hpd] at hcell HA hsz
        clear hpd
        have HBP := Kept.mk (show bigPage p = (decide (4000 < (p.length : Int)) && decide ((p.length : Int) ≤ 8192)) from rfl)
        by_cases b1 : 4000 < p.length
        · have d3 : decide (4000 < (p.length : Int)) = true := by simp; omega
          by_cases b2 : p.length ≤ 8192
          · have d4 : decide ((p.length : Int) ≤ 8192) = true := by simp; omega
            have HR := Kept.mk (show fewB F = false by
              have h9 := any_more bigPage F.pages (k + 1) 9 (by omega) (by rw [HA.out, HBP.out, d3, d4]; simp)
              rw [HF.out, h9]; rfl)
            go_wp2
            go_ret
            exact ⟨by rw [HR.out]; rfl, hB.out⟩
          · have d4 : decide ((p.length : Int) ≤ 8192) = false := by simp; omega
            have HR := Kept.mk (show (F.pages.take (k + 1)).any bigPage = false by rw [HA.out, HK.out, HBP.out, d4]; simp)
            go_wp2
            go_round
            case rel => exact ⟨k + 1, by omega, by omega, by go_num, HR⟩
            case measure => simp [intOf]; omega
        · have d3 : decide (4000 < (p.length : Int)) = false := by simp; omega
          have HR := Kept.mk (show (F.pages.take (k + 1)).any bigPage = false by rw [HA.out, HK.out, HBP.out, d3]; simp)
          go_wp2
          go_round
          case rel => exact ⟨k + 1, by omega, by omega, by go_num, HR⟩
          case measure => simp [intOf]; omega
      · have d2 : decide ((k : Int) ≤ 8) = false := by simp; omega
        have d5 : decide ((n : Int) ≤ 8) = false := by simp; omega
        have HR := Kept.mk (show fewB F = false by rw [HF.out, d5]; simp)
        go_wp2
        go_ret
        exact ⟨by rw [HR.out]; rfl, hB.out⟩
    · have d1 : decide ((k : Int) < (n : Int)) = false := by simp; omega
      obtain rfl : k = n := by omega
      have HR := Kept.mk (show fewB F = (decide ((k : Int) ≤ 8) && decide ((F.wear.length : Int) ≤ 20)) by
        rw [HF.out, List.take_of_length_le (by rw [← HN.out]; exact hk9)]
        have := HK.out
        rw [HN.out, List.take_of_length_le (Nat.le_refl _)] at this
        rw [this]; rfl)
      by_cases h8 : k ≤ 8
      · have d5 : decide ((k : Int) ≤ 8) = true := by simp; omega
        rw [d5] at HR
        go_wp2
        go_ret
        exact ⟨by rw [HR.out]; rfl, hB.out⟩
      · have d5 : decide ((k : Int) ≤ 8) = false := by simp; omega
        rw [d5] at HR
        go_wp2
        go_ret
        exact ⟨by rw [HR.out]; rfl, hB.out⟩
theorem few_any (F : Fl) (v : Value) (w : World) (hv : isFl F v w) :
    Calls Tryz.prog 21 #[v] w fun e w' => e = .returned (.bool (fewB F)) ∧ Below w.heap.size w w' := by
  by_cases h : 0 < F.pages.length
  · exact few_some F v w hv h
  · exact few_none F v w hv (List.eq_nil_of_length_eq_zero (by omega))
theorem few_facts {F : Fl} (h : fewB F = true) : F.pages.length ≤ 8 ∧ F.wear.length ≤ 20 := by
  simp only [fewB, Bool.and_eq_true, decide_eq_true_eq] at h
  omega
end Go.Proofs.YtipiioggdalkoaaGreatDoor
