/- A device among a law's arguments: opened. -/
import Derived.Test.YtipiioggdalkoaaFlVar
import Derived.SizedLaws
import Derived.SliceStrings
import Derived.Carry
namespace Go.Proofs.Ytipiioggdalkoaa
open Go.RowKit Go.ChangeShapes Go.WideShapes
set_option linter.unusedVariables false
set_option linter.unusedSimpArgs false

theorem spot_none {w : World} {a : Addr} {v : Value} (h : w.cell? a = some v) : a = ⟨a.block, a.off, none⟩ := by
  obtain ⟨b, o, s⟩ := a
  cases s with
  | none => rfl
  | some s =>
    simp only [World.cell?] at h
    split at h <;> simp at h
theorem add_plain (b o i : Nat) : (⟨b, o, none⟩ : Addr).add i = ⟨b, o + i, none⟩ := by
  by_cases e : i = 0
  · subst e; simp [Addr.add]
  · simp [Addr.add, e]
/-- A row that came in. -/
theorem cells_came {w : World} {a : Addr} {len cap : Nat} (cs : List Value) (hl : cs.length = len) (hc : ∀ (i : Nat) (x : Value), cs[i]? = some x → w.cell? (a.add i) = some x) : isCells cs (.slice (some a) len cap) w := by
  cases cs with
  | nil => subst hl; exact .inr (.inl ⟨a, cap, rfl, rfl⟩)
  | cons x cs =>
    have h0 := hc 0 x rfl
    have e0 : a.add 0 = a := by simp [Addr.add]
    rw [e0] at h0
    have ha := spot_none h0
    rw [ha] at hc ⊢
    subst hl
    refine .inr (.inr ⟨a.block, a.off, cap, rfl, ?_, fun j y hy => ?_⟩)
    · simp only [World.cell?] at h0
      split at h0
      · rename_i h; exact (Array.getElem?_eq_some_iff.1 h).1
      · simp at h0
    · have := hc j y hy
      rwa [add_plain] at this

section
variable {W : World} {H : Type} {enc : TypeId × Value → H} {base : Nat} {spare : Nat → Bool} {held : Bool} {n : Nat}
theorem open_pages {v : Value} {y : DataW H × List MemPlace} (g : DataW.trod enc Try.prog W base spare held n 22 [v] = some y) :
    ∃ l : List (List UInt8), isCells (l.map strC) v W ∧ l.length ≤ maxLen ∧ (∀ s ∈ l, s.length ≤ maxLen) ∧ ((∀ m ∈ y.1.weights Try.prog 22, m ≤ reachBytes) → l.length * 16 ≤ reachBytes) := by
  have hby : Try.prog.bytesOf 9 = 16 := by kernel_rfl
  rcases open_strings Try.underlying22 Try.underlying9 (by kernel_rfl) g with ⟨hc, _⟩ | ⟨a, len, cap, ss, hc, _, hl, hm, hz, hx0, hcell, hs⟩
  · injection hc with hc _
    subst hc
    exact ⟨[], .inl ⟨rfl, rfl⟩, Nat.zero_le _, (fun s hs => by simp at hs), fun _ => Nat.zero_le _⟩
  · injection hc with hc _
    subst hc
    have hle : len ≤ ss.length := by rw [hz]; split <;> omega
    refine ⟨(ss.take len).map fun s => s.data.toList, cells_came _ (by simp; omega) (fun i x hx => ?_), by simp; omega, fun s h => ?_, fun hw => ?_⟩
    · have hi : i < len := by have := (List.getElem?_eq_some_iff.1 hx).1; simp at this; omega
      rw [hcell i (by omega)]
      rw [List.getElem?_map, List.getElem?_map, List.getElem?_take, if_pos hi, List.getElem?_eq_getElem (by omega : i < ss.length)] at hx
      simp only [Option.map_some, Option.some.injEq] at hx
      rw [← hx]
      have e : ss.getD i ByteArray.empty = ss[i]'(by omega) := by simp [List.getD_eq_getElem?_getD, show i < ss.length by omega]
      rw [e]
      show some (Value.string (ss[i]'(by omega))) = some (.string ⟨(ss[i]'(by omega)).data.toList.toArray⟩)
      rw [← str_eta]
    · obtain ⟨b, hb, rfl⟩ := List.mem_map.1 h
      have := hs b (List.mem_of_mem_take hb)
      simpa using this
    · subst hx0
      have := hw ((ss.take len).length * 16 + (ss.drop len).length * 16) (by simp only [DataW.weights, Try.underlying22, hby, strs, List.length_map]; rw [← Nat.add_mul]; exact List.mem_cons_self ..)
      simp only [List.length_map, List.length_take, List.length_drop] at this ⊢
      omega
theorem open_wear {v : Value} {y : DataW H × List MemPlace} (g : DataW.trod enc Try.prog W base spare held n 23 [v] = some y) :
    ∃ l : List Int, isCells (l.map intC) v W ∧ l.length ≤ maxLen ∧ (∀ x ∈ l, (Lit.int .i64 x).wf = true) ∧ ((∀ m ∈ y.1.weights Try.prog 23, m ≤ reachBytes) → l.length * 8 ≤ reachBytes) := by
  have hby : Try.prog.bytesOf 3 = 8 := by kernel_rfl
  rcases open_ints Try.underlying23 Try.underlying3 (by kernel_rfl) g with ⟨hc, _⟩ | ⟨a, len, cap, zs, hc, _, hl, hm, hz, hx0, hcell, hs⟩
  · injection hc with hc _
    subst hc
    exact ⟨[], .inl ⟨rfl, rfl⟩, Nat.zero_le _, (fun s hs => by simp at hs), fun _ => Nat.zero_le _⟩
  · injection hc with hc _
    subst hc
    have hle : len ≤ zs.length := by rw [hz]; split <;> omega
    refine ⟨zs.take len, cells_came _ (by simp; omega) (fun i x hx => ?_), by simp; omega, (fun s h => hs s (List.mem_of_mem_take h)), fun hw => ?_⟩
    case refine_2 =>
      subst hx0
      have := hw ((zs.take len).length * 8 + (zs.drop len).length * 8) (by simp only [DataW.weights, Try.underlying23, hby, lits, List.length_map]; rw [← Nat.add_mul]; exact List.mem_cons_self ..)
      simp only [List.length_take, List.length_drop] at this ⊢
      omega
    have hi : i < len := by have := (List.getElem?_eq_some_iff.1 hx).1; simp at this; omega
    rw [hcell i (by omega)]
    rw [List.getElem?_map, List.getElem?_take, if_pos hi, List.getElem?_eq_getElem (by omega : i < zs.length)] at hx
    simp only [Option.map_some, Option.some.injEq] at hx
    rw [← hx]
    simp [List.getD_eq_getElem?_getD, show i < zs.length by omega, intC]
end
theorem wf_i64 {x : Int} (h : (Lit.int .i64 x).wf = true) : -9223372036854775808 ≤ x ∧ x ≤ 9223372036854775807 := by
  unfold Lit.wf at h
  rw [Bool.and_eq_true] at h
  exact ⟨of_decide_eq_true h.1, of_decide_eq_true h.2⟩
/-- What a device that came in is. -/
structure Came (F : Fl) : Prop where
  fuse : (Lit.int .i64 F.fuse).wf = true
  torn : F.torn.length ≤ maxLen
  wear : ∀ x ∈ F.wear, (Lit.int .i64 x).wf = true
  pages : ∀ s ∈ F.pages, s.length ≤ maxLen
  nw : F.wear.length ≤ maxLen
  np : F.pages.length ≤ maxLen
set_option maxRecDepth 100000 in
theorem open_flash {W : World} {H : Type} {enc : TypeId × Value → H} {base b0 : Nat} {spare : Nat → Bool} {held : Bool} {v : Value} {d : DataW H} {p : List MemPlace} (hv : Value.okWide Try.prog W .any b0 25 v)
    (h : DataW.Trod enc Try.prog W base spare held 25 v d p) : ∃ F : Fl, isFl F v W ∧ Came F ∧ ((∀ m ∈ d.weights Try.prog 25, m ≤ reachBytes) → F.pages.length * 16 ≤ reachBytes ∧ F.wear.length * 8 ≤ reachBytes) := by
  obtain ⟨⟨l⟩, rfl, hsz⟩ := okWide_struct Try.underlying25 hv
  have hl : l.length = 5 := hsz.trans (by kernel_rfl)
  match l, hl with
  | [v0, v1, v2, v3, v4], _ =>
    obtain ⟨fuel, hf⟩ := h
    obtain ⟨xs, n, _, hxe, _, hxl, hg⟩ := DataW.trod_struct Try.underlying25 hf
    have at_ : ∀ i, i < 5 → ∃ y, xs[i]? = some y := fun i hi => ⟨_, List.getElem?_eq_getElem (by rw [hxl]; exact hi)⟩
    have c1 : Try.prog.cellsOf 22 = 1 := by kernel_rfl
    have c2 : Try.prog.cellsOf 23 = 1 := by kernel_rfl
    have c3 : Try.prog.cellsOf 3 = 1 := by kernel_rfl
    have c4 : Try.prog.cellsOf 9 = 1 := by kernel_rfl
    have c5 : Try.prog.cellsOf 4 = 1 := by kernel_rfl
    obtain ⟨y0, e0⟩ := at_ 0 (by decide)
    obtain ⟨y1, e1⟩ := at_ 1 (by decide)
    obtain ⟨y2, e2⟩ := at_ 2 (by decide)
    obtain ⟨y3, e3⟩ := at_ 3 (by decide)
    obtain ⟨y4, e4⟩ := at_ 4 (by decide)
    have g0 := hg 0 _ rfl
    have g1 := hg 1 _ rfl
    have g2 := hg 2 _ rfl
    have g3 := hg 3 _ rfl
    have g4 := hg 4 _ rfl
    simp only [Value.cells, c1, c2, c3, c4, c5, List.drop_zero, List.drop_succ_cons, List.take_succ_cons, List.take_zero] at g0 g1 g2 g3 g4
    rw [e0] at g0
    rw [e1] at g1
    rw [e2] at g2
    rw [e3] at g3
    rw [e4] at g4
    obtain ⟨pages, hp, hpn, hps, hpw⟩ := open_pages g0
    obtain ⟨wear, hw, hwn, hws, hww⟩ := open_wear g1
    obtain ⟨fuse, h2, _, hfu⟩ := DataW.trod_int Try.underlying3 g2
    obtain ⟨torn, h3, _, hto⟩ := DataW.trod_string Try.underlying9 g3
    obtain ⟨dead, h4, _⟩ := DataW.trod_bool Try.underlying4 g4
    injection h2 with h2 _
    injection h3 with h3 _
    injection h4 with h4 _
    subst h2 h3 h4
    refine ⟨⟨pages, wear, fuse, torn.data.toList, dead⟩, ⟨v0, v1, ?_, hp, hw⟩, ⟨hfu, by simpa using hto, hws, hps, hwn, hpn⟩, fun hall => ?_⟩
    case refine_2 =>
      injection hxe with hd _
      subst hd
      refine ⟨hpw fun m hm => hall m ?_, hww fun m hm => hall m ?_⟩
      · simp only [DataW.weights, Try.underlying25]
        exact DataW.weights_mem_each (j := 0) rfl (by rw [List.getElem?_map, e0]; rfl) m hm
      · simp only [DataW.weights, Try.underlying25]
        exact DataW.weights_mem_each (j := 1) rfl (by rw [List.getElem?_map, e1]; rfl) m hm
    show Value.agg #[v0, v1, .int .i64 fuse, .string torn, .bool dead] = .agg #[v0, v1, .int .i64 fuse, .string ⟨torn.data.toList.toArray⟩, .bool dead]
    rw [← str_eta]
end Go.Proofs.Ytipiioggdalkoaa
