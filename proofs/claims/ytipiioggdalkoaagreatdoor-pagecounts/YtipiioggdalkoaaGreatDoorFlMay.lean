/- Contracts of package flash: may a device be? has it a page? -/
import Derived.Test.YtipiioggdalkoaaGreatDoorFlIndex
namespace Go.Proofs.YtipiioggdalkoaaGreatDoor
open Go.RowKit
set_option linter.unusedVariables false
set_option linter.unusedSimpArgs false

def oneSize (pages : List (List UInt8)) : Bool := decide (1 ≤ ((pages.headD []).length : Int)) && decide (((pages.headD []).length : Int) ≤ 8192) && pages.all fun p => decide (p.length = (pages.headD []).length)
def okWear (wear : List Int) (n : Nat) : Bool := decide (wear.length = n) && wear.all fun x => decide (0 ≤ x) && decide (x ≤ 2147483647)
def mayB (F : Fl) : Bool := decide (1 ≤ (F.pages.length : Int)) && decide ((F.pages.length : Int) ≤ 6) && oneSize F.pages && okWear F.wear F.pages.length && decide ((F.torn.length : Int) ≤ 64)
def checkE (F : Fl) : Int := if mayB F then 0 else 1
def hasB (F : Fl) (n : Int) : Bool := mayB F && decide (0 ≤ n) && decide (n < F.pages.length)

/-- A block of five cells. -/
def Cells5 (w : World) (g : Nat) (v0 v1 v2 v3 v4 : Value) : Prop := g < w.heap.size ∧ w.cell? ⟨g, 0, none⟩ = some v0 ∧ w.cell? ⟨g, 1, none⟩ = some v1 ∧ w.cell? ⟨g, 2, none⟩ = some v2 ∧ w.cell? ⟨g, 3, none⟩ = some v3 ∧ w.cell? ⟨g, 4, none⟩ = some v4
theorem Cells5.keep {w w' : World} {g B : Nat} {v0 v1 v2 v3 v4 : Value} (h : Cells5 w g v0 v1 v2 v3 v4) (hb : Below B w w') (hB : g < B) : Cells5 w' g v0 v1 v2 v3 v4 := by
  obtain ⟨hg, h0, h1, h2, h3, h4⟩ := h
  exact ⟨Nat.lt_of_lt_of_le hg hb.size, (hb.cell (p := ⟨g, 0, none⟩) hB).trans h0, (hb.cell (p := ⟨g, 1, none⟩) hB).trans h1, (hb.cell (p := ⟨g, 2, none⟩) hB).trans h2, (hb.cell (p := ⟨g, 3, none⟩) hB).trans h3, (hb.cell (p := ⟨g, 4, none⟩) hB).trans h4⟩
theorem cells5_new (w : World) (t : TypeId) (v0 v1 v2 v3 v4 : Value) : Cells5 (w.alloc (.cells #[v0, v1, v2, v3, v4] t)) w.heap.size v0 v1 v2 v3 v4 := by
  refine ⟨by simp, ?_, ?_, ?_, ?_, ?_⟩ <;> rw [World.cell?_alloc_new] <;> rfl

theorem wear1_any (x : Int) (w : World) : Calls Tryz.prog 93 #[.int .i64 x] w fun e w' => e = .returned (.bool (!(decide (0 ≤ x) && decide (x ≤ 2147483647)))) ∧ w = w' := by
  by_cases h1 : x < 0
  · have h1' : decide (x < 0) = true := by simpa using h1
    have h2 : ¬ 0 ≤ x := by omega
    go_enter Tryz.func93, Tryz.ntmps93
    go_wp2
    go_ret
    exact ⟨by simp [h2], rfl⟩
  · have h1' : decide (x < 0) = false := by simpa using h1
    have h2 : 0 ≤ x := by omega
    have H := Lib.hid (show decide (2147483647 < x) = !decide (x ≤ 2147483647) by by_cases h : x ≤ 2147483647 <;> simp [h] <;> omega)
    go_enter Tryz.func93, Tryz.ntmps93
    go_wp2
    go_ret
    exact ⟨congrArg (fun b => Ending.returned (.bool b)) H.out, rfl⟩

def badWear : Value → Bool
  | .int .i64 x => !(decide (0 ≤ x) && decide (x ≤ 2147483647))
  | _ => false
theorem badWear_int (x : Int) : badWear (intC x) = !(decide (0 ≤ x) && decide (x ≤ 2147483647)) := rfl
theorem okWear_eq (wear : List Int) : (wear.all fun x => decide (0 ≤ x) && decide (x ≤ 2147483647)) = !(wear.map intC).any badWear := by
  induction wear with
  | nil => rfl
  | cons x r ih => rw [List.all_cons, List.map_cons, List.any_cons, badWear_int, ih, Bool.not_or, Bool.not_not]
def badPage (n : Nat) : Value → Bool
  | .string s => decide (s.size ≠ n)
  | _ => false
theorem okPage_eq (pages : List (List UInt8)) (n : Nat) : (pages.all fun p => decide (p.length = n)) = !(pages.map strC).any (badPage n) := by
  induction pages with
  | nil => rfl
  | cons x r ih =>
    rw [List.all_cons, List.map_cons, List.any_cons, ih, Bool.not_or]
    congr 1
    show decide (x.length = n) = !decide ((⟨x.toArray⟩ : ByteArray).size ≠ n)
    rw [size_mk]
    by_cases h : x.length = n <;> simp [h]
theorem badPage_str (n : Nat) (y : List UInt8) : badPage n (strC y) = decide (y.length ≠ n) := by
  show decide ((⟨y.toArray⟩ : ByteArray).size ≠ n) = _
  rw [size_mk]
attribute [irreducible] badWear badPage

set_option maxRecDepth 20000 in
theorem areWear_any (wear : List Int) (n : Nat) (v : Value) (w : World) (hv : isCells (wear.map intC) v w) (hl : wear.length ≤ 140737488355328) (hn : n ≤ 140737488355328) :
    Calls Tryz.prog 78 #[v, .int .i64 (n : Int)] w fun e w' => e = .returned (.bool (okWear wear n)) ∧ w = w' := by
  have hen : Enters Tryz.prog 93 := enters_of Tryz.func93 (by kernel_rfl) rfl
  obtain ⟨a, cap, hva⟩ := hv.len
  rw [List.length_map] at hva
  subst hva
  have HV := Lib.hid hv
  clear hv
  by_cases h : n = wear.length
  · subst h
    have HE := Lib.hid (show okWear wear wear.length = !(wear.map intC).any badWear by
      unfold okWear
      rw [decide_eq_true rfl, Bool.true_and, okWear_eq])
    go_enter Tryz.func78, Tryz.ntmps78
    go_wp2_with fail
    refine (contains_i badWear 93 #[] hen (wear.map intC) _ _ HV.out (by simpa using hl) ?_).mono ?_
    · intro x hx
      obtain ⟨y, _, rfl⟩ := List.mem_map.1 hx
      rw [badWear_int]
      exact wear1_any y _
    rintro e w' ⟨rfl, rfl⟩
    generalize (wear.map intC).any badWear = z at *
    go_wp2
    go_ret
    exact ⟨by rw [HE.out]; rfl, rfl⟩
  · have h' : ((wear.length : Int) == (n : Int)) = false := by simp; omega
    go_enter Tryz.func78, Tryz.ntmps78
    go_wp2
    go_ret
    exact ⟨by unfold okWear; rw [decide_eq_false (fun e => h e.symm)]; rfl, rfl⟩

theorem size1_any (s : List UInt8) (n : Nat) (p : Addr) (w : World) (hp : w.cell? p = some (.int .i64 (n : Int))) :
    Calls Tryz.prog 91 #[.string ⟨s.toArray⟩, .pointer (some p)] w fun e w' => e = .returned (.bool (decide (s.length ≠ n))) ∧ w = w' := by
  have hsz : (⟨s.toArray⟩ : ByteArray).size = s.length := size_mk s
  have H := Lib.hid (show ((s.length : Int) != (n : Int)) = decide (s.length ≠ n) by by_cases h : s.length = n <;> simp [h] <;> omega)
  go_enter Tryz.func91, Tryz.ntmps91
  go_wp2
  go_ret
  exact ⟨by rw [← H.out]; rfl, rfl⟩

set_option maxRecDepth 20000 in
set_option maxHeartbeats 400000 in
theorem areOne_any (pages : List (List UInt8)) (v : Value) (w : World) (hv : isCells (pages.map strC) v w) (h0 : 0 < pages.length) (hl : pages.length ≤ 140737488355328) :
    Calls Tryz.prog 77 #[v] w fun e w' => e = .returned (.bool (oneSize pages)) ∧ Below w.heap.size w w' := by
  obtain ⟨b, off, cap, hva, hb, hc⟩ := hv.some_ (by simpa using h0)
  rw [List.length_map] at hva
  subst hva
  have hen : Enters Tryz.prog 91 := enters_of Tryz.func91 (by kernel_rfl) rfl
  have hc0 : w.cell? ⟨b, off, none⟩ = some (.string ⟨(pages.headD []).toArray⟩) := by
    refine hc 0 _ ?_
    cases pages with
    | nil => simp at h0
    | cons q r => rfl
  have HO := Lib.hid (show oneSize pages = (decide (1 ≤ ((pages.headD []).length : Int)) && decide (((pages.headD []).length : Int) ≤ 8192) && !(pages.map strC).any (badPage (pages.headD []).length)) by
    unfold oneSize; rw [okPage_eq])
  generalize pages.headD [] = q at *
  have hsz : (⟨q.toArray⟩ : ByteArray).size = q.length := size_mk q
  have HV := Lib.hid hv
  clear hv hc
  go_enter Tryz.func77, Tryz.ntmps77
  go_wp2_with fail
  refine (isSize_any _ _).mono ?_
  rintro e w1 ⟨rfl, rfl⟩
  cases hs : (decide (1 ≤ (q.length : Int)) && decide ((q.length : Int) ≤ 8192)) with
  | false =>
    go_wp2
    go_ret
    exact ⟨by rw [HO.out, hs]; rfl, (Below.refl _ _).alloc (Nat.le_refl _) _⟩
  | true =>
    go_wp2_with fail
    have hb0 : Below w.heap.size w (w.alloc (.cells #[.int .i64 (q.length : Int)] 3)) := (Below.refl _ _).alloc (Nat.le_refl _) _
    refine (contains_s (badPage q.length) 91 #[.pointer (some ⟨w.heap.size, 0, none⟩)] hen (pages.map strC) _ _ (stable_cells _ _ _ _ HV.out hb0) (by simpa using hl) ?_).mono ?_
    · intro x hx
      obtain ⟨y, _, rfl⟩ := List.mem_map.1 hx
      rw [show badPage q.length (strC y) = decide (y.length ≠ q.length) by rw [badPage_str]]
      exact size1_any y q.length ⟨w.heap.size, 0, none⟩ _ (by rw [World.cell?_alloc_new]; rfl)
    rintro e w' ⟨rfl, rfl⟩
    generalize (pages.map strC).any (badPage q.length) = z at *
    go_wp2
    go_ret
    exact ⟨by rw [HO.out, hs]; rfl, hb0⟩

set_option maxRecDepth 20000 in
set_option maxHeartbeats 1000000 in
theorem mayBe_any (F : Fl) (v : Value) (w : World) (hv : isFl F v w) (h1 : F.pages.length ≤ 140737488355328) (h2 : F.wear.length ≤ 140737488355328) :
    Calls Tryz.prog 50 #[v] w fun e w' => e = .returned (.bool (mayB F)) ∧ Below w.heap.size w w' := by
  obtain ⟨pages, wear, fuse, torn, dead⟩ := F
  obtain ⟨vp, vw, rfl, hp, hw⟩ := hv
  simp only at hp hw h1 h2
  unfold strC
  have htz : (⟨torn.toArray⟩ : ByteArray).size = torn.length := size_mk torn
  obtain ⟨a, cap, hva⟩ := hp.len
  rw [List.length_map] at hva
  have HP := Lib.hid hp
  have HW := Lib.hid hw
  have HM := Lib.hid (show mayB ⟨pages, wear, fuse, torn, dead⟩ = (decide (1 ≤ (pages.length : Int)) && decide ((pages.length : Int) ≤ 6) && oneSize pages && okWear wear pages.length && decide ((torn.length : Int) ≤ 64)) from rfl)
  clear hp hw
  subst hva
  go_enter Tryz.func50, Tryz.ntmps50
  go_wp2_with fail
  have hb0 : Below w.heap.size w (w.alloc (.cells #[.slice a pages.length cap, vw, .int .i64 fuse, .string ⟨torn.toArray⟩, .bool dead] 31)) := (Below.refl _ _).alloc (Nat.le_refl _) _
  refine (isPages_any _ _).mono ?_
  rintro e w1 ⟨rfl, rfl⟩
  cases c1 : (decide (1 ≤ (pages.length : Int)) && decide ((pages.length : Int) ≤ 6)) with
  | false =>
    go_wp2
    go_ret
    exact ⟨by rw [HM.out, c1]; rfl, hb0⟩
  | true =>
    have hpos : 0 < pages.length := by simp at c1; omega
    go_wp2_with fail
    refine (areOne_any pages _ _ (stable_cells _ _ _ _ HP.out hb0) hpos h1).mono ?_
    rintro e w2 ⟨rfl, hb1⟩
    obtain ⟨hg, k0, k1, k2, k3, k4⟩ := (cells5_new w 31 (.slice a pages.length cap) vw (.int .i64 fuse) (.string ⟨torn.toArray⟩) (.bool dead)).keep hb1 (by simp)
    have hB := hb0.trans (hb1.mono hb0.size)
    clear hb1
    cases c2 : oneSize pages with
    | false =>
      go_wp2
      go_ret
      exact ⟨by rw [HM.out, c1, c2]; rfl, hB⟩
    | true =>
      go_wp2_with fail
      refine (areWear_any wear pages.length _ _ (stable_cells _ _ _ _ HW.out hB) h2 h1).mono ?_
      rintro e w3 ⟨rfl, rfl⟩
      cases c3 : okWear wear pages.length with
      | false =>
        go_wp2
        go_ret
        exact ⟨by rw [HM.out, c1, c2, c3]; rfl, hB⟩
      | true =>
        go_wp2
        go_ret
        exact ⟨by rw [HM.out, c1, c2, c3]; rfl, hB⟩

set_option maxRecDepth 20000 in
set_option maxHeartbeats 1000000 in
theorem hasPage_any (F : Fl) (n : Int) (v : Value) (w : World) (hv : isFl F v w) (h1 : F.pages.length ≤ 140737488355328) (h2 : F.wear.length ≤ 140737488355328) :
    Calls Tryz.prog 80 #[v, .int .i64 n] w fun e w' => e = .returned (.bool (hasB F n)) ∧ Below w.heap.size w w' := by
  have HF := Lib.hid hv
  obtain ⟨vp, vw, rfl, hp, hw⟩ := hv
  obtain ⟨a, cap, hva⟩ := hp.len
  rw [List.length_map] at hva
  clear hp hw
  subst hva
  have HM := Lib.hid (show hasB F n = (mayB F && decide (0 ≤ n) && decide (n < F.pages.length)) from rfl)
  unfold strC at HF ⊢
  go_enter Tryz.func80, Tryz.ntmps80
  go_wp2_with fail
  have hb0 : Below w.heap.size w (w.alloc (.cells #[.slice a F.pages.length cap, vw, .int .i64 F.fuse, .string ⟨F.torn.toArray⟩, .bool F.dead] 31)) := (Below.refl _ _).alloc (Nat.le_refl _) _
  refine (mayBe_any F _ _ (stable_fl _ _ _ _ HF.out hb0) h1 h2).mono ?_
  rintro e w2 ⟨rfl, hb1⟩
  obtain ⟨hg, k0, k1, k2, k3, k4⟩ := (cells5_new w 31 (.slice a F.pages.length cap) vw (.int .i64 F.fuse) (.string ⟨F.torn.toArray⟩) (.bool F.dead)).keep hb1 (by simp)
  have hB := hb0.trans (hb1.mono hb0.size)
  clear hb1
  cases c1 : mayB F with
  | false =>
    go_wp2
    go_ret
    exact ⟨by rw [HM.out, c1]; rfl, hB⟩
  | true =>
    by_cases c2 : 0 ≤ n
    · have c2' : decide (0 ≤ n) = true := by simpa using c2
      go_wp2
      go_ret
      exact ⟨by rw [HM.out, c1, c2']; rfl, hB⟩
    · have c2' : decide (0 ≤ n) = false := by simpa using c2
      go_wp2
      go_ret
      exact ⟨by rw [HM.out, c1, c2']; rfl, hB⟩

set_option maxHeartbeats 400000 in
theorem check_any (F : Fl) (v : Value) (w : World) (hv : isFl F v w) (h1 : F.pages.length ≤ 140737488355328) (h2 : F.wear.length ≤ 140737488355328) :
    Calls Tryz.prog 65 #[v] w fun e w' => e = .returned (.int .i64 (checkE F)) ∧ Below w.heap.size w w' := by
  have HF := Lib.hid hv
  obtain ⟨vp, vw, rfl, hp, hw⟩ := hv
  clear hp hw
  unfold strC at HF ⊢
  go_enter Tryz.func65, Tryz.ntmps65
  go_wp2_with fail
  have hb0 : Below w.heap.size w (w.alloc (.cells #[vp, vw, .int .i64 F.fuse, .string ⟨F.torn.toArray⟩, .bool F.dead] 31)) := (Below.refl _ _).alloc (Nat.le_refl _) _
  refine (mayBe_any F _ _ (stable_fl _ _ _ _ HF.out hb0) h1 h2).mono ?_
  rintro e w2 ⟨rfl, hb1⟩
  have hB := hb0.trans (hb1.mono hb0.size)
  clear hb1
  cases c1 : mayB F with
  | false =>
    have H := Lib.hid (show checkE F = 1 by unfold checkE; rw [c1]; rfl)
    go_wp2
    go_ret
    exact ⟨by rw [H.out]; rfl, hB⟩
  | true =>
    have H := Lib.hid (show checkE F = 0 by unfold checkE; rw [c1]; rfl)
    go_wp2
    go_ret
    exact ⟨by rw [H.out]; rfl, hB⟩
end Go.Proofs.YtipiioggdalkoaaGreatDoor
