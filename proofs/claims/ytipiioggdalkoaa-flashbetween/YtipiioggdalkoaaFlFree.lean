/- Contracts of package flash: Rot as a function, Free. -/
import Derived.Test.YtipiioggdalkoaaFlRot
namespace Go.Proofs.Ytipiioggdalkoaa
open Go.RowKit
set_option linter.unusedVariables false
set_option linter.unusedSimpArgs false

def rotB (F : Fl) (page at_ : Int) (turn : List UInt8) : Bool := hasB F page && decide (turn.length ≤ 4) && fitsB F page at_ turn
def rotF (F : Fl) (page at_ : Int) (turn : List UInt8) : Fl := if rotB F page at_ turn = true then { F with pages := F.pages.set page.toNat (rotL (F.pages.getD page.toNat []) at_.toNat turn) } else F
def rotE (F : Fl) (page at_ : Int) (turn : List UInt8) : Int := if rotB F page at_ turn = true then 0 else 1
theorem rot_any (F : Fl) (page at_ : Int) (turn : List UInt8) (v : Value) (w : World) (hv : isFl F v w) (hs : turn.length ≤ 1000000) (h1 : F.pages.length ≤ 1000000) (h2 : F.wear.length ≤ 1000000) :
    Calls Try.prog 19 #[v, .int .i64 page, .int .i64 at_, .string ⟨turn.toArray⟩] w fun e w' => ∃ v', e = .returned (.tuple #[v', .int .i64 (rotE F page at_ turn)]) ∧ isFlN w.heap.size (rotF F page at_ turn) v' w' ∧ Below w.heap.size w w' := by
  cases hh : hasB F page with
  | false =>
    have hb : rotB F page at_ turn = false := by simp [rotB, hh]
    rw [show rotE F page at_ turn = 1 by simp [rotE, hb], show rotF F page at_ turn = F by simp [rotF, hb]]
    exact rot_no1 F turn v w hv hs page at_ h1 h2 hh
  | true =>
    obtain ⟨k, rfl⟩ := has_nat hh
    by_cases hl : turn.length ≤ 4
    · cases hf : fitsB F k at_ turn with
      | false =>
        have hb : rotB F k at_ turn = false := by simp [rotB, hf]
        rw [show rotE F k at_ turn = 1 by simp [rotE, hb], show rotF F k at_ turn = F by simp [rotF, hb]]
        unfold fitsB at hf
        rw [Int.toNat_natCast] at hf
        exact rot_no3 F turn v w hv hs k at_ hh hl hf
      | true =>
        have hb : rotB F k at_ turn = true := by simp [rotB, hh, hl, hf]
        have hf' := hf
        unfold fitsB at hf'
        rw [Int.toNat_natCast] at hf'
        simp only [Bool.and_eq_true, decide_eq_true_eq] at hf'
        obtain ⟨n, rfl⟩ := Int.eq_ofNat_of_zero_le hf'.1
        rw [show rotE F k n turn = 0 by simp [rotE, hb]]
        unfold rotF
        rw [if_pos hb, Int.toNat_natCast, Int.toNat_natCast]
        exact rot_yes F turn v w hv hs k n hh hl (by omega)
    · have hb : rotB F (k : Int) at_ turn = false := by simp [rotB, hl]
      rw [show rotE F k at_ turn = 1 by simp [rotE, hb], show rotF F k at_ turn = F by simp [rotF, hb]]
      exact rot_no2 F turn v w hv hs k at_ hh (by omega)

theorem free1_any (b : UInt8) (w : World) : Calls Try.prog 52 #[.int .u8 (b.toNat : Int)] w fun e w' => e = .returned (.bool (decide (b ≠ 255))) ∧ w = w' := by
  have H := Lib.hid (show ((b.toNat : Int) != 255) = decide (b ≠ 255) by
    by_cases h : b = 255
    · subst h; decide
    · have : b.toNat ≠ 255 := fun e => h (UInt8.toNat_inj.1 e)
      simp [h]
      omega)
  go_enter Try.func52, Try.ntmps52
  go_wp2
  go_ret
  exact ⟨by rw [← H.out]; rfl, rfl⟩
def byteC (b : UInt8) : Value := .int .u8 (b.toNat : Int)
def notFull : Value → Bool
  | .int .u8 x => decide (x ≠ 255)
  | _ => false
theorem notFull_byte (b : UInt8) : notFull (byteC b) = decide (b ≠ 255) := by
  show decide ((b.toNat : Int) ≠ 255) = _
  rw [decide_eq_decide]
  constructor
  · rintro h rfl; exact h rfl
  · intro h e; exact h (UInt8.toNat_inj.1 (by have : (255 : UInt8).toNat = 255 := rfl; omega))
attribute [irreducible] notFull
def freeB (F : Fl) (page : Int) : Bool := hasB F page && (F.pages.getD page.toNat []).all fun b => decide (b = 255)
theorem all_full (l : List UInt8) : (l.all fun b => decide (b = 255)) = !(l.map byteC).any notFull := by
  induction l with
  | nil => rfl
  | cons b l ih =>
    rw [List.all_cons, List.map_cons, List.any_cons, notFull_byte, ih, Bool.not_or]
    congr 1
    by_cases h : b = 255 <;> simp [h]
theorem cells_of_row {w : World} {g cap : Nat} {l : List UInt8} (h : BRow w g l) (hg : g < w.heap.size) : isCells (l.map byteC) (.slice (some ⟨g, 0, none⟩) l.length cap) w := by
  refine .inr (.inr ⟨g, 0, cap, by rw [List.length_map], hg, fun j x hx => ?_⟩)
  have hj : j < l.length := by have := (List.getElem?_eq_some_iff.1 hx).1; simpa using this
  rw [get_map byteC l j hj] at hx
  injection hx with hx
  rw [← hx, Nat.zero_add]
  exact (h j hj).1

set_option maxRecDepth 20000 in
set_option maxHeartbeats 1000000 in
theorem free_no (F : Fl) (page : Int) (v : Value) (w : World) (hv : isFl F v w) (h1 : F.pages.length ≤ 1000000) (h2 : F.wear.length ≤ 1000000) (hhas : hasB F page = false) :
    Calls Try.prog 24 #[v, .int .i64 page] w fun e w' => e = .returned (.bool false) ∧ Below w.heap.size w w' := by
  obtain ⟨vp, vw, rfl, hp, hq⟩ := hv
  have hb0 : Below w.heap.size w (w.alloc (.cells #[vp, vw, .int .i64 F.fuse, strC F.torn, .bool F.dead] 25)) := (Below.refl _ _).alloc (Nat.le_refl _) _
  have HP := Kept.mk hp
  have HQ := Kept.mk hq
  have HB0 := Kept.mk hb0
  have HH := Kept.mk hhas
  clear hp hq hb0 hhas
  go_enter Try.func24, Try.ntmps24
  go_wp2_with fail
  refine (hasPage_any F page _ _ ⟨vp, vw, rfl, stable_cells _ _ _ _ HP.out HB0.out, stable_cells _ _ _ _ HQ.out HB0.out⟩ (by omega) (by omega)).mono ?_
  rintro e w1 ⟨rfl, hb1⟩
  rewrite [HH.out]
  have hB := Kept.mk (HB0.out.trans (hb1.mono HB0.out.size))
  clear hb1
  go_wp2
  go_ret
  exact ⟨rfl, hB.out⟩

set_option maxRecDepth 20000 in
set_option maxHeartbeats 1000000 in
theorem free_yes (F : Fl) (k : Nat) (v : Value) (w : World) (hv : isFl F v w) (hhas : hasB F (k : Int) = true) :
    Calls Try.prog 24 #[v, .int .i64 (k : Int)] w fun e w' => e = .returned (.bool ((F.pages.getD k []).all fun b => decide (b = 255))) ∧ Below w.heap.size w w' := by
  have hen : Enters Try.prog 52 := enters_of Try.func52 (by kernel_rfl) rfl
  have HHF := Kept.mk (has_facts F k hhas)
  obtain ⟨hk, h6, hwl, htl, hpg, hwr⟩ := HHF.out
  obtain ⟨was, hwas⟩ : ∃ was, F.pages[k]? = some was := ⟨_, List.getElem?_eq_getElem hk⟩
  have hwm : was.length ≤ 8192 := (hpg _ (List.mem_of_getElem? hwas)).2.1
  obtain ⟨vp, vw, rfl, hp, hq⟩ := hv
  obtain ⟨b, off, cap, hvp, hb, hc⟩ := hp.some_ (by rw [List.length_map]; omega)
  rw [List.length_map] at hvp
  subst hvp
  have HC1 := Kept.mk (show w.cell? ⟨b, off + k, none⟩ = some (.string ⟨was.toArray⟩) from hc k _ (by simp [hwas, strC]))
  have hget1 : F.pages.getD k [] = was := by simp [List.getD_eq_getElem?_getD, hwas]
  rw [hget1, all_full]
  have hb0 : Below w.heap.size w (w.alloc (.cells #[.slice (some ⟨b, off, none⟩) F.pages.length cap, vw, .int .i64 F.fuse, strC F.torn, .bool F.dead] 25)) := (Below.refl _ _).alloc (Nat.le_refl _) _
  have HP := Kept.mk hp
  have HQ := Kept.mk hq
  have HB0 := Kept.mk hb0
  have HH := Kept.mk hhas
  have h2 : F.wear.length ≤ 1000000 := by omega
  have hsz : (⟨was.toArray⟩ : ByteArray).size = was.length := size_mk was
  have hcv := fun W => Lib.run_convert_string_bytes (P := Try.prog) W 9 43 5 ⟨was.toArray⟩ Try.underlying9 Try.underlying43 Try.underlying5
  clear hp hq hb0 hhas hwl hpg hwr hc hget1 hwas
  go_enter Try.func24, Try.ntmps24
  go_wp2_with fail
  refine (hasPage_any F k _ _ ⟨_, vw, rfl, stable_cells _ _ _ _ HP.out HB0.out, stable_cells _ _ _ _ HQ.out HB0.out⟩ (by omega) (by omega)).mono ?_
  rintro e w1 ⟨rfl, hb1⟩
  rewrite [HH.out]
  obtain ⟨_, k0, k1, k2, k3, k4⟩ := (cells5_new w 25 (.slice (some ⟨b, off, none⟩) F.pages.length cap) vw (.int .i64 F.fuse) (strC F.torn) (.bool F.dead)).keep hb1 (by simp)
  have hB := Kept.mk (HB0.out.trans (hb1.mono HB0.out.size))
  have kc := (hB.out.cell (p := ⟨b, off + k, none⟩) hb).trans HC1.out
  clear hb1
  go_wp2_with fail
  have hrow := bytesWorld_row w1 5 ⟨was.toArray⟩
  have hbw := bytesWorld_below w1 5 ⟨was.toArray⟩
  have hsw : w1.heap.size < (Lib.bytesWorld w1 5 ⟨was.toArray⟩).heap.size := by rw [Lib.bytesWorld_size]; omega
  refine (contains_b notFull 52 #[] hen (was.map byteC) _ _ (cells_of_row (l := was) (by simpa using hrow) hsw) (by rw [List.length_map]; omega) ?_).mono ?_
  · intro x hx
    obtain ⟨y, _, rfl⟩ := List.mem_map.1 hx
    rw [notFull_byte]
    exact free1_any y _
  rintro e w' ⟨rfl, rfl⟩
  have hB2 := Kept.mk (hB.out.trans (hbw.mono hB.out.size))
  clear hrow hbw hsw hcv
  generalize Lib.bytesWorld w1 5 ⟨was.toArray⟩ = W at *
  obtain ⟨z, hz⟩ : ∃ z, z = (was.map byteC).any notFull := ⟨_, rfl⟩
  rewrite [← hz]
  have HZ := Kept.mk hz
  clear hz
  go_wp2
  go_ret
  exact ⟨by rw [← HZ.out]; rfl, hB2.out⟩
theorem free_any (F : Fl) (page : Int) (v : Value) (w : World) (hv : isFl F v w) (h1 : F.pages.length ≤ 1000000) (h2 : F.wear.length ≤ 1000000) :
    Calls Try.prog 24 #[v, .int .i64 page] w fun e w' => e = .returned (.bool (freeB F page)) ∧ Below w.heap.size w w' := by
  cases hh : hasB F page with
  | false =>
    rw [show freeB F page = false by simp [freeB, hh]]
    exact free_no F page v w hv h1 h2 hh
  | true =>
    obtain ⟨k, rfl⟩ := has_nat hh
    rw [show freeB F k = (F.pages.getD k []).all fun b => decide (b = 255) by unfold freeB; rw [hh, Int.toNat_natCast]; rfl]
    exact free_yes F k v w hv hh
end Go.Proofs.Ytipiioggdalkoaa
