/- Contract of octet.Get. -/
import Derived.Test.YtebjljiklacolaaOctIter
namespace Go.Proofs.Ytebjljiklacolaa
open Go.RowKit Go.Shelf
set_option linter.unusedVariables false
attribute [local go_sem] Oper.semAt_some

set_option maxHeartbeats 1000000 in
theorem digits_in (F : Fence) (n : Nat) (hF : F.fn 53) (hro : F.round = none) (s : ByteArray) (w : World) :
    CallsIn F n Try.prog 53 #[.string s] w fun e w' => e = .returned (.func (.func 60) #[] #[.pointer (some ⟨w.heap.size, 0, none⟩)]) ∧ w' = w.alloc (.cells #[.string s] 9) := by
  refine callsIn_of_wp Try.func53 rfl hF ?_ hro
  simp only [Try.ntmps53, List.size_toArray, List.length_cons, List.length_nil, Nat.reduceAdd, Nat.reduceSub, Array.replicate_succ, Array.replicate_zero, List.push_toArray, List.append_toArray, List.nil_append, List.cons_append]
  gi_wp2
  go_ret
  exact ⟨rfl, rfl⟩

theorem newCell (W : World) (v : Value) (t : TypeId) : (W.alloc (.cells #[v] t)).cell? ⟨W.heap.size, 0, none⟩ = some v ∧ (W.alloc (.cells #[v] t)).frozen? ⟨W.heap.size, 0, none⟩ = false :=
  ⟨by rw [World.cell?_alloc_new]; rfl, World.frozen?_alloc_new W _ _ _⟩
theorem oldCell {W : World} {a : Addr} {v : Value} (o : Obj) (h : W.cell? a = some v) : (W.alloc o).cell? a = some v :=
  cell_kept h (World.grownBy_alloc W o none) (fun r e => by cases e)
theorem oldFree {W : World} {a : Addr} {v : Value} (o : Obj) (h : W.cell? a = some v) (hf : W.frozen? a = false) : (W.alloc o).frozen? a = false :=
  (frozen_kept h (World.grownBy_alloc W o none) (fun r e => by cases e)).trans hf

/-- The digits, put together one by one. -/
def valOf (pre : List Dig) : Nat := pre.foldl (fun n x => n ||| (x.2.toNat <<< (8 * x.1.val))) 0
theorem valOf_snoc (pre : List Dig) (x : Dig) : valOf (pre ++ [x]) = valOf pre ||| (x.2.toNat <<< (8 * x.1.val)) := by simp [valOf]
theorem dig_lt (x : Dig) : x.2.toNat <<< (8 * x.1.val) < 2 ^ 56 := by
  have h1 := x.2.toNat_lt
  have h2 := x.1.isLt
  rw [Nat.shiftLeft_eq]
  calc x.2.toNat * 2 ^ (8 * x.1.val) < 2 ^ 8 * 2 ^ (8 * x.1.val) := Nat.mul_lt_mul_of_pos_right h1 (Nat.pow_pos (by omega))
    _ = 2 ^ (8 + 8 * x.1.val) := by rw [Nat.pow_add]
    _ ≤ 2 ^ 56 := Nat.pow_le_pow_right (by omega) (by omega)
theorem valOf_lt (pre : List Dig) : valOf pre < 2 ^ 56 := by
  have h : ∀ (pre : List Dig) (n : Nat), n < 2 ^ 56 → pre.foldl (fun n x => n ||| (x.2.toNat <<< (8 * x.1.val))) n < 2 ^ 56 := by
    intro pre
    induction pre with
    | nil => intro n hn; exact hn
    | cons x r ih => intro n hn; exact ih _ (Nat.or_lt_two_pow hn (dig_lt x))
  exact h pre 0 (by decide)

theorem i64_or_nat (a b : Nat) (ha : a < 2 ^ 56) (hb : b < 2 ^ 56) : bits .or .i64 (a : Int) (b : Int) = ((a ||| b : Nat) : Int) := by
  have hab : a ||| b < 2 ^ 56 := Nat.or_lt_two_pow ha hb
  have e1 : (BitVec.ofInt 64 (a : Int) ||| BitVec.ofInt 64 (b : Int)).toNat = a ||| b := by
    rw [BitVec.toNat_or, ofInt_u64 a (by omega), ofInt_u64 b (by omega)]
  show IntKind.i64.wrap (((BitVec.ofInt 64 (a : Int) ||| BitVec.ofInt 64 (b : Int)).toNat : Nat) : Int) = _
  rw [e1]
  exact IntWalk.i64_in _ (by omega)

theorem valOf_step (pre : List Dig) (x : Dig) :
    bits .or .i64 (valOf pre : Int) (IntKind.i64.wrap ((x.2.toNat : Int) * 2 ^ (8 * (x.1.val : Int)).toNat)) = (valOf (pre ++ [x]) : Int) := by
  have e : ((x.2.toNat : Int) * 2 ^ (8 * (x.1.val : Int)).toNat) = ((x.2.toNat <<< (8 * x.1.val) : Nat) : Int) := by
    rw [show (8 * (x.1.val : Int)).toNat = 8 * x.1.val by omega, Nat.shiftLeft_eq]
    simp
  have h := dig_lt x
  rw [valOf_snoc, e]
  generalize x.2.toNat <<< (8 * x.1.val) = q at h ⊢
  rw [IntWalk.i64_in _ (by omega), i64_or_nat _ _ (valOf_lt pre) h]

theorem boxKept_t (b : Nat) {A B C : World} (h : BoxKept b A B) (k : BoxKept b B C) : BoxKept b A C := k.trans h
theorem boxKept_put (b m : Nat) (hb : b < m) (W : World) (l : Nat) (o o' : Obj) (h : m ≤ l) (_ : W.heap[l]? = some o) (_ : o.isCells = false) (_ : o.isWalk = false) : BoxKept b W (W.putObj l o') := by
  refine World.cell?_of_block (w := W) ?_
  simp [World.putObj, Array.getElem?_setIfInBounds]
  omega

theorem digits_stops (F : Fence) (n : Nat) (hF : F.fn 60) (hro : F.round = none) (hn : 1 ≤ n) (Bs : Nat) (s : ByteArray) (hs : s.data.toList.length ≤ 7) (w : World) (hB : Bs < w.heap.size) (hBs : w.cell? ⟨Bs, 0, none⟩ = some (.string s)) :
    SeqStopsK F n Try.prog 60 #[.pointer (some ⟨Bs, 0, none⟩)] encDig (BoxKept Bs) (fun ys => ys = digs s.data.toList hs s.size) (fun _ => True) s.size w := fun l J Jx W hW _ _ hY h0 =>
  digits1_in F n hF hro hn l Bs s hs J Jx hY W ((hW.cell (p := ⟨Bs, 0, none⟩) hB).trans hBs) h0

theorem mixed : Try.prog.follows .mixedOrders = true := by kernel_rfl

set_option maxRecDepth 100000 in
set_option maxHeartbeats 1000000 in
theorem get_in (F : Fence) (n : Nat) (hF0 : F.fn 42) (hF1 : F.fn 53) (hF2 : F.fn 60) (hF3 : F.fn 38) (hw : F = Fence.wide) (hro : F.round = none) (hn : 3 ≤ n)
    (s : ByteArray) (at_ wd : Nat) (hs : s.size ≤ 1000000000) (h1 : 1 ≤ wd) (h7 : wd ≤ 7) (hfit : at_ + wd ≤ s.size) (w : World) (hwd : isWidthB (wd : Int) = true) (hcut : (s.extract at_ (at_ + wd)).data.toList.length ≤ 7) :
    CallsIn F n Try.prog 42 #[.string s, .int .i64 (at_ : Int), .int .i64 (wd : Int)] w fun e W' =>
      e = .returned (.tuple #[.int .i64 (valOf (digs (s.extract at_ (at_ + wd)).data.toList hcut (s.extract at_ (at_ + wd)).size) : Int), .int .i64 0]) ∧ Below w.heap.size w W' := by
  have hn1 : 1 ≤ n := by omega
  have hd0 : decide ((at_ : Int) < 0) = false := by simp
  have hd1 : decide ((s.size : Int) - (wd : Int) < (at_ : Int)) = false := by simp; omega
  refine callsIn_of_wp_marks Try.func42 rfl hF0 ?_ hro
  simp only [Try.ntmps42, List.size_toArray, List.length_cons, List.length_nil, Nat.reduceAdd, Nat.reduceSub, Array.replicate_succ, Array.replicate_zero, List.push_toArray, List.append_toArray, List.nil_append, List.cons_append]
  subst hw
  gi_wp2_with (first | (gi_at_call 38; refine (callsIn_wide.2 (isWidth_any _ _)).mono ?_; rintro e w' ⟨rfl, rfl⟩) | (gi_at_call 53; refine (digits_in Fence.wide (n - 1) hF1 hro _ _).mono ?_; rintro e w' ⟨rfl, rfl⟩))
  generalize s.extract at_ (at_ + wd) = c at hcut ⊢
  have cn := newCell w (.int .i64 0) 3
  have cb := newCell (w.alloc (.cells #[.int .i64 0] 3)) (.string c) 9
  rw [World.size_alloc] at cb
  have hB0 : Below w.heap.size w ((w.alloc (.cells #[.int .i64 0] 3)).alloc (.cells #[.string c] 9)) := ((Below.refl _ w).alloc (Nat.le_refl _) _).alloc (by simp) _
  refine wpIn_rangeFunc_ownF hro hn1 (gf := 60) (lb := #[.pointer (some ⟨w.heap.size + 1, 0, none⟩)]) rfl hF2 (enters_of Try.func60 (by kernel_rfl) rfl)
    (digits_stops Fence.wide (n - 1) hF2 hro (by omega) (w.heap.size + 1) c hcut _ (by simp) cb.1) (boxKept_t _) (boxKept_put _ _ (by simp)) (Below.refl _ _) (fun _ => rfl)
    (fun pre W => (W.cell? ⟨w.heap.size, 0, none⟩ = some (.int .i64 (valOf pre : Int)) ∧ W.frozen? ⟨w.heap.size, 0, none⟩ = false) ∧ Below w.heap.size w W)
    (fun _ _ _ => False)
    (OwnFrom.and (Own.from (fun s A B row hs hg hr => ⟨cell_kept hs.1 hg hr, (frozen_kept hs.1 hg hr).trans hs.2⟩) _) (ownFrom_below (Nat.le_refl _) (by simp; omega)))
    (fun _ _ _ _ _ hs _ _ => hs)
    ⟨⟨oldCell _ cn.1, oldFree _ cn.1 cn.2⟩, hB0⟩
    (fun x => { tmps := #[Value.string s, Value.int IntKind.i64 ↑at_, Value.int IntKind.i64 ↑wd, undef, undef, undef,
          Value.int IntKind.i64 0, Value.int IntKind.i64 0, Value.pointer (some { block := w.heap.size, off := 0 }),
          .int .i64 (8 * (x.1.val : Int)), .int .i64 (x.2.toNat : Int), Value.int IntKind.i64 ↑wd, Value.bool true, Value.bool false, Value.int IntKind.i64 ↑at_,
          Value.bool false, Value.bool false, Value.int IntKind.i64 ↑at_, Value.string s, Value.int IntKind.i64 ↑s.size,
          Value.int IntKind.i64 ↑wd, Value.int IntKind.i64 (↑s.size - ↑wd), Value.bool false, Value.bool false,
          Value.string s, Value.int IntKind.i64 ↑at_, Value.int IntKind.i64 ↑at_, Value.int IntKind.i64 ↑wd,
          Value.int IntKind.i64 (↑at_ + ↑wd), Value.string c,
          Value.func (Fn.func 60) #[] #[Value.pointer (some { block := w.heap.size + 1, off := 0 })], .int .i64 (8 * (x.1.val : Int)), .int .i64 (x.2.toNat : Int),
          undef, undef, undef, undef, undef, undef], defers := [] }) ?assign ?body ?done ?stop
  case assign =>
    intro l x W K hK
    simp only [encDig]
    gi_wp2
    exact hK
  case body =>
    rintro l pre x W ⟨⟨hc, hf⟩, hB⟩ _
    have hv := valOf_lt pre
    have hx1 := x.1.isLt
    have hx2 : x.2.toNat < 256 := x.2.toNat_lt
    clear cn cb hB0
    have hmix : Try.prog.follows .mixedOrders = true := mixed
    gi_wp2
    gi_region_with_o (fail)
    all_goals gi_wp2
    all_goals
      go_light
      rw [valOf_step]
      exact ⟨(KeepsOthers.setCell _ _ _).trans (KeepsOthers.drew _), World.cell?_setCell_other _ _ _ _ (by intro h; injection h; omega), ⟨World.cell?_setCell_same' _ _ _ (by rw [hc]; rfl), by rw [World.frozen?_drew, World.frozen?_setCell]; exact hf⟩, (hB.setCell (p := ⟨w.heap.size, 0, none⟩) (Nat.le_refl _) _).drew⟩
  case done =>
    rintro D ys W hD rfl ⟨⟨hc, _⟩, hB⟩ hK
    gi_wp2
    refine ⟨by simp, .inl ⟨_, _, rfl, run_takeDeferred hK, ?_⟩⟩
    exact ⟨_, results_tmp2 rfl _ _ _, rfl, hB.trans (belowK_b (w := w) (Nat.le_refl _) W D _ _ (by simp at hD; omega) hK rfl rfl)⟩
  case stop =>
    rintro D c pre W _ _ h _
    exact h.elim

/-- The number that bytes are, the lowest ones first. -/
def getN : List UInt8 → Nat
  | [] => 0
  | b :: r => b.toNat + 256 * getN r

theorem getN_lt : ∀ l : List UInt8, getN l < 256 ^ l.length
  | [] => by simp [getN]
  | b :: r => by
    have h := getN_lt r
    have hb := b.toNat_lt
    simp only [getN, List.length_cons, Nat.pow_succ]
    omega

theorem getN_append : ∀ a b : List UInt8, getN (a ++ b) = getN a + 256 ^ a.length * getN b
  | [], b => by simp [getN]
  | x :: a, b => by
    simp only [List.cons_append, getN, getN_append a b, List.length_cons, Nat.pow_succ, Nat.mul_add]
    rw [show 256 ^ a.length * 256 * getN b = 256 * (256 ^ a.length * getN b) by rw [Nat.mul_comm (256 ^ a.length) 256, Nat.mul_assoc]]
    omega

theorem valOf_digs (l : List UInt8) (h : l.length ≤ 7) : ∀ k, k ≤ l.length → valOf (digs l h k) = getN (l.take k)
  | 0, _ => rfl
  | k + 1, hk => by
    have ih := valOf_digs l h k (by omega)
    have hlt := getN_lt (l.take k)
    rw [digs_succ l h k (by omega), valOf_snoc, ih, List.take_succ_eq_append_getElem (by omega), getN_append]
    have hl : (l.take k).length = k := by simp; omega
    rw [hl] at hlt ⊢
    simp only [digAt, getN, Nat.mul_zero, Nat.add_zero]
    rw [Nat.shiftLeft_eq, Nat.or_comm, nat_join (8 * k) _ _ (by simp) (by rw [pow8]; exact hlt), pow8, Nat.mul_comm (l[k].toNat)]
    omega

def okGet (s : ByteArray) (at_ wd : Int) : Bool := decide (0 ≤ at_) && decide (at_ ≤ (s.size : Int) - wd)
def getV (s : ByteArray) (at_ wd : Int) : Int := if isWidthB wd = true ∧ okGet s at_ wd = true then (getN ((s.data.toList.drop at_.toNat).take wd.toNat) : Int) else 0
def getE (s : ByteArray) (at_ wd : Int) : Int := if isWidthB wd = true then (if okGet s at_ wd = true then 0 else 2) else 1

set_option maxHeartbeats 400000 in
theorem get_bad1 (s : ByteArray) (at_ wd : Int) (w : World) (h : isWidthB wd = false) :
    Calls Try.prog 42 #[.string s, .int .i64 at_, .int .i64 wd] w fun e w' => e = .returned (.tuple #[.int .i64 0, .int .i64 1]) ∧ w = w' := by
  go_enter Try.func42, Try.ntmps42
  go_wp2_with (go_at_call 38; refine (isWidth_any _ _).mono ?_; rintro e w' ⟨rfl, rfl⟩)
  go_ret2
  exact ⟨rfl, rfl⟩
set_option maxHeartbeats 400000 in
theorem get_bad2 (s : ByteArray) (at_ wd : Int) (w : World) (h : isWidthB wd = true) (ha : at_ < 0) :
    Calls Try.prog 42 #[.string s, .int .i64 at_, .int .i64 wd] w fun e w' => e = .returned (.tuple #[.int .i64 0, .int .i64 2]) ∧ w = w' := by
  go_enter Try.func42, Try.ntmps42
  go_wp2_with (go_at_call 38; refine (isWidth_any _ _).mono ?_; rintro e w' ⟨rfl, rfl⟩)
  go_ret2
  exact ⟨rfl, rfl⟩
set_option maxHeartbeats 400000 in
theorem get_bad3 (s : ByteArray) (at_ wd : Int) (w : World) (hs : s.size ≤ 1000000000) (h : isWidthB wd = true) (h1 : 1 ≤ wd) (h7 : wd ≤ 7) (ha : 0 ≤ at_) (hb : (s.size : Int) - wd < at_) :
    Calls Try.prog 42 #[.string s, .int .i64 at_, .int .i64 wd] w fun e w' => e = .returned (.tuple #[.int .i64 0, .int .i64 2]) ∧ w = w' := by
  have ha' : decide (at_ < 0) = false := by simp; omega
  go_enter Try.func42, Try.ntmps42
  go_wp2_with (go_at_call 38; refine (isWidth_any _ _).mono ?_; rintro e w' ⟨rfl, rfl⟩)
  go_ret2
  exact ⟨rfl, rfl⟩

theorem get_any (s : ByteArray) (at_ wd : Int) (w : World) (hs : s.size ≤ 1000000000) :
    Calls Try.prog 42 #[.string s, .int .i64 at_, .int .i64 wd] w fun e w' => e = .returned (.tuple #[.int .i64 (getV s at_ wd), .int .i64 (getE s at_ wd)]) ∧ Below w.heap.size w w' := by
  cases h : isWidthB wd with
  | false =>
    refine (get_bad1 s at_ wd w h).mono ?_
    rintro e w' ⟨rfl, rfl⟩
    exact ⟨by simp [getV, getE, h], Below.refl _ _⟩
  | true =>
    have hwd : 1 ≤ wd ∧ wd ≤ 7 := by simpa [isWidthB] using h
    by_cases ha : at_ < 0
    · refine (get_bad2 s at_ wd w h ha).mono ?_
      rintro e w' ⟨rfl, rfl⟩
      have ok : okGet s at_ wd = false := by simp [okGet]; omega
      exact ⟨by simp [getV, getE, h, ok], Below.refl _ _⟩
    · by_cases hb : (s.size : Int) - wd < at_
      · refine (get_bad3 s at_ wd w hs h hwd.1 hwd.2 (by omega) hb).mono ?_
        rintro e w' ⟨rfl, rfl⟩
        have ok : okGet s at_ wd = false := by simp [okGet]; omega
        exact ⟨by simp [getV, getE, h, ok], Below.refl _ _⟩
      · have ok : okGet s at_ wd = true := by simp [okGet]; omega
        obtain ⟨a, rfl⟩ := Int.eq_ofNat_of_zero_le (show 0 ≤ at_ by omega)
        obtain ⟨b, rfl⟩ := Int.eq_ofNat_of_zero_le (show 0 ≤ wd by omega)
        have e1 : (s.extract a (a + b)).data.toList = (s.data.toList.drop a).take b := by
          rw [ByteArray.data_extract, Array.toList_extract, List.extract_eq_take_drop]
          simp
        have e2 : (s.extract a (a + b)).data.toList.length = b := by rw [e1]; simp; omega
        have e3 : (s.extract a (a + b)).size = b := by have h : (s.extract a (a + b)).size = (s.extract a (a + b)).data.toList.length := by rw [Array.length_toList]; rfl
                                                       rw [h, e2]
        refine (callsIn_wide.1 (get_in Fence.wide 3 trivial trivial trivial trivial rfl rfl (by omega) s a b hs (by omega) (by omega) (by omega) w h (by omega))).mono ?_
        rintro e w' ⟨rfl, hbel⟩
        refine ⟨?_, hbel⟩
        have e4 := valOf_digs (s.extract a (a + b)).data.toList (by omega) (s.extract a (a + b)).size (by omega)
        rw [e4]
        simp only [getV, getE, h, ok, Int.toNat_natCast, if_true, and_self]
        rw [e3, e1, List.take_of_length_le (by rw [List.length_take]; omega)]
end Go.Proofs.Ytebjljiklacolaa
