/- Joined texts: contracts of the program's functions, and the mathematics that they lean on. -/
import Derived.Test.YtpjafjnokgeifaaGreatDoorPartA
import Derived.Maps.AppendAt
import Derived.OwnWalk
import Derived.Laws.BytesArg
import Derived.RegionTactic
import Derived.Handy
section
namespace Go.Proofs.YtpjafjnokgeifaaGreatDoor
open Go.RowKit
set_option linter.unusedVariables false
set_option linter.unusedSimpArgs false

/-- Which bits of a page's bytes are done, if a step is torn. -/
def maskL (torn : List UInt8) (n : Nat) : List UInt8 := (List.range n).map fun i => torn.getD (i % torn.length) 0
theorem length_maskL (torn : List UInt8) (n : Nat) : (maskL torn n).length = n := by simp [maskL]
theorem length_repeatL (l : List UInt8) (c : Nat) : (Lib.repeatL l c).length = c * l.length := by
  induction c with
  | zero => simp [Lib.repeatL]
  | succ c ih => rw [Lib.repeatL, List.length_append, ih, Nat.succ_mul, Nat.add_comm]
theorem repeatL_get (l : List UInt8) (h : l ≠ []) : ∀ (c i : Nat), i < c * l.length → (Lib.repeatL l c)[i]? = some (l.getD (i % l.length) 0)
  | 0, i, hi => by simp at hi
  | c + 1, i, hi => by
    have h0 : 0 < l.length := List.length_pos_iff.2 h
    rw [Lib.repeatL]
    by_cases e : i < l.length
    · rw [List.getElem?_append_left e, Nat.mod_eq_of_lt e, List.getElem?_eq_getElem e]; simp [List.getD_eq_getElem?_getD, e]
    · rw [List.getElem?_append_right (by omega), repeatL_get l h c (i - l.length) (by rw [Nat.succ_mul] at hi; omega)]
      rw [Nat.mod_eq_sub_mod (a := i) (by omega)]
theorem take_repeatL (torn : List UInt8) (h : torn ≠ []) (n : Nat) : (Lib.repeatL torn (n / torn.length + 1)).take n = maskL torn n := by
  have h0 : 0 < torn.length := List.length_pos_iff.2 h
  have hn : n < (n / torn.length + 1) * torn.length := by
    have e1 := Nat.div_add_mod n torn.length
    have e2 := Nat.mod_lt n h0
    rw [Nat.succ_mul, Nat.mul_comm]
    omega
  apply List.ext_getElem?
  intro i
  rw [List.getElem?_take]
  by_cases e : i < n
  · rw [if_pos e, repeatL_get torn h _ i (by omega)]
    unfold maskL
    simp [e]
  · rw [if_neg e, List.getElem?_eq_none (by rw [length_maskL]; omega)]
theorem ext_takeF (l : List UInt8) (n : Nat) : (⟨l.toArray⟩ : ByteArray).extract 0 n = ⟨(l.take n).toArray⟩ := by
  apply ByteArray.ext
  apply Array.toList_inj.1
  rw [ByteArray.data_extract, Array.toList_extract, List.extract_eq_take_drop]
  simp
theorem repeatL_zero (n : Nat) : Lib.repeatL [0] n = maskL [] n := by
  induction n with
  | zero => rfl
  | succ n ih =>
    rw [Lib.repeatL, ih]
    unfold maskL
    rw [List.range_succ_eq_map]
    simp [List.getD_eq_getElem?_getD]

set_option maxHeartbeats 400000 in
theorem goingRound_any (torn : List UInt8) (n : Nat) (w : World) (hn : n ≤ 1000000) (ht : torn.length ≤ 1000000) :
    Calls Tryz.prog 188 #[.string ⟨torn.toArray⟩, .int .i64 (n : Int)] w fun e w' => e = .returned (.string ⟨(maskL torn n).toArray⟩) ∧ Below w.heap.size w w' := by
  by_cases h : torn = []
  · subst h
    have H := Lib.hid (repeatL_zero n)
    go_enter Tryz.func188, Tryz.ntmps188
    go_wp2_with fail
    refine (Tryz.strings_Repeat ⟨#[0]⟩ n _ (by omega) (by show 1 * n ≤ _; omega)).mono ?_
    rintro e w' ⟨rfl, hb⟩
    go_wp2
    go_ret
    exact ⟨ret_str H.out, hb⟩
  · have h0 : 0 < torn.length := List.length_pos_iff.2 h
    have hsz : (⟨torn.toArray⟩ : ByteArray).size = torn.length := size_mk torn
    have hbe : (torn == []) = false := by simpa using h
    obtain ⟨q, hq⟩ : ∃ q, q = n / torn.length := ⟨_, rfl⟩
    have hqn : q ≤ n := by rw [hq]; exact Nat.div_le_self _ _
    have hqd : ((n : Int) / (torn.length : Int)) = (q : Int) := by rw [hq]; simp
    have hmul : torn.length * (q + 1) ≤ n + torn.length := by rw [hq, Nat.mul_add, Nat.mul_one]; have := Nat.mul_div_le n torn.length; omega
    have H := Lib.hid (take_repeatL torn h n)
    rw [← hq] at H
    have hlen := length_repeatL torn (q + 1)
    have hle : n ≤ (q + 1) * torn.length := by
      have := congrArg List.length H.out
      rw [List.length_take, length_maskL, hlen] at this
      omega
    have hext := ext_takeF (Lib.repeatL torn (q + 1)) n
    have hrsz : (⟨(Lib.repeatL torn (q + 1)).toArray⟩ : ByteArray).size = (q + 1) * torn.length := by rw [size_mk]; exact hlen
    obtain ⟨m, hm⟩ : ∃ m, m = (q + 1) * torn.length := ⟨_, rfl⟩
    rw [← hm] at hrsz hle hlen
    have hm2 : m ≤ n + torn.length := by rw [hm, Nat.mul_comm]; exact hmul
    have HQ := Lib.hid hq
    have HM := Lib.hid hm
    have HU := Lib.hid hmul
    clear hq hm h hmul
    go_enter Tryz.func188, Tryz.ntmps188
    go_wp2_with fail
    refine (Tryz.strings_Repeat ⟨torn.toArray⟩ (q + 1) _ (by omega) (by rw [size_mk]; have := HU.out; omega)).mono ?_
    rintro e w' ⟨rfl, hb⟩
    have ht2 : (⟨torn.toArray⟩ : ByteArray).data.toList = torn := by simp
    rw [ht2]
    generalize Lib.repeatL torn (q + 1) = r at *
    go_wp2
    go_ret
    exact ⟨ret_str H.out, hb⟩

/-- A page of which just those bits were changed, of those that a step would change, that torn has. -/
def betweenL (was would torn : List UInt8) : List UInt8 := pairL (· ^^^ ·) was (pairL (· &&& ·) (pairL (· ^^^ ·) was would) (maskL torn was.length))
set_option maxHeartbeats 400000 in
theorem between_any (was would torn : List UInt8) (w : World) (h1 : was.length ≤ 1000000) (h2 : would.length ≤ 1000000) (h3 : torn.length ≤ 1000000) :
    Calls Tryz.prog 155 #[.string ⟨was.toArray⟩, .string ⟨would.toArray⟩, .string ⟨torn.toArray⟩] w fun e w' => e = .returned (.string ⟨(betweenL was would torn).toArray⟩) ∧ Below w.heap.size w w' := by
  have hsz : (⟨was.toArray⟩ : ByteArray).size = was.length := size_mk was
  have H := Lib.hid (show betweenL was would torn = pairL (· ^^^ ·) was (pairL (· &&& ·) (pairL (· ^^^ ·) was would) (maskL torn was.length)) from rfl)
  go_enter Tryz.func155, Tryz.ntmps155
  go_wp2_with fail
  refine (xor_l was would _ (by omega) (by omega)).mono ?_
  rintro e w1 ⟨rfl, hB⟩
  go_wp2_with fail
  refine (goingRound_any torn was.length _ h1 h3).mono ?_
  rintro e w2 ⟨rfl, hb2⟩
  replace hB := hB.trans (hb2.mono hB.size); clear hb2
  go_wp2_with fail
  refine (and_l _ _ _ (by rw [length_pairL]; omega) (by rw [length_maskL]; omega)).mono ?_
  rintro e w2 ⟨rfl, hb2⟩
  replace hB := hB.trans (hb2.mono hB.size); clear hb2
  go_wp2_with fail
  refine (xor_l _ _ _ (by omega) (by rw [length_pairL, length_pairL]; omega)).mono ?_
  rintro e w2 ⟨rfl, hb2⟩
  replace hB := hB.trans (hb2.mono hB.size); clear hb2
  rw [← H.out]
  go_wp2
  go_ret
  exact ⟨rfl, hB⟩
end Go.Proofs.YtpjafjnokgeifaaGreatDoor
end
section
namespace Go.Proofs.YtpjafjnokgeifaaGreatDoor
open Go.RowKit
set_option linter.unusedVariables false

def encB (l : List UInt8) : List Value := l.map fun b => .int .u8 (b.toNat : Int)
theorem length_encB (l : List UInt8) : (encB l).length = l.length := by simp [encB]
theorem encB_snoc (l : List UInt8) (x : UInt8) : encB l ++ [.int .u8 (x.toNat : Int)] = encB (l ++ [x]) := by simp [encB]

/-- The slice v holds just the bytes l, in a block of the call's own. -/
def OwnB (w : World) (base : Nat) (e : TypeId) (v : Value) (l : List UInt8) : Prop := w.ownsRow base e 1 v l.length (encB l)

theorem OwnB.nil (w : World) (base : Nat) (e : TypeId) : OwnB w base e (.slice none 0 0) [] := World.ownsRow_nil _ _ _ _
theorem OwnB.back {P : Program} {w : World} {base : Nat} {e : TypeId} {v : Value} {l : List UInt8} (h : OwnB w base e v l) (src dst : TypeId)
    (hs : P.underlying src = some (.slice e)) (he : P.underlying e = some (.int .u8)) (hd : P.underlying dst = some .string) :
    (convert src dst v).run P w = .ok (.string ⟨l.toArray⟩) w := by
  obtain ⟨h1, ⟨rfl, h0⟩ | ⟨g, cap, cur, rfl, _, hh, _, _, hcs, ht⟩⟩ := h
  · have : l = [] := List.eq_nil_of_length_eq_zero h0
    subst this
    exact run_convert_bytes_nil (w := w) src e hs he 0 0 dst hd
  · refine run_convert_bytes_back w src dst e ⟨g, 0, none⟩ cap l hs he hd (fun j hj => ?_)
    have hc : w.cell? ⟨g, j, none⟩ = cur[j]? := cell_of_row w g j cur e (0, 0) hh
    have hj2 : cur.toList[j]? = some (.int .u8 (l[j].toNat : Int)) := by
      have := congrArg (fun x => x[j]?) ht
      simp only [Nat.mul_one] at this
      rw [List.getElem?_take_of_lt hj] at this
      rw [this]
      simp [encB, hj]
    have e1 : (⟨g, 0, none⟩ : Addr).add j = ⟨g, j, none⟩ := by
      by_cases e0 : j = 0
      · subst e0; simp [Addr.add]
      · simp [Addr.add, e0]
    rw [e1, hc, ← Array.getElem?_toList, hj2]
theorem OwnB.size_le {w : World} {base : Nat} {e : TypeId} {v : Value} {l : List UInt8} (h : OwnB w base e v l) : ∀ k, v.ownBlock = some k → base ≤ k := by
  intro k hk
  obtain ⟨_, ⟨rfl, _⟩ | ⟨g, cap, cur, rfl, hb, _⟩⟩ := h
  · simp [Value.ownBlock] at hk
  · simp only [Value.ownBlock, Option.some.injEq] at hk
    omega
end Go.Proofs.YtpjafjnokgeifaaGreatDoor
end
section
namespace Go.Proofs.YtpjafjnokgeifaaGreatDoor
open Go.RowKit
set_option linter.unusedVariables false

theorem pairL_take (f : UInt8 → UInt8 → UInt8) (a b : List UInt8) (k : Nat) (ha : k < a.length) (hb : k < b.length) : (pairL f a b).take (k + 1) = (pairL f a b).take k ++ [f a[k] b[k]] := by
  rw [List.take_succ_eq_append_getElem (by rw [length_pairL]; exact ha), pairL_get f a b k ha hb]
theorem pairL_get_past (f : UInt8 → UInt8 → UInt8) : ∀ (a b : List UInt8) (k : Nat) (ha : k < a.length) (hb : ¬ k < b.length), (pairL f a b)[k]'(by rw [length_pairL]; exact ha) = a[k]
  | _ :: _, [], _, _, _ => rfl
  | _ :: _, _ :: _, 0, _, hb => absurd (by simp) hb
  | _ :: r, _ :: q, k + 1, ha, hb => by simpa [pairL] using pairL_get_past f r q k (by simpa using ha) (by simpa using hb)
theorem pairL_take_past (f : UInt8 → UInt8 → UInt8) (a b : List UInt8) (k : Nat) (ha : k < a.length) (hb : ¬ k < b.length) : (pairL f a b).take (k + 1) = (pairL f a b).take k ++ [a[k]] := by
  rw [List.take_succ_eq_append_getElem (by rw [length_pairL]; exact ha), pairL_get_past f a b k ha hb]

set_option maxHeartbeats 400000 in
theorem refAnd_any (a b : ByteArray) (w : World) (ha : a.size ≤ 1000000) (hb : b.size ≤ 1000000) :
    Calls Tryz.prog 113 #[.string a, .string b] w fun e w' => e = .returned (.string ⟨(pairL (· &&& ·) a.data.toList b.data.toList).toArray⟩) ∧ Below w.heap.size w w' := by
  obtain ⟨i0, hi, hz0, hz1, hz2⟩ := info_parts Tryz.infoU8
  go_enter Tryz.func113, Tryz.ntmps113
  go_wp2
  go_loopw [5, 6] (fun v i wr => ∃ k : Nat, k ≤ a.size ∧ i = .int .i64 k ∧ OwnB wr w.heap.size 5 v ((pairL (· &&& ·) a.data.toList b.data.toList).take k) ∧ Below w.heap.size w wr) (fun _ i _ => a.size - (intOf i).toNat)
  case atStart => exact ⟨0, Nat.zero_le _, rfl, OwnB.nil _ _ _, Below.refl _ _⟩
  case round =>
    obtain ⟨k, hk, rfl, hown, hbel⟩ := hrel
    by_cases hlt : k < a.size
    · have hlen : ((pairL (· &&& ·) a.data.toList b.data.toList).take k).length ≤ k := List.length_take_le _ _
      have hbs := hown.size_le
      by_cases hltb : k < b.size
      · have HS := Lib.hid (pairL_take (· &&& ·) a.data.toList b.data.toList k (by simpa using hlt) (by simpa using hltb))
        have HB := Lib.hid (bits_and_u8 (a[k]'hlt) (b[k]'hltb))
        generalize (pairL (· &&& ·) a.data.toList b.data.toList).take k = l at *
        have HO := Lib.hid hown
        have HBS := Lib.hid hbs
        clear hown hbs
        go_wp2_with (at_builtin; refine wpList_append_own _ rfl _ _ 82 rfl w.heap.size 5 i0 (.int .u8 0) 1 1 Tryz.underlying82 hi hz0 hz1 hz2 rfl (by decide) _ _ _ rfl (HO.out.alloc _) ⟨wr.heap.size, 0, none⟩ 1 1 [.int .u8 (bits BinOp.and IntKind.u8 ↑(a[k]'hlt).toNat ↑(b[k]'hltb).toNat)] rfl rfl ?c1 ?c2 ?c3 ?c4 ?c5 ?_)
        case c1 => exact cell_one_new _ _ _
        case c2 => intro u hu; simp at hu; subst hu; rfl
        case c3 => unfold maxLen; omega
        case c4 => omega
        case c5 => have := hbel.size; simp; omega
        · intro v' w1 hown' hgrow _
          have hB1 : Below w.heap.size w w1 := (hbel.alloc (by have := hbel.size; omega) _).grown hgrow (by have := hbel.size; simp; omega) HBS.out
          have HO1 : Hid (OwnB w1 w.heap.size 5 v' ((pairL (· &&& ·) a.data.toList b.data.toList).take (k + 1))) := by
            show OwnB _ _ _ _ _
            rw [HS.out]
            rw [HB.out, encB_snoc] at hown'
            have e : l.length + 1 = (l ++ [a[k]'hlt &&& b[k]'hltb]).length := by simp
            rw [e] at hown'
            exact hown'
          clear hown' hgrow
          go_wp2
          go_roundw
          case rel => exact ⟨k + 1, by omega, by go_num, HO1.out, hB1⟩
          case measure => simp [intOf]; omega
      · have HS := Lib.hid (pairL_take_past (· &&& ·) a.data.toList b.data.toList k (by simpa using hlt) (by simpa using hltb))
        generalize (pairL (· &&& ·) a.data.toList b.data.toList).take k = l at *
        have HO := Lib.hid hown
        have HBS := Lib.hid hbs
        clear hown hbs
        go_wp2_with (at_builtin; refine wpList_append_own _ rfl _ _ 82 rfl w.heap.size 5 i0 (.int .u8 0) 1 1 Tryz.underlying82 hi hz0 hz1 hz2 rfl (by decide) _ _ _ rfl (HO.out.alloc _) ⟨wr.heap.size, 0, none⟩ 1 1 [.int .u8 ↑(a[k]'hlt).toNat] rfl rfl ?d1 ?d2 ?d3 ?d4 ?d5 ?_)
        case d1 => exact cell_one_new _ _ _
        case d2 => intro u hu; simp at hu; subst hu; rfl
        case d3 => unfold maxLen; omega
        case d4 => omega
        case d5 => have := hbel.size; simp; omega
        · intro v' w1 hown' hgrow _
          have hB1 : Below w.heap.size w w1 := (hbel.alloc (by have := hbel.size; omega) _).grown hgrow (by have := hbel.size; simp; omega) HBS.out
          have HO1 : Hid (OwnB w1 w.heap.size 5 v' ((pairL (· &&& ·) a.data.toList b.data.toList).take (k + 1))) := by
            show OwnB _ _ _ _ _
            rw [HS.out]
            rw [encB_snoc] at hown'
            have e : l.length + 1 = (l ++ [a[k]'hlt]).length := by simp
            rw [e] at hown'
            exact hown'
          clear hown' hgrow
          go_wp2
          go_roundw
          case rel => exact ⟨k + 1, by omega, by go_num, HO1.out, hB1⟩
          case measure => simp [intOf]; omega
    · have hbk := hown.back (P := Tryz.prog) 82 9 Tryz.underlying82 Tryz.underlying5 Tryz.underlying9
      have HO := Lib.hid hown
      clear hown
      go_wp2
      go_ret
      exact ⟨ret_str (List.take_of_length_le (by rw [length_pairL]; simp; omega)), hbel⟩

set_option maxHeartbeats 400000 in
theorem refOr_any (a b : ByteArray) (w : World) (ha : a.size ≤ 1000000) (hb : b.size ≤ 1000000) :
    Calls Tryz.prog 108 #[.string a, .string b] w fun e w' => e = .returned (.string ⟨(pairL (· ||| ·) a.data.toList b.data.toList).toArray⟩) ∧ Below w.heap.size w w' := by
  obtain ⟨i0, hi, hz0, hz1, hz2⟩ := info_parts Tryz.infoU8
  go_enter Tryz.func108, Tryz.ntmps108
  go_wp2
  go_loopw [5, 6] (fun v i wr => ∃ k : Nat, k ≤ a.size ∧ i = .int .i64 k ∧ OwnB wr w.heap.size 5 v ((pairL (· ||| ·) a.data.toList b.data.toList).take k) ∧ Below w.heap.size w wr) (fun _ i _ => a.size - (intOf i).toNat)
  case atStart => exact ⟨0, Nat.zero_le _, rfl, OwnB.nil _ _ _, Below.refl _ _⟩
  case round =>
    obtain ⟨k, hk, rfl, hown, hbel⟩ := hrel
    by_cases hlt : k < a.size
    · have hlen : ((pairL (· ||| ·) a.data.toList b.data.toList).take k).length ≤ k := List.length_take_le _ _
      have hbs := hown.size_le
      by_cases hltb : k < b.size
      · have HS := Lib.hid (pairL_take (· ||| ·) a.data.toList b.data.toList k (by simpa using hlt) (by simpa using hltb))
        have HB := Lib.hid (bits_or_u8 (a[k]'hlt) (b[k]'hltb))
        generalize (pairL (· ||| ·) a.data.toList b.data.toList).take k = l at *
        have HO := Lib.hid hown
        have HBS := Lib.hid hbs
        clear hown hbs
        go_wp2_with (at_builtin; refine wpList_append_own _ rfl _ _ 82 rfl w.heap.size 5 i0 (.int .u8 0) 1 1 Tryz.underlying82 hi hz0 hz1 hz2 rfl (by decide) _ _ _ rfl (HO.out.alloc _) ⟨wr.heap.size, 0, none⟩ 1 1 [.int .u8 (bits BinOp.or IntKind.u8 ↑(a[k]'hlt).toNat ↑(b[k]'hltb).toNat)] rfl rfl ?c1 ?c2 ?c3 ?c4 ?c5 ?_)
        case c1 => exact cell_one_new _ _ _
        case c2 => intro u hu; simp at hu; subst hu; rfl
        case c3 => unfold maxLen; omega
        case c4 => omega
        case c5 => have := hbel.size; simp; omega
        · intro v' w1 hown' hgrow _
          have hB1 : Below w.heap.size w w1 := (hbel.alloc (by have := hbel.size; omega) _).grown hgrow (by have := hbel.size; simp; omega) HBS.out
          have HO1 : Hid (OwnB w1 w.heap.size 5 v' ((pairL (· ||| ·) a.data.toList b.data.toList).take (k + 1))) := by
            show OwnB _ _ _ _ _
            rw [HS.out]
            rw [HB.out, encB_snoc] at hown'
            have e : l.length + 1 = (l ++ [a[k]'hlt ||| b[k]'hltb]).length := by simp
            rw [e] at hown'
            exact hown'
          clear hown' hgrow
          go_wp2
          go_roundw
          case rel => exact ⟨k + 1, by omega, by go_num, HO1.out, hB1⟩
          case measure => simp [intOf]; omega
      · have HS := Lib.hid (pairL_take_past (· ||| ·) a.data.toList b.data.toList k (by simpa using hlt) (by simpa using hltb))
        generalize (pairL (· ||| ·) a.data.toList b.data.toList).take k = l at *
        have HO := Lib.hid hown
        have HBS := Lib.hid hbs
        clear hown hbs
        go_wp2_with (at_builtin; refine wpList_append_own _ rfl _ _ 82 rfl w.heap.size 5 i0 (.int .u8 0) 1 1 Tryz.underlying82 hi hz0 hz1 hz2 rfl (by decide) _ _ _ rfl (HO.out.alloc _) ⟨wr.heap.size, 0, none⟩ 1 1 [.int .u8 ↑(a[k]'hlt).toNat] rfl rfl ?d1 ?d2 ?d3 ?d4 ?d5 ?_)
        case d1 => exact cell_one_new _ _ _
        case d2 => intro u hu; simp at hu; subst hu; rfl
        case d3 => unfold maxLen; omega
        case d4 => omega
        case d5 => have := hbel.size; simp; omega
        · intro v' w1 hown' hgrow _
          have hB1 : Below w.heap.size w w1 := (hbel.alloc (by have := hbel.size; omega) _).grown hgrow (by have := hbel.size; simp; omega) HBS.out
          have HO1 : Hid (OwnB w1 w.heap.size 5 v' ((pairL (· ||| ·) a.data.toList b.data.toList).take (k + 1))) := by
            show OwnB _ _ _ _ _
            rw [HS.out]
            rw [encB_snoc] at hown'
            have e : l.length + 1 = (l ++ [a[k]'hlt]).length := by simp
            rw [e] at hown'
            exact hown'
          clear hown' hgrow
          go_wp2
          go_roundw
          case rel => exact ⟨k + 1, by omega, by go_num, HO1.out, hB1⟩
          case measure => simp [intOf]; omega
    · have hbk := hown.back (P := Tryz.prog) 82 9 Tryz.underlying82 Tryz.underlying5 Tryz.underlying9
      have HO := Lib.hid hown
      clear hown
      go_wp2
      go_ret
      exact ⟨ret_str (List.take_of_length_le (by rw [length_pairL]; simp; omega)), hbel⟩

set_option maxHeartbeats 400000 in
theorem refXor_any (a b : ByteArray) (w : World) (ha : a.size ≤ 1000000) (hb : b.size ≤ 1000000) :
    Calls Tryz.prog 156 #[.string a, .string b] w fun e w' => e = .returned (.string ⟨(pairL (· ^^^ ·) a.data.toList b.data.toList).toArray⟩) ∧ Below w.heap.size w w' := by
  obtain ⟨i0, hi, hz0, hz1, hz2⟩ := info_parts Tryz.infoU8
  go_enter Tryz.func156, Tryz.ntmps156
  go_wp2
  go_loopw [5, 6] (fun v i wr => ∃ k : Nat, k ≤ a.size ∧ i = .int .i64 k ∧ OwnB wr w.heap.size 5 v ((pairL (· ^^^ ·) a.data.toList b.data.toList).take k) ∧ Below w.heap.size w wr) (fun _ i _ => a.size - (intOf i).toNat)
  case atStart => exact ⟨0, Nat.zero_le _, rfl, OwnB.nil _ _ _, Below.refl _ _⟩
  case round =>
    obtain ⟨k, hk, rfl, hown, hbel⟩ := hrel
    by_cases hlt : k < a.size
    · have hlen : ((pairL (· ^^^ ·) a.data.toList b.data.toList).take k).length ≤ k := List.length_take_le _ _
      have hbs := hown.size_le
      by_cases hltb : k < b.size
      · have HS := Lib.hid (pairL_take (· ^^^ ·) a.data.toList b.data.toList k (by simpa using hlt) (by simpa using hltb))
        have HB := Lib.hid (bits_xor_u8 (a[k]'hlt) (b[k]'hltb))
        generalize (pairL (· ^^^ ·) a.data.toList b.data.toList).take k = l at *
        have HO := Lib.hid hown
        have HBS := Lib.hid hbs
        clear hown hbs
        go_wp2_with (at_builtin; refine wpList_append_own _ rfl _ _ 82 rfl w.heap.size 5 i0 (.int .u8 0) 1 1 Tryz.underlying82 hi hz0 hz1 hz2 rfl (by decide) _ _ _ rfl (HO.out.alloc _) ⟨wr.heap.size, 0, none⟩ 1 1 [.int .u8 (bits BinOp.xor IntKind.u8 ↑(a[k]'hlt).toNat ↑(b[k]'hltb).toNat)] rfl rfl ?c1 ?c2 ?c3 ?c4 ?c5 ?_)
        case c1 => exact cell_one_new _ _ _
        case c2 => intro u hu; simp at hu; subst hu; rfl
        case c3 => unfold maxLen; omega
        case c4 => omega
        case c5 => have := hbel.size; simp; omega
        · intro v' w1 hown' hgrow _
          have hB1 : Below w.heap.size w w1 := (hbel.alloc (by have := hbel.size; omega) _).grown hgrow (by have := hbel.size; simp; omega) HBS.out
          have HO1 : Hid (OwnB w1 w.heap.size 5 v' ((pairL (· ^^^ ·) a.data.toList b.data.toList).take (k + 1))) := by
            show OwnB _ _ _ _ _
            rw [HS.out]
            rw [HB.out, encB_snoc] at hown'
            have e : l.length + 1 = (l ++ [a[k]'hlt ^^^ b[k]'hltb]).length := by simp
            rw [e] at hown'
            exact hown'
          clear hown' hgrow
          go_wp2
          go_roundw
          case rel => exact ⟨k + 1, by omega, by go_num, HO1.out, hB1⟩
          case measure => simp [intOf]; omega
      · have HS := Lib.hid (pairL_take_past (· ^^^ ·) a.data.toList b.data.toList k (by simpa using hlt) (by simpa using hltb))
        generalize (pairL (· ^^^ ·) a.data.toList b.data.toList).take k = l at *
        have HO := Lib.hid hown
        have HBS := Lib.hid hbs
        clear hown hbs
        go_wp2_with (at_builtin; refine wpList_append_own _ rfl _ _ 82 rfl w.heap.size 5 i0 (.int .u8 0) 1 1 Tryz.underlying82 hi hz0 hz1 hz2 rfl (by decide) _ _ _ rfl (HO.out.alloc _) ⟨wr.heap.size, 0, none⟩ 1 1 [.int .u8 ↑(a[k]'hlt).toNat] rfl rfl ?d1 ?d2 ?d3 ?d4 ?d5 ?_)
        case d1 => exact cell_one_new _ _ _
        case d2 => intro u hu; simp at hu; subst hu; rfl
        case d3 => unfold maxLen; omega
        case d4 => omega
        case d5 => have := hbel.size; simp; omega
        · intro v' w1 hown' hgrow _
          have hB1 : Below w.heap.size w w1 := (hbel.alloc (by have := hbel.size; omega) _).grown hgrow (by have := hbel.size; simp; omega) HBS.out
          have HO1 : Hid (OwnB w1 w.heap.size 5 v' ((pairL (· ^^^ ·) a.data.toList b.data.toList).take (k + 1))) := by
            show OwnB _ _ _ _ _
            rw [HS.out]
            rw [encB_snoc] at hown'
            have e : l.length + 1 = (l ++ [a[k]'hlt]).length := by simp
            rw [e] at hown'
            exact hown'
          clear hown' hgrow
          go_wp2
          go_roundw
          case rel => exact ⟨k + 1, by omega, by go_num, HO1.out, hB1⟩
          case measure => simp [intOf]; omega
    · have hbk := hown.back (P := Tryz.prog) 82 9 Tryz.underlying82 Tryz.underlying5 Tryz.underlying9
      have HO := Lib.hid hown
      clear hown
      go_wp2
      go_ret
      exact ⟨ret_str (List.take_of_length_le (by rw [length_pairL]; simp; omega)), hbel⟩
end Go.Proofs.YtpjafjnokgeifaaGreatDoor
end
section
namespace Go.Proofs.YtpjafjnokgeifaaGreatDoor
open Go.RowKit
set_option linter.unusedVariables false

set_option maxHeartbeats 400000 in
theorem refOnes_none (n : Int) (w : World) (h : n ≤ 0 ∨ 100000 < n) :
    Calls Tryz.prog 107 #[.int .i64 n] w fun e w' => e = .returned (.string ⟨#[]⟩) ∧ w = w' := by
  have hbk := fun W => run_convert_bytes_nil (P := Tryz.prog) (w := W) 82 5 Tryz.underlying82 Tryz.underlying5 0 0 9 Tryz.underlying9
  by_cases h0 : 0 < n
  · have h1 : decide (n ≤ 100000) = false := by simp; omega
    go_enter Tryz.func107, Tryz.ntmps107
    go_wp2
    refine wp_loop_rounds 1 ?_; rw [rounds_succ]
    go_wp2
    go_ret
    exact ⟨rfl, rfl⟩
  · have h1 : decide (0 < n) = false := by simp; omega
    go_enter Tryz.func107, Tryz.ntmps107
    go_wp2
    refine wp_loop_rounds 1 ?_; rw [rounds_succ]
    go_wp2
    go_ret
    exact ⟨rfl, rfl⟩

set_option maxHeartbeats 400000 in
theorem refOnes_some (n : Nat) (w : World) (hn : n ≤ 100000) :
    Calls Tryz.prog 107 #[.int .i64 (n : Int)] w fun e w' => e = .returned (.string ⟨(List.replicate n 255).toArray⟩) ∧ Below w.heap.size w w' := by
  obtain ⟨i0, hi, hz0, hz1, hz2⟩ := info_parts Tryz.infoU8
  have hn2 : decide ((n : Int) ≤ 100000) = true := by simp; omega
  go_enter Tryz.func107, Tryz.ntmps107
  go_wp2
  go_loopw [3, 4] (fun v i wr => ∃ k : Nat, k ≤ n ∧ i = .int .i64 k ∧ OwnB wr w.heap.size 5 v (List.replicate k 255) ∧ Below w.heap.size w wr) (fun _ i _ => n - (intOf i).toNat)
  case atStart => exact ⟨0, Nat.zero_le _, rfl, OwnB.nil _ _ _, Below.refl _ _⟩
  case round =>
    obtain ⟨k, hk, rfl, hown, hbel⟩ := hrel
    by_cases hlt : k < n
    · have hlen : (List.replicate k (255 : UInt8)).length = k := by simp
      have hbs := hown.size_le
      have HS := Lib.hid (show List.replicate (k + 1) (255 : UInt8) = List.replicate k 255 ++ [255] from List.replicate_succ')
      generalize List.replicate k (255 : UInt8) = l at *
      have HO := Lib.hid hown
      have HBS := Lib.hid hbs
      have HL := Lib.hid hlen
      have hll : l.length ≤ 100000 := by omega
      clear hown hbs hlen
      go_wp2_with (at_builtin; refine wpList_append_own _ rfl _ _ 82 rfl w.heap.size 5 i0 (.int .u8 0) 1 1 Tryz.underlying82 hi hz0 hz1 hz2 rfl (by decide) _ _ _ rfl (HO.out.alloc _) ⟨wr.heap.size, 0, none⟩ 1 1 [.int .u8 255] rfl rfl ?c1 ?c2 ?c3 ?c4 ?c5 ?_)
      case c1 => exact cell_one_new _ _ _
      case c2 => intro u hu; simp at hu; subst hu; rfl
      case c3 => unfold maxLen; omega
      case c4 => omega
      case c5 => have := hbel.size; simp; omega
      · intro v' w1 hown' hgrow _
        have hB1 : Below w.heap.size w w1 := (hbel.alloc (by have := hbel.size; omega) _).grown hgrow (by have := hbel.size; simp; omega) HBS.out
        have HO1 : Hid (OwnB w1 w.heap.size 5 v' (List.replicate (k + 1) 255)) := by
          show OwnB _ _ _ _ _
          rw [HS.out]
          have e : l.length + 1 = (l ++ [255]).length := by simp
          rw [e] at hown'
          have e2 : encB l ++ [Value.int .u8 255] = encB (l ++ [255]) := encB_snoc l 255
          rw [e2] at hown'
          exact hown'
        clear hown' hgrow
        go_wp2
        go_roundw
        case rel => exact ⟨k + 1, by omega, by go_num, HO1.out, hB1⟩
        case measure => simp [intOf]; omega
    · have hbk := hown.back (P := Tryz.prog) 82 9 Tryz.underlying82 Tryz.underlying5 Tryz.underlying9
      have HO := Lib.hid hown
      have hd : decide ((k : Int) < (n : Int)) = false := by simp; omega
      clear hown
      obtain rfl : k = n := by omega
      generalize hr : List.replicate k (255 : UInt8) = l at *
      have HR := Lib.hid hr
      clear hr
      go_wp2
      go_ret
      exact ⟨ret_str HR.out.symm, hbel⟩

theorem refOnes_any (n : Int) (w : World) :
    Calls Tryz.prog 107 #[.int .i64 n] w fun e w' => e = .returned (.string ⟨(onesL n).toArray⟩) ∧ Below w.heap.size w w' := by
  by_cases h : 0 < n ∧ n ≤ 100000
  · obtain ⟨m, rfl⟩ := Int.eq_ofNat_of_zero_le (show 0 ≤ n by omega)
    refine (refOnes_some m w (by omega)).mono ?_
    rintro e w' ⟨rfl, hb⟩
    exact ⟨by rw [show onesL (m : Int) = List.replicate m 255 by unfold onesL; rw [if_pos (by omega), Int.toNat_natCast]], hb⟩
  · refine (refOnes_none n w (by omega)).mono ?_
    rintro e w' ⟨rfl, rfl⟩
    refine ⟨?_, Below.refl _ _⟩
    have : onesL n = [] := by
      unfold onesL
      split
      · have : n = 0 := by omega
        subst this; rfl
      · rfl
    rw [this]

theorem not_of_xor : ∀ l : List UInt8, pairL (· ^^^ ·) (List.replicate l.length 255) l = notL l
  | [] => rfl
  | x :: r => by
    have := not_of_xor r
    simp only [notL, List.length_cons, List.replicate_succ, pairL, List.map_cons] at this ⊢
    rw [this, show (255 : UInt8) = -1 from rfl, UInt8.neg_one_xor]

set_option maxHeartbeats 400000 in
theorem refNot_any (s : ByteArray) (w : World) (hs : s.size ≤ 100000) :
    Calls Tryz.prog 109 #[.string s] w fun e w' => e = .returned (.string ⟨(notL s.data.toList).toArray⟩) ∧ Below w.heap.size w w' := by
  have H1 := Lib.hid (show onesL (s.size : Int) = List.replicate s.data.toList.length 255 by unfold onesL; rw [if_pos (by omega), Int.toNat_natCast]; simp)
  go_enter Tryz.func109, Tryz.ntmps109
  go_wp2_with fail
  refine (refOnes_any _ _).mono ?_
  rintro e w1 ⟨rfl, hb1⟩
  have hl : (onesL (s.size : Int)).length ≤ 1000000 := by rw [H1.out, List.length_replicate]; simp; omega
  go_wp2_with fail
  refine (refXor_any _ _ _ (by show (onesL (s.size : Int)).toArray.size ≤ _; simpa using hl) (by omega)).mono ?_
  rintro e w2 ⟨rfl, hb2⟩
  go_wp2
  go_ret
  exact ⟨ret_str (by rw [← not_of_xor, ← H1.out]), hb1.trans (hb2.mono hb1.size)⟩

theorem pop_half (c : Nat) (h : c < 256) : Lib.onesCount c = c % 2 + Lib.onesCount (c / 2) := by
  have h' : ∀ n : Fin 256, Lib.onesCount n.val = n.val % 2 + Lib.onesCount (n.val / 2) := by decide +kernel
  exact h' ⟨c, h⟩
theorem pop_le8 (c : Nat) (h : c < 256) : Lib.onesCount c ≤ 8 := Lib.onesCount_le8 ⟨c, h⟩

end Go.Proofs.YtpjafjnokgeifaaGreatDoor
end
section
namespace Go.Proofs.YtpjafjnokgeifaaGreatDoor
open Go.RowKit
set_option linter.unusedVariables false
set_option linter.unusedSimpArgs false
attribute [local irreducible] setN

theorem maskL_succ (torn : List UInt8) (k : Nat) : maskL torn (k + 1) = maskL torn k ++ [torn.getD (k % torn.length) 0] := by
  unfold maskL; rw [List.range_succ, List.map_append]; rfl
set_option maxRecDepth 100000 in
set_option maxHeartbeats 4000000 in
theorem rmask_none (F : Fl) (v : Value) (w : World) (hv : isFl F v w) (h1 : 1 ≤ F.pages.length) (hp1 : F.pages.length ≤ 1000000) (q : List UInt8) (hq : F.pages[0] = q) (hl : q.length ≤ 100000) (ht : F.torn.length ≤ 1000) (h0 : F.torn = []) :
    Calls Tryz.prog 110 #[v] w fun e w' => e = .returned (.string ⟨(maskL F.torn q.length).toArray⟩) ∧ Below w.heap.size w w' := by
  obtain ⟨vp, vw, rfl, hpp, hqq⟩ := hv
  obtain ⟨i0, hi, hz0, hz1, hz2⟩ := info_parts Tryz.infoU8
  have lp : (F.pages.map strC).length = F.pages.length := List.length_map _
  obtain ⟨b, off, c, rfl, hb, hc⟩ := hpp.some_ (by omega)
  rw [lp]
  show Calls Tryz.prog 110 #[.agg #[.slice (some ⟨b, off, none⟩) F.pages.length c, vw, .int .i64 F.fuse, .string ⟨F.torn.toArray⟩, .bool F.dead]] w _
  have HTL := Kept.mk (fun k => maskL_succ F.torn k)
  have HML := Kept.mk (fun k => length_maskL F.torn k)
  have hts : (⟨F.torn.toArray⟩ : ByteArray).size = F.torn.length := by simp [ByteArray.size]
  have hqs : (⟨q.toArray⟩ : ByteArray).size = q.length := by simp [ByteArray.size]
  have HB := Kept.mk (lit_below w (.cells #[.slice (some ⟨b, off, none⟩) F.pages.length c, vw, .int .i64 F.fuse, .string ⟨F.torn.toArray⟩, .bool F.dead] 25))
  have HX := Kept.mk (Blk.new w 25 [.slice (some ⟨b, off, none⟩) F.pages.length c, vw, .int .i64 F.fuse, .string ⟨F.torn.toArray⟩, .bool F.dead] w.heap.size rfl)
  have HC := Kept.mk (show w.cell? ⟨b, off, none⟩ = some (.string ⟨q.toArray⟩) by have := hc 0 _ (get_map strC F.pages 0 (by omega)); rw [hq, Nat.add_zero] at this; exact this)
  have hi0 : (0 : Int) < (F.pages.length : Int) := by omega
  have hs0 : (w.alloc (.cells #[.slice (some ⟨b, off, none⟩) F.pages.length c, vw, .int .i64 F.fuse, .string ⟨F.torn.toArray⟩, .bool F.dead] 25)).heap.size = w.heap.size + 1 := by simp
  clear hc hpp hqq lp hq
  have HT0 := Kept.mk h0
  have d0 : decide ((0 : Int) < (F.torn.length : Int)) = false := by rw [h0]; rfl
  have d0n : ¬ 0 < F.torn.length := by rw [h0]; simp
  clear h0
  go_enter Tryz.func110, Tryz.ntmps110
  go_wp2
  generalize w.alloc (.cells #[.slice (some ⟨b, off, none⟩) F.pages.length c, vw, .int .i64 F.fuse, .string ⟨F.torn.toArray⟩, .bool F.dead] 25) = W0 at *
  go_loopw [3, 4] (fun v i wr => ∃ k : Nat, k ≤ q.length ∧ i = .int .i64 (k : Int) ∧ Kept (OwnB wr (w.heap.size + 1) 5 v (maskL F.torn k)) ∧ Kept (Below w.heap.size w wr) ∧ Kept (Blk wr w.heap.size [.slice (some ⟨b, off, none⟩) F.pages.length c, vw, .int .i64 F.fuse, .string ⟨F.torn.toArray⟩, .bool F.dead]) ∧ Kept (w.heap.size + 1 ≤ wr.heap.size)) (fun _ i _ => q.length - (intOf i).toNat)
  case atStart => exact ⟨0, Nat.zero_le _, rfl, ⟨OwnB.nil _ _ _⟩, HB, HX, ⟨by omega⟩⟩
  case round =>
    clear HB HX hs0
    obtain ⟨k, hk, rfl, HO, HB, HX, HZ⟩ := hrel
    have k0 := HX.out.cells.2 0 _ rfl
    have k3 := HX.out.cells.2 3 _ rfl
    have cq := (HB.out.cell (p := ⟨b, off, none⟩) hb).trans HC.out
    by_cases hlt : k < q.length
    · have d1 : decide ((k : Int) < (q.length : Int)) = true := by simpa using hlt
      have hlen := HML.out k
      have HT := Kept.mk (HTL.out k)
      generalize maskL F.torn k = l at *
      rw [show F.torn.getD (k % F.torn.length) 0 = (0 : UInt8) by rw [HT0.out]; rfl] at HT
      have HBS := Kept.mk HO.out.size_le
      have hz := HZ.out
      go_wp2_with (at_builtin; (refine wpList_append_own _ rfl _ _ 82 rfl (w.heap.size + 1) 5 i0 (.int .u8 0) 1 1 Tryz.underlying82 hi hz0 hz1 hz2 rfl (by decide) _ _ _ rfl (HO.out.alloc _) ⟨wr.heap.size, 0, none⟩ 1 1 [.int .u8 0] rfl rfl (cell_one_new _ _ _) (by intro u hu; simp at hu; subst hu; rfl) (by unfold maxLen; omega) (by omega) (by simp; omega) ?_); intro v' w1 hown' hgrow _)
      have hB1 : Below (w.heap.size + 1) wr w1 := ((Below.refl (w.heap.size + 1) wr).alloc hz _).grown hgrow (by simp; omega) HBS.out
      have HO1 : Kept (OwnB w1 (w.heap.size + 1) 5 v' (maskL F.torn (k + 1))) := ⟨by
        show OwnB _ _ _ _ _
        rw [HT.out]
        have e : l.length + 1 = (l ++ [(0 : UInt8)]).length := by simp
        have e2 : encB l ++ [.int .u8 0] = encB (l ++ [(0 : UInt8)]) := encB_snoc l (0 : UInt8)
        rw [e, e2] at hown'
        exact hown'⟩
      have HB1 := Kept.mk (HB.out.trans (hB1.mono (by omega)))
      have HX1 := Kept.mk (show Blk w1 w.heap.size [.slice (some ⟨b, off, none⟩) F.pages.length c, vw, .int .i64 F.fuse, .string ⟨F.torn.toArray⟩, .bool F.dead] from ⟨HX.out.cells.keep hB1 (by omega), HX.out.free.keep hB1 (by omega)⟩)
      have HZ1 := Kept.mk (Nat.le_trans hz hB1.size)
      clear hown' hgrow hB1
      go_wp2
      go_roundw
      case rel => exact ⟨k + 1, by omega, by go_num, HO1, HB1, HX1, HZ1⟩
      case measure => simp [intOf]; omega
    · have d1 : decide ((k : Int) < (q.length : Int)) = false := by simpa using hlt
      have hbk := HO.out.back (P := Tryz.prog) 82 9 Tryz.underlying82 Tryz.underlying5 Tryz.underlying9
      obtain rfl : k = q.length := by omega
      generalize hr : maskL F.torn q.length = l at *
      have HR := Kept.mk hr
      clear hr
      go_wp2
      go_ret
      exact ⟨ret_str HR.out.symm, HB.out⟩
set_option maxRecDepth 100000 in
set_option maxHeartbeats 4000000 in
theorem rmask_some (F : Fl) (v : Value) (w : World) (hv : isFl F v w) (h1 : 1 ≤ F.pages.length) (hp1 : F.pages.length ≤ 1000000) (q : List UInt8) (hq : F.pages[0] = q) (hl : q.length ≤ 100000) (ht : F.torn.length ≤ 1000) (h0 : 0 < F.torn.length) :
    Calls Tryz.prog 110 #[v] w fun e w' => e = .returned (.string ⟨(maskL F.torn q.length).toArray⟩) ∧ Below w.heap.size w w' := by
  obtain ⟨vp, vw, rfl, hpp, hqq⟩ := hv
  obtain ⟨i0, hi, hz0, hz1, hz2⟩ := info_parts Tryz.infoU8
  have lp : (F.pages.map strC).length = F.pages.length := List.length_map _
  obtain ⟨b, off, c, rfl, hb, hc⟩ := hpp.some_ (by omega)
  rw [lp]
  show Calls Tryz.prog 110 #[.agg #[.slice (some ⟨b, off, none⟩) F.pages.length c, vw, .int .i64 F.fuse, .string ⟨F.torn.toArray⟩, .bool F.dead]] w _
  have HTL := Kept.mk (fun k => maskL_succ F.torn k)
  have HML := Kept.mk (fun k => length_maskL F.torn k)
  have hts : (⟨F.torn.toArray⟩ : ByteArray).size = F.torn.length := by simp [ByteArray.size]
  have hqs : (⟨q.toArray⟩ : ByteArray).size = q.length := by simp [ByteArray.size]
  have HB := Kept.mk (lit_below w (.cells #[.slice (some ⟨b, off, none⟩) F.pages.length c, vw, .int .i64 F.fuse, .string ⟨F.torn.toArray⟩, .bool F.dead] 25))
  have HX := Kept.mk (Blk.new w 25 [.slice (some ⟨b, off, none⟩) F.pages.length c, vw, .int .i64 F.fuse, .string ⟨F.torn.toArray⟩, .bool F.dead] w.heap.size rfl)
  have HC := Kept.mk (show w.cell? ⟨b, off, none⟩ = some (.string ⟨q.toArray⟩) by have := hc 0 _ (get_map strC F.pages 0 (by omega)); rw [hq, Nat.add_zero] at this; exact this)
  have hi0 : (0 : Int) < (F.pages.length : Int) := by omega
  have hs0 : (w.alloc (.cells #[.slice (some ⟨b, off, none⟩) F.pages.length c, vw, .int .i64 F.fuse, .string ⟨F.torn.toArray⟩, .bool F.dead] 25)).heap.size = w.heap.size + 1 := by simp
  clear hc hpp hqq lp hq
  have d0 : decide ((0 : Int) < (F.torn.length : Int)) = true := by rw [decide_eq_true_eq]; omega
  go_enter Tryz.func110, Tryz.ntmps110
  go_wp2
  generalize w.alloc (.cells #[.slice (some ⟨b, off, none⟩) F.pages.length c, vw, .int .i64 F.fuse, .string ⟨F.torn.toArray⟩, .bool F.dead] 25) = W0 at *
  go_loopw [3, 4] (fun v i wr => ∃ k : Nat, k ≤ q.length ∧ i = .int .i64 (k : Int) ∧ Kept (OwnB wr (w.heap.size + 1) 5 v (maskL F.torn k)) ∧ Kept (Below w.heap.size w wr) ∧ Kept (Blk wr w.heap.size [.slice (some ⟨b, off, none⟩) F.pages.length c, vw, .int .i64 F.fuse, .string ⟨F.torn.toArray⟩, .bool F.dead]) ∧ Kept (w.heap.size + 1 ≤ wr.heap.size)) (fun _ i _ => q.length - (intOf i).toNat)
  case atStart => exact ⟨0, Nat.zero_le _, rfl, ⟨OwnB.nil _ _ _⟩, HB, HX, ⟨by omega⟩⟩
  case round =>
    clear HB HX hs0
    obtain ⟨k, hk, rfl, HO, HB, HX, HZ⟩ := hrel
    have k0 := HX.out.cells.2 0 _ rfl
    have k3 := HX.out.cells.2 3 _ rfl
    have cq := (HB.out.cell (p := ⟨b, off, none⟩) hb).trans HC.out
    by_cases hlt : k < q.length
    · have d1 : decide ((k : Int) < (q.length : Int)) = true := by simpa using hlt
      have hlen := HML.out k
      have HT := Kept.mk (HTL.out k)
      generalize maskL F.torn k = l at *
      have hmod : k % F.torn.length < F.torn.length := Nat.mod_lt _ h0
      have hix : 0 ≤ (k : Int) % (F.torn.length : Int) ∧ (k : Int) % (F.torn.length : Int) < (F.torn.length : Int) := ⟨Int.emod_nonneg _ (by omega), Int.emod_lt_of_pos _ (by omega)⟩
      have hnz : ¬ (F.torn.length : Int) = 0 := by omega
      have HY := Kept.mk (show F.torn.getD (k % F.torn.length) 0 = (⟨F.torn.toArray⟩ : ByteArray)[k % F.torn.length]'(by rw [hts]; exact hmod) by rw [List.getD_eq_getElem?_getD, List.getElem?_eq_getElem hmod]; rfl)
      go_wp2_with fail
      go_region
      rw [HY.out] at HT
      generalize (⟨F.torn.toArray⟩ : ByteArray)[k % F.torn.length]'(by rw [hts]; exact hmod) = y at *
      clear HY
      replace HO := Kept.mk (show OwnB wr.drew (w.heap.size + 1) 5 u3 l from HO.out)
      replace HB := Kept.mk (HB.out.drew)
      replace HX := Kept.mk (HX.out.keep ((Below.refl _ _).drew))
      replace HZ := Kept.mk (show w.heap.size + 1 ≤ wr.drew.heap.size from HZ.out)
      clear k0 k3 cq
      generalize wr.drew = wq at *
      have HBS := Kept.mk HO.out.size_le
      have hz := HZ.out
      go_wp2_with (at_builtin; (refine wpList_append_own _ rfl _ _ 82 rfl (w.heap.size + 1) 5 i0 (.int .u8 0) 1 1 Tryz.underlying82 hi hz0 hz1 hz2 rfl (by decide) _ _ _ rfl (HO.out.alloc _) ⟨wq.heap.size, 0, none⟩ 1 1 [.int .u8 (y.toNat : Int)] rfl rfl (cell_one_new _ _ _) (by intro u hu; simp at hu; subst hu; rfl) (by unfold maxLen; omega) (by omega) (by simp; omega) ?_); intro v' w1 hown' hgrow _)
      have hB1 : Below (w.heap.size + 1) wq w1 := ((Below.refl (w.heap.size + 1) wq).alloc hz _).grown hgrow (by simp; omega) HBS.out
      have HO1 : Kept (OwnB w1 (w.heap.size + 1) 5 v' (maskL F.torn (k + 1))) := ⟨by
        show OwnB _ _ _ _ _
        rw [HT.out]
        have e : l.length + 1 = (l ++ [y]).length := by simp
        have e2 : encB l ++ [.int .u8 (y.toNat : Int)] = encB (l ++ [y]) := encB_snoc l y
        rw [e, e2] at hown'
        exact hown'⟩
      have HB1 := Kept.mk (HB.out.trans (hB1.mono (by omega)))
      have HX1 := Kept.mk (show Blk w1 w.heap.size [.slice (some ⟨b, off, none⟩) F.pages.length c, vw, .int .i64 F.fuse, .string ⟨F.torn.toArray⟩, .bool F.dead] from ⟨HX.out.cells.keep hB1 (by omega), HX.out.free.keep hB1 (by omega)⟩)
      have HZ1 := Kept.mk (Nat.le_trans hz hB1.size)
      clear hown' hgrow hB1
      go_wp2
      go_roundw
      case rel => exact ⟨k + 1, by omega, by go_num, HO1, HB1, HX1, HZ1⟩
      case measure => simp [intOf]; omega
    · have d1 : decide ((k : Int) < (q.length : Int)) = false := by simpa using hlt
      have hbk := HO.out.back (P := Tryz.prog) 82 9 Tryz.underlying82 Tryz.underlying5 Tryz.underlying9
      obtain rfl : k = q.length := by omega
      generalize hr : maskL F.torn q.length = l at *
      have HR := Kept.mk hr
      clear hr
      go_wp2
      go_ret
      exact ⟨ret_str HR.out.symm, HB.out⟩
end Go.Proofs.YtpjafjnokgeifaaGreatDoor
end
section
namespace Go.Proofs.YtpjafjnokgeifaaGreatDoor
open Go.RowKit
set_option linter.unusedVariables false
set_option linter.unusedSimpArgs false

/-- What may happen to memory. -/
structure Pre (R : World → World → Prop) : Prop where
  refl : ∀ w, R w w
  trans : ∀ a b c, R a b → R b c → R a c
  grow : ∀ w w', Below w.heap.size w w' → R w w'
  drew : ∀ w, R w w.drew
/-- What the first k operations do not write is as it was. -/
def FKeptN (ops : Array Oper) (k : Nat) (a0 a : Act) : Prop := a.defers = a0.defers ∧ a.tmps.size = a0.tmps.size ∧ ∀ t, ((List.range k).all fun i => (ops[i]?).all fun o => o.dst != some t) = true → a.tmps.getD t undef = a0.tmps.getD t undef
theorem FKeptN.f {ops : Array Oper} {k : Nat} {a0 a : Act} (h : FKeptN ops k a0 a) : FKept ops a0 a := by
  refine ⟨h.1, h.2.1, fun t ht => h.2.2 t ?_⟩
  rw [List.all_eq_true]
  intro i _
  cases ho : ops[i]? with
  | none => rfl
  | some o => exact List.all_eq_true.1 ht o (by rw [Array.mem_toList_iff]; exact Array.mem_of_getElem? ho)
def StableR (R : World → World → Prop) (V : VP) : Prop := ∀ v w w', V v w → R w w' → V v w'

section
variable (R : World → World → Prop) (P : Program) (ops : Array Oper) (base : World) (a0 : Act) (Q : Exit → Act → World → Prop)
/-- What operation j yielded, or did, is as it should be. -/
def RDone (kn : Nat → VP) (a : Act) (w : World) (j : Nat) : Prop := ∀ o, ops[j]? = some o → kn j (match o.dst with | some t => a.tmps.getD t undef | none => undef) w
def RDeps (kn : Nat → VP) (i : Nat) (a : Act) (w : World) : Prop := ∀ o, ops[i]? = some o → ∀ e ∈ o.after.toList, Region.binds .any e = true → RDone ops kn a w e.on
def RStep (k0 : Nat) (kn : Nat → VP) (i : Nat) (V : VP) : Prop := StableR R V ∧ ∀ o, ops[i]? = some o → ∀ a w, FKeptN ops k0 a0 a → R base w → RDeps ops kn i a w →
  wpOp P ops Q i (fun a' w' => ∃ v, a' = a.put o.dst v ∧ (o.dst = none → v = undef) ∧ V v w' ∧ R w w') a w
def RelTail (k0 c : Nat) : Nat → Nat → (Nat → VP) → Prop
  | 0, _, kn => ∀ a w, FKeptN ops k0 a0 a → R base w → (∀ j, j < k0 → RDone ops kn a w j) → Tail P ops Q c k0 a w
  | k + 1, i, kn => ∃ V, RStep R P ops base a0 Q k0 kn i V ∧ RelTail k0 c k (i + 1) (upd kn i V)
end

section
variable {R : World → World → Prop} {P : Program} {ops : Array Oper} {base : World} {a0 : Act} {Q : Exit → Act → World → Prop}
theorem rdone_congr {kn kn' : Nat → VP} {a : Act} {w : World} {j : Nat} (h : kn j = kn' j) (hd : RDone ops kn a w j) : RDone ops kn' a w j := by
  intro o ho
  rw [← h]
  exact hd o ho
theorem rdone_f {kn : Nat → VP} {a : Act} {w : World} {j : Nat} (h : RDone ops kn a w j) : FDone ops kn a w j := by
  intro o ho t ht
  have := h o ho
  rwa [ht] at this
/-- An operation that only reads, or makes memory. -/
theorem RStep.of {k0 : Nat} {kn : Nat → VP} {i : Nat} {V : VP} (hR : Pre R) (hst : StableR R V) (hd : ((ops[i]?).bind (·.dst)).isSome = true) (h : ∀ w, R base w → FStep P ops w a0 Q kn i V) : RStep R P ops base a0 Q k0 kn i V := by
  refine ⟨hst, fun o ho a w hk hb hdp => ?_⟩
  refine wpOp_mono ?_ ((h w hb).2 o ho a w hk.f (Below.refl _ _) (fun o' ho' e he hbd => rdone_f (hdp o' ho' e he hbd)))
  rintro a' w' ⟨v, e, hV, hbw⟩
  refine ⟨v, e, fun hn => ?_, hV, hR.grow _ _ hbw⟩
  rw [ho] at hd
  simp [hn] at hd

theorem wpAny_relTail {k0 : Nat} (hR : Pre R) (hok : flowOk ops a0.tmps.size = true) (ht : tailOk ops k0 = true) {kn : Nat → VP} (hs : ∀ m, m < k0 → RStep R P ops base a0 Q k0 kn m (kn m))
    (he : RelTail R P ops base a0 Q k0 (ops.size - k0) 0 k0 kn) :
    ∀ (u fuel : Nat) (listed : Array Bool) (a : Act) (w : World), listed.size = ops.size → ((List.range k0).filter fun i => !listed.getD i false).length ≤ u → u + (ops.size - k0) ≤ fuel → (∀ j, k0 ≤ j → listed.getD j false = false) →
      FKeptN ops k0 a0 a → R base w → (∀ j, listed.getD j false = true → RDone ops kn a w j) → wpAny P .any ops Q fuel listed a w := by
  obtain ⟨ok1, ok2, ok3⟩ := flowOk_spec hok
  have hk0 : k0 ≤ ops.size := by unfold tailOk at ht; simp only [Bool.and_eq_true, decide_eq_true_eq] at ht; exact ht.1
  have tk : ∀ j, j < ops.size → k0 < j → waits ops j (j - 1) = true := by
    intro j hj hk
    unfold tailOk at ht
    simp only [Bool.and_eq_true, List.all_eq_true, List.mem_range] at ht
    have := ht.2 j hj
    rwa [if_neg (by omega), if_neg (by omega)] at this
  have tk0 : ∀ m, k0 < ops.size → m < k0 → waits ops k0 m = true := by
    intro m hj hk
    unfold tailOk at ht
    simp only [Bool.and_eq_true, List.all_eq_true, List.mem_range] at ht
    have := ht.2 k0 hj
    rw [if_neg (by omega), if_pos rfl] at this
    exact List.all_eq_true.1 this m (by simpa using hk)
  intro u
  induction u with
  | zero =>
    intro fuel listed a w hl hu hf htl hk hb hd
    have hall : ∀ j, j < k0 → listed.getD j false = true := by
      intro j hj
      have h0 : ((List.range k0).filter fun i => !listed.getD i false) = [] := List.eq_nil_of_length_eq_zero (by omega)
      rw [List.filter_eq_nil_iff] at h0
      have := h0 j (by simpa using hj)
      simpa using this
    refine wpAny_tail hok ht (ops.size - k0) k0 fuel listed a w (by omega) (Nat.le_refl _) (by omega) hl ?_ (he a w hk hb (fun j hj => hd j (hall j hj)))
    intro j hj
    by_cases e : j < k0
    · rw [hall j e]; simp [e]
    · rw [htl j (by omega)]; simp [e]
  | succ u ih =>
    intro fuel listed a w hl hu hf htl hk hb hd
    by_cases hall : ∀ j, j < k0 → listed.getD j false = true
    · refine wpAny_tail hok ht (ops.size - k0) k0 fuel listed a w (by omega) (Nat.le_refl _) (by omega) hl ?_ (he a w hk hb (fun j hj => hd j (hall j hj)))
      intro j hj
      by_cases e : j < k0
      · rw [hall j e]; simp [e]
      · rw [htl j (by omega)]; simp [e]
    · -- the least that is not yet done
      have hex : ∃ m, m < k0 ∧ listed.getD m false = false ∧ ∀ j, j < m → listed.getD j false = true := by
        have key : ∀ n, n ≤ k0 → (∀ j, j < n → listed.getD j false = true) ∨ ∃ m, m < n ∧ listed.getD m false = false ∧ ∀ j, j < m → listed.getD j false = true := by
          intro n
          induction n with
          | zero => intro _; exact .inl (fun j hj => absurd hj (by omega))
          | succ n ihn =>
            intro hn
            rcases ihn (by omega) with h | ⟨m, hm, h1, h2⟩
            · cases hc : listed.getD n false with
              | true => exact .inl (fun j hj => by by_cases e : j = n; exact e ▸ hc; exact h j (by omega))
              | false => exact .inr ⟨n, by omega, hc, h⟩
            · exact .inr ⟨m, by omega, h1, h2⟩
        rcases key k0 (Nat.le_refl _) with h | h
        · exact absurd h hall
        · exact h
      obtain ⟨m, hm, hmu, hmd⟩ := hex
      have hmem : m ∈ Region.ready .any ops listed := ready_of hok hl (by omega) hmu hmd
      cases fuel with
      | zero => omega
      | succ fuel =>
        refine ⟨fun hr => (by rw [hr] at hmem; cases hmem), fun i hi => ?_⟩
        have hiu := ready_un hl hi
        have hik : i < k0 := by
          by_cases e : i < k0
          · exact e
          · exfalso
            by_cases e2 : i = k0
            · subst e2
              have := waits_ready hi (tk0 m hiu.1 hm)
              rw [hmu] at this
              cases this
            · have := waits_ready hi (tk i hiu.1 (by omega))
              rw [htl (i - 1) (by omega)] at this
              cases this
        obtain ⟨o, ho⟩ : ∃ o, ops[i]? = some o := ⟨_, Array.getElem?_eq_getElem hiu.1⟩
        have hstep := (hs i hik).2 o ho a w hk hb (by
          intro o' ho' e he' hbd
          rw [ho] at ho'
          cases ho'
          refine hd e.on (waits_ready hi ?_)
          unfold waits
          rw [ho]
          simp only [Option.any_some, List.any_eq_true, Bool.and_eq_true, beq_iff_eq]
          exact ⟨e, he', rfl, hbd⟩)
        refine wpOp_mono ?_ hstep
        rintro a' w' ⟨v, rfl, hvn, hV, hbw⟩
        refine ih fuel (listed.setIfInBounds i true) _ w' (by simpa using hl) ?_ (by omega) ?_ ?_ (hR.trans _ _ _ hb hbw) ?_
        · have hsub : ((List.range k0).filter fun j => !(listed.setIfInBounds i true).getD j false).length < ((List.range k0).filter fun j => !listed.getD j false).length := by
            have e1 : ((List.range k0).filter fun j => !(listed.setIfInBounds i true).getD j false) = ((List.range k0).filter fun j => !listed.getD j false).filter (fun j => j != i) := by
              rw [List.filter_filter]
              apply List.filter_congr
              intro j hj
              by_cases e : j = i
              · subst e; rw [getD_set_same (by omega)]; simp
              · rw [getD_set_ne e]; simp [e]
            rw [e1]
            refine List.length_filter_lt_length_iff_exists.2 ⟨i, ?_, by simp⟩
            simp only [List.mem_filter, List.mem_range]
            exact ⟨hik, by rw [hiu.2]; rfl⟩
          omega
        · intro j hj
          rw [getD_set_ne (by omega)]
          exact htl j hj
        · refine ⟨by rw [defers_put]; exact hk.1, by rw [size_put]; exact hk.2.1, fun t ht' => ?_⟩
          cases hdst : o.dst with
          | none => simp only [Act.put]; exact hk.2.2 t ht'
          | some s =>
            have : s ≠ t := by
              rintro rfl
              have := List.all_eq_true.1 ht' i (by simpa using hik)
              rw [ho] at this
              simp [hdst] at this
            rw [getD_put (fun h => this h.symm)]
            exact hk.2.2 t ht'
        · intro j hj o' ho'
          by_cases e : j = i
          · subst e
            rw [ho] at ho'
            cases ho'
            cases hdst : o.dst with
            | none => rw [hvn hdst] at hV; exact hV
            | some t =>
              show kn j (_) w'
              simp only []
              rw [getD_put_self (by rw [hk.2.1]; exact ok3 j o t ho hdst)]
              exact hV
          · rw [getD_set_ne e] at hj
            have hold := hd j hj o' ho'
            have hjk : j < k0 := by
              by_cases e2 : j < k0
              · exact e2
              · rw [htl j (by omega)] at hj; cases hj
            refine (hs j hjk).1 _ _ _ ?_ hbw
            cases hdst' : o'.dst with
            | none => rw [hdst'] at hold; exact hold
            | some t =>
              rw [hdst'] at hold
              have hne : o.dst ≠ some t := fun hh => e (ok2 j i o' o t ho' ho hdst' hh)
              have hslot : (a.put o.dst v).tmps.getD t undef = a.tmps.getD t undef := by
                cases hdst : o.dst with
                | none => rfl
                | some s => exact getD_put (fun h => hne (by rw [hdst, h]))
              simp only [hslot]
              exact hold

theorem relTail_family {n k0 c : Nat} (hok : flowOk ops n = true) : ∀ k i kn, i + k = k0 → (∀ m, m < i → RStep R P ops base a0 Q k0 kn m (kn m)) → RelTail R P ops base a0 Q k0 c k i kn →
    ∃ kn', (∀ m, m < k0 → RStep R P ops base a0 Q k0 kn' m (kn' m)) ∧ RelTail R P ops base a0 Q k0 c 0 k0 kn'
  | 0, i, kn, hi, hs, hf => ⟨kn, fun m hm => hs m (by omega), hf⟩
  | k + 1, i, kn, hi, hs, ⟨V, hV, hf⟩ => by
    have agree : ∀ m, m ≠ i → upd kn i V m = kn m := fun m hm => by simp [upd, hm]
    have self : upd kn i V i = V := by simp [upd]
    have shift : ∀ m W, m ≤ i → RStep R P ops base a0 Q k0 kn m W → RStep R P ops base a0 Q k0 (upd kn i V) m W := by
      intro m W hm h
      refine ⟨h.1, fun o ho a w hk hb hd => h.2 o ho a w hk hb ?_⟩
      intro o' ho' e he hbd
      have hlt := (flowOk_spec hok).1 m o' ho' e he hbd
      exact rdone_congr (agree e.on (by omega)) (hd o' ho' e he hbd)
    refine relTail_family hok k (i + 1) (upd kn i V) (by omega) (fun m hm => ?_) hf
    by_cases hmi : m = i
    · subst hmi; rw [self]; exact shift m V (Nat.le_refl _) hV
    · rw [agree m hmi]; exact shift m _ (by omega) (hs m (by omega))

/-- THE LAW. -/
theorem wp_region_rel (hR : Pre R) (k0 : Nat) {id : Nat} {a : Act} {w : World} (hm : P.follows .mixedOrders = true) (hok : flowOk ops a.tmps.size = true) (ht : tailOk ops k0 = true)
    (h : RelTail R P ops w a Q k0 (ops.size - k0) k0 0 (fun _ _ _ => False)) : (Code.region id ops true).wp P Q a w := by
  refine wp_region_any hm ?_
  obtain ⟨kn, hs, he⟩ := relTail_family hok k0 0 _ (by omega) (fun m hm => absurd hm (by omega)) h
  have hk0 : k0 ≤ ops.size := by unfold tailOk at ht; simp only [Bool.and_eq_true, decide_eq_true_eq] at ht; exact ht.1
  refine wpAny_relTail hR hok ht hs he k0 ops.size _ a _ (by simp) ?_ (by omega) ?_ ⟨rfl, rfl, fun _ _ => rfl⟩ (hR.drew w) ?_
  · exact Nat.le_trans (List.length_filter_le _ _) (by simp)
  · intro j hj
    simp [Array.getD_eq_getD_getElem?, Array.getElem?_replicate]
    split <;> rfl
  · intro j hj
    simp [Array.getD_eq_getD_getElem?, Array.getElem?_replicate] at hj
    split at hj <;> simp at hj
end
end Go.Proofs.YtpjafjnokgeifaaGreatDoor
end
section
namespace Go.Proofs.YtpjafjnokgeifaaGreatDoor
open Go.RowKit
set_option linter.unusedVariables false
set_option linter.unusedSimpArgs false

def wornN (n : Int) : Int := if n + 1 ≤ 2147483647 then n + 1 else 2147483647
theorem pWear_any (v : Value) (n : Int) (w : World) (at_ : Int) (s : List UInt8) : Calls Tryz.prog 255 #[.agg #[.int .i64 at_, .string ⟨s.toArray⟩], .int .i64 n] w fun e w' => e = .returned (.int .i64 n) ∧ Below w.heap.size w w' := by
  go_enter Tryz.func255, Tryz.ntmps255
  go_wp2
  go_ret
  exact ⟨rfl, (Below.refl _ _).alloc (Nat.le_refl _) _⟩
set_option maxHeartbeats 400000 in
theorem pFits_any (at_ : Int) (s : List UInt8) (n : Int) (w : World) (hs : s.length ≤ 1000000000) (h2 : -1000000000000 ≤ n) (h3 : n ≤ 1000000000000) :
    Calls Tryz.prog 253 #[.agg #[.int .i64 at_, .string ⟨s.toArray⟩], .int .i64 n] w fun e w' => e = .returned (.bool (decide (0 ≤ at_) && decide (at_ ≤ n - s.length))) ∧ Below w.heap.size w w' := by
  go_enter Tryz.func253, Tryz.ntmps253
  go_wp2_with fail
  refine (stands_any s at_ n _ hs h2 h3).mono ?_
  rintro e w' ⟨rfl, rfl⟩
  obtain ⟨z, hz⟩ : ∃ z, z = (decide (0 ≤ at_) && decide (at_ ≤ n - (s.length : Int))) := ⟨_, rfl⟩
  rw [← hz]
  have HZ := Lib.hid hz
  clear hz
  go_wp2
  go_ret
  exact ⟨by rw [← HZ.out]; rfl, (Below.refl _ _).alloc (Nat.le_refl _) _⟩

theorem field_pr (g k : Nat) (hk : k < 2) (w : World) : (Instr.fieldAt 127 (.pointer (some ⟨g, 0, none⟩)) k).run Tryz.prog w = .ok (.pointer (some ⟨g, k, none⟩)) w := by
  have h : k = 0 ∨ k = 1 := by omega
  rcases h with rfl | rfl <;> simp [Instr.fieldAt, run_underlying Tryz.underlying127, Instr.sureAddr, fieldPlace, Addr.add]
/-- A page that was programmed. -/
def progL (was : List UInt8) (k : Nat) (s : List UInt8) : List UInt8 := was.take k ++ pairL (· &&& ·) (was.drop k) s
theorem length_progL (was : List UInt8) (k : Nat) (s : List UInt8) : (progL was k s).length = was.length := by
  unfold progL
  rw [List.length_append, length_pairL, ← List.length_append, List.take_append_drop]
theorem call_and (t d : List UInt8) (ht : t.length ≤ 1000000000) (hd : d.length ≤ 1000000000) (w : World) :
    Calls Tryz.prog 187 #[.string ⟨t.toArray⟩, .string ⟨d.toArray⟩] w fun e w' => ∃ v, e = .returned v ∧ isVal (.string ⟨(pairL (· &&& ·) t d).toArray⟩) v w' ∧ Below w.heap.size w w' :=
  (and_l t d w ht hd).mono (by rintro e w' ⟨rfl, hb⟩; exact ⟨_, rfl, rfl, hb⟩)
noncomputable def ppOps : Array Oper := regionOf Tryz.f254 1
set_option maxRecDepth 100000 in
set_option maxHeartbeats 1000000 in
theorem pPage_region (Q : Exit → Act → World → Prop) (a0 : Act) (w0 : World) (hsz : a0.tmps.size = 17) (was s : List UInt8) (k g : Nat) (hk : k ≤ was.length) (h1 : was.length ≤ 1000000) (h2 : s.length ≤ 1000000)
    (e1 : a0.tmps.getD 1 undef = .string ⟨was.toArray⟩) (e2 : a0.tmps.getD 2 undef = .pointer (some ⟨g, 0, none⟩)) (hg : g < w0.heap.size) (c0 : w0.cell? ⟨g, 0, none⟩ = some (.int .i64 (k : Int))) (c1 : w0.cell? ⟨g, 1, none⟩ = some (.string ⟨s.toArray⟩))
    (hQ : ∀ (a : Act) (w : World), a.defers = a0.defers → a.tmps.getD 4 undef = .string ⟨(progL was k s).toArray⟩ → Below w0.heap.size w0 w → Q .normal a w) :
    (Code.region 1 ppOps true).wp Tryz.prog Q a0 w0 := by
  have hdl : (was.drop k).length ≤ 1000000000 := by rw [List.length_drop]; omega
  refine wp_region_flow mixed (by rw [hsz]; kernel_rfl) ?_
  rw [show ppOps.size = 13 by kernel_rfl]
  refine ⟨isVal (.string ⟨was.toArray⟩), step_move (.tmp 1) (by kernel_rfl) (wanted_none (by kernel_rfl)) (stable_val _) (knows_old 1 (.string ⟨was.toArray⟩) (by kernel_rfl) e1), ?_⟩
  refine ⟨isVal (.pointer (some ⟨g, 0, none⟩)), step_field 127 (.tmp 2) 0 ⟨g, 0, none⟩ ⟨g, 0, none⟩ (by kernel_rfl) (wanted_none (by kernel_rfl)) (knows_old 2 (.pointer (some ⟨g, 0, none⟩)) (by kernel_rfl) e2) (field_pr g 0 (by omega)), ?_⟩
  refine ⟨isVal (.int .i64 (k : Int)), step_read 3 (.tmp 6) ⟨g, 0, none⟩ (.int .i64 (k : Int)) (by kernel_rfl) (wanted_none (by kernel_rfl)) (knows_new (V := isVal (.pointer (some ⟨g, 0, none⟩))) 6 1 (by kernel_rfl) (by kernel_rfl) (by kernel_rfl)) c0 hg agg_int, ?_⟩
  refine ⟨isVal (.string ⟨(was.take k).toArray⟩), step_head 9 (.tmp 5) (.tmp 7) was k (by kernel_rfl) (wanted_none (by kernel_rfl)) (knows_new (V := isVal (.string ⟨was.toArray⟩)) 5 0 (by kernel_rfl) (by kernel_rfl) (by kernel_rfl)) (knows_new (V := isVal (.int .i64 (k : Int))) 7 2 (by kernel_rfl) (by kernel_rfl) (by kernel_rfl)) (head_str was k hk), ?_⟩
  refine ⟨isVal (.string ⟨was.toArray⟩), step_move (.tmp 1) (by kernel_rfl) (wanted_none (by kernel_rfl)) (stable_val _) (knows_old 1 (.string ⟨was.toArray⟩) (by kernel_rfl) e1), ?_⟩
  refine ⟨isVal (.pointer (some ⟨g, 0, none⟩)), step_field 127 (.tmp 2) 0 ⟨g, 0, none⟩ ⟨g, 0, none⟩ (by kernel_rfl) (wanted_none (by kernel_rfl)) (knows_old 2 (.pointer (some ⟨g, 0, none⟩)) (by kernel_rfl) e2) (field_pr g 0 (by omega)), ?_⟩
  refine ⟨isVal (.int .i64 (k : Int)), step_read 3 (.tmp 10) ⟨g, 0, none⟩ (.int .i64 (k : Int)) (by kernel_rfl) (wanted_none (by kernel_rfl)) (knows_new (V := isVal (.pointer (some ⟨g, 0, none⟩))) 10 5 (by kernel_rfl) (by kernel_rfl) (by kernel_rfl)) c0 hg agg_int, ?_⟩
  refine ⟨isVal (.string ⟨(was.drop k).toArray⟩), step_rest 9 (.tmp 9) (.tmp 11) was k (by kernel_rfl) (wanted_none (by kernel_rfl)) (knows_new (V := isVal (.string ⟨was.toArray⟩)) 9 4 (by kernel_rfl) (by kernel_rfl) (by kernel_rfl)) (knows_new (V := isVal (.int .i64 (k : Int))) 11 6 (by kernel_rfl) (by kernel_rfl) (by kernel_rfl)) (rest_str was k hk), ?_⟩
  refine ⟨isVal (.pointer (some ⟨g, 1, none⟩)), step_field 127 (.tmp 2) 1 ⟨g, 0, none⟩ ⟨g, 1, none⟩ (by kernel_rfl) (wanted_none (by kernel_rfl)) (knows_old 2 (.pointer (some ⟨g, 0, none⟩)) (by kernel_rfl) e2) (field_pr g 1 (by omega)), ?_⟩
  refine ⟨isVal (.string ⟨s.toArray⟩), step_read 9 (.tmp 13) ⟨g, 1, none⟩ (.string ⟨s.toArray⟩) (by kernel_rfl) (wanted_none (by kernel_rfl)) (knows_new (V := isVal (.pointer (some ⟨g, 1, none⟩))) 13 8 (by kernel_rfl) (by kernel_rfl) (by kernel_rfl)) c1 hg agg_str, ?_⟩
  refine ⟨isVal (.string ⟨(pairL (· &&& ·) (was.drop k) s).toArray⟩), step_call 187 #[.tmp 12, .tmp 14] #[9, 9] #[.string ⟨(was.drop k).toArray⟩, .string ⟨s.toArray⟩] (by kernel_rfl) (wanted_none (by kernel_rfl)) (stable_val _) (args2 (.tmp 12) (.tmp 14) (.string ⟨(was.drop k).toArray⟩) (.string ⟨s.toArray⟩) (knows_new (V := isVal (.string ⟨(was.drop k).toArray⟩)) 12 7 (by kernel_rfl) (by kernel_rfl) (by kernel_rfl)) (knows_new (V := isVal (.string ⟨s.toArray⟩)) 14 9 (by kernel_rfl) (by kernel_rfl) (by kernel_rfl))) (enters_of Tryz.func187 (by kernel_rfl) rfl) (by intro w hb; exact call_and (was.drop k) s hdl (by omega) w), ?_⟩
  refine ⟨isVal (.string ⟨(was.take k ++ pairL (· &&& ·) (was.drop k) s).toArray⟩), step_bin .add 9 9 (.tmp 8) (.tmp 15) (.string ⟨(was.take k).toArray⟩) (.string ⟨(pairL (· &&& ·) (was.drop k) s).toArray⟩) (.string ⟨(was.take k ++ pairL (· &&& ·) (was.drop k) s).toArray⟩) (by kernel_rfl) (wanted_none (by kernel_rfl)) (knows_new (V := isVal (.string ⟨(was.take k).toArray⟩)) 8 3 (by kernel_rfl) (by kernel_rfl) (by kernel_rfl)) (knows_new (V := isVal (.string ⟨(pairL (· &&& ·) (was.drop k) s).toArray⟩)) 15 10 (by kernel_rfl) (by kernel_rfl) (by kernel_rfl)) (fun _ => rfl) (fun W => run_string_add_lists W (was.take k) (pairL (· &&& ·) (was.drop k) s) (by rw [List.length_take]; omega) (by rw [length_pairL, List.length_drop]; omega)), ?_⟩
  refine ⟨isVal (.string ⟨(was.take k ++ pairL (· &&& ·) (was.drop k) s).toArray⟩), step_assign (.tmp 16) (by kernel_rfl) (wanted_none (by kernel_rfl)) (stable_val _) (knows_new (V := isVal (.string ⟨(was.take k ++ pairL (· &&& ·) (was.drop k) s).toArray⟩)) 16 11 (by kernel_rfl) (by kernel_rfl) (by kernel_rfl)), ?_⟩
  intro a w hkp hb hd
  exact hQ a w hkp.1 (fdone_of (hd 12 (by rw [show ppOps.size = 13 by kernel_rfl]; decide)) (t := 4) (V := isVal (.string ⟨(was.take k ++ pairL (· &&& ·) (was.drop k) s).toArray⟩)) (by kernel_rfl) (by kernel_rfl)) hb
set_option maxHeartbeats 400000 in
theorem pPage_any (k : Nat) (s was : List UInt8) (w : World) (hk : k ≤ was.length) (h1 : was.length ≤ 1000000) (h2 : s.length ≤ 1000000) :
    Calls Tryz.prog 254 #[.agg #[.int .i64 (k : Int), .string ⟨s.toArray⟩], .string ⟨was.toArray⟩] w fun e w' => e = .returned (.string ⟨(progL was k s).toArray⟩) ∧ Below w.heap.size w w' := by
  go_enter Tryz.func254, Tryz.ntmps254
  go_wp2_with fail
  refine pPage_region _ _ _ rfl was s k w.heap.size hk h1 h2 rfl rfl (by simp) (by rw [World.cell?_alloc_new]; rfl) (by rw [World.cell?_alloc_new]; rfl) ?_
  intro a w5 hd h4 hb5
  have hB := ((Below.refl w.heap.size w).alloc (Nat.le_refl _) _).trans (hb5.mono (by simp))
  go_wp2
  refine bodyPost_ret (results_tmp rfl a.tmps Tryz.prog w5) hd ⟨?_, hB⟩
  rw [h4]
end Go.Proofs.YtpjafjnokgeifaaGreatDoor
end
section
namespace Go.Proofs.YtpjafjnokgeifaaGreatDoor
open Go.RowKit
set_option linter.unusedVariables false
set_option linter.unusedSimpArgs false

/-- A row of one's own, in a block between two numbers. -/
def isBtw (lo hi : Nat) (e : TypeId) (cs : List Value) (v : Value) (w : World) : Prop := (v = .slice none 0 0 ∧ cs = []) ∨
  ∃ g cap cur, v = .slice (some ⟨g, 0, none⟩) cs.length cap ∧ lo ≤ g ∧ g < hi ∧ w.heap[g]? = some (.cells cur e (0, 0)) ∧ cs.length ≤ cap ∧ cur.size = cap ∧ cur.toList.take cs.length = cs
theorem isBtw_own {w : World} {B : Nat} {e : TypeId} {v : Value} {cs : List Value} (h : isOwn B e cs v w) : isBtw B w.heap.size e cs v w := by
  obtain ⟨hl, ⟨rfl, h0⟩ | ⟨g, cap, cur, rfl, hB, hg, hn, _, hs, ht⟩⟩ := h
  · exact .inl ⟨rfl, List.eq_nil_of_length_eq_zero h0⟩
  · rw [Nat.mul_one] at hs ht
    exact .inr ⟨g, cap, cur, rfl, hB, (Array.getElem?_eq_some_iff.1 hg).1, hg, hn, hs, ht⟩
theorem isBtw.grow {lo hi : Nat} {e : TypeId} {cs : List Value} {v : Value} {w w' : World} (h : isBtw lo hi e cs v w) (hb : Below w.heap.size w w') : isBtw lo hi e cs v w' := by
  rcases h with h | ⟨g, cap, cur, hv, h1, h2, hg, rest⟩
  · exact .inl h
  · exact .inr ⟨g, cap, cur, hv, h1, h2, (hb.block g (Array.getElem?_eq_some_iff.1 hg).1).trans hg, rest⟩
theorem isBtw.out {lo hi : Nat} {e : TypeId} {cs : List Value} {v : Value} {w : World} (h : isBtw lo hi e cs v w) {p : Addr} (hp : p.block < lo ∨ hi ≤ p.block) (x : Value) : isBtw lo hi e cs v (w.setCell p x) := by
  rcases h with h | ⟨g, cap, cur, hv, h1, h2, hg, rest⟩
  · exact .inl h
  · exact .inr ⟨g, cap, cur, hv, h1, h2, (Below.heap_setCell w p x g (by omega)).trans hg, rest⟩
theorem isBtw.other {lo hi : Nat} {e e' : TypeId} {cs cs' : List Value} {v v' : Value} {w : World} (h : isBtw lo hi e cs v w) {g cap n : Nat} {cur : Array Value} (hg' : w.heap[g]? = some (.cells cur e' (0, 0))) (hne : e ≠ e') (k : Nat) (x : Value) : isBtw lo hi e cs v (w.setCell ⟨g, k, none⟩ x) := by
  rcases h with h | ⟨g2, cap2, cur2, hv, h1, h2, hg, rest⟩
  · exact .inl h
  · refine .inr ⟨g2, cap2, cur2, hv, h1, h2, (Below.heap_setCell w ⟨g, k, none⟩ x g2 ?_).trans hg, rest⟩
    rintro rfl
    rw [hg'] at hg
    injection hg with hg
    injection hg with _ he _
    exact hne he.symm
theorem isBtw.some_ {lo hi : Nat} {e : TypeId} {cs : List Value} {v : Value} {w : World} (h : isBtw lo hi e cs v w) (h0 : 0 < cs.length) :
    ∃ g cap cur, v = .slice (some ⟨g, 0, none⟩) cs.length cap ∧ lo ≤ g ∧ g < hi ∧ w.heap[g]? = some (.cells cur e (0, 0)) ∧ cs.length ≤ cap ∧ cur.size = cap ∧ cur.toList.take cs.length = cs := by
  rcases h with ⟨_, rfl⟩ | h
  · simp at h0
  · exact h
theorem isBtw.cells {lo hi : Nat} {e : TypeId} {cs : List Value} {v : Value} {w : World} (h : isBtw lo hi e cs v w) : isCells cs v w := by
  rcases h with h | ⟨g, cap, cur, rfl, h1, h2, hg, hn, hs, ht⟩
  · exact .inl h
  · refine .inr (.inr ⟨g, 0, cap, rfl, (Array.getElem?_eq_some_iff.1 hg).1, fun j x hx => ?_⟩)
    have hj := (List.getElem?_eq_some_iff.1 hx).1
    rw [← ht, List.getElem?_take, if_pos hj] at hx
    simp only [World.cell?, hg]
    simpa using hx
theorem isBtw.one {lo hi : Nat} {e : TypeId} {cs : List Value} {v : Value} {w : World} (h : isBtw lo hi e cs v w) : v.oneCell' = true := by
  rcases h with ⟨rfl, _⟩ | ⟨g, cap, cur, rfl, _⟩ <;> rfl
/-- One of its cells is written. -/
theorem isBtw.put {lo hi : Nat} {e : TypeId} {cs : List Value} {g n cap : Nat} {w : World} (h : isBtw lo hi e cs (.slice (some ⟨g, 0, none⟩) n cap) w) (k : Nat) (hk : k < cs.length) (x : Value) : isBtw lo hi e (cs.set k x) (.slice (some ⟨g, 0, none⟩) n cap) (w.setCell ⟨g, k, none⟩ x) := by
  rcases h with ⟨h, _⟩ | ⟨g2, cap2, cur, hv, h1, h2, hg, hn, hs, ht⟩
  · cases h
  · injection hv with e1 e2 e3
    injection e1 with e1
    injection e1 with e1 _ _
    subst e1 e2 e3
    refine .inr ⟨g, cap, cur.setIfInBounds k x, by rw [List.length_set], h1, h2, ?_, by rw [List.length_set]; exact hn, by simpa using hs, ?_⟩
    · exact heap_setCell_same w g k cur e x hg
    · rw [List.length_set, Array.toList_setIfInBounds, List.take_set, ht]
theorem isBtw.cell {lo hi : Nat} {e : TypeId} {cs : List Value} {g n cap : Nat} {w : World} (h : isBtw lo hi e cs (.slice (some ⟨g, 0, none⟩) n cap) w) (k : Nat) (x : Value) (hx : cs[k]? = some x) : w.cell? ⟨g, k, none⟩ = some x ∧ w.frozen? ⟨g, k, none⟩ = false ∧ lo ≤ g ∧ g < hi ∧ ∃ cur, w.heap[g]? = some (.cells cur e (0, 0)) := by
  rcases h with ⟨h, _⟩ | ⟨g2, cap2, cur, hv, h1, h2, hg, hn, hs, ht⟩
  · cases h
  · injection hv with e1 e2 e3
    injection e1 with e1
    injection e1 with e1 _ _
    subst e1 e2 e3
    have hj := (List.getElem?_eq_some_iff.1 hx).1
    rw [← ht, List.getElem?_take, if_pos hj] at hx
    refine ⟨?_, ?_, h1, h2, cur, hg⟩
    · simp only [World.cell?, hg]
      simpa using hx
    · simp [World.frozen?, hg]

theorem isBtw.weak {lo hi lo' hi' : Nat} {e : TypeId} {cs : List Value} {v : Value} {w : World} (h : isBtw lo hi e cs v w) (h1 : lo' ≤ lo) (h2 : hi ≤ hi') : isBtw lo' hi' e cs v w := by
  rcases h with h | ⟨g, cap, cur, hv, h3, h4, rest⟩
  · exact .inl h
  · exact .inr ⟨g, cap, cur, hv, by omega, by omega, rest⟩
theorem isBtw.out5 {lo hi : Nat} {e : TypeId} {cs : List Value} {v : Value} {w : World} (h : isBtw lo hi e cs v w) {g : Nat} (hg : g < lo ∨ hi ≤ g) (v0 v1 v2 v3 v4 : Value) : isBtw lo hi e cs v (set5 w g v0 v1 v2 v3 v4) := by
  unfold set5
  exact ((((h.out (p := ⟨g, 0, none⟩) hg _).out (p := ⟨g, 1, none⟩) hg _).out (p := ⟨g, 2, none⟩) hg _).out (p := ⟨g, 3, none⟩) hg _).out (p := ⟨g, 4, none⟩) hg _
/-- A device whose rows are new: in blocks from B on. -/
def isFlN (B : Nat) (F : Fl) (v : Value) (w : World) : Prop := ∃ vp vw, v = .agg #[vp, vw, .int .i64 F.fuse, strC F.torn, .bool F.dead] ∧ isBtw B w.heap.size 9 (F.pages.map strC) vp w ∧ isBtw B w.heap.size 3 (F.wear.map intC) vw w
theorem isFlN.fl {B : Nat} {F : Fl} {v : Value} {w : World} (h : isFlN B F v w) : isFl F v w := by
  obtain ⟨vp, vw, rfl, hp, hq⟩ := h
  exact ⟨vp, vw, rfl, hp.cells, hq.cells⟩
theorem isFlN.low {B B' : Nat} {F : Fl} {v : Value} {w : World} (h : isFlN B F v w) (hB : B' ≤ B) : isFlN B' F v w := by
  obtain ⟨vp, vw, rfl, hp, hq⟩ := h
  exact ⟨vp, vw, rfl, hp.weak hB (Nat.le_refl _), hq.weak hB (Nat.le_refl _)⟩
/-- The device as it came (F), and as it is told (G). -/
structure TI (w0 W : World) (lo hi g3 g6 g8 : Nat) (F G : Fl) (vp vw vp' vw' : Value) : Prop where
  below : Below w0.heap.size w0 W
  o3 : w0.heap.size ≤ g3 ∧ g3 < lo
  o6 : w0.heap.size ≤ g6 ∧ g6 < lo
  o36 : g3 ≠ g6
  o8 : w0.heap.size ≤ lo ∧ lo ≤ hi ∧ hi ≤ g8
  c3 : Cells5 W g3 vp vw (.int .i64 F.fuse) (strC F.torn) (.bool F.dead)
  c6 : ∃ o0 o1 o2 o3 o4, Cells5 W g6 o0 o1 o2 o3 o4
  f6 : Free5 W g6
  c8 : Cells5 W g8 vp' vw' (.int .i64 G.fuse) (strC G.torn) (.bool G.dead)
  f8 : Free5 W g8
  p : isCells (F.pages.map strC) vp w0
  q : isCells (F.wear.map intC) vw w0
  p' : isBtw lo hi 9 (G.pages.map strC) vp' W
  q' : isBtw lo hi 3 (G.wear.map intC) vw' W

section
variable {w0 W : World} {lo hi g3 g6 g8 g n cap : Nat} {F G : Fl} {vp vw vp' vw' : Value}
theorem TI.grow (h : TI w0 W lo hi g3 g6 g8 F G vp vw vp' vw') {W' : World} (hb : Below W.heap.size W W') : TI w0 W' lo hi g3 g6 g8 F G vp vw vp' vw' where
  below := h.below.trans (hb.mono h.below.size)
  o3 := h.o3
  o6 := h.o6
  o36 := h.o36
  o8 := h.o8
  c3 := h.c3.keep hb h.c3.1
  c6 := by obtain ⟨o0, o1, o2, o3, o4, hc⟩ := h.c6; exact ⟨o0, o1, o2, o3, o4, hc.keep hb hc.1⟩
  f6 := by obtain ⟨o0, o1, o2, o3, o4, hc⟩ := h.c6; exact h.f6.keep hb hc.1
  c8 := h.c8.keep hb h.c8.1
  f8 := h.f8.keep hb h.c8.1
  p := h.p
  q := h.q
  p' := h.p'.grow hb
  q' := h.q'.grow hb
theorem TI.fl (h : TI w0 W lo hi g3 g6 g8 F G vp vw vp' vw') : isFl F (.agg #[vp, vw, .int .i64 F.fuse, strC F.torn, .bool F.dead]) W := ⟨vp, vw, rfl, stable_cells _ _ _ _ h.p h.below, stable_cells _ _ _ _ h.q h.below⟩
theorem TI.fl' (h : TI w0 W lo hi g3 g6 g8 F G vp vw vp' vw') : isFl G (.agg #[vp', vw', .int .i64 G.fuse, strC G.torn, .bool G.dead]) W := ⟨vp', vw', rfl, h.p'.cells, h.q'.cells⟩
theorem TI.page (h : TI w0 W lo hi g3 g6 g8 F G vp vw (.slice (some ⟨g, 0, none⟩) n cap) vw') (k : Nat) (hk : k < G.pages.length) (x : List UInt8) :
    TI w0 (W.setCell ⟨g, k, none⟩ (strC x)) lo hi g3 g6 g8 F { G with pages := G.pages.set k x } vp vw (.slice (some ⟨g, 0, none⟩) n cap) vw' := by
  obtain ⟨hc, hf, h1, h2, cur, hg⟩ := h.p'.cell k (strC G.pages[k]) (get_map strC _ _ hk)
  have o3 := h.o3
  have o6 := h.o6
  have o8 := h.o8
  exact {
    below := h.below.setCell (p := ⟨g, k, none⟩) (by show _ ≤ g; omega) _
    o3 := o3
    o6 := o6
    o36 := h.o36
    o8 := o8
    c3 := h.c3.apart _ (by omega)
    c6 := by obtain ⟨o0, o1, o2, o3', o4, hc⟩ := h.c6; exact ⟨o0, o1, o2, o3', o4, hc.apart _ (by omega)⟩
    f6 := h.f6.set _ _
    c8 := h.c8.apart _ (by omega)
    f8 := h.f8.set _ _
    p := h.p
    q := h.q
    p' := by
      have := h.p'.put k (by simpa using hk) (strC x)
      rwa [← List.map_set] at this
    q' := h.q'.other (cs' := []) (v' := .nilIface) (cap := 0) (n := 0) hg (by decide) k _ }
theorem TI.wear (h : TI w0 W lo hi g3 g6 g8 F G vp vw vp' (.slice (some ⟨g, 0, none⟩) n cap)) (k : Nat) (hk : k < G.wear.length) (x : Int) :
    TI w0 (W.setCell ⟨g, k, none⟩ (intC x)) lo hi g3 g6 g8 F { G with wear := G.wear.set k x } vp vw vp' (.slice (some ⟨g, 0, none⟩) n cap) := by
  obtain ⟨hc, hf, h1, h2, cur, hg⟩ := h.q'.cell k (intC G.wear[k]) (get_map intC _ _ hk)
  have o3 := h.o3
  have o6 := h.o6
  have o8 := h.o8
  exact {
    below := h.below.setCell (p := ⟨g, k, none⟩) (by show _ ≤ g; omega) _
    o3 := o3
    o6 := o6
    o36 := h.o36
    o8 := o8
    c3 := h.c3.apart _ (by omega)
    c6 := by obtain ⟨o0, o1, o2, o3', o4, hc⟩ := h.c6; exact ⟨o0, o1, o2, o3', o4, hc.apart _ (by omega)⟩
    f6 := h.f6.set _ _
    c8 := h.c8.apart _ (by omega)
    f8 := h.f8.set _ _
    p := h.p
    q := h.q
    p' := h.p'.other (cs' := []) (v' := .nilIface) (cap := 0) (n := 0) hg (by decide) k _
    q' := by
      have := h.q'.put k (by simpa using hk) (intC x)
      rwa [← List.map_set] at this }
theorem TI.die (h : TI w0 W lo hi g3 g6 g8 F G vp vw vp' vw') (b : Bool) : TI w0 (W.setCell ⟨g8, 4, none⟩ (.bool b)) lo hi g3 g6 g8 F { G with dead := b } vp vw vp' vw' := by
  have o3 := h.o3
  have o6 := h.o6
  have o8 := h.o8
  exact {
    below := h.below.setCell (p := ⟨g8, 4, none⟩) (by show _ ≤ g8; omega) _
    o3 := o3
    o6 := o6
    o36 := h.o36
    o8 := o8
    c3 := h.c3.apart _ (by omega)
    c6 := by obtain ⟨o0, o1, o2, o3', o4, hc⟩ := h.c6; exact ⟨o0, o1, o2, o3', o4, hc.apart _ (by omega)⟩
    f6 := h.f6.set _ _
    c8 := h.c8.set4 _
    f8 := h.f8.set _ _
    p := h.p
    q := h.q
    p' := h.p'.out (p := ⟨g8, 4, none⟩) (.inr (by show _ ≤ g8; omega)) _
    q' := h.q'.out (p := ⟨g8, 4, none⟩) (.inr (by show _ ≤ g8; omega)) _ }
theorem TI.burn (h : TI w0 W lo hi g3 g6 g8 F G vp vw vp' vw') (n : Int) : TI w0 (W.setCell ⟨g8, 2, none⟩ (.int .i64 n)) lo hi g3 g6 g8 F { G with fuse := n } vp vw vp' vw' := by
  have o3 := h.o3
  have o6 := h.o6
  have o8 := h.o8
  exact {
    below := h.below.setCell (p := ⟨g8, 2, none⟩) (by show _ ≤ g8; omega) _
    o3 := o3
    o6 := o6
    o36 := h.o36
    o8 := o8
    c3 := h.c3.apart _ (by omega)
    c6 := by obtain ⟨o0, o1, o2, o3', o4, hc⟩ := h.c6; exact ⟨o0, o1, o2, o3', o4, hc.apart _ (by omega)⟩
    f6 := h.f6.set _ _
    c8 := h.c8.set2 _
    f8 := h.f8.set _ _
    p := h.p
    q := h.q
    p' := h.p'.out (p := ⟨g8, 2, none⟩) (.inr (by show _ ≤ g8; omega)) _
    q' := h.q'.out (p := ⟨g8, 2, none⟩) (.inr (by show _ ≤ g8; omega)) _ }
end
end Go.Proofs.YtpjafjnokgeifaaGreatDoor
end
section
namespace Go.Proofs.YtpjafjnokgeifaaGreatDoor
open Go.RowKit
set_option linter.unusedVariables false
set_option linter.unusedSimpArgs false

structure Wrote (gp k : Nat) (x : Value) (w w' : World) : Prop where
  os : w'.os = w.os
  tape : w'.tape = w.tape
  output : w'.output = w.output
  size : w.heap.size ≤ w'.heap.size
  block : ∀ b, b < w.heap.size → b ≠ gp → w'.heap[b]? = w.heap[b]?
  row : ∀ cur e, w.heap[gp]? = some (.cells cur e (0, 0)) → w'.heap[gp]? = some (.cells cur e (0, 0)) ∨ w'.heap[gp]? = some (.cells (cur.setIfInBounds k x) e (0, 0))
theorem set_twice (cur : Array Value) (k : Nat) (x : Value) : (cur.setIfInBounds k x).setIfInBounds k x = cur.setIfInBounds k x := by
  apply Array.ext
  · simp
  · intro i h1 h2
    simp [Array.getElem_setIfInBounds]
theorem wrote_pre (gp k : Nat) (x : Value) : Pre (Wrote gp k x) where
  refl w := ⟨rfl, rfl, rfl, Nat.le_refl _, fun _ _ _ => rfl, fun _ _ h => .inl h⟩
  trans a b c h1 h2 := ⟨h2.os.trans h1.os, h2.tape.trans h1.tape, h2.output.trans h1.output, Nat.le_trans h1.size h2.size, fun i hi hne => (h2.block i (Nat.lt_of_lt_of_le hi h1.size) hne).trans (h1.block i hi hne), fun cur e he => by
    rcases h1.row cur e he with h | h
    · exact h2.row cur e h
    · rcases h2.row _ e h with h' | h'
      · exact .inr h'
      · rw [set_twice] at h'; exact .inr h'⟩
  grow w w' h := ⟨h.os, h.tape, h.output, h.size, fun b hb _ => h.block b hb, fun cur e he => .inl ((h.block gp (Array.getElem?_eq_some_iff.1 he).1).trans he)⟩
  drew w := ⟨rfl, rfl, rfl, Nat.le_refl _, fun _ _ _ => rfl, fun _ _ h => .inl h⟩
theorem Wrote.cell {gp k : Nat} {x : Value} {w w' : World} (h : Wrote gp k x w w') {p : Addr} {v : Value} (hc : w.cell? p = some v) (hlt : p.block < w.heap.size) (hne : p.block ≠ gp) : w'.cell? p = some v := by
  rw [← hc]
  simp only [World.cell?, h.block p.block hlt hne]
theorem Wrote.set {gp k : Nat} {x : Value} {w : World} {cur : Array Value} {e : TypeId} (hg : w.heap[gp]? = some (.cells cur e (0, 0))) : Wrote gp k x w (w.setCell ⟨gp, k, none⟩ x) where
  os := rfl
  tape := rfl
  output := rfl
  size := by simp
  block b _ hne := Below.heap_setCell w ⟨gp, k, none⟩ x b hne
  row cur' e' h' := by
    rw [hg] at h'
    injection h' with h'
    injection h' with h1 h2 _
    subst h1 h2
    exact .inr (heap_setCell_same w gp k cur e x hg)
theorem stabR_val (R : World → World → Prop) (v : Value) : StableR R (isVal v) := fun _ _ _ h _ => h
def rowIs (gp : Nat) (e : TypeId) (cur : Array Value) : VP := fun _ w => w.heap[gp]? = some (.cells cur e (0, 0))
theorem stabR_row (gp k : Nat) (x : Value) (e : TypeId) (cur : Array Value) : StableR (Wrote gp k x) (rowIs gp e (cur.setIfInBounds k x)) := by
  intro v w w' h hr
  rcases hr.row _ e h with h' | h'
  · exact h'
  · rw [set_twice] at h'; exact h'
section
variable {R : World → World → Prop} {P : Program} {ops : Array Oper} {base : World} {a0 : Act} {Q : Exit → Act → World → Prop} {k0 : Nat} {kn : Nat → VP} {i : Nat} {V : VP}
theorem RStep.store (t : TypeId) (x y : Operand) (p : Addr) (v : Value) (hop : (ops[i]?).map (fun o => (o.op, o.guard, o.dst)) = some (.store t x y, none, none)) (hx : Knows ops a0 kn i x (isVal (.pointer (some p)))) (hy : Knows ops a0 kn i y (isVal v))
    (hs : (P.info? t).map (·.size) = some 1) (hv : v.cells = #[v]) (hv1 : v.oneCell' = true) (hst : StableR R V) (h : ∀ w, R base w → (∃ old, w.cell? p = some old) ∧ w.frozen? p = false ∧ V undef (w.setCell p v) ∧ R w (w.setCell p v)) : RStep R P ops base a0 Q k0 kn i V := by
  refine ⟨hst, fun o ho a w hk0 hb hd => ?_⟩
  have hk := hk0.f
  rw [ho] at hop
  simp only [Option.map_some, Option.some.injEq, Prod.mk.injEq] at hop
  obtain ⟨hop, hgd, hdst⟩ := hop
  have hfd : FDeps ops kn i a w := fun o' ho' e he hbd => rdone_f (hd o' ho' e he hbd)
  have e1 : a.eval x = .pointer (some p) := hx a w hk hfd
  have e2 : a.eval y = v := hy a w hk hfd
  obtain ⟨⟨old, hc⟩, hf, hV, hR⟩ := h w hb
  obtain ⟨ie, hie, hz⟩ := Option.map_eq_some_iff.1 hs
  have hsz : (sizeOf t).run P w = .ok 1 w := by simp [sizeOf, typeInfo, hie, hz]
  have hst : (storeCells p [v]).run P w = .ok () (w.setCell p v) := by
    unfold storeCells
    rw [Sem.run_bind, show p.add 0 = p by simp [Addr.add], run_store P w p v _ hv1, hc]
    simp [hf, storeCells]
  unfold wpOp
  simp only [ho]
  rw [show Region.wanted o (yielded ops a.tmps) = true by simp [Region.wanted, hgd]]
  refine .inl ?_
  unfold Oper.wp execOp
  rw [hop]
  simp only [e1, e2, Instr.storeAt, Instr.sureAddr, Sem.run_bind, Sem.run_pure, Result.andThen_ok, storeVar, hsz, hv]
  rw [if_neg (by simp), hst]
  simp only [Result.andThen_ok, Oper.upon]
  exact ⟨undef, rfl, fun _ => rfl, hV, hR⟩
end
theorem rdone_of {ops : Array Oper} {kn : Nat → VP} {a : Act} {w : World} {j : Nat} {t : Tmp} {V : VP} (h : RDone ops kn a w j) (hd : (ops[j]?).bind (·.dst) = some t) (hV : kn j = V) : V (a.tmps.getD t undef) w := fdone_of (rdone_f h) hd hV
theorem rdone_none {ops : Array Oper} {kn : Nat → VP} {a : Act} {w : World} {j : Nat} {V : VP} (h : RDone ops kn a w j) (hd : (ops[j]?).map (·.dst) = some none) (hV : kn j = V) : V undef w := by
  cases ho : ops[j]? with
  | none => rw [ho] at hd; simp at hd
  | some o =>
    rw [ho] at hd
    simp only [Option.map_some, Option.some.injEq] at hd
    have := h o ho
    rw [hd, hV] at this
    exact this
/-- Behind the store all is as it is where just that was done. -/
theorem Wrote.below {gp k : Nat} {x : Value} {w w' : World} {cur : Array Value} {e : TypeId} (h : Wrote gp k x w w') (hg : w.heap[gp]? = some (.cells cur e (0, 0))) (hg' : w'.heap[gp]? = some (.cells (cur.setIfInBounds k x) e (0, 0))) :
    Below (w.setCell ⟨gp, k, none⟩ x).heap.size (w.setCell ⟨gp, k, none⟩ x) w' where
  os := h.os
  tape := h.tape
  output := h.output
  size := by simpa using h.size
  block b hb := by
    by_cases e' : b = gp
    · subst e'
      rw [hg', heap_setCell_same w b k cur e x hg]
    · rw [Below.heap_setCell w ⟨gp, k, none⟩ x b e', h.block b (by simpa using hb) e']
end Go.Proofs.YtpjafjnokgeifaaGreatDoor
end
section
namespace Go.Proofs.YtpjafjnokgeifaaGreatDoor
open Go.RowKit
set_option linter.unusedVariables false
set_option linter.unusedSimpArgs false

section
variable {ops : Array Oper} {base : World} {a0 : Act} {Q : Exit → Act → World → Prop} {kn : Nat → VP} {i : Nat} {V : VP}
theorem step_load5 (x : Operand) (g : Nat) {v0 v1 v2 v3 v4 : Value} (hop : (ops[i]?).map (·.op) = some (.load 25 x)) (hw : Wanted ops a0 kn i) (hx : Knows ops a0 kn i x (isVal (.pointer (some ⟨g, 0, none⟩))))
    (hc : Cells5 base g v0 v1 v2 v3 v4) : FStep Tryz.prog ops base a0 Q kn i (isVal (.agg #[v0, v1, v2, v3, v4])) :=
  step_mk (stable_val _) hw fun o ho a w hk hb hd => by
    have e1 : a.eval x = .pointer (some ⟨g, 0, none⟩) := hx a w hk hd
    unfold Oper.wp execOp
    rw [op_of hop ho]
    simp only [e1, Instr.loadAt, Instr.sureAddr, Sem.run_bind, Sem.run_pure, Result.andThen_ok, load5 g w v0 v1 v2 v3 v4 (hc.keep hb hc.1), Oper.upon]
    exact ⟨_, rfl, rfl, Below.refl _ _⟩
end
theorem call_has (F : Fl) (page : Int) (z : Bool) (v : Value) (w : World) (hv : isFl F v w) (h1 : F.pages.length ≤ 140737488355328) (h2 : F.wear.length ≤ 140737488355328) (hz : hasB F page = z) :
    Calls Tryz.prog 154 #[v, .int .i64 page] w fun e w' => ∃ x, e = .returned x ∧ isVal (.bool z) x w' ∧ Below w.heap.size w w' :=
  (hasPage_any F page v w hv h1 h2).mono (by rintro e w' ⟨rfl, hb⟩; exact ⟨_, rfl, by rw [hz]; rfl, hb⟩)
theorem call_pfits (at_ : Int) (s : List UInt8) (n : Nat) (z : Bool) (w : World) (hs : s.length ≤ 1000000) (hn : n ≤ 1000000) (hz : (decide (0 ≤ at_) && decide (at_ ≤ (n : Int) - s.length)) = z) :
    Calls Tryz.prog 253 #[.agg #[.int .i64 at_, .string ⟨s.toArray⟩], .int .i64 (n : Int)] w fun e w' => ∃ x, e = .returned x ∧ isVal (.bool z) x w' ∧ Below w.heap.size w w' :=
  (pFits_any at_ s n w (by omega) (by omega) (by omega)).mono (by rintro e w' ⟨rfl, hb⟩; exact ⟨_, rfl, by rw [hz]; rfl, hb⟩)
theorem call_pwear (at_ : Int) (s : List UInt8) (n : Int) (w : World) : Calls Tryz.prog 255 #[.agg #[.int .i64 at_, .string ⟨s.toArray⟩], .int .i64 n] w fun e w' => ∃ x, e = .returned x ∧ isVal (.int .i64 n) x w' ∧ Below w.heap.size w w' :=
  (pWear_any (.bool true) n w at_ s).mono (by rintro e w' ⟨rfl, hb⟩; exact ⟨_, rfl, rfl, hb⟩)
theorem call_between (was would torn : List UInt8) (w : World) (h1 : was.length ≤ 1000000) (h2 : would.length ≤ 1000000) (h3 : torn.length ≤ 1000000) :
    Calls Tryz.prog 155 #[.string ⟨was.toArray⟩, .string ⟨would.toArray⟩, .string ⟨torn.toArray⟩] w fun e w' => ∃ x, e = .returned x ∧ isVal (.string ⟨(betweenL was would torn).toArray⟩) x w' ∧ Below w.heap.size w w' :=
  (between_any was would torn w h1 h2 h3).mono (by rintro e w' ⟨rfl, hb⟩; exact ⟨_, rfl, rfl, hb⟩)
noncomputable def takeOps2 : Array Oper := regionOf Tryz.f103 2
noncomputable def takeOps9 : Array Oper := regionOf Tryz.f103 9
noncomputable def takeOps11 : Array Oper := regionOf Tryz.f103 11

set_option maxRecDepth 100000 in
set_option maxHeartbeats 2000000 in
theorem take2_pno (Q : Exit → Act → World → Prop) (a0 : Act) (w0 : World) (hsz : a0.tmps.size = 84) (g3 : Nat) (F : Fl) (vp vw : Value) (at_ : Int) (s : List UInt8) (hs : s.length ≤ 1000000) (page : Int)
    (e1 : a0.tmps.getD 1 undef = .int .i64 page) (e2 : a0.tmps.getD 2 undef = (.iface 127 (.agg #[.int .i64 at_, .string ⟨s.toArray⟩]))) (e3 : a0.tmps.getD 3 undef = .pointer (some ⟨g3, 0, none⟩)) (hc3 : Cells5 w0 g3 vp vw (.int .i64 F.fuse) (strC F.torn) (.bool F.dead)) (hfl : isFl F (.agg #[vp, vw, .int .i64 F.fuse, strC F.torn, .bool F.dead]) w0)
    (h1 : F.pages.length ≤ 140737488355328) (h2 : F.wear.length ≤ 140737488355328) (hhas : hasB F page = false)
    (hQ : ∀ (a : Act) (w : World), a.defers = a0.defers → a.tmps.size = a0.tmps.size → (∀ t, (takeOps2.toList.all fun o => o.dst != some t) = true → a.tmps.getD t undef = a0.tmps.getD t undef) → a.tmps.getD 30 undef = .bool true → Below w0.heap.size w0 w → Q .normal a w) :
    (Code.region 2 takeOps2 true).wp Tryz.prog Q a0 w0 := by
  refine wp_region_flow mixed (by rw [hsz]; kernel_rfl) ?_
  rw [show takeOps2.size = 18 by kernel_rfl]
  refine ⟨isVal (.agg #[vp, vw, .int .i64 F.fuse, strC F.torn, .bool F.dead]), step_load5 (.tmp 3) g3 (by kernel_rfl) (wanted_none (by kernel_rfl)) (knows_old 3 (.pointer (some ⟨g3, 0, none⟩)) (by kernel_rfl) e3) hc3, ?_⟩
  refine ⟨isVal (.int .i64 page), step_move (.tmp 1) (by kernel_rfl) (wanted_none (by kernel_rfl)) (stable_val _) (knows_old 1 (.int .i64 page) (by kernel_rfl) e1), ?_⟩
  refine ⟨isVal (.bool false), step_call 154 #[.tmp 13, .tmp 14] #[25, 3] #[.agg #[vp, vw, .int .i64 F.fuse, strC F.torn, .bool F.dead], .int .i64 page] (by kernel_rfl) (wanted_none (by kernel_rfl)) (stable_val _) (args2 (.tmp 13) (.tmp 14) (.agg #[vp, vw, .int .i64 F.fuse, strC F.torn, .bool F.dead]) (.int .i64 page) (knows_new (V := isVal (.agg #[vp, vw, .int .i64 F.fuse, strC F.torn, .bool F.dead])) 13 0 (by kernel_rfl) (by kernel_rfl) (by kernel_rfl)) (knows_new (V := isVal (.int .i64 page)) 14 1 (by kernel_rfl) (by kernel_rfl) (by kernel_rfl))) (enters_of Tryz.func154 (by kernel_rfl) rfl) (by intro w hb; exact call_has F page false _ w (stable_fl _ _ _ _ hfl hb) h1 h2 hhas), ?_⟩
  refine ⟨isVal (.bool true), step_un .not 4 (.tmp 15) (.bool false) (.bool true) (by kernel_rfl) (wanted_none (by kernel_rfl)) (knows_new (V := isVal (.bool false)) 15 2 (by kernel_rfl) (by kernel_rfl) (by kernel_rfl)) (fun _ => rfl), ?_⟩
  refine ⟨isVal (.bool true), step_move (.tmp 16) (by kernel_rfl) (wanted_none (by kernel_rfl)) (stable_val _) (knows_new (V := isVal (.bool true)) 16 3 (by kernel_rfl) (by kernel_rfl) (by kernel_rfl)), ?_⟩
  refine ⟨_, step_skip 4 17 false true (by kernel_rfl) (by kernel_rfl) (by kernel_rfl) (by kernel_rfl) rfl, ?_⟩
  refine ⟨_, step_skip 4 17 false true (by kernel_rfl) (by kernel_rfl) (by kernel_rfl) (by kernel_rfl) rfl, ?_⟩
  refine ⟨_, step_skip 4 17 false true (by kernel_rfl) (by kernel_rfl) (by kernel_rfl) (by kernel_rfl) rfl, ?_⟩
  refine ⟨_, step_skip 4 17 false true (by kernel_rfl) (by kernel_rfl) (by kernel_rfl) (by kernel_rfl) rfl, ?_⟩
  refine ⟨_, step_skip 4 17 false true (by kernel_rfl) (by kernel_rfl) (by kernel_rfl) (by kernel_rfl) rfl, ?_⟩
  refine ⟨_, step_skip 4 17 false true (by kernel_rfl) (by kernel_rfl) (by kernel_rfl) (by kernel_rfl) rfl, ?_⟩
  refine ⟨_, step_skip 4 17 false true (by kernel_rfl) (by kernel_rfl) (by kernel_rfl) (by kernel_rfl) rfl, ?_⟩
  refine ⟨_, step_skip 4 17 false true (by kernel_rfl) (by kernel_rfl) (by kernel_rfl) (by kernel_rfl) rfl, ?_⟩
  refine ⟨_, step_skip 4 17 false true (by kernel_rfl) (by kernel_rfl) (by kernel_rfl) (by kernel_rfl) rfl, ?_⟩
  refine ⟨_, step_skip 4 17 false true (by kernel_rfl) (by kernel_rfl) (by kernel_rfl) (by kernel_rfl) rfl, ?_⟩
  refine ⟨_, step_skip 4 17 false true (by kernel_rfl) (by kernel_rfl) (by kernel_rfl) (by kernel_rfl) rfl, ?_⟩
  refine ⟨_, step_skip 4 17 false true (by kernel_rfl) (by kernel_rfl) (by kernel_rfl) (by kernel_rfl) rfl, ?_⟩
  refine ⟨isVal (.bool true), step_pick (.tmp 17) (.const (.bool true)) (.tmp 29) true (by kernel_rfl) (wanted_none (by kernel_rfl)) (stable_val _) (knows_new (V := isVal (.bool true)) 17 4 (by kernel_rfl) (by kernel_rfl) (by kernel_rfl)) (knows_const _), ?_⟩
  intro a w hkp hb hd
  exact hQ a w hkp.1 hkp.2.1 hkp.2.2 (fdone_of (hd 17 (by rw [show takeOps2.size = 18 by kernel_rfl]; decide)) (t := 30) (V := isVal (.bool true)) (by kernel_rfl) (by kernel_rfl)) hb

set_option maxRecDepth 100000 in
set_option maxHeartbeats 2000000 in
theorem take2_pyes (Q : Exit → Act → World → Prop) (a0 : Act) (w0 : World) (hsz : a0.tmps.size = 84) (g3 : Nat) (F : Fl) (vw : Value) (at_ : Int) (s : List UInt8) (hs : s.length ≤ 1000000) (k b off n cap : Nat) (was : List UInt8) (hkn : k < n) (hcell : w0.cell? ⟨b, off + k, none⟩ = some (.string ⟨was.toArray⟩)) (hb0 : b < w0.heap.size) (hw1 : was.length ≤ 1000000) (hfits : (decide (0 ≤ at_) && decide (at_ ≤ (was.length : Int) - s.length)) = true)
    (e1 : a0.tmps.getD 1 undef = .int .i64 (k : Int)) (e2 : a0.tmps.getD 2 undef = (.iface 127 (.agg #[.int .i64 at_, .string ⟨s.toArray⟩]))) (e3 : a0.tmps.getD 3 undef = .pointer (some ⟨g3, 0, none⟩)) (hc3 : Cells5 w0 g3 (.slice (some ⟨b, off, none⟩) n cap) vw (.int .i64 F.fuse) (strC F.torn) (.bool F.dead)) (hfl : isFl F (.agg #[(.slice (some ⟨b, off, none⟩) n cap), vw, .int .i64 F.fuse, strC F.torn, .bool F.dead]) w0)
    (h1 : F.pages.length ≤ 140737488355328) (h2 : F.wear.length ≤ 140737488355328) (hhas : hasB F (k : Int) = true)
    (hQ : ∀ (a : Act) (w : World), a.defers = a0.defers → a.tmps.size = a0.tmps.size → (∀ t, (takeOps2.toList.all fun o => o.dst != some t) = true → a.tmps.getD t undef = a0.tmps.getD t undef) → a.tmps.getD 30 undef = .bool false → Below w0.heap.size w0 w → Q .normal a w) :
    (Code.region 2 takeOps2 true).wp Tryz.prog Q a0 w0 := by
  refine wp_region_flow mixed (by rw [hsz]; kernel_rfl) ?_
  rw [show takeOps2.size = 18 by kernel_rfl]
  refine ⟨isVal (.agg #[(.slice (some ⟨b, off, none⟩) n cap), vw, .int .i64 F.fuse, strC F.torn, .bool F.dead]), step_load5 (.tmp 3) g3 (by kernel_rfl) (wanted_none (by kernel_rfl)) (knows_old 3 (.pointer (some ⟨g3, 0, none⟩)) (by kernel_rfl) e3) hc3, ?_⟩
  refine ⟨isVal (.int .i64 (k : Int)), step_move (.tmp 1) (by kernel_rfl) (wanted_none (by kernel_rfl)) (stable_val _) (knows_old 1 (.int .i64 (k : Int)) (by kernel_rfl) e1), ?_⟩
  refine ⟨isVal (.bool true), step_call 154 #[.tmp 13, .tmp 14] #[25, 3] #[.agg #[(.slice (some ⟨b, off, none⟩) n cap), vw, .int .i64 F.fuse, strC F.torn, .bool F.dead], .int .i64 (k : Int)] (by kernel_rfl) (wanted_none (by kernel_rfl)) (stable_val _) (args2 (.tmp 13) (.tmp 14) (.agg #[(.slice (some ⟨b, off, none⟩) n cap), vw, .int .i64 F.fuse, strC F.torn, .bool F.dead]) (.int .i64 (k : Int)) (knows_new (V := isVal (.agg #[(.slice (some ⟨b, off, none⟩) n cap), vw, .int .i64 F.fuse, strC F.torn, .bool F.dead])) 13 0 (by kernel_rfl) (by kernel_rfl) (by kernel_rfl)) (knows_new (V := isVal (.int .i64 (k : Int))) 14 1 (by kernel_rfl) (by kernel_rfl) (by kernel_rfl))) (enters_of Tryz.func154 (by kernel_rfl) rfl) (by intro w hb; exact call_has F (k : Int) true _ w (stable_fl _ _ _ _ hfl hb) h1 h2 hhas), ?_⟩
  refine ⟨isVal (.bool false), step_un .not 4 (.tmp 15) (.bool true) (.bool false) (by kernel_rfl) (wanted_none (by kernel_rfl)) (knows_new (V := isVal (.bool true)) 15 2 (by kernel_rfl) (by kernel_rfl) (by kernel_rfl)) (fun _ => rfl), ?_⟩
  refine ⟨isVal (.bool false), step_move (.tmp 16) (by kernel_rfl) (wanted_none (by kernel_rfl)) (stable_val _) (knows_new (V := isVal (.bool false)) 16 3 (by kernel_rfl) (by kernel_rfl) (by kernel_rfl)), ?_⟩
  refine ⟨isVal (.iface 127 (.agg #[.int .i64 at_, .string ⟨s.toArray⟩])), step_move (.tmp 2) (by kernel_rfl) (wanted_some 4 17 false (by kernel_rfl) (by kernel_rfl) (by kernel_rfl) (by kernel_rfl)) (stable_val _) (knows_old 2 (.iface 127 (.agg #[.int .i64 at_, .string ⟨s.toArray⟩])) (by kernel_rfl) e2), ?_⟩
  refine ⟨isVal (.pointer (some ⟨g3, 0, none⟩)), step_field 25 (.tmp 3) 0 ⟨g3, 0, none⟩ ⟨g3, 0, none⟩ (by kernel_rfl) (wanted_some 4 17 false (by kernel_rfl) (by kernel_rfl) (by kernel_rfl) (by kernel_rfl)) (knows_old 3 (.pointer (some ⟨g3, 0, none⟩)) (by kernel_rfl) e3) (field_fl g3 0 (by omega)), ?_⟩
  refine ⟨isVal (.slice (some ⟨b, off, none⟩) n cap), step_read 22 (.tmp 19) ⟨g3, 0, none⟩ (.slice (some ⟨b, off, none⟩) n cap) (by kernel_rfl) (wanted_some 4 17 false (by kernel_rfl) (by kernel_rfl) (by kernel_rfl) (by kernel_rfl)) (knows_new (V := isVal (.pointer (some ⟨g3, 0, none⟩))) 19 6 (by kernel_rfl) (by kernel_rfl) (by kernel_rfl)) hc3.2.1 hc3.1 agg_strs, ?_⟩
  refine ⟨isVal (.int .i64 (k : Int)), step_move (.tmp 1) (by kernel_rfl) (wanted_some 4 17 false (by kernel_rfl) (by kernel_rfl) (by kernel_rfl) (by kernel_rfl)) (stable_val _) (knows_old 1 (.int .i64 (k : Int)) (by kernel_rfl) e1), ?_⟩
  refine ⟨isVal (.pointer (some ⟨b, off + k, none⟩)), step_place 22 9 (.tmp 20) (.tmp 21) b off n cap k (by kernel_rfl) (wanted_some 4 17 false (by kernel_rfl) (by kernel_rfl) (by kernel_rfl) (by kernel_rfl)) (knows_new (V := isVal (.slice (some ⟨b, off, none⟩) n cap)) 20 7 (by kernel_rfl) (by kernel_rfl) (by kernel_rfl)) (knows_new (V := isVal (.int .i64 (k : Int))) 21 8 (by kernel_rfl) (by kernel_rfl) (by kernel_rfl)) Tryz.underlying22 (by kernel_rfl) hkn, ?_⟩
  refine ⟨isVal (.string ⟨was.toArray⟩), step_read 9 (.tmp 22) ⟨b, off + k, none⟩ (.string ⟨was.toArray⟩) (by kernel_rfl) (wanted_some 4 17 false (by kernel_rfl) (by kernel_rfl) (by kernel_rfl) (by kernel_rfl)) (knows_new (V := isVal (.pointer (some ⟨b, off + k, none⟩))) 22 9 (by kernel_rfl) (by kernel_rfl) (by kernel_rfl)) hcell hb0 agg_str, ?_⟩
  refine ⟨isVal (.int .i64 (was.length : Int)), step_len 9 (.tmp 23) (.string ⟨was.toArray⟩) (.int .i64 (was.length : Int)) (by kernel_rfl) (wanted_some 4 17 false (by kernel_rfl) (by kernel_rfl) (by kernel_rfl) (by kernel_rfl)) (knows_new (V := isVal (.string ⟨was.toArray⟩)) 23 10 (by kernel_rfl) (by kernel_rfl) (by kernel_rfl)) (len_str was), ?_⟩
  refine ⟨isVal (.func (.method "ouroboros/flash.fits") #[(.iface 127 (.agg #[.int .i64 at_, .string ⟨s.toArray⟩]))] #[]), step_method "ouroboros/flash.fits" (.tmp 18) (.iface 127 (.agg #[.int .i64 at_, .string ⟨s.toArray⟩])) (by kernel_rfl) (wanted_some 4 17 false (by kernel_rfl) (by kernel_rfl) (by kernel_rfl) (by kernel_rfl)) (knows_new (V := isVal (.iface 127 (.agg #[.int .i64 at_, .string ⟨s.toArray⟩]))) 18 5 (by kernel_rfl) (by kernel_rfl) (by kernel_rfl)), ?_⟩
  refine ⟨isVal (.func (.method "ouroboros/flash.fits") #[(.iface 127 (.agg #[.int .i64 at_, .string ⟨s.toArray⟩]))] #[]), step_nil "ouroboros/flash.fits" (.tmp 25) 127 (.agg #[.int .i64 at_, .string ⟨s.toArray⟩]) (by kernel_rfl) (wanted_some 4 17 false (by kernel_rfl) (by kernel_rfl) (by kernel_rfl) (by kernel_rfl)) (knows_new (V := isVal (.func (.method "ouroboros/flash.fits") #[(.iface 127 (.agg #[.int .i64 at_, .string ⟨s.toArray⟩]))] #[])) 25 12 (by kernel_rfl) (by kernel_rfl) (by kernel_rfl)) (fun w => by kernel_rfl), ?_⟩
  refine ⟨isVal (.iface 127 (.agg #[.int .i64 at_, .string ⟨s.toArray⟩])), step_move (.tmp 18) (by kernel_rfl) (wanted_some 4 17 false (by kernel_rfl) (by kernel_rfl) (by kernel_rfl) (by kernel_rfl)) (stable_val _) (knows_new (V := isVal (.iface 127 (.agg #[.int .i64 at_, .string ⟨s.toArray⟩]))) 18 5 (by kernel_rfl) (by kernel_rfl) (by kernel_rfl)), ?_⟩
  refine ⟨isVal (.bool true), step_invoke "ouroboros/flash.fits" (.tmp 27) (.iface 127 (.agg #[.int .i64 at_, .string ⟨s.toArray⟩])) 253 #[.tmp 24] #[3] #[.int .i64 (was.length : Int)] #[.agg #[.int .i64 at_, .string ⟨s.toArray⟩], .int .i64 (was.length : Int)] (by kernel_rfl) (wanted_some 4 17 false (by kernel_rfl) (by kernel_rfl) (by kernel_rfl) (by kernel_rfl)) (stable_val _) (args1 (.tmp 24) (.int .i64 (was.length : Int)) (knows_new (V := isVal (.int .i64 (was.length : Int))) 24 11 (by kernel_rfl) (by kernel_rfl) (by kernel_rfl))) (knows_new (V := isVal (.iface 127 (.agg #[.int .i64 at_, .string ⟨s.toArray⟩]))) 27 14 (by kernel_rfl) (by kernel_rfl) (by kernel_rfl)) (fun w => by kernel_rfl) (by intro w hb; exact call_pfits at_ s was.length true w hs hw1 hfits), ?_⟩
  refine ⟨isVal (.bool false), step_un .not 4 (.tmp 28) (.bool true) (.bool false) (by kernel_rfl) (wanted_some 4 17 false (by kernel_rfl) (by kernel_rfl) (by kernel_rfl) (by kernel_rfl)) (knows_new (V := isVal (.bool true)) 28 15 (by kernel_rfl) (by kernel_rfl) (by kernel_rfl)) (fun _ => rfl), ?_⟩
  refine ⟨isVal (.bool false), step_pick (.tmp 17) (.const (.bool true)) (.tmp 29) false (by kernel_rfl) (wanted_none (by kernel_rfl)) (stable_val _) (knows_new (V := isVal (.bool false)) 17 4 (by kernel_rfl) (by kernel_rfl) (by kernel_rfl)) (knows_new (V := isVal (.bool false)) 29 16 (by kernel_rfl) (by kernel_rfl) (by kernel_rfl)), ?_⟩
  intro a w hkp hb hd
  exact hQ a w hkp.1 hkp.2.1 hkp.2.2 (fdone_of (hd 17 (by rw [show takeOps2.size = 18 by kernel_rfl]; decide)) (t := 30) (V := isVal (.bool false)) (by kernel_rfl) (by kernel_rfl)) hb

set_option maxRecDepth 100000 in
set_option maxHeartbeats 2000000 in
theorem take2_pout (Q : Exit → Act → World → Prop) (a0 : Act) (w0 : World) (hsz : a0.tmps.size = 84) (g3 : Nat) (F : Fl) (vw : Value) (at_ : Int) (s : List UInt8) (hs : s.length ≤ 1000000) (k b off n cap : Nat) (was : List UInt8) (hkn : k < n) (hcell : w0.cell? ⟨b, off + k, none⟩ = some (.string ⟨was.toArray⟩)) (hb0 : b < w0.heap.size) (hw1 : was.length ≤ 1000000) (hfits : (decide (0 ≤ at_) && decide (at_ ≤ (was.length : Int) - s.length)) = false)
    (e1 : a0.tmps.getD 1 undef = .int .i64 (k : Int)) (e2 : a0.tmps.getD 2 undef = (.iface 127 (.agg #[.int .i64 at_, .string ⟨s.toArray⟩]))) (e3 : a0.tmps.getD 3 undef = .pointer (some ⟨g3, 0, none⟩)) (hc3 : Cells5 w0 g3 (.slice (some ⟨b, off, none⟩) n cap) vw (.int .i64 F.fuse) (strC F.torn) (.bool F.dead)) (hfl : isFl F (.agg #[(.slice (some ⟨b, off, none⟩) n cap), vw, .int .i64 F.fuse, strC F.torn, .bool F.dead]) w0)
    (h1 : F.pages.length ≤ 140737488355328) (h2 : F.wear.length ≤ 140737488355328) (hhas : hasB F (k : Int) = true)
    (hQ : ∀ (a : Act) (w : World), a.defers = a0.defers → a.tmps.size = a0.tmps.size → (∀ t, (takeOps2.toList.all fun o => o.dst != some t) = true → a.tmps.getD t undef = a0.tmps.getD t undef) → a.tmps.getD 30 undef = .bool true → Below w0.heap.size w0 w → Q .normal a w) :
    (Code.region 2 takeOps2 true).wp Tryz.prog Q a0 w0 := by
  refine wp_region_flow mixed (by rw [hsz]; kernel_rfl) ?_
  rw [show takeOps2.size = 18 by kernel_rfl]
  refine ⟨isVal (.agg #[(.slice (some ⟨b, off, none⟩) n cap), vw, .int .i64 F.fuse, strC F.torn, .bool F.dead]), step_load5 (.tmp 3) g3 (by kernel_rfl) (wanted_none (by kernel_rfl)) (knows_old 3 (.pointer (some ⟨g3, 0, none⟩)) (by kernel_rfl) e3) hc3, ?_⟩
  refine ⟨isVal (.int .i64 (k : Int)), step_move (.tmp 1) (by kernel_rfl) (wanted_none (by kernel_rfl)) (stable_val _) (knows_old 1 (.int .i64 (k : Int)) (by kernel_rfl) e1), ?_⟩
  refine ⟨isVal (.bool true), step_call 154 #[.tmp 13, .tmp 14] #[25, 3] #[.agg #[(.slice (some ⟨b, off, none⟩) n cap), vw, .int .i64 F.fuse, strC F.torn, .bool F.dead], .int .i64 (k : Int)] (by kernel_rfl) (wanted_none (by kernel_rfl)) (stable_val _) (args2 (.tmp 13) (.tmp 14) (.agg #[(.slice (some ⟨b, off, none⟩) n cap), vw, .int .i64 F.fuse, strC F.torn, .bool F.dead]) (.int .i64 (k : Int)) (knows_new (V := isVal (.agg #[(.slice (some ⟨b, off, none⟩) n cap), vw, .int .i64 F.fuse, strC F.torn, .bool F.dead])) 13 0 (by kernel_rfl) (by kernel_rfl) (by kernel_rfl)) (knows_new (V := isVal (.int .i64 (k : Int))) 14 1 (by kernel_rfl) (by kernel_rfl) (by kernel_rfl))) (enters_of Tryz.func154 (by kernel_rfl) rfl) (by intro w hb; exact call_has F (k : Int) true _ w (stable_fl _ _ _ _ hfl hb) h1 h2 hhas), ?_⟩
  refine ⟨isVal (.bool false), step_un .not 4 (.tmp 15) (.bool true) (.bool false) (by kernel_rfl) (wanted_none (by kernel_rfl)) (knows_new (V := isVal (.bool true)) 15 2 (by kernel_rfl) (by kernel_rfl) (by kernel_rfl)) (fun _ => rfl), ?_⟩
  refine ⟨isVal (.bool false), step_move (.tmp 16) (by kernel_rfl) (wanted_none (by kernel_rfl)) (stable_val _) (knows_new (V := isVal (.bool false)) 16 3 (by kernel_rfl) (by kernel_rfl) (by kernel_rfl)), ?_⟩
  refine ⟨isVal (.iface 127 (.agg #[.int .i64 at_, .string ⟨s.toArray⟩])), step_move (.tmp 2) (by kernel_rfl) (wanted_some 4 17 false (by kernel_rfl) (by kernel_rfl) (by kernel_rfl) (by kernel_rfl)) (stable_val _) (knows_old 2 (.iface 127 (.agg #[.int .i64 at_, .string ⟨s.toArray⟩])) (by kernel_rfl) e2), ?_⟩
  refine ⟨isVal (.pointer (some ⟨g3, 0, none⟩)), step_field 25 (.tmp 3) 0 ⟨g3, 0, none⟩ ⟨g3, 0, none⟩ (by kernel_rfl) (wanted_some 4 17 false (by kernel_rfl) (by kernel_rfl) (by kernel_rfl) (by kernel_rfl)) (knows_old 3 (.pointer (some ⟨g3, 0, none⟩)) (by kernel_rfl) e3) (field_fl g3 0 (by omega)), ?_⟩
  refine ⟨isVal (.slice (some ⟨b, off, none⟩) n cap), step_read 22 (.tmp 19) ⟨g3, 0, none⟩ (.slice (some ⟨b, off, none⟩) n cap) (by kernel_rfl) (wanted_some 4 17 false (by kernel_rfl) (by kernel_rfl) (by kernel_rfl) (by kernel_rfl)) (knows_new (V := isVal (.pointer (some ⟨g3, 0, none⟩))) 19 6 (by kernel_rfl) (by kernel_rfl) (by kernel_rfl)) hc3.2.1 hc3.1 agg_strs, ?_⟩
  refine ⟨isVal (.int .i64 (k : Int)), step_move (.tmp 1) (by kernel_rfl) (wanted_some 4 17 false (by kernel_rfl) (by kernel_rfl) (by kernel_rfl) (by kernel_rfl)) (stable_val _) (knows_old 1 (.int .i64 (k : Int)) (by kernel_rfl) e1), ?_⟩
  refine ⟨isVal (.pointer (some ⟨b, off + k, none⟩)), step_place 22 9 (.tmp 20) (.tmp 21) b off n cap k (by kernel_rfl) (wanted_some 4 17 false (by kernel_rfl) (by kernel_rfl) (by kernel_rfl) (by kernel_rfl)) (knows_new (V := isVal (.slice (some ⟨b, off, none⟩) n cap)) 20 7 (by kernel_rfl) (by kernel_rfl) (by kernel_rfl)) (knows_new (V := isVal (.int .i64 (k : Int))) 21 8 (by kernel_rfl) (by kernel_rfl) (by kernel_rfl)) Tryz.underlying22 (by kernel_rfl) hkn, ?_⟩
  refine ⟨isVal (.string ⟨was.toArray⟩), step_read 9 (.tmp 22) ⟨b, off + k, none⟩ (.string ⟨was.toArray⟩) (by kernel_rfl) (wanted_some 4 17 false (by kernel_rfl) (by kernel_rfl) (by kernel_rfl) (by kernel_rfl)) (knows_new (V := isVal (.pointer (some ⟨b, off + k, none⟩))) 22 9 (by kernel_rfl) (by kernel_rfl) (by kernel_rfl)) hcell hb0 agg_str, ?_⟩
  refine ⟨isVal (.int .i64 (was.length : Int)), step_len 9 (.tmp 23) (.string ⟨was.toArray⟩) (.int .i64 (was.length : Int)) (by kernel_rfl) (wanted_some 4 17 false (by kernel_rfl) (by kernel_rfl) (by kernel_rfl) (by kernel_rfl)) (knows_new (V := isVal (.string ⟨was.toArray⟩)) 23 10 (by kernel_rfl) (by kernel_rfl) (by kernel_rfl)) (len_str was), ?_⟩
  refine ⟨isVal (.func (.method "ouroboros/flash.fits") #[(.iface 127 (.agg #[.int .i64 at_, .string ⟨s.toArray⟩]))] #[]), step_method "ouroboros/flash.fits" (.tmp 18) (.iface 127 (.agg #[.int .i64 at_, .string ⟨s.toArray⟩])) (by kernel_rfl) (wanted_some 4 17 false (by kernel_rfl) (by kernel_rfl) (by kernel_rfl) (by kernel_rfl)) (knows_new (V := isVal (.iface 127 (.agg #[.int .i64 at_, .string ⟨s.toArray⟩]))) 18 5 (by kernel_rfl) (by kernel_rfl) (by kernel_rfl)), ?_⟩
  refine ⟨isVal (.func (.method "ouroboros/flash.fits") #[(.iface 127 (.agg #[.int .i64 at_, .string ⟨s.toArray⟩]))] #[]), step_nil "ouroboros/flash.fits" (.tmp 25) 127 (.agg #[.int .i64 at_, .string ⟨s.toArray⟩]) (by kernel_rfl) (wanted_some 4 17 false (by kernel_rfl) (by kernel_rfl) (by kernel_rfl) (by kernel_rfl)) (knows_new (V := isVal (.func (.method "ouroboros/flash.fits") #[(.iface 127 (.agg #[.int .i64 at_, .string ⟨s.toArray⟩]))] #[])) 25 12 (by kernel_rfl) (by kernel_rfl) (by kernel_rfl)) (fun w => by kernel_rfl), ?_⟩
  refine ⟨isVal (.iface 127 (.agg #[.int .i64 at_, .string ⟨s.toArray⟩])), step_move (.tmp 18) (by kernel_rfl) (wanted_some 4 17 false (by kernel_rfl) (by kernel_rfl) (by kernel_rfl) (by kernel_rfl)) (stable_val _) (knows_new (V := isVal (.iface 127 (.agg #[.int .i64 at_, .string ⟨s.toArray⟩]))) 18 5 (by kernel_rfl) (by kernel_rfl) (by kernel_rfl)), ?_⟩
  refine ⟨isVal (.bool false), step_invoke "ouroboros/flash.fits" (.tmp 27) (.iface 127 (.agg #[.int .i64 at_, .string ⟨s.toArray⟩])) 253 #[.tmp 24] #[3] #[.int .i64 (was.length : Int)] #[.agg #[.int .i64 at_, .string ⟨s.toArray⟩], .int .i64 (was.length : Int)] (by kernel_rfl) (wanted_some 4 17 false (by kernel_rfl) (by kernel_rfl) (by kernel_rfl) (by kernel_rfl)) (stable_val _) (args1 (.tmp 24) (.int .i64 (was.length : Int)) (knows_new (V := isVal (.int .i64 (was.length : Int))) 24 11 (by kernel_rfl) (by kernel_rfl) (by kernel_rfl))) (knows_new (V := isVal (.iface 127 (.agg #[.int .i64 at_, .string ⟨s.toArray⟩]))) 27 14 (by kernel_rfl) (by kernel_rfl) (by kernel_rfl)) (fun w => by kernel_rfl) (by intro w hb; exact call_pfits at_ s was.length false w hs hw1 hfits), ?_⟩
  refine ⟨isVal (.bool true), step_un .not 4 (.tmp 28) (.bool false) (.bool true) (by kernel_rfl) (wanted_some 4 17 false (by kernel_rfl) (by kernel_rfl) (by kernel_rfl) (by kernel_rfl)) (knows_new (V := isVal (.bool false)) 28 15 (by kernel_rfl) (by kernel_rfl) (by kernel_rfl)) (fun _ => rfl), ?_⟩
  refine ⟨isVal (.bool true), step_pick (.tmp 17) (.const (.bool true)) (.tmp 29) false (by kernel_rfl) (wanted_none (by kernel_rfl)) (stable_val _) (knows_new (V := isVal (.bool false)) 17 4 (by kernel_rfl) (by kernel_rfl) (by kernel_rfl)) (knows_new (V := isVal (.bool true)) 29 16 (by kernel_rfl) (by kernel_rfl) (by kernel_rfl)), ?_⟩
  intro a w hkp hb hd
  exact hQ a w hkp.1 hkp.2.1 hkp.2.2 (fdone_of (hd 17 (by rw [show takeOps2.size = 18 by kernel_rfl]; decide)) (t := 30) (V := isVal (.bool true)) (by kernel_rfl) (by kernel_rfl)) hb

section
variable {P : Program} {ops : Array Oper} {Q : Exit → Act → World → Prop} {i c : Nat} {a : Act} {w : World}
theorem tail_place (t e : TypeId) (x y : Operand) (b off n cap k : Nat) (d : Tmp) (hop : (ops[i]?).map (fun o => (o.op, o.guard)) = some (.indexAddr t x y, none)) (hd : (ops[i]?).bind (·.dst) = some d) (hx : a.eval x = .slice (some ⟨b, off, none⟩) n cap) (hy : a.eval y = .int .i64 (k : Int))
    (ht : P.underlying t = some (.slice e)) (hi : (P.info? e).map (·.size) = some 1) (hk : k < n) (h : Tail P ops Q c (i + 1) (a.put (some d) (.pointer (some ⟨b, off + k, none⟩))) w) : Tail P ops Q (c + 1) i a w :=
  tail_op (fun _ _ => True) hop fun o ho e' => by
    rw [ho] at hd
    simp only [Option.bind_some] at hd
    obtain ⟨ie, hie, hz⟩ := Option.map_eq_some_iff.1 hi
    have hsz : (sizeOf e).run P w = .ok 1 w := by simp [sizeOf, typeInfo, hie, hz]
    have hr : (Instr.indexAt t (.slice (some ⟨b, off, none⟩) n cap) (.int .i64 (k : Int))).run P w = .ok (.pointer (some ⟨b, off + k, none⟩)) w := by
      simp [Instr.indexAt, run_underlying ht, asIntOf, hsz, hk, Addr.add]
    unfold Oper.wp execOp
    rw [e']
    simp only [hx, hy, Sem.run_bind, hr, Result.andThen_ok, Sem.run_pure, Oper.upon, hd]
    exact h
end

set_option maxRecDepth 100000 in
set_option maxHeartbeats 2000000 in
theorem take9 (Q : Exit → Act → World → Prop) (a0 : Act) (w0 W : World) (hsz : a0.tmps.size = 84) (lo hi g3 g6 g8 k gp np capp : Nat) (F G : Fl) (vp vw vw' : Value) (was would : List UInt8)
    (e1 : a0.tmps.getD 1 undef = .int .i64 (k : Int)) (e3 : a0.tmps.getD 3 undef = .pointer (some ⟨g3, 0, none⟩)) (e8 : a0.tmps.getD 8 undef = .pointer (some ⟨g8, 0, none⟩)) (e9 : a0.tmps.getD 9 undef = .string ⟨was.toArray⟩) (e10 : a0.tmps.getD 10 undef = .string ⟨would.toArray⟩)
    (h : TI w0 W lo hi g3 g6 g8 F G vp vw (.slice (some ⟨gp, 0, none⟩) np capp) vw') (hknp : k < np) (hkg : k < G.pages.length) (hw1 : was.length ≤ 1000000) (hw2 : would.length ≤ 1000000) (hw3 : F.torn.length ≤ 1000000)
    (hQ : ∀ (a : Act) (W' : World), a.defers = a0.defers → a.tmps.size = a0.tmps.size → (∀ t, (takeOps9.toList.all fun o => o.dst != some t) = true → a.tmps.getD t undef = a0.tmps.getD t undef) →
      TI w0 W' lo hi g3 g6 g8 F { G with pages := G.pages.set k (betweenL was would F.torn), dead := true } vp vw (.slice (some ⟨gp, 0, none⟩) np capp) vw' → Q .normal a W') :
    (Code.region 9 takeOps9 true).wp Tryz.prog Q a0 W := by
  have hc3 := h.c3
  have hc8 := h.c8
  refine wp_region_tail 9 mixed (by rw [hsz]; kernel_rfl) (by kernel_rfl) ?_
  rw [show takeOps9.size - 9 = 3 by kernel_rfl]
  refine ⟨isVal (.pointer (some ⟨g8, 0, none⟩)), step_field 25 (.tmp 8) 0 ⟨g8, 0, none⟩ ⟨g8, 0, none⟩ (by kernel_rfl) (wanted_none (by kernel_rfl)) (knows_old 8 (.pointer (some ⟨g8, 0, none⟩)) (by kernel_rfl) e8) (field_fl g8 0 (by omega)), ?_⟩
  refine ⟨isVal (.slice (some ⟨gp, 0, none⟩) np capp), step_read 22 (.tmp 46) ⟨g8, 0, none⟩ (.slice (some ⟨gp, 0, none⟩) np capp) (by kernel_rfl) (wanted_none (by kernel_rfl)) (knows_new (V := isVal (.pointer (some ⟨g8, 0, none⟩))) 46 0 (by kernel_rfl) (by kernel_rfl) (by kernel_rfl)) hc8.2.1 hc8.1 agg_strs, ?_⟩
  refine ⟨isVal (.int .i64 (k : Int)), step_move (.tmp 1) (by kernel_rfl) (wanted_none (by kernel_rfl)) (stable_val _) (knows_old 1 (.int .i64 (k : Int)) (by kernel_rfl) e1), ?_⟩
  refine ⟨isVal (.string ⟨was.toArray⟩), step_move (.tmp 9) (by kernel_rfl) (wanted_none (by kernel_rfl)) (stable_val _) (knows_old 9 (.string ⟨was.toArray⟩) (by kernel_rfl) e9), ?_⟩
  refine ⟨isVal (.string ⟨would.toArray⟩), step_move (.tmp 10) (by kernel_rfl) (wanted_none (by kernel_rfl)) (stable_val _) (knows_old 10 (.string ⟨would.toArray⟩) (by kernel_rfl) e10), ?_⟩
  refine ⟨isVal (.pointer (some ⟨g3, 3, none⟩)), step_field 25 (.tmp 3) 3 ⟨g3, 0, none⟩ ⟨g3, 3, none⟩ (by kernel_rfl) (wanted_none (by kernel_rfl)) (knows_old 3 (.pointer (some ⟨g3, 0, none⟩)) (by kernel_rfl) e3) (field_fl g3 3 (by omega)), ?_⟩
  refine ⟨isVal (.string ⟨F.torn.toArray⟩), step_read 9 (.tmp 51) ⟨g3, 3, none⟩ (.string ⟨F.torn.toArray⟩) (by kernel_rfl) (wanted_none (by kernel_rfl)) (knows_new (V := isVal (.pointer (some ⟨g3, 3, none⟩))) 51 5 (by kernel_rfl) (by kernel_rfl) (by kernel_rfl)) hc3.2.2.2.2.1 hc3.1 agg_str, ?_⟩
  refine ⟨isVal (.string ⟨(betweenL was would F.torn).toArray⟩), step_call 155 #[.tmp 49, .tmp 50, .tmp 52] #[9, 9, 9] #[.string ⟨was.toArray⟩, .string ⟨would.toArray⟩, .string ⟨F.torn.toArray⟩] (by kernel_rfl) (wanted_none (by kernel_rfl)) (stable_val _) (args3 (.tmp 49) (.tmp 50) (.tmp 52) (.string ⟨was.toArray⟩) (.string ⟨would.toArray⟩) (.string ⟨F.torn.toArray⟩) (knows_new (V := isVal (.string ⟨was.toArray⟩)) 49 3 (by kernel_rfl) (by kernel_rfl) (by kernel_rfl)) (knows_new (V := isVal (.string ⟨would.toArray⟩)) 50 4 (by kernel_rfl) (by kernel_rfl) (by kernel_rfl)) (knows_new (V := isVal (.string ⟨F.torn.toArray⟩)) 52 6 (by kernel_rfl) (by kernel_rfl) (by kernel_rfl))) (enters_of Tryz.func155 (by kernel_rfl) rfl) (by intro w hb; exact call_between was would F.torn w hw1 hw2 hw3), ?_⟩
  refine ⟨isVal (.pointer (some ⟨gp, 0 + k, none⟩)), step_place 22 9 (.tmp 47) (.tmp 48) gp 0 np capp k (by kernel_rfl) (wanted_none (by kernel_rfl)) (knows_new (V := isVal (.slice (some ⟨gp, 0, none⟩) np capp)) 47 1 (by kernel_rfl) (by kernel_rfl) (by kernel_rfl)) (knows_new (V := isVal (.int .i64 (k : Int))) 48 2 (by kernel_rfl) (by kernel_rfl) (by kernel_rfl)) Tryz.underlying22 (by kernel_rfl) hknp, ?_⟩
  intro a w hk hb hd
  have d53 := fdone_of (hd 7 (by decide)) (t := 53) (V := isVal (.string ⟨(betweenL was would F.torn).toArray⟩)) (by kernel_rfl) (by kernel_rfl)
  have d54 := fdone_of (hd 8 (by decide)) (t := 54) (V := isVal (.pointer (some ⟨gp, 0 + k, none⟩))) (by kernel_rfl) (by kernel_rfl)
  rw [Nat.zero_add] at d54
  have x8 : a.tmps.getD 8 undef = .pointer (some ⟨g8, 0, none⟩) := (hk.2.2 8 (by kernel_rfl)).trans e8
  have hs55 : 55 < a.tmps.size := by rw [hk.2.1, hsz]; decide
  have T1 := h.grow hb
  obtain ⟨q1, q2, _⟩ := T1.p'.cell k (strC G.pages[k]) (get_map strC _ _ hkg)
  refine tail_store 9 (.tmp 54) (.tmp 53) ⟨gp, k, none⟩ (strC (betweenL was would F.torn)) _ (by kernel_rfl) (by kernel_rfl) d54 d53 (by kernel_rfl) rfl rfl q1 q2 ?_
  have T2 := T1.page k hkg (betweenL was would F.torn)
  refine tail_field 25 (.tmp 8) 4 ⟨g8, 0, none⟩ ⟨g8, 4, none⟩ 55 (by kernel_rfl) (by kernel_rfl) x8 (field_fl g8 4 (by omega)) ?_
  refine tail_store 4 (.tmp 55) (.const (.bool true)) ⟨g8, 4, none⟩ (.bool true) _ (by kernel_rfl) (by kernel_rfl) (getD_put_self hs55) rfl (by kernel_rfl) rfl rfl T2.c8.2.2.2.2.2 (T2.f8 4) ?_
  refine hQ _ _ ((defers_put (a := a)).trans hk.1) ((size_put (a := a)).trans hk.2.1) (fun t ht => ?_) (T2.die true)
  have hall : (takeOps9.toList.all fun o => o.dst != some 55) = false := by kernel_rfl
  rw [getD_put (fun e => by rw [e, hall] at ht; cases ht)]
  exact hk.2.2 t ht

set_option maxRecDepth 100000 in
set_option maxHeartbeats 2000000 in
theorem take11_p (Q : Exit → Act → World → Prop) (a0 : Act) (w0 W : World) (hsz : a0.tmps.size = 84) (lo hi g3 g6 g8 k gp np capp gw nw capw b2 off2 n2 cap2 : Nat) (F G : Fl) (vp : Value) (would : List UInt8) (wn : Int) (at_ : Int) (s : List UInt8) (hs : s.length ≤ 1000000)
    (e1 : a0.tmps.getD 1 undef = .int .i64 (k : Int)) (e2 : a0.tmps.getD 2 undef = (.iface 127 (.agg #[.int .i64 at_, .string ⟨s.toArray⟩]))) (e3 : a0.tmps.getD 3 undef = .pointer (some ⟨g3, 0, none⟩)) (e8 : a0.tmps.getD 8 undef = .pointer (some ⟨g8, 0, none⟩)) (e10 : a0.tmps.getD 10 undef = .string ⟨would.toArray⟩)
    (h : TI w0 W lo hi g3 g6 g8 F G vp (.slice (some ⟨b2, off2, none⟩) n2 cap2) (.slice (some ⟨gp, 0, none⟩) np capp) (.slice (some ⟨gw, 0, none⟩) nw capw)) (hknp : k < np) (hkg : k < G.pages.length) (hknw : k < nw) (hkw : k < G.wear.length)
    (hkn2 : k < n2) (hcell2 : W.cell? ⟨b2, off2 + k, none⟩ = some (.int .i64 wn)) (hb20 : b2 < w0.heap.size) (hn0 : 0 ≤ wn) (hn1 : wn ≤ 2147483647)
    (hQ : ∀ (a : Act) (W' : World), a.defers = a0.defers → a.tmps.size = a0.tmps.size → (∀ t, (takeOps11.toList.all fun o => o.dst != some t) = true → a.tmps.getD t undef = a0.tmps.getD t undef) →
      TI w0 W' lo hi g3 g6 g8 F { G with pages := G.pages.set k would, wear := G.wear.set k (wn) } vp (.slice (some ⟨b2, off2, none⟩) n2 cap2) (.slice (some ⟨gp, 0, none⟩) np capp) (.slice (some ⟨gw, 0, none⟩) nw capw) → Q .normal a W') :
    (Code.region 11 takeOps11 true).wp Tryz.prog Q a0 W := by
  have hc3 := h.c3
  have hc8 := h.c8
  have o3 := h.o3
  have o6 := h.o6
  have o8 := h.o8
  obtain ⟨qc, qf, ql, qh, cur, qg⟩ := h.p'.cell k (strC G.pages[k]) (get_map strC _ _ hkg)
  have hne3 : g3 ≠ gp := by omega
  have hne8 : g8 ≠ gp := by omega
  have hne2 : b2 ≠ gp := by omega
  have hb2 : b2 < W.heap.size := Nat.lt_of_lt_of_le hb20 h.below.size
  have hR := wrote_pre gp k (strC would)
  refine wp_region_rel hR 19 mixed (by rw [hsz]; kernel_rfl) (by kernel_rfl) ?_
  rw [show takeOps11.size - 19 = 2 by kernel_rfl]
  refine ⟨isVal (.pointer (some ⟨g8, 0, none⟩)), RStep.of hR (stabR_val _ _) (by kernel_rfl) (fun w hw => step_field 25 (.tmp 8) 0 ⟨g8, 0, none⟩ ⟨g8, 0, none⟩ (by kernel_rfl) (wanted_none (by kernel_rfl)) (knows_old 8 (.pointer (some ⟨g8, 0, none⟩)) (by kernel_rfl) e8) (field_fl g8 0 (by omega))), ?_⟩
  refine ⟨isVal (.slice (some ⟨gp, 0, none⟩) np capp), RStep.of hR (stabR_val _ _) (by kernel_rfl) (fun w hw => step_read 22 (.tmp 57) ⟨g8, 0, none⟩ (.slice (some ⟨gp, 0, none⟩) np capp) (by kernel_rfl) (wanted_none (by kernel_rfl)) (knows_new (V := isVal (.pointer (some ⟨g8, 0, none⟩))) 57 0 (by kernel_rfl) (by kernel_rfl) (by kernel_rfl)) (hw.cell hc8.2.1 hc8.1 hne8) (Nat.lt_of_lt_of_le hc8.1 hw.size) agg_strs), ?_⟩
  refine ⟨isVal (.int .i64 (k : Int)), RStep.of hR (stabR_val _ _) (by kernel_rfl) (fun w hw => step_move (.tmp 1) (by kernel_rfl) (wanted_none (by kernel_rfl)) (stable_val _) (knows_old 1 (.int .i64 (k : Int)) (by kernel_rfl) e1)), ?_⟩
  refine ⟨isVal (.pointer (some ⟨g8, 1, none⟩)), RStep.of hR (stabR_val _ _) (by kernel_rfl) (fun w hw => step_field 25 (.tmp 8) 1 ⟨g8, 0, none⟩ ⟨g8, 1, none⟩ (by kernel_rfl) (wanted_none (by kernel_rfl)) (knows_old 8 (.pointer (some ⟨g8, 0, none⟩)) (by kernel_rfl) e8) (field_fl g8 1 (by omega))), ?_⟩
  refine ⟨isVal (.slice (some ⟨gw, 0, none⟩) nw capw), RStep.of hR (stabR_val _ _) (by kernel_rfl) (fun w hw => step_read 23 (.tmp 60) ⟨g8, 1, none⟩ (.slice (some ⟨gw, 0, none⟩) nw capw) (by kernel_rfl) (wanted_none (by kernel_rfl)) (knows_new (V := isVal (.pointer (some ⟨g8, 1, none⟩))) 60 3 (by kernel_rfl) (by kernel_rfl) (by kernel_rfl)) (hw.cell hc8.2.2.1 hc8.1 hne8) (Nat.lt_of_lt_of_le hc8.1 hw.size) agg_ints), ?_⟩
  refine ⟨isVal (.int .i64 (k : Int)), RStep.of hR (stabR_val _ _) (by kernel_rfl) (fun w hw => step_move (.tmp 1) (by kernel_rfl) (wanted_none (by kernel_rfl)) (stable_val _) (knows_old 1 (.int .i64 (k : Int)) (by kernel_rfl) e1)), ?_⟩
  refine ⟨isVal (.string ⟨would.toArray⟩), RStep.of hR (stabR_val _ _) (by kernel_rfl) (fun w hw => step_move (.tmp 10) (by kernel_rfl) (wanted_none (by kernel_rfl)) (stable_val _) (knows_old 10 (.string ⟨would.toArray⟩) (by kernel_rfl) e10)), ?_⟩
  refine ⟨isVal (.iface 127 (.agg #[.int .i64 at_, .string ⟨s.toArray⟩])), RStep.of hR (stabR_val _ _) (by kernel_rfl) (fun w hw => step_move (.tmp 2) (by kernel_rfl) (wanted_none (by kernel_rfl)) (stable_val _) (knows_old 2 (.iface 127 (.agg #[.int .i64 at_, .string ⟨s.toArray⟩])) (by kernel_rfl) e2)), ?_⟩
  refine ⟨isVal (.pointer (some ⟨g3, 1, none⟩)), RStep.of hR (stabR_val _ _) (by kernel_rfl) (fun w hw => step_field 25 (.tmp 3) 1 ⟨g3, 0, none⟩ ⟨g3, 1, none⟩ (by kernel_rfl) (wanted_none (by kernel_rfl)) (knows_old 3 (.pointer (some ⟨g3, 0, none⟩)) (by kernel_rfl) e3) (field_fl g3 1 (by omega))), ?_⟩
  refine ⟨isVal (.slice (some ⟨b2, off2, none⟩) n2 cap2), RStep.of hR (stabR_val _ _) (by kernel_rfl) (fun w hw => step_read 23 (.tmp 65) ⟨g3, 1, none⟩ (.slice (some ⟨b2, off2, none⟩) n2 cap2) (by kernel_rfl) (wanted_none (by kernel_rfl)) (knows_new (V := isVal (.pointer (some ⟨g3, 1, none⟩))) 65 8 (by kernel_rfl) (by kernel_rfl) (by kernel_rfl)) (hw.cell hc3.2.2.1 hc3.1 hne3) (Nat.lt_of_lt_of_le hc3.1 hw.size) agg_ints), ?_⟩
  refine ⟨isVal (.int .i64 (k : Int)), RStep.of hR (stabR_val _ _) (by kernel_rfl) (fun w hw => step_move (.tmp 1) (by kernel_rfl) (wanted_none (by kernel_rfl)) (stable_val _) (knows_old 1 (.int .i64 (k : Int)) (by kernel_rfl) e1)), ?_⟩
  refine ⟨isVal (.pointer (some ⟨b2, off2 + k, none⟩)), RStep.of hR (stabR_val _ _) (by kernel_rfl) (fun w hw => step_place 23 3 (.tmp 66) (.tmp 67) b2 off2 n2 cap2 k (by kernel_rfl) (wanted_none (by kernel_rfl)) (knows_new (V := isVal (.slice (some ⟨b2, off2, none⟩) n2 cap2)) 66 9 (by kernel_rfl) (by kernel_rfl) (by kernel_rfl)) (knows_new (V := isVal (.int .i64 (k : Int))) 67 10 (by kernel_rfl) (by kernel_rfl) (by kernel_rfl)) Tryz.underlying23 (by kernel_rfl) hkn2), ?_⟩
  refine ⟨isVal (.int .i64 wn), RStep.of hR (stabR_val _ _) (by kernel_rfl) (fun w hw => step_read 3 (.tmp 68) ⟨b2, off2 + k, none⟩ (.int .i64 wn) (by kernel_rfl) (wanted_none (by kernel_rfl)) (knows_new (V := isVal (.pointer (some ⟨b2, off2 + k, none⟩))) 68 11 (by kernel_rfl) (by kernel_rfl) (by kernel_rfl)) (hw.cell hcell2 hb2 hne2) (Nat.lt_of_lt_of_le hb2 hw.size) agg_int), ?_⟩
  refine ⟨isVal (.func (.method "ouroboros/flash.wear") #[(.iface 127 (.agg #[.int .i64 at_, .string ⟨s.toArray⟩]))] #[]), RStep.of hR (stabR_val _ _) (by kernel_rfl) (fun w hw => step_method "ouroboros/flash.wear" (.tmp 64) (.iface 127 (.agg #[.int .i64 at_, .string ⟨s.toArray⟩])) (by kernel_rfl) (wanted_none (by kernel_rfl)) (knows_new (V := isVal (.iface 127 (.agg #[.int .i64 at_, .string ⟨s.toArray⟩]))) 64 7 (by kernel_rfl) (by kernel_rfl) (by kernel_rfl))), ?_⟩
  refine ⟨isVal (.func (.method "ouroboros/flash.wear") #[(.iface 127 (.agg #[.int .i64 at_, .string ⟨s.toArray⟩]))] #[]), RStep.of hR (stabR_val _ _) (by kernel_rfl) (fun w hw => step_nil "ouroboros/flash.wear" (.tmp 70) 127 (.agg #[.int .i64 at_, .string ⟨s.toArray⟩]) (by kernel_rfl) (wanted_none (by kernel_rfl)) (knows_new (V := isVal (.func (.method "ouroboros/flash.wear") #[(.iface 127 (.agg #[.int .i64 at_, .string ⟨s.toArray⟩]))] #[])) 70 13 (by kernel_rfl) (by kernel_rfl) (by kernel_rfl)) (fun w => by kernel_rfl)), ?_⟩
  refine ⟨isVal (.iface 127 (.agg #[.int .i64 at_, .string ⟨s.toArray⟩])), RStep.of hR (stabR_val _ _) (by kernel_rfl) (fun w hw => step_move (.tmp 64) (by kernel_rfl) (wanted_none (by kernel_rfl)) (stable_val _) (knows_new (V := isVal (.iface 127 (.agg #[.int .i64 at_, .string ⟨s.toArray⟩]))) 64 7 (by kernel_rfl) (by kernel_rfl) (by kernel_rfl))), ?_⟩
  refine ⟨isVal (.int .i64 wn), RStep.of hR (stabR_val _ _) (by kernel_rfl) (fun w hw => step_invoke "ouroboros/flash.wear" (.tmp 72) (.iface 127 (.agg #[.int .i64 at_, .string ⟨s.toArray⟩])) 255 #[.tmp 69] #[3] #[.int .i64 wn] #[.agg #[.int .i64 at_, .string ⟨s.toArray⟩], .int .i64 wn] (by kernel_rfl) (wanted_none (by kernel_rfl)) (stable_val _) (args1 (.tmp 69) (.int .i64 wn) (knows_new (V := isVal (.int .i64 wn)) 69 12 (by kernel_rfl) (by kernel_rfl) (by kernel_rfl))) (knows_new (V := isVal (.iface 127 (.agg #[.int .i64 at_, .string ⟨s.toArray⟩]))) 72 15 (by kernel_rfl) (by kernel_rfl) (by kernel_rfl)) (fun w => by kernel_rfl) (by intro w hb; exact call_pwear at_ s wn w)), ?_⟩
  refine ⟨isVal (.pointer (some ⟨gp, 0 + k, none⟩)), RStep.of hR (stabR_val _ _) (by kernel_rfl) (fun w hw => step_place 22 9 (.tmp 58) (.tmp 59) gp 0 np capp k (by kernel_rfl) (wanted_none (by kernel_rfl)) (knows_new (V := isVal (.slice (some ⟨gp, 0, none⟩) np capp)) 58 1 (by kernel_rfl) (by kernel_rfl) (by kernel_rfl)) (knows_new (V := isVal (.int .i64 (k : Int))) 59 2 (by kernel_rfl) (by kernel_rfl) (by kernel_rfl)) Tryz.underlying22 (by kernel_rfl) hknp), ?_⟩
  refine ⟨rowIs gp 9 (cur.setIfInBounds k (strC would)), RStep.store 9 (.tmp 74) (.tmp 63) ⟨gp, 0 + k, none⟩ (strC would) (by kernel_rfl) (knows_new (V := isVal (.pointer (some ⟨gp, 0 + k, none⟩))) 74 17 (by kernel_rfl) (by kernel_rfl) (by kernel_rfl)) (knows_new (V := isVal (.string ⟨would.toArray⟩)) 63 6 (by kernel_rfl) (by kernel_rfl) (by kernel_rfl)) (by kernel_rfl) rfl rfl (stabR_row _ _ _ _ _) ?_, ?_⟩
  · intro w hw
    rw [Nat.zero_add]
    rcases hw.row cur _ qg with hr | hr
    · refine ⟨⟨strC G.pages[k], ?_⟩, by simp [World.frozen?, hr], heap_setCell_same w gp k cur _ _ hr, Wrote.set hr⟩
      have := qc
      simp only [World.cell?, qg] at this
      simp only [World.cell?, hr]
      exact this
    · refine ⟨⟨strC would, ?_⟩, by simp [World.frozen?, hr], ?_, Wrote.set hr⟩
      · have := qc
        simp only [World.cell?, qg] at this
        simp only [World.cell?, hr]
        have hlt : k < cur.size := by
          by_cases e : k < cur.size
          · exact e
          · simp [Array.getElem?_eq_none (by omega : cur.size ≤ k)] at this
        simp [hlt]
      · have := heap_setCell_same w gp k _ _ (strC would) hr
        rw [set_twice] at this
        exact this
  intro a w hk0 hw hd
  have hk := hk0.f
  have d18 := rdone_none (hd 18 (by decide)) (V := rowIs gp 9 (cur.setIfInBounds k (strC would))) (by kernel_rfl) (by kernel_rfl)
  have d73 := rdone_of (hd 16 (by decide)) (t := 73) (V := isVal (.int .i64 (wn))) (by kernel_rfl) (by kernel_rfl)
  have d61 := rdone_of (hd 4 (by decide)) (t := 61) (V := isVal (.slice (some ⟨gw, 0, none⟩) nw capw)) (by kernel_rfl) (by kernel_rfl)
  have d62 := rdone_of (hd 5 (by decide)) (t := 62) (V := isVal (.int .i64 (k : Int))) (by kernel_rfl) (by kernel_rfl)
  have hs75 : 75 < a.tmps.size := by rw [hk.2.1, hsz]; decide
  have T2 := (h.page k hkg would).grow (hw.below qg d18)
  refine tail_place 23 3 (.tmp 61) (.tmp 62) gw 0 nw capw k 75 (by kernel_rfl) (by kernel_rfl) d61 d62 Tryz.underlying23 (by kernel_rfl) hknw ?_
  rw [Nat.zero_add]
  obtain ⟨q3, q4, _⟩ := T2.q'.cell k (intC G.wear[k]) (get_map intC _ _ hkw)
  refine tail_store 3 (.tmp 75) (.tmp 73) ⟨gw, k, none⟩ (intC (wn)) _ (by kernel_rfl) (by kernel_rfl) (getD_put_self hs75) ((getD_put (by decide)).trans d73) (by kernel_rfl) rfl rfl q3 q4 ?_
  refine hQ _ _ ((defers_put (a := a)).trans hk.1) ((size_put (a := a)).trans hk.2.1) (fun t ht => ?_) (T2.wear k hkw (wn))
  have hall : (takeOps11.toList.all fun o => o.dst != some 75) = false := by kernel_rfl
  rw [getD_put (fun e => by rw [e, hall] at ht; cases ht)]
  exact hk.2.2 t ht
end Go.Proofs.YtpjafjnokgeifaaGreatDoor
end
section
namespace Go.Proofs.YtpjafjnokgeifaaGreatDoor
open Go.RowKit
set_option linter.unusedVariables false
set_option linter.unusedSimpArgs false
attribute [local irreducible] set5

theorem has_facts (F : Fl) (k : Nat) (h : hasB F (k : Int) = true) : k < F.pages.length ∧ F.pages.length ≤ 6 ∧ F.wear.length = F.pages.length ∧ F.torn.length ≤ 64 ∧ (∀ x ∈ F.pages, 1 ≤ x.length ∧ x.length ≤ 8192 ∧ x.length = (F.pages.headD []).length) ∧ ∀ x ∈ F.wear, 0 ≤ x ∧ x ≤ 2147483647 := by
  unfold hasB mayB oneSize okWear at h
  simp only [Bool.and_eq_true, decide_eq_true_eq, List.all_eq_true] at h
  obtain ⟨⟨⟨⟨⟨⟨h1, h2⟩, ⟨⟨h3, h4⟩, h5⟩⟩, h6, h7⟩, h8⟩, h9⟩, h10⟩ := h
  refine ⟨by omega, by omega, h6, by omega, fun x hx => ?_, fun x hx => h7 x hx⟩
  have := h5 x hx
  omega
/-- Where a device is copied first. -/
theorem ti_start (F : Fl) (w w1 : World) (vp vw vp' vw' : Value) (hp : isCells (F.pages.map strC) vp w) (hq : isCells (F.wear.map intC) vw w)
    (hb1 : Below (((w.alloc (.cells #[vp, vw, .int .i64 F.fuse, strC F.torn, .bool F.dead] 25)).alloc (.cells #[.slice none 0 0, .slice none 0 0, .int .i64 0, .string ⟨#[]⟩, .bool false] 25))).heap.size ((w.alloc (.cells #[vp, vw, .int .i64 F.fuse, strC F.torn, .bool F.dead] 25)).alloc (.cells #[.slice none 0 0, .slice none 0 0, .int .i64 0, .string ⟨#[]⟩, .bool false] 25)) w1)
    (ho1 : isOwn ((w.alloc (.cells #[vp, vw, .int .i64 F.fuse, strC F.torn, .bool F.dead] 25)).alloc (.cells #[.slice none 0 0, .slice none 0 0, .int .i64 0, .string ⟨#[]⟩, .bool false] 25)).heap.size 9 (F.pages.map strC) vp' w1)
    (ho2 : isOwn ((w.alloc (.cells #[vp, vw, .int .i64 F.fuse, strC F.torn, .bool F.dead] 25)).alloc (.cells #[.slice none 0 0, .slice none 0 0, .int .i64 0, .string ⟨#[]⟩, .bool false] 25)).heap.size 3 (F.wear.map intC) vw' w1) :
    TI w (set5 (w1.alloc (.cells #[.slice none 0 0, .slice none 0 0, .int .i64 0, .string ⟨#[]⟩, .bool false] 25)) w1.heap.size vp' vw' (.int .i64 F.fuse) (strC F.torn) (.bool F.dead)) (w.heap.size + 2) w1.heap.size w.heap.size (w.heap.size + 1) w1.heap.size F F vp vw vp' vw' := by
  have hb0 : Below w.heap.size w ((w.alloc (.cells #[vp, vw, .int .i64 F.fuse, strC F.torn, .bool F.dead] 25)).alloc (.cells #[.slice none 0 0, .slice none 0 0, .int .i64 0, .string ⟨#[]⟩, .bool false] 25)) := ((Below.refl _ _).alloc (Nat.le_refl _) _).alloc (by simp) _
  have hbn := (Below.refl (w.alloc (.cells #[vp, vw, .int .i64 F.fuse, strC F.torn, .bool F.dead] 25)).heap.size (w.alloc (.cells #[vp, vw, .int .i64 F.fuse, strC F.torn, .bool F.dead] 25))).alloc (Nat.le_refl _) (.cells #[.slice none 0 0, .slice none 0 0, .int .i64 0, .string ⟨#[]⟩, .bool false] 25)
  have hbz := (Below.refl w1.heap.size w1).alloc (Nat.le_refl _) (.cells #[.slice none 0 0, .slice none 0 0, .int .i64 0, .string ⟨#[]⟩, .bool false] 25)
  have hs1 : w.heap.size + 2 ≤ w1.heap.size := by have := hb1.size; simp at this; omega
  have hsz : ((w.alloc (.cells #[vp, vw, .int .i64 F.fuse, strC F.torn, .bool F.dead] 25)).alloc (.cells #[.slice none 0 0, .slice none 0 0, .int .i64 0, .string ⟨#[]⟩, .bool false] 25)).heap.size = w.heap.size + 2 := by simp
  have c3 := (((cells5_new w 25 vp vw (.int .i64 F.fuse) (strC F.torn) (.bool F.dead)).keep hbn (by simp)).keep hb1 (by simp <;> omega)).keep hbz (by omega)
  have c6 := ((cells5_at (w.alloc (.cells #[vp, vw, .int .i64 F.fuse, strC F.torn, .bool F.dead] 25)) 25 (.slice none 0 0) (.slice none 0 0) (.int .i64 0) (.string ⟨#[]⟩) (.bool false) (w.heap.size + 1) (by simp)).keep hb1 (by simp <;> omega)).keep hbz (by omega)
  have f6 := ((free5_at (w.alloc (.cells #[vp, vw, .int .i64 F.fuse, strC F.torn, .bool F.dead] 25)) #[.slice none 0 0, .slice none 0 0, .int .i64 0, .string ⟨#[]⟩, .bool false] 25 (w.heap.size + 1) (by simp)).keep hb1 (by simp <;> omega)).keep hbz (by omega)
  have c8 := (cells5_new w1 25 (.slice none 0 0) (.slice none 0 0) (.int .i64 0) (.string ⟨#[]⟩) (.bool false))
  have f8 := free5_new w1 #[.slice none 0 0, .slice none 0 0, .int .i64 0, .string ⟨#[]⟩, .bool false] 25
  rw [hsz] at ho1 ho2
  have hbt : ∀ {e : TypeId} {cs : List Value} {v : Value}, isOwn (w.heap.size + 2) e cs v w1 → isBtw (w.heap.size + 2) w1.heap.size e cs v (set5 (w1.alloc (.cells #[.slice none 0 0, .slice none 0 0, .int .i64 0, .string ⟨#[]⟩, .bool false] 25)) w1.heap.size vp' vw' (.int .i64 F.fuse) (strC F.torn) (.bool F.dead)) := by
    intro e cs v h
    have h' := (isBtw_own h).grow hbz
    unfold set5
    exact ((((h'.out (p := ⟨w1.heap.size, 0, none⟩) (.inr (Nat.le_refl _)) _).out (p := ⟨w1.heap.size, 1, none⟩) (.inr (Nat.le_refl _)) _).out (p := ⟨w1.heap.size, 2, none⟩) (.inr (Nat.le_refl _)) _).out (p := ⟨w1.heap.size, 3, none⟩) (.inr (Nat.le_refl _)) _).out (p := ⟨w1.heap.size, 4, none⟩) (.inr (Nat.le_refl _)) _
  exact {
    below := below_set5 ((hb0.trans (hb1.mono hb0.size)).alloc (by omega) _) (by omega) _ _ _ _ _
    o3 := ⟨Nat.le_refl _, by omega⟩
    o6 := ⟨by omega, by omega⟩
    o36 := by omega
    o8 := ⟨by omega, hs1, Nat.le_refl _⟩
    c3 := c3.apart5 _ _ _ _ _ (by omega)
    c6 := ⟨_, _, _, _, _, c6.apart5 _ _ _ _ _ (by omega)⟩
    f6 := f6.set5_ _ _ _ _ _ _
    c8 := c8.set5_ _ _ _ _ _
    f8 := f8.set5_ _ _ _ _ _ _
    p := hp
    q := hq
    p' := hbt ho1
    q' := hbt ho2 }
theorem ti_end {w0 W : World} {lo hi g3 g6 g8 : Nat} {F G : Fl} {vp vw vp' vw' : Value} (h : TI w0 W lo hi g3 g6 g8 F G vp vw vp' vw') :
    isFlN w0.heap.size G (.agg #[vp', vw', .int .i64 G.fuse, strC G.torn, .bool G.dead]) (set5 W g6 vp' vw' (.int .i64 G.fuse) (strC G.torn) (.bool G.dead)) ∧ Below w0.heap.size w0 (set5 W g6 vp' vw' (.int .i64 G.fuse) (strC G.torn) (.bool G.dead)) ∧
      Cells5 (set5 W g6 vp' vw' (.int .i64 G.fuse) (strC G.torn) (.bool G.dead)) g6 vp' vw' (.int .i64 G.fuse) (strC G.torn) (.bool G.dead) := by
  have o6 := h.o6
  obtain ⟨o0, o1, o2, o3, o4, c6⟩ := h.c6
  have hbt : ∀ {e : TypeId} {cs : List Value} {v : Value}, isBtw lo hi e cs v W → isBtw lo hi e cs v (set5 W g6 vp' vw' (.int .i64 G.fuse) (strC G.torn) (.bool G.dead)) := by
    intro e cs v h'
    unfold set5
    exact ((((h'.out (p := ⟨g6, 0, none⟩) (.inl o6.2) _).out (p := ⟨g6, 1, none⟩) (.inl o6.2) _).out (p := ⟨g6, 2, none⟩) (.inl o6.2) _).out (p := ⟨g6, 3, none⟩) (.inl o6.2) _).out (p := ⟨g6, 4, none⟩) (.inl o6.2) _
  have o8 := h.o8
  have hs8 := h.c8.1
  exact ⟨⟨vp', vw', rfl, (hbt h.p').weak (by omega) (by rw [size_set5]; omega), (hbt h.q').weak (by omega) (by rw [size_set5]; omega)⟩, below_set5 h.below o6.1 _ _ _ _ _, c6.set5_ _ _ _ _ _⟩

set_option maxRecDepth 100000 in
set_option maxHeartbeats 2000000 in
theorem take_pno (F : Fl) (v : Value) (w : World) (hv : isFl F v w) (h1 : F.pages.length ≤ 1000000) (h2 : F.wear.length ≤ 1000000) (at_ : Int) (s : List UInt8) (hs : s.length ≤ 1000000) (page : Int) (hhas : hasB F page = false) :
    Calls Tryz.prog 103 #[v, .int .i64 page, (.iface 127 (.agg #[.int .i64 at_, .string ⟨s.toArray⟩]))] w fun e w' => ∃ v', e = .returned (.tuple #[v', .int .i64 1]) ∧ isFlN w.heap.size F v' w' ∧ Below w.heap.size w w' := by
  obtain ⟨vp, vw, rfl, hp, hq⟩ := hv
  have hb0 : Below w.heap.size w ((w.alloc (.cells #[vp, vw, .int .i64 F.fuse, strC F.torn, .bool F.dead] 25)).alloc (.cells #[.slice none 0 0, .slice none 0 0, .int .i64 0, .string ⟨#[]⟩, .bool false] 25)) := ((Below.refl _ _).alloc (Nat.le_refl _) _).alloc (by simp) _
  have HP := Lib.hid hp
  have HQ := Lib.hid hq
  have HB0 := Lib.hid hb0
  clear hp hq hb0
  go_enter Tryz.func103, Tryz.ntmps103
  go_wp2_with fail
  refine (copied_any F _ _ ⟨vp, vw, rfl, stable_cells _ _ _ _ HP.out HB0.out, stable_cells _ _ _ _ HQ.out HB0.out⟩ (by omega) (by omega)).mono ?_
  rintro e w1 ⟨vp', vw', rfl, ho1, ho2, hb1⟩
  have TI0 := Lib.hid (ti_start F w w1 vp vw vp' vw' HP.out HQ.out hb1 ho1 ho2)
  have HC8 := Lib.hid (cells5_new w1 25 (.slice none 0 0) (.slice none 0 0) (.int .i64 0) (.string ⟨#[]⟩) (.bool false))
  have HF8 := Lib.hid (free5_new w1 #[.slice none 0 0, .slice none 0 0, .int .i64 0, .string ⟨#[]⟩, .bool false] 25)
  have oo1 := (ho1.one).2
  have oo2 := (ho2.one).2
  clear ho1 ho2 hb1 HB0
  go_wp2_with (refine wpList_store5 rfl (.tmp 8) (.tmp 12) rfl w1.heap.size vp' vw' (.int .i64 F.fuse) (strC F.torn) (.bool F.dead) rfl rfl HC8.out HF8.out oo1 oo2 rfl rfl rfl ?_)
  have T := TI0.out
  clear TI0 HC8 HF8
  generalize set5 (w1.alloc (.cells #[.slice none 0 0, .slice none 0 0, .int .i64 0, .string ⟨#[]⟩, .bool false] 25)) w1.heap.size vp' vw' (.int .i64 F.fuse) (strC F.torn) (.bool F.dead) = W at *
  generalize w1.heap.size = g8 at *
  refine take2_pno _ _ _ rfl w.heap.size F vp vw at_ s hs page rfl rfl rfl T.c3 T.fl (by omega) (by omega) hhas ?_
  intro act W2 hdf hsz hkeep hn30 hbT
  have hk1 : act.tmps.getD 1 undef = (.int .i64 page) := hkeep 1 (by kernel_rfl)
  have hk2 : act.tmps.getD 2 undef = (.iface 127 (.agg #[.int .i64 at_, .string ⟨s.toArray⟩])) := hkeep 2 (by kernel_rfl)
  have hk3 : act.tmps.getD 3 undef = (.pointer (some ⟨w.heap.size, 0, none⟩)) := hkeep 3 (by kernel_rfl)
  have hk6 : act.tmps.getD 6 undef = (.pointer (some ⟨w.heap.size + 1, 0, none⟩)) := hkeep 6 (by kernel_rfl)
  have hk8 : act.tmps.getD 8 undef = (.pointer (some ⟨g8, 0, none⟩)) := hkeep 8 (by kernel_rfl)
  obtain ⟨tm, df⟩ := act
  obtain rfl : df = [] := hdf
  clear hkeep
  obtain ⟨f, rfl, hk1, hk2, hk3, hk6, hk8, hn30⟩ : ∃ f : Nat → Value, tm = ((List.range 84).map f).toArray ∧ f 1 = (.int .i64 page) ∧ f 2 = (.iface 127 (.agg #[.int .i64 at_, .string ⟨s.toArray⟩])) ∧ f 3 = (.pointer (some ⟨w.heap.size, 0, none⟩)) ∧ f 6 = (.pointer (some ⟨w.heap.size + 1, 0, none⟩)) ∧ f 8 = (.pointer (some ⟨g8, 0, none⟩)) ∧ f 30 = (.bool true) := ⟨fun i => tm.getD i undef, arr_eta tm hsz, hk1, hk2, hk3, hk6, hk8, hn30⟩
  rewrite [show ((List.range 84).map f).toArray = #[f 0, f 1, f 2, f 3, f 4, f 5, f 6, f 7, f 8, f 9, f 10, f 11, f 12, f 13, f 14, f 15, f 16, f 17, f 18, f 19, f 20, f 21, f 22, f 23, f 24, f 25, f 26, f 27, f 28, f 29, f 30, f 31, f 32, f 33, f 34, f 35, f 36, f 37, f 38, f 39, f 40, f 41, f 42, f 43, f 44, f 45, f 46, f 47, f 48, f 49, f 50, f 51, f 52, f 53, f 54, f 55, f 56, f 57, f 58, f 59, f 60, f 61, f 62, f 63, f 64, f 65, f 66, f 67, f 68, f 69, f 70, f 71, f 72, f 73, f 74, f 75, f 76, f 77, f 78, f 79, f 80, f 81, f 82, f 83] from rfl]
  rewrite [hk1, hk2, hk3, hk6, hk8, hn30]
  dsimp only
  clear hsz hk1 hk2 hk3 hk6 hk8 hn30
  replace T := T.grow hbT
  clear hbT
  obtain ⟨o0, o1, o2, o3, o4, c6⟩ := T.c6
  have HC6 := Kept.mk c6
  have HF6 := Kept.mk T.f6
  obtain ⟨hfl, hB5, hr5⟩ := ti_end T
  have HFL := Kept.mk hfl
  have HR5 := Kept.mk hr5
  obtain ⟨_, k0, k1, k2, k3, k4⟩ := T.c8
  clear T c6 hfl hr5
  go_wp2_with (refine wpList_store5 rfl (.tmp 6) (.tmp 31) rfl (w.heap.size + 1) _ _ _ _ _ rfl rfl HC6.out HF6.out oo1 oo2 rfl rfl rfl ?_)
  exact bodyPost_ret (results2 rfl _ _ (w.heap.size + 1) _ _ _ _ _ (.int .i64 1) rfl rfl HR5.out) rfl ⟨_, rfl, HFL.out, hB5⟩

set_option maxRecDepth 100000 in
set_option maxHeartbeats 2000000 in
theorem take_pdead (F : Fl) (v : Value) (w : World) (hv : isFl F v w) (k : Nat) (at_ : Nat) (s : List UInt8) (hs : s.length ≤ 1000000) (hat : at_ + s.length ≤ (F.pages.getD k []).length) (hdead : F.dead = true) (hhas : hasB F (k : Int) = true) :
    Calls Tryz.prog 103 #[v, .int .i64 (k : Int), (.iface 127 (.agg #[.int .i64 (at_ : Int), .string ⟨s.toArray⟩]))] w fun e w' => ∃ v', e = .returned (.tuple #[v', .int .i64 8]) ∧ isFlN w.heap.size F v' w' ∧ Below w.heap.size w w' := by
  have HDD := Kept.mk hdead
  clear hdead
  have HHF := Kept.mk (has_facts F k hhas)
  obtain ⟨hk, h6, hwl, htl, hpg, hwr⟩ := HHF.out
  obtain ⟨was, hwas⟩ : ∃ was, F.pages[k]? = some was := ⟨_, List.getElem?_eq_getElem hk⟩
  obtain ⟨wn, hwn⟩ : ∃ wn, F.wear[k]? = some wn := ⟨_, List.getElem?_eq_getElem (by omega)⟩
  have hwm : was.length ≤ 8192 := (hpg _ (List.mem_of_getElem? hwas)).2.1
  have hn01 := hwr wn (List.mem_of_getElem? hwn)
  obtain ⟨vp, vw, rfl, hp, hq⟩ := hv
  obtain ⟨b, off, cap, hvp, hb, hc⟩ := hp.some_ (by rw [List.length_map]; omega)
  obtain ⟨b2, off2, cap2, hvw, hb2, hc2⟩ := hq.some_ (by rw [List.length_map]; omega)
  rw [List.length_map] at hvp hvw
  subst hvp hvw
  have hcell : w.cell? ⟨b, off + k, none⟩ = some (.string ⟨was.toArray⟩) := hc k _ (by simp [hwas, strC])
  have hcell2 : w.cell? ⟨b2, off2 + k, none⟩ = some (.int .i64 wn) := hc2 k _ (by simp [hwn, intC])
  have hkw : k < F.wear.length := by omega
  have hwl6 : F.wear.length ≤ 6 := by omega
  have HWL := Kept.mk hwl
  clear hwl
  have hget1 : F.pages.getD k [] = was := by simp [List.getD_eq_getElem?_getD, hwas]
  have hget2 : F.wear.getD k 0 = wn := by simp [List.getD_eq_getElem?_getD, hwn]
  try rw [hget1]
  try rw [hget2]
  have hatw : at_ + s.length ≤ was.length := by rw [← hget1]; exact hat
  have hfit : (decide (0 ≤ (at_ : Int)) && decide ((at_ : Int) ≤ (was.length : Int) - (s.length : Int))) = true := by simp; omega
  have HFIT := Kept.mk hfit
  clear hget1 hget2 hat hfit
  have HW := Kept.mk hwas
  have HWN := Kept.mk hwn
  have HC1 := Kept.mk hcell
  have HC2 := Kept.mk hcell2
  have hb0 : Below w.heap.size w ((w.alloc (.cells #[.slice (some ⟨b, off, none⟩) F.pages.length cap, .slice (some ⟨b2, off2, none⟩) F.wear.length cap2, .int .i64 F.fuse, strC F.torn, .bool F.dead] 25)).alloc (.cells #[.slice none 0 0, .slice none 0 0, .int .i64 0, .string ⟨#[]⟩, .bool false] 25)) := ((Below.refl _ _).alloc (Nat.le_refl _) _).alloc (by simp) _
  have HP := Kept.mk hp
  have HQ := Kept.mk hq
  have HB0 := Kept.mk hb0
  clear hp hq hb0 hc hc2 hcell hcell2 hwas hwn hpg hwr
  go_enter Tryz.func103, Tryz.ntmps103
  go_wp2_with fail
  refine (copied_any F _ _ ⟨.slice (some ⟨b, off, none⟩) F.pages.length cap, .slice (some ⟨b2, off2, none⟩) F.wear.length cap2, rfl, stable_cells _ _ _ _ HP.out HB0.out, stable_cells _ _ _ _ HQ.out HB0.out⟩ (by omega) (by omega)).mono ?_
  rintro e w1 ⟨vp', vw', rfl, ho1, ho2, hb1⟩
  have TI0 := Lib.hid (ti_start F w w1 (.slice (some ⟨b, off, none⟩) F.pages.length cap) (.slice (some ⟨b2, off2, none⟩) F.wear.length cap2) vp' vw' HP.out HQ.out hb1 ho1 ho2)
  have HC8 := Lib.hid (cells5_new w1 25 (.slice none 0 0) (.slice none 0 0) (.int .i64 0) (.string ⟨#[]⟩) (.bool false))
  have HF8 := Lib.hid (free5_new w1 #[.slice none 0 0, .slice none 0 0, .int .i64 0, .string ⟨#[]⟩, .bool false] 25)
  have oo1 := (ho1.one).2
  have oo2 := (ho2.one).2
  clear ho1 ho2 hb1 HB0
  go_wp2_with (refine wpList_store5 rfl (.tmp 8) (.tmp 12) rfl w1.heap.size vp' vw' (.int .i64 F.fuse) (strC F.torn) (.bool F.dead) rfl rfl HC8.out HF8.out oo1 oo2 rfl rfl rfl ?_)
  have T := TI0.out
  clear TI0 HC8 HF8
  generalize set5 (w1.alloc (.cells #[.slice none 0 0, .slice none 0 0, .int .i64 0, .string ⟨#[]⟩, .bool false] 25)) w1.heap.size vp' vw' (.int .i64 F.fuse) (strC F.torn) (.bool F.dead) = W at *
  generalize w1.heap.size = g8 at *
  refine take2_pyes _ _ _ rfl w.heap.size F _ (at_ : Int) s hs k b off F.pages.length cap was hk ((T.below.cell (p := ⟨b, off + k, none⟩) hb).trans HC1.out) (Nat.lt_of_lt_of_le hb T.below.size) (by omega) HFIT.out rfl rfl rfl T.c3 T.fl (by omega) (by omega) hhas ?_
  intro act W2 hdf hsz hkeep hn30 hbT
  have hk1 : act.tmps.getD 1 undef = (.int .i64 (k : Int)) := hkeep 1 (by kernel_rfl)
  have hk2 : act.tmps.getD 2 undef = (.iface 127 (.agg #[.int .i64 (at_ : Int), .string ⟨s.toArray⟩])) := hkeep 2 (by kernel_rfl)
  have hk3 : act.tmps.getD 3 undef = (.pointer (some ⟨w.heap.size, 0, none⟩)) := hkeep 3 (by kernel_rfl)
  have hk6 : act.tmps.getD 6 undef = (.pointer (some ⟨w.heap.size + 1, 0, none⟩)) := hkeep 6 (by kernel_rfl)
  have hk8 : act.tmps.getD 8 undef = (.pointer (some ⟨g8, 0, none⟩)) := hkeep 8 (by kernel_rfl)
  obtain ⟨tm, df⟩ := act
  obtain rfl : df = [] := hdf
  clear hkeep
  obtain ⟨f, rfl, hk1, hk2, hk3, hk6, hk8, hn30⟩ : ∃ f : Nat → Value, tm = ((List.range 84).map f).toArray ∧ f 1 = (.int .i64 (k : Int)) ∧ f 2 = (.iface 127 (.agg #[.int .i64 (at_ : Int), .string ⟨s.toArray⟩])) ∧ f 3 = (.pointer (some ⟨w.heap.size, 0, none⟩)) ∧ f 6 = (.pointer (some ⟨w.heap.size + 1, 0, none⟩)) ∧ f 8 = (.pointer (some ⟨g8, 0, none⟩)) ∧ f 30 = (.bool false) := ⟨fun i => tm.getD i undef, arr_eta tm hsz, hk1, hk2, hk3, hk6, hk8, hn30⟩
  rewrite [show ((List.range 84).map f).toArray = #[f 0, f 1, f 2, f 3, f 4, f 5, f 6, f 7, f 8, f 9, f 10, f 11, f 12, f 13, f 14, f 15, f 16, f 17, f 18, f 19, f 20, f 21, f 22, f 23, f 24, f 25, f 26, f 27, f 28, f 29, f 30, f 31, f 32, f 33, f 34, f 35, f 36, f 37, f 38, f 39, f 40, f 41, f 42, f 43, f 44, f 45, f 46, f 47, f 48, f 49, f 50, f 51, f 52, f 53, f 54, f 55, f 56, f 57, f 58, f 59, f 60, f 61, f 62, f 63, f 64, f 65, f 66, f 67, f 68, f 69, f 70, f 71, f 72, f 73, f 74, f 75, f 76, f 77, f 78, f 79, f 80, f 81, f 82, f 83] from rfl]
  rewrite [hk1, hk2, hk3, hk6, hk8, hn30]
  dsimp only
  clear hsz hk1 hk2 hk3 hk6 hk8 hn30
  replace T := T.grow hbT
  clear hbT
  have b4 : W2.cell? ⟨w.heap.size, 4, none⟩ = some (.bool true) := by rw [← HDD.out]; exact T.c3.2.2.2.2.2
  obtain ⟨o0, o1, o2, o3, o4, c6⟩ := T.c6
  have HC6 := Kept.mk c6
  have HF6 := Kept.mk T.f6
  obtain ⟨hfl, hB5, hr5⟩ := ti_end T
  have HFL := Kept.mk hfl
  have HR5 := Kept.mk hr5
  obtain ⟨_, k0, k1, k2, k3, k4⟩ := T.c8
  clear T c6 hfl hr5
  go_wp2_with (refine wpList_store5 rfl (.tmp 6) (.tmp 34) rfl (w.heap.size + 1) _ _ _ _ _ rfl rfl HC6.out HF6.out oo1 oo2 rfl rfl rfl ?_)
  exact bodyPost_ret (results2 rfl _ _ (w.heap.size + 1) _ _ _ _ _ (.int .i64 8) rfl rfl HR5.out) rfl ⟨_, rfl, HFL.out, hB5⟩

set_option maxRecDepth 100000 in
set_option maxHeartbeats 2000000 in
theorem take_ptorn (F : Fl) (v : Value) (w : World) (hv : isFl F v w) (k : Nat) (at_ : Nat) (s : List UInt8) (hs : s.length ≤ 1000000) (hat : at_ + s.length ≤ (F.pages.getD k []).length) (hdead : F.dead = false) (hfuse : F.fuse = 0) (hhas : hasB F (k : Int) = true) :
    Calls Tryz.prog 103 #[v, .int .i64 (k : Int), (.iface 127 (.agg #[.int .i64 (at_ : Int), .string ⟨s.toArray⟩]))] w fun e w' => ∃ v', e = .returned (.tuple #[v', .int .i64 8]) ∧ isFlN w.heap.size { F with pages := F.pages.set k (betweenL (F.pages.getD k []) (progL (F.pages.getD k []) at_ s) F.torn), dead := true } v' w' ∧ Below w.heap.size w w' := by
  have HDD := Kept.mk hdead
  clear hdead
  have HFU := Kept.mk hfuse
  clear hfuse
  have HHF := Kept.mk (has_facts F k hhas)
  obtain ⟨hk, h6, hwl, htl, hpg, hwr⟩ := HHF.out
  obtain ⟨was, hwas⟩ : ∃ was, F.pages[k]? = some was := ⟨_, List.getElem?_eq_getElem hk⟩
  obtain ⟨wn, hwn⟩ : ∃ wn, F.wear[k]? = some wn := ⟨_, List.getElem?_eq_getElem (by omega)⟩
  have hwm : was.length ≤ 8192 := (hpg _ (List.mem_of_getElem? hwas)).2.1
  have hn01 := hwr wn (List.mem_of_getElem? hwn)
  obtain ⟨vp, vw, rfl, hp, hq⟩ := hv
  obtain ⟨b, off, cap, hvp, hb, hc⟩ := hp.some_ (by rw [List.length_map]; omega)
  obtain ⟨b2, off2, cap2, hvw, hb2, hc2⟩ := hq.some_ (by rw [List.length_map]; omega)
  rw [List.length_map] at hvp hvw
  subst hvp hvw
  have hcell : w.cell? ⟨b, off + k, none⟩ = some (.string ⟨was.toArray⟩) := hc k _ (by simp [hwas, strC])
  have hcell2 : w.cell? ⟨b2, off2 + k, none⟩ = some (.int .i64 wn) := hc2 k _ (by simp [hwn, intC])
  have hkw : k < F.wear.length := by omega
  have hwl6 : F.wear.length ≤ 6 := by omega
  have HWL := Kept.mk hwl
  clear hwl
  have hget1 : F.pages.getD k [] = was := by simp [List.getD_eq_getElem?_getD, hwas]
  have hget2 : F.wear.getD k 0 = wn := by simp [List.getD_eq_getElem?_getD, hwn]
  try rw [hget1]
  try rw [hget2]
  have hatw : at_ + s.length ≤ was.length := by rw [← hget1]; exact hat
  have hfit : (decide (0 ≤ (at_ : Int)) && decide ((at_ : Int) ≤ (was.length : Int) - (s.length : Int))) = true := by simp; omega
  have HFIT := Kept.mk hfit
  clear hget1 hget2 hat hfit
  have HW := Kept.mk hwas
  have HWN := Kept.mk hwn
  have HC1 := Kept.mk hcell
  have HC2 := Kept.mk hcell2
  have hb0 : Below w.heap.size w ((w.alloc (.cells #[.slice (some ⟨b, off, none⟩) F.pages.length cap, .slice (some ⟨b2, off2, none⟩) F.wear.length cap2, .int .i64 F.fuse, strC F.torn, .bool F.dead] 25)).alloc (.cells #[.slice none 0 0, .slice none 0 0, .int .i64 0, .string ⟨#[]⟩, .bool false] 25)) := ((Below.refl _ _).alloc (Nat.le_refl _) _).alloc (by simp) _
  have HP := Kept.mk hp
  have HQ := Kept.mk hq
  have HB0 := Kept.mk hb0
  clear hp hq hb0 hc hc2 hcell hcell2 hwas hwn hpg hwr
  go_enter Tryz.func103, Tryz.ntmps103
  go_wp2_with fail
  refine (copied_any F _ _ ⟨.slice (some ⟨b, off, none⟩) F.pages.length cap, .slice (some ⟨b2, off2, none⟩) F.wear.length cap2, rfl, stable_cells _ _ _ _ HP.out HB0.out, stable_cells _ _ _ _ HQ.out HB0.out⟩ (by omega) (by omega)).mono ?_
  rintro e w1 ⟨vp', vw', rfl, ho1, ho2, hb1⟩
  have TI0 := Lib.hid (ti_start F w w1 (.slice (some ⟨b, off, none⟩) F.pages.length cap) (.slice (some ⟨b2, off2, none⟩) F.wear.length cap2) vp' vw' HP.out HQ.out hb1 ho1 ho2)
  have HC8 := Lib.hid (cells5_new w1 25 (.slice none 0 0) (.slice none 0 0) (.int .i64 0) (.string ⟨#[]⟩) (.bool false))
  have HF8 := Lib.hid (free5_new w1 #[.slice none 0 0, .slice none 0 0, .int .i64 0, .string ⟨#[]⟩, .bool false] 25)
  have oo1 := (ho1.one).2
  have oo2 := (ho2.one).2
  clear ho1 ho2 hb1 HB0
  go_wp2_with (refine wpList_store5 rfl (.tmp 8) (.tmp 12) rfl w1.heap.size vp' vw' (.int .i64 F.fuse) (strC F.torn) (.bool F.dead) rfl rfl HC8.out HF8.out oo1 oo2 rfl rfl rfl ?_)
  have T := TI0.out
  clear TI0 HC8 HF8
  generalize set5 (w1.alloc (.cells #[.slice none 0 0, .slice none 0 0, .int .i64 0, .string ⟨#[]⟩, .bool false] 25)) w1.heap.size vp' vw' (.int .i64 F.fuse) (strC F.torn) (.bool F.dead) = W at *
  generalize w1.heap.size = g8 at *
  refine take2_pyes _ _ _ rfl w.heap.size F _ (at_ : Int) s hs k b off F.pages.length cap was hk ((T.below.cell (p := ⟨b, off + k, none⟩) hb).trans HC1.out) (Nat.lt_of_lt_of_le hb T.below.size) (by omega) HFIT.out rfl rfl rfl T.c3 T.fl (by omega) (by omega) hhas ?_
  intro act W2 hdf hsz hkeep hn30 hbT
  have hk1 : act.tmps.getD 1 undef = (.int .i64 (k : Int)) := hkeep 1 (by kernel_rfl)
  have hk2 : act.tmps.getD 2 undef = (.iface 127 (.agg #[.int .i64 (at_ : Int), .string ⟨s.toArray⟩])) := hkeep 2 (by kernel_rfl)
  have hk3 : act.tmps.getD 3 undef = (.pointer (some ⟨w.heap.size, 0, none⟩)) := hkeep 3 (by kernel_rfl)
  have hk6 : act.tmps.getD 6 undef = (.pointer (some ⟨w.heap.size + 1, 0, none⟩)) := hkeep 6 (by kernel_rfl)
  have hk8 : act.tmps.getD 8 undef = (.pointer (some ⟨g8, 0, none⟩)) := hkeep 8 (by kernel_rfl)
  obtain ⟨tm, df⟩ := act
  obtain rfl : df = [] := hdf
  clear hkeep
  obtain ⟨f, rfl, hk1, hk2, hk3, hk6, hk8, hn30⟩ : ∃ f : Nat → Value, tm = ((List.range 84).map f).toArray ∧ f 1 = (.int .i64 (k : Int)) ∧ f 2 = (.iface 127 (.agg #[.int .i64 (at_ : Int), .string ⟨s.toArray⟩])) ∧ f 3 = (.pointer (some ⟨w.heap.size, 0, none⟩)) ∧ f 6 = (.pointer (some ⟨w.heap.size + 1, 0, none⟩)) ∧ f 8 = (.pointer (some ⟨g8, 0, none⟩)) ∧ f 30 = (.bool false) := ⟨fun i => tm.getD i undef, arr_eta tm hsz, hk1, hk2, hk3, hk6, hk8, hn30⟩
  rewrite [show ((List.range 84).map f).toArray = #[f 0, f 1, f 2, f 3, f 4, f 5, f 6, f 7, f 8, f 9, f 10, f 11, f 12, f 13, f 14, f 15, f 16, f 17, f 18, f 19, f 20, f 21, f 22, f 23, f 24, f 25, f 26, f 27, f 28, f 29, f 30, f 31, f 32, f 33, f 34, f 35, f 36, f 37, f 38, f 39, f 40, f 41, f 42, f 43, f 44, f 45, f 46, f 47, f 48, f 49, f 50, f 51, f 52, f 53, f 54, f 55, f 56, f 57, f 58, f 59, f 60, f 61, f 62, f 63, f 64, f 65, f 66, f 67, f 68, f 69, f 70, f 71, f 72, f 73, f 74, f 75, f 76, f 77, f 78, f 79, f 80, f 81, f 82, f 83] from rfl]
  rewrite [hk1, hk2, hk3, hk6, hk8, hn30]
  dsimp only
  clear hsz hk1 hk2 hk3 hk6 hk8 hn30
  replace T := T.grow hbT
  clear hbT
  have b4 : W2.cell? ⟨w.heap.size, 4, none⟩ = some (.bool false) := by rw [← HDD.out]; exact T.c3.2.2.2.2.2
  have b0 := T.c3.2.1
  have bw := (T.below.cell (p := ⟨b, off + k, none⟩) hb).trans HC1.out
  go_wp2_with fail
  refine (pPage_any at_ s was _ (by omega) (by omega) hs).mono ?_
  rintro e W3 ⟨rfl, hb3⟩
  replace T := T.grow hb3
  clear hb3 b4 b0 bw
  have b2' : W3.cell? ⟨w.heap.size, 2, none⟩ = some (.int .i64 0) := by rw [← HFU.out]; exact T.c3.2.2.2.1
  obtain ⟨gp, capp, _, hvp, _⟩ := T.p'.some_ (by rw [List.length_map]; omega)
  rw [List.length_map] at hvp
  subst hvp
  go_wp2_with fail
  refine take9 _ _ w _ rfl (w.heap.size + 2) g8 w.heap.size (w.heap.size + 1) g8 k gp F.pages.length capp F F _ _ vw' was (progL was at_ s) rfl rfl rfl rfl rfl T hk hk (by omega) (by rw [length_progL]; omega) (by omega) ?_
  clear T b2'
  intro act W4 hdf hsz hkeep T
  have hk1 : act.tmps.getD 1 undef = (.int .i64 (k : Int)) := hkeep 1 (by kernel_rfl)
  have hk2 : act.tmps.getD 2 undef = (.iface 127 (.agg #[.int .i64 (at_ : Int), .string ⟨s.toArray⟩])) := hkeep 2 (by kernel_rfl)
  have hk3 : act.tmps.getD 3 undef = (.pointer (some ⟨w.heap.size, 0, none⟩)) := hkeep 3 (by kernel_rfl)
  have hk6 : act.tmps.getD 6 undef = (.pointer (some ⟨w.heap.size + 1, 0, none⟩)) := hkeep 6 (by kernel_rfl)
  have hk8 : act.tmps.getD 8 undef = (.pointer (some ⟨g8, 0, none⟩)) := hkeep 8 (by kernel_rfl)
  obtain ⟨tm, df⟩ := act
  obtain rfl : df = [] := hdf
  clear hkeep
  obtain ⟨f, rfl, hk1, hk2, hk3, hk6, hk8⟩ : ∃ f : Nat → Value, tm = ((List.range 84).map f).toArray ∧ f 1 = (.int .i64 (k : Int)) ∧ f 2 = (.iface 127 (.agg #[.int .i64 (at_ : Int), .string ⟨s.toArray⟩])) ∧ f 3 = (.pointer (some ⟨w.heap.size, 0, none⟩)) ∧ f 6 = (.pointer (some ⟨w.heap.size + 1, 0, none⟩)) ∧ f 8 = (.pointer (some ⟨g8, 0, none⟩)) := ⟨fun i => tm.getD i undef, arr_eta tm hsz, hk1, hk2, hk3, hk6, hk8⟩
  rewrite [show ((List.range 84).map f).toArray = #[f 0, f 1, f 2, f 3, f 4, f 5, f 6, f 7, f 8, f 9, f 10, f 11, f 12, f 13, f 14, f 15, f 16, f 17, f 18, f 19, f 20, f 21, f 22, f 23, f 24, f 25, f 26, f 27, f 28, f 29, f 30, f 31, f 32, f 33, f 34, f 35, f 36, f 37, f 38, f 39, f 40, f 41, f 42, f 43, f 44, f 45, f 46, f 47, f 48, f 49, f 50, f 51, f 52, f 53, f 54, f 55, f 56, f 57, f 58, f 59, f 60, f 61, f 62, f 63, f 64, f 65, f 66, f 67, f 68, f 69, f 70, f 71, f 72, f 73, f 74, f 75, f 76, f 77, f 78, f 79, f 80, f 81, f 82, f 83] from rfl]
  rewrite [hk1, hk2, hk3, hk6, hk8]
  dsimp only
  clear hsz hk1 hk2 hk3 hk6 hk8
  obtain ⟨o0, o1, o2, o3, o4, c6⟩ := T.c6
  have HC6 := Kept.mk c6
  have HF6 := Kept.mk T.f6
  obtain ⟨hfl, hB5, hr5⟩ := ti_end T
  have HFL := Kept.mk hfl
  have HR5 := Kept.mk hr5
  obtain ⟨_, k0, k1, k2, k3, k4⟩ := T.c8
  clear T c6 hfl hr5
  go_wp2_with (refine wpList_store5 rfl (.tmp 6) (.tmp 56) rfl (w.heap.size + 1) _ _ _ _ _ rfl rfl HC6.out HF6.out oo1 oo2 rfl rfl rfl ?_)
  exact bodyPost_ret (results2 rfl _ _ (w.heap.size + 1) _ _ _ _ _ (.int .i64 8) rfl rfl HR5.out) rfl ⟨_, rfl, HFL.out, hB5⟩

set_option maxRecDepth 100000 in
set_option maxHeartbeats 2000000 in
theorem take_pdone (F : Fl) (v : Value) (w : World) (hv : isFl F v w) (k : Nat) (at_ : Nat) (s : List UInt8) (hs : s.length ≤ 1000000) (hat : at_ + s.length ≤ (F.pages.getD k []).length) (hdead : F.dead = false) (hfuse : F.fuse < 0) (hhas : hasB F (k : Int) = true) :
    Calls Tryz.prog 103 #[v, .int .i64 (k : Int), (.iface 127 (.agg #[.int .i64 (at_ : Int), .string ⟨s.toArray⟩]))] w fun e w' => ∃ v', e = .returned (.tuple #[v', .int .i64 0]) ∧ isFlN w.heap.size { F with pages := F.pages.set k (progL (F.pages.getD k []) at_ s), wear := F.wear.set k (F.wear.getD k 0) } v' w' ∧ Below w.heap.size w w' := by
  have HDD := Kept.mk hdead
  clear hdead
  have HFU := Kept.mk hfuse
  clear hfuse
  have HHF := Kept.mk (has_facts F k hhas)
  obtain ⟨hk, h6, hwl, htl, hpg, hwr⟩ := HHF.out
  obtain ⟨was, hwas⟩ : ∃ was, F.pages[k]? = some was := ⟨_, List.getElem?_eq_getElem hk⟩
  obtain ⟨wn, hwn⟩ : ∃ wn, F.wear[k]? = some wn := ⟨_, List.getElem?_eq_getElem (by omega)⟩
  have hwm : was.length ≤ 8192 := (hpg _ (List.mem_of_getElem? hwas)).2.1
  have hn01 := hwr wn (List.mem_of_getElem? hwn)
  obtain ⟨vp, vw, rfl, hp, hq⟩ := hv
  obtain ⟨b, off, cap, hvp, hb, hc⟩ := hp.some_ (by rw [List.length_map]; omega)
  obtain ⟨b2, off2, cap2, hvw, hb2, hc2⟩ := hq.some_ (by rw [List.length_map]; omega)
  rw [List.length_map] at hvp hvw
  subst hvp hvw
  have hcell : w.cell? ⟨b, off + k, none⟩ = some (.string ⟨was.toArray⟩) := hc k _ (by simp [hwas, strC])
  have hcell2 : w.cell? ⟨b2, off2 + k, none⟩ = some (.int .i64 wn) := hc2 k _ (by simp [hwn, intC])
  have hkw : k < F.wear.length := by omega
  have hwl6 : F.wear.length ≤ 6 := by omega
  have HWL := Kept.mk hwl
  clear hwl
  have hget1 : F.pages.getD k [] = was := by simp [List.getD_eq_getElem?_getD, hwas]
  have hget2 : F.wear.getD k 0 = wn := by simp [List.getD_eq_getElem?_getD, hwn]
  try rw [hget1]
  try rw [hget2]
  have hatw : at_ + s.length ≤ was.length := by rw [← hget1]; exact hat
  have hfit : (decide (0 ≤ (at_ : Int)) && decide ((at_ : Int) ≤ (was.length : Int) - (s.length : Int))) = true := by simp; omega
  have HFIT := Kept.mk hfit
  clear hget1 hget2 hat hfit
  have HW := Kept.mk hwas
  have HWN := Kept.mk hwn
  have HC1 := Kept.mk hcell
  have HC2 := Kept.mk hcell2
  have hb0 : Below w.heap.size w ((w.alloc (.cells #[.slice (some ⟨b, off, none⟩) F.pages.length cap, .slice (some ⟨b2, off2, none⟩) F.wear.length cap2, .int .i64 F.fuse, strC F.torn, .bool F.dead] 25)).alloc (.cells #[.slice none 0 0, .slice none 0 0, .int .i64 0, .string ⟨#[]⟩, .bool false] 25)) := ((Below.refl _ _).alloc (Nat.le_refl _) _).alloc (by simp) _
  have HP := Kept.mk hp
  have HQ := Kept.mk hq
  have HB0 := Kept.mk hb0
  clear hp hq hb0 hc hc2 hcell hcell2 hwas hwn hpg hwr
  go_enter Tryz.func103, Tryz.ntmps103
  go_wp2_with fail
  refine (copied_any F _ _ ⟨.slice (some ⟨b, off, none⟩) F.pages.length cap, .slice (some ⟨b2, off2, none⟩) F.wear.length cap2, rfl, stable_cells _ _ _ _ HP.out HB0.out, stable_cells _ _ _ _ HQ.out HB0.out⟩ (by omega) (by omega)).mono ?_
  rintro e w1 ⟨vp', vw', rfl, ho1, ho2, hb1⟩
  have TI0 := Lib.hid (ti_start F w w1 (.slice (some ⟨b, off, none⟩) F.pages.length cap) (.slice (some ⟨b2, off2, none⟩) F.wear.length cap2) vp' vw' HP.out HQ.out hb1 ho1 ho2)
  have HC8 := Lib.hid (cells5_new w1 25 (.slice none 0 0) (.slice none 0 0) (.int .i64 0) (.string ⟨#[]⟩) (.bool false))
  have HF8 := Lib.hid (free5_new w1 #[.slice none 0 0, .slice none 0 0, .int .i64 0, .string ⟨#[]⟩, .bool false] 25)
  have oo1 := (ho1.one).2
  have oo2 := (ho2.one).2
  clear ho1 ho2 hb1 HB0
  go_wp2_with (refine wpList_store5 rfl (.tmp 8) (.tmp 12) rfl w1.heap.size vp' vw' (.int .i64 F.fuse) (strC F.torn) (.bool F.dead) rfl rfl HC8.out HF8.out oo1 oo2 rfl rfl rfl ?_)
  have T := TI0.out
  clear TI0 HC8 HF8
  generalize set5 (w1.alloc (.cells #[.slice none 0 0, .slice none 0 0, .int .i64 0, .string ⟨#[]⟩, .bool false] 25)) w1.heap.size vp' vw' (.int .i64 F.fuse) (strC F.torn) (.bool F.dead) = W at *
  generalize w1.heap.size = g8 at *
  refine take2_pyes _ _ _ rfl w.heap.size F _ (at_ : Int) s hs k b off F.pages.length cap was hk ((T.below.cell (p := ⟨b, off + k, none⟩) hb).trans HC1.out) (Nat.lt_of_lt_of_le hb T.below.size) (by omega) HFIT.out rfl rfl rfl T.c3 T.fl (by omega) (by omega) hhas ?_
  intro act W2 hdf hsz hkeep hn30 hbT
  have hk1 : act.tmps.getD 1 undef = (.int .i64 (k : Int)) := hkeep 1 (by kernel_rfl)
  have hk2 : act.tmps.getD 2 undef = (.iface 127 (.agg #[.int .i64 (at_ : Int), .string ⟨s.toArray⟩])) := hkeep 2 (by kernel_rfl)
  have hk3 : act.tmps.getD 3 undef = (.pointer (some ⟨w.heap.size, 0, none⟩)) := hkeep 3 (by kernel_rfl)
  have hk6 : act.tmps.getD 6 undef = (.pointer (some ⟨w.heap.size + 1, 0, none⟩)) := hkeep 6 (by kernel_rfl)
  have hk8 : act.tmps.getD 8 undef = (.pointer (some ⟨g8, 0, none⟩)) := hkeep 8 (by kernel_rfl)
  obtain ⟨tm, df⟩ := act
  obtain rfl : df = [] := hdf
  clear hkeep
  obtain ⟨f, rfl, hk1, hk2, hk3, hk6, hk8, hn30⟩ : ∃ f : Nat → Value, tm = ((List.range 84).map f).toArray ∧ f 1 = (.int .i64 (k : Int)) ∧ f 2 = (.iface 127 (.agg #[.int .i64 (at_ : Int), .string ⟨s.toArray⟩])) ∧ f 3 = (.pointer (some ⟨w.heap.size, 0, none⟩)) ∧ f 6 = (.pointer (some ⟨w.heap.size + 1, 0, none⟩)) ∧ f 8 = (.pointer (some ⟨g8, 0, none⟩)) ∧ f 30 = (.bool false) := ⟨fun i => tm.getD i undef, arr_eta tm hsz, hk1, hk2, hk3, hk6, hk8, hn30⟩
  rewrite [show ((List.range 84).map f).toArray = #[f 0, f 1, f 2, f 3, f 4, f 5, f 6, f 7, f 8, f 9, f 10, f 11, f 12, f 13, f 14, f 15, f 16, f 17, f 18, f 19, f 20, f 21, f 22, f 23, f 24, f 25, f 26, f 27, f 28, f 29, f 30, f 31, f 32, f 33, f 34, f 35, f 36, f 37, f 38, f 39, f 40, f 41, f 42, f 43, f 44, f 45, f 46, f 47, f 48, f 49, f 50, f 51, f 52, f 53, f 54, f 55, f 56, f 57, f 58, f 59, f 60, f 61, f 62, f 63, f 64, f 65, f 66, f 67, f 68, f 69, f 70, f 71, f 72, f 73, f 74, f 75, f 76, f 77, f 78, f 79, f 80, f 81, f 82, f 83] from rfl]
  rewrite [hk1, hk2, hk3, hk6, hk8, hn30]
  dsimp only
  clear hsz hk1 hk2 hk3 hk6 hk8 hn30
  replace T := T.grow hbT
  clear hbT
  have b4 : W2.cell? ⟨w.heap.size, 4, none⟩ = some (.bool false) := by rw [← HDD.out]; exact T.c3.2.2.2.2.2
  have b0 := T.c3.2.1
  have bw := (T.below.cell (p := ⟨b, off + k, none⟩) hb).trans HC1.out
  go_wp2_with fail
  refine (pPage_any at_ s was _ (by omega) (by omega) hs).mono ?_
  rintro e W3 ⟨rfl, hb3⟩
  replace T := T.grow hb3
  clear hb3 b4 b0 bw
  have b2' : W3.cell? ⟨w.heap.size, 2, none⟩ = some (.int .i64 F.fuse) := T.c3.2.2.2.1
  obtain ⟨gp, capp, _, hvp, _⟩ := T.p'.some_ (by rw [List.length_map]; omega)
  obtain ⟨gw, capw, _, hvw, _⟩ := T.q'.some_ (by rw [List.length_map]; omega)
  rw [List.length_map] at hvp hvw
  subst hvp hvw
  have hf0 : (F.fuse == 0) = false := by have := HFU.out; simp; omega
  go_wp2_with fail
  refine take11_p _ _ w _ rfl (w.heap.size + 2) g8 w.heap.size (w.heap.size + 1) g8 k gp F.pages.length capp gw F.wear.length capw b2 off2 F.wear.length cap2 F F _ (progL was at_ s) wn (at_ : Int) s hs rfl rfl rfl rfl rfl T hk hk hkw hkw hkw ((T.below.cell (p := ⟨b2, off2 + k, none⟩) hb2).trans HC2.out) hb2 hn01.1 hn01.2 ?_
  clear T b2'
  intro act W4 hdf hsz hkeep T
  have hk1 : act.tmps.getD 1 undef = (.int .i64 (k : Int)) := hkeep 1 (by kernel_rfl)
  have hk2 : act.tmps.getD 2 undef = (.iface 127 (.agg #[.int .i64 (at_ : Int), .string ⟨s.toArray⟩])) := hkeep 2 (by kernel_rfl)
  have hk3 : act.tmps.getD 3 undef = (.pointer (some ⟨w.heap.size, 0, none⟩)) := hkeep 3 (by kernel_rfl)
  have hk6 : act.tmps.getD 6 undef = (.pointer (some ⟨w.heap.size + 1, 0, none⟩)) := hkeep 6 (by kernel_rfl)
  have hk8 : act.tmps.getD 8 undef = (.pointer (some ⟨g8, 0, none⟩)) := hkeep 8 (by kernel_rfl)
  obtain ⟨tm, df⟩ := act
  obtain rfl : df = [] := hdf
  clear hkeep
  obtain ⟨f, rfl, hk1, hk2, hk3, hk6, hk8⟩ : ∃ f : Nat → Value, tm = ((List.range 84).map f).toArray ∧ f 1 = (.int .i64 (k : Int)) ∧ f 2 = (.iface 127 (.agg #[.int .i64 (at_ : Int), .string ⟨s.toArray⟩])) ∧ f 3 = (.pointer (some ⟨w.heap.size, 0, none⟩)) ∧ f 6 = (.pointer (some ⟨w.heap.size + 1, 0, none⟩)) ∧ f 8 = (.pointer (some ⟨g8, 0, none⟩)) := ⟨fun i => tm.getD i undef, arr_eta tm hsz, hk1, hk2, hk3, hk6, hk8⟩
  rewrite [show ((List.range 84).map f).toArray = #[f 0, f 1, f 2, f 3, f 4, f 5, f 6, f 7, f 8, f 9, f 10, f 11, f 12, f 13, f 14, f 15, f 16, f 17, f 18, f 19, f 20, f 21, f 22, f 23, f 24, f 25, f 26, f 27, f 28, f 29, f 30, f 31, f 32, f 33, f 34, f 35, f 36, f 37, f 38, f 39, f 40, f 41, f 42, f 43, f 44, f 45, f 46, f 47, f 48, f 49, f 50, f 51, f 52, f 53, f 54, f 55, f 56, f 57, f 58, f 59, f 60, f 61, f 62, f 63, f 64, f 65, f 66, f 67, f 68, f 69, f 70, f 71, f 72, f 73, f 74, f 75, f 76, f 77, f 78, f 79, f 80, f 81, f 82, f 83] from rfl]
  rewrite [hk1, hk2, hk3, hk6, hk8]
  dsimp only
  clear hsz hk1 hk2 hk3 hk6 hk8
  have b2' : W4.cell? ⟨w.heap.size, 2, none⟩ = some (.int .i64 F.fuse) := T.c3.2.2.2.1
  have hfd : decide (0 < F.fuse) = false := by have := HFU.out; simp; omega
  obtain ⟨o0, o1, o2, o3, o4, c6⟩ := T.c6
  have HC6 := Kept.mk c6
  have HF6 := Kept.mk T.f6
  obtain ⟨hfl, hB5, hr5⟩ := ti_end T
  have HFL := Kept.mk hfl
  have HR5 := Kept.mk hr5
  obtain ⟨_, k0, k1, k2, k3, k4⟩ := T.c8
  clear T c6 hfl hr5
  go_wp2_with (refine wpList_store5 rfl (.tmp 6) (.tmp 83) rfl (w.heap.size + 1) _ _ _ _ _ rfl rfl HC6.out HF6.out oo1 oo2 rfl rfl rfl ?_)
  exact bodyPost_ret (results2 rfl _ _ (w.heap.size + 1) _ _ _ _ _ (.int .i64 0) rfl rfl HR5.out) rfl ⟨_, rfl, HFL.out, hB5⟩

set_option maxRecDepth 100000 in
set_option maxHeartbeats 2000000 in
theorem take_pburn (F : Fl) (v : Value) (w : World) (hv : isFl F v w) (k : Nat) (at_ : Nat) (s : List UInt8) (hs : s.length ≤ 1000000) (hat : at_ + s.length ≤ (F.pages.getD k []).length) (hdead : F.dead = false) (hfuse : 0 < F.fuse) (hfz : F.fuse ≤ 9223372036854775807) (hhas : hasB F (k : Int) = true) :
    Calls Tryz.prog 103 #[v, .int .i64 (k : Int), (.iface 127 (.agg #[.int .i64 (at_ : Int), .string ⟨s.toArray⟩]))] w fun e w' => ∃ v', e = .returned (.tuple #[v', .int .i64 0]) ∧ isFlN w.heap.size { F with pages := F.pages.set k (progL (F.pages.getD k []) at_ s), wear := F.wear.set k (F.wear.getD k 0), fuse := F.fuse - 1 } v' w' ∧ Below w.heap.size w w' := by
  have HDD := Kept.mk hdead
  clear hdead
  have HFU := Kept.mk hfuse
  clear hfuse
  have HFZ := Kept.mk hfz
  clear hfz
  have HHF := Kept.mk (has_facts F k hhas)
  obtain ⟨hk, h6, hwl, htl, hpg, hwr⟩ := HHF.out
  obtain ⟨was, hwas⟩ : ∃ was, F.pages[k]? = some was := ⟨_, List.getElem?_eq_getElem hk⟩
  obtain ⟨wn, hwn⟩ : ∃ wn, F.wear[k]? = some wn := ⟨_, List.getElem?_eq_getElem (by omega)⟩
  have hwm : was.length ≤ 8192 := (hpg _ (List.mem_of_getElem? hwas)).2.1
  have hn01 := hwr wn (List.mem_of_getElem? hwn)
  obtain ⟨vp, vw, rfl, hp, hq⟩ := hv
  obtain ⟨b, off, cap, hvp, hb, hc⟩ := hp.some_ (by rw [List.length_map]; omega)
  obtain ⟨b2, off2, cap2, hvw, hb2, hc2⟩ := hq.some_ (by rw [List.length_map]; omega)
  rw [List.length_map] at hvp hvw
  subst hvp hvw
  have hcell : w.cell? ⟨b, off + k, none⟩ = some (.string ⟨was.toArray⟩) := hc k _ (by simp [hwas, strC])
  have hcell2 : w.cell? ⟨b2, off2 + k, none⟩ = some (.int .i64 wn) := hc2 k _ (by simp [hwn, intC])
  have hkw : k < F.wear.length := by omega
  have hwl6 : F.wear.length ≤ 6 := by omega
  have HWL := Kept.mk hwl
  clear hwl
  have hget1 : F.pages.getD k [] = was := by simp [List.getD_eq_getElem?_getD, hwas]
  have hget2 : F.wear.getD k 0 = wn := by simp [List.getD_eq_getElem?_getD, hwn]
  try rw [hget1]
  try rw [hget2]
  have hatw : at_ + s.length ≤ was.length := by rw [← hget1]; exact hat
  have hfit : (decide (0 ≤ (at_ : Int)) && decide ((at_ : Int) ≤ (was.length : Int) - (s.length : Int))) = true := by simp; omega
  have HFIT := Kept.mk hfit
  clear hget1 hget2 hat hfit
  have HW := Kept.mk hwas
  have HWN := Kept.mk hwn
  have HC1 := Kept.mk hcell
  have HC2 := Kept.mk hcell2
  have hb0 : Below w.heap.size w ((w.alloc (.cells #[.slice (some ⟨b, off, none⟩) F.pages.length cap, .slice (some ⟨b2, off2, none⟩) F.wear.length cap2, .int .i64 F.fuse, strC F.torn, .bool F.dead] 25)).alloc (.cells #[.slice none 0 0, .slice none 0 0, .int .i64 0, .string ⟨#[]⟩, .bool false] 25)) := ((Below.refl _ _).alloc (Nat.le_refl _) _).alloc (by simp) _
  have HP := Kept.mk hp
  have HQ := Kept.mk hq
  have HB0 := Kept.mk hb0
  clear hp hq hb0 hc hc2 hcell hcell2 hwas hwn hpg hwr
  go_enter Tryz.func103, Tryz.ntmps103
  go_wp2_with fail
  refine (copied_any F _ _ ⟨.slice (some ⟨b, off, none⟩) F.pages.length cap, .slice (some ⟨b2, off2, none⟩) F.wear.length cap2, rfl, stable_cells _ _ _ _ HP.out HB0.out, stable_cells _ _ _ _ HQ.out HB0.out⟩ (by omega) (by omega)).mono ?_
  rintro e w1 ⟨vp', vw', rfl, ho1, ho2, hb1⟩
  have TI0 := Lib.hid (ti_start F w w1 (.slice (some ⟨b, off, none⟩) F.pages.length cap) (.slice (some ⟨b2, off2, none⟩) F.wear.length cap2) vp' vw' HP.out HQ.out hb1 ho1 ho2)
  have HC8 := Lib.hid (cells5_new w1 25 (.slice none 0 0) (.slice none 0 0) (.int .i64 0) (.string ⟨#[]⟩) (.bool false))
  have HF8 := Lib.hid (free5_new w1 #[.slice none 0 0, .slice none 0 0, .int .i64 0, .string ⟨#[]⟩, .bool false] 25)
  have oo1 := (ho1.one).2
  have oo2 := (ho2.one).2
  clear ho1 ho2 hb1 HB0
  go_wp2_with (refine wpList_store5 rfl (.tmp 8) (.tmp 12) rfl w1.heap.size vp' vw' (.int .i64 F.fuse) (strC F.torn) (.bool F.dead) rfl rfl HC8.out HF8.out oo1 oo2 rfl rfl rfl ?_)
  have T := TI0.out
  clear TI0 HC8 HF8
  generalize set5 (w1.alloc (.cells #[.slice none 0 0, .slice none 0 0, .int .i64 0, .string ⟨#[]⟩, .bool false] 25)) w1.heap.size vp' vw' (.int .i64 F.fuse) (strC F.torn) (.bool F.dead) = W at *
  generalize w1.heap.size = g8 at *
  refine take2_pyes _ _ _ rfl w.heap.size F _ (at_ : Int) s hs k b off F.pages.length cap was hk ((T.below.cell (p := ⟨b, off + k, none⟩) hb).trans HC1.out) (Nat.lt_of_lt_of_le hb T.below.size) (by omega) HFIT.out rfl rfl rfl T.c3 T.fl (by omega) (by omega) hhas ?_
  intro act W2 hdf hsz hkeep hn30 hbT
  have hk1 : act.tmps.getD 1 undef = (.int .i64 (k : Int)) := hkeep 1 (by kernel_rfl)
  have hk2 : act.tmps.getD 2 undef = (.iface 127 (.agg #[.int .i64 (at_ : Int), .string ⟨s.toArray⟩])) := hkeep 2 (by kernel_rfl)
  have hk3 : act.tmps.getD 3 undef = (.pointer (some ⟨w.heap.size, 0, none⟩)) := hkeep 3 (by kernel_rfl)
  have hk6 : act.tmps.getD 6 undef = (.pointer (some ⟨w.heap.size + 1, 0, none⟩)) := hkeep 6 (by kernel_rfl)
  have hk8 : act.tmps.getD 8 undef = (.pointer (some ⟨g8, 0, none⟩)) := hkeep 8 (by kernel_rfl)
  obtain ⟨tm, df⟩ := act
  obtain rfl : df = [] := hdf
  clear hkeep
  obtain ⟨f, rfl, hk1, hk2, hk3, hk6, hk8, hn30⟩ : ∃ f : Nat → Value, tm = ((List.range 84).map f).toArray ∧ f 1 = (.int .i64 (k : Int)) ∧ f 2 = (.iface 127 (.agg #[.int .i64 (at_ : Int), .string ⟨s.toArray⟩])) ∧ f 3 = (.pointer (some ⟨w.heap.size, 0, none⟩)) ∧ f 6 = (.pointer (some ⟨w.heap.size + 1, 0, none⟩)) ∧ f 8 = (.pointer (some ⟨g8, 0, none⟩)) ∧ f 30 = (.bool false) := ⟨fun i => tm.getD i undef, arr_eta tm hsz, hk1, hk2, hk3, hk6, hk8, hn30⟩
  rewrite [show ((List.range 84).map f).toArray = #[f 0, f 1, f 2, f 3, f 4, f 5, f 6, f 7, f 8, f 9, f 10, f 11, f 12, f 13, f 14, f 15, f 16, f 17, f 18, f 19, f 20, f 21, f 22, f 23, f 24, f 25, f 26, f 27, f 28, f 29, f 30, f 31, f 32, f 33, f 34, f 35, f 36, f 37, f 38, f 39, f 40, f 41, f 42, f 43, f 44, f 45, f 46, f 47, f 48, f 49, f 50, f 51, f 52, f 53, f 54, f 55, f 56, f 57, f 58, f 59, f 60, f 61, f 62, f 63, f 64, f 65, f 66, f 67, f 68, f 69, f 70, f 71, f 72, f 73, f 74, f 75, f 76, f 77, f 78, f 79, f 80, f 81, f 82, f 83] from rfl]
  rewrite [hk1, hk2, hk3, hk6, hk8, hn30]
  dsimp only
  clear hsz hk1 hk2 hk3 hk6 hk8 hn30
  replace T := T.grow hbT
  clear hbT
  have b4 : W2.cell? ⟨w.heap.size, 4, none⟩ = some (.bool false) := by rw [← HDD.out]; exact T.c3.2.2.2.2.2
  have b0 := T.c3.2.1
  have bw := (T.below.cell (p := ⟨b, off + k, none⟩) hb).trans HC1.out
  go_wp2_with fail
  refine (pPage_any at_ s was _ (by omega) (by omega) hs).mono ?_
  rintro e W3 ⟨rfl, hb3⟩
  replace T := T.grow hb3
  clear hb3 b4 b0 bw
  have b2' : W3.cell? ⟨w.heap.size, 2, none⟩ = some (.int .i64 F.fuse) := T.c3.2.2.2.1
  obtain ⟨gp, capp, _, hvp, _⟩ := T.p'.some_ (by rw [List.length_map]; omega)
  obtain ⟨gw, capw, _, hvw, _⟩ := T.q'.some_ (by rw [List.length_map]; omega)
  rw [List.length_map] at hvp hvw
  subst hvp hvw
  have hf0 : (F.fuse == 0) = false := by have := HFU.out; simp; omega
  go_wp2_with fail
  refine take11_p _ _ w _ rfl (w.heap.size + 2) g8 w.heap.size (w.heap.size + 1) g8 k gp F.pages.length capp gw F.wear.length capw b2 off2 F.wear.length cap2 F F _ (progL was at_ s) wn (at_ : Int) s hs rfl rfl rfl rfl rfl T hk hk hkw hkw hkw ((T.below.cell (p := ⟨b2, off2 + k, none⟩) hb2).trans HC2.out) hb2 hn01.1 hn01.2 ?_
  clear T b2'
  intro act W4 hdf hsz hkeep T
  have hk1 : act.tmps.getD 1 undef = (.int .i64 (k : Int)) := hkeep 1 (by kernel_rfl)
  have hk2 : act.tmps.getD 2 undef = (.iface 127 (.agg #[.int .i64 (at_ : Int), .string ⟨s.toArray⟩])) := hkeep 2 (by kernel_rfl)
  have hk3 : act.tmps.getD 3 undef = (.pointer (some ⟨w.heap.size, 0, none⟩)) := hkeep 3 (by kernel_rfl)
  have hk6 : act.tmps.getD 6 undef = (.pointer (some ⟨w.heap.size + 1, 0, none⟩)) := hkeep 6 (by kernel_rfl)
  have hk8 : act.tmps.getD 8 undef = (.pointer (some ⟨g8, 0, none⟩)) := hkeep 8 (by kernel_rfl)
  obtain ⟨tm, df⟩ := act
  obtain rfl : df = [] := hdf
  clear hkeep
  obtain ⟨f, rfl, hk1, hk2, hk3, hk6, hk8⟩ : ∃ f : Nat → Value, tm = ((List.range 84).map f).toArray ∧ f 1 = (.int .i64 (k : Int)) ∧ f 2 = (.iface 127 (.agg #[.int .i64 (at_ : Int), .string ⟨s.toArray⟩])) ∧ f 3 = (.pointer (some ⟨w.heap.size, 0, none⟩)) ∧ f 6 = (.pointer (some ⟨w.heap.size + 1, 0, none⟩)) ∧ f 8 = (.pointer (some ⟨g8, 0, none⟩)) := ⟨fun i => tm.getD i undef, arr_eta tm hsz, hk1, hk2, hk3, hk6, hk8⟩
  rewrite [show ((List.range 84).map f).toArray = #[f 0, f 1, f 2, f 3, f 4, f 5, f 6, f 7, f 8, f 9, f 10, f 11, f 12, f 13, f 14, f 15, f 16, f 17, f 18, f 19, f 20, f 21, f 22, f 23, f 24, f 25, f 26, f 27, f 28, f 29, f 30, f 31, f 32, f 33, f 34, f 35, f 36, f 37, f 38, f 39, f 40, f 41, f 42, f 43, f 44, f 45, f 46, f 47, f 48, f 49, f 50, f 51, f 52, f 53, f 54, f 55, f 56, f 57, f 58, f 59, f 60, f 61, f 62, f 63, f 64, f 65, f 66, f 67, f 68, f 69, f 70, f 71, f 72, f 73, f 74, f 75, f 76, f 77, f 78, f 79, f 80, f 81, f 82, f 83] from rfl]
  rewrite [hk1, hk2, hk3, hk6, hk8]
  dsimp only
  clear hsz hk1 hk2 hk3 hk6 hk8
  have b2' : W4.cell? ⟨w.heap.size, 2, none⟩ = some (.int .i64 F.fuse) := T.c3.2.2.2.1
  have hfd : decide (0 < F.fuse) = true := by have := HFU.out; simp; omega
  have hfb := HFZ.out
  have hfb1 := HFU.out
  have k2' : W4.cell? ⟨g8, 2, none⟩ = some (.int .i64 F.fuse) := T.c8.2.2.2.1
  have f2' := T.f8 2
  replace T := T.burn (F.fuse - 1)
  obtain ⟨o0, o1, o2, o3, o4, c6⟩ := T.c6
  have HC6 := Kept.mk c6
  have HF6 := Kept.mk T.f6
  obtain ⟨hfl, hB5, hr5⟩ := ti_end T
  have HFL := Kept.mk hfl
  have HR5 := Kept.mk hr5
  obtain ⟨_, k0, k1, k2, k3, k4⟩ := T.c8
  clear T c6 hfl hr5
  go_wp2_with (refine wpList_store5 rfl (.tmp 6) (.tmp 83) rfl (w.heap.size + 1) _ _ _ _ _ rfl rfl HC6.out HF6.out oo1 oo2 rfl rfl rfl ?_)
  exact bodyPost_ret (results2 rfl _ _ (w.heap.size + 1) _ _ _ _ _ (.int .i64 0) rfl rfl HR5.out) rfl ⟨_, rfl, HFL.out, hB5⟩

set_option maxRecDepth 100000 in
set_option maxHeartbeats 2000000 in
theorem take_pout (F : Fl) (v : Value) (w : World) (hv : isFl F v w) (k : Nat) (at_ : Int) (s : List UInt8) (hs : s.length ≤ 1000000) (hfits : (decide (0 ≤ at_) && decide (at_ ≤ ((F.pages.getD k []).length : Int) - (s.length : Int))) = false) (hhas : hasB F (k : Int) = true) :
    Calls Tryz.prog 103 #[v, .int .i64 (k : Int), (.iface 127 (.agg #[.int .i64 at_, .string ⟨s.toArray⟩]))] w fun e w' => ∃ v', e = .returned (.tuple #[v', .int .i64 1]) ∧ isFlN w.heap.size F v' w' ∧ Below w.heap.size w w' := by
  have HHF := Kept.mk (has_facts F k hhas)
  obtain ⟨hk, h6, hwl, htl, hpg, hwr⟩ := HHF.out
  obtain ⟨was, hwas⟩ : ∃ was, F.pages[k]? = some was := ⟨_, List.getElem?_eq_getElem hk⟩
  obtain ⟨wn, hwn⟩ : ∃ wn, F.wear[k]? = some wn := ⟨_, List.getElem?_eq_getElem (by omega)⟩
  have hwm : was.length ≤ 8192 := (hpg _ (List.mem_of_getElem? hwas)).2.1
  have hn01 := hwr wn (List.mem_of_getElem? hwn)
  obtain ⟨vp, vw, rfl, hp, hq⟩ := hv
  obtain ⟨b, off, cap, hvp, hb, hc⟩ := hp.some_ (by rw [List.length_map]; omega)
  obtain ⟨b2, off2, cap2, hvw, hb2, hc2⟩ := hq.some_ (by rw [List.length_map]; omega)
  rw [List.length_map] at hvp hvw
  subst hvp hvw
  have hcell : w.cell? ⟨b, off + k, none⟩ = some (.string ⟨was.toArray⟩) := hc k _ (by simp [hwas, strC])
  have hcell2 : w.cell? ⟨b2, off2 + k, none⟩ = some (.int .i64 wn) := hc2 k _ (by simp [hwn, intC])
  have hkw : k < F.wear.length := by omega
  have hwl6 : F.wear.length ≤ 6 := by omega
  have HWL := Kept.mk hwl
  clear hwl
  have hget1 : F.pages.getD k [] = was := by simp [List.getD_eq_getElem?_getD, hwas]
  have hget2 : F.wear.getD k 0 = wn := by simp [List.getD_eq_getElem?_getD, hwn]
  try rw [hget1]
  try rw [hget2]
  have hfit : (decide (0 ≤ at_) && decide (at_ ≤ (was.length : Int) - (s.length : Int))) = false := by rw [← hget1]; exact hfits
  have HFIT := Kept.mk hfit
  clear hget1 hget2 hfits hfit
  have HW := Kept.mk hwas
  have HWN := Kept.mk hwn
  have HC1 := Kept.mk hcell
  have HC2 := Kept.mk hcell2
  have hb0 : Below w.heap.size w ((w.alloc (.cells #[.slice (some ⟨b, off, none⟩) F.pages.length cap, .slice (some ⟨b2, off2, none⟩) F.wear.length cap2, .int .i64 F.fuse, strC F.torn, .bool F.dead] 25)).alloc (.cells #[.slice none 0 0, .slice none 0 0, .int .i64 0, .string ⟨#[]⟩, .bool false] 25)) := ((Below.refl _ _).alloc (Nat.le_refl _) _).alloc (by simp) _
  have HP := Kept.mk hp
  have HQ := Kept.mk hq
  have HB0 := Kept.mk hb0
  clear hp hq hb0 hc hc2 hcell hcell2 hwas hwn hpg hwr
  go_enter Tryz.func103, Tryz.ntmps103
  go_wp2_with fail
  refine (copied_any F _ _ ⟨.slice (some ⟨b, off, none⟩) F.pages.length cap, .slice (some ⟨b2, off2, none⟩) F.wear.length cap2, rfl, stable_cells _ _ _ _ HP.out HB0.out, stable_cells _ _ _ _ HQ.out HB0.out⟩ (by omega) (by omega)).mono ?_
  rintro e w1 ⟨vp', vw', rfl, ho1, ho2, hb1⟩
  have TI0 := Lib.hid (ti_start F w w1 (.slice (some ⟨b, off, none⟩) F.pages.length cap) (.slice (some ⟨b2, off2, none⟩) F.wear.length cap2) vp' vw' HP.out HQ.out hb1 ho1 ho2)
  have HC8 := Lib.hid (cells5_new w1 25 (.slice none 0 0) (.slice none 0 0) (.int .i64 0) (.string ⟨#[]⟩) (.bool false))
  have HF8 := Lib.hid (free5_new w1 #[.slice none 0 0, .slice none 0 0, .int .i64 0, .string ⟨#[]⟩, .bool false] 25)
  have oo1 := (ho1.one).2
  have oo2 := (ho2.one).2
  clear ho1 ho2 hb1 HB0
  go_wp2_with (refine wpList_store5 rfl (.tmp 8) (.tmp 12) rfl w1.heap.size vp' vw' (.int .i64 F.fuse) (strC F.torn) (.bool F.dead) rfl rfl HC8.out HF8.out oo1 oo2 rfl rfl rfl ?_)
  have T := TI0.out
  clear TI0 HC8 HF8
  generalize set5 (w1.alloc (.cells #[.slice none 0 0, .slice none 0 0, .int .i64 0, .string ⟨#[]⟩, .bool false] 25)) w1.heap.size vp' vw' (.int .i64 F.fuse) (strC F.torn) (.bool F.dead) = W at *
  generalize w1.heap.size = g8 at *
  refine take2_pout _ _ _ rfl w.heap.size F _ at_ s hs k b off F.pages.length cap was hk ((T.below.cell (p := ⟨b, off + k, none⟩) hb).trans HC1.out) (Nat.lt_of_lt_of_le hb T.below.size) (by omega) HFIT.out rfl rfl rfl T.c3 T.fl (by omega) (by omega) hhas ?_
  intro act W2 hdf hsz hkeep hn30 hbT
  have hk1 : act.tmps.getD 1 undef = (.int .i64 (k : Int)) := hkeep 1 (by kernel_rfl)
  have hk2 : act.tmps.getD 2 undef = (.iface 127 (.agg #[.int .i64 at_, .string ⟨s.toArray⟩])) := hkeep 2 (by kernel_rfl)
  have hk3 : act.tmps.getD 3 undef = (.pointer (some ⟨w.heap.size, 0, none⟩)) := hkeep 3 (by kernel_rfl)
  have hk6 : act.tmps.getD 6 undef = (.pointer (some ⟨w.heap.size + 1, 0, none⟩)) := hkeep 6 (by kernel_rfl)
  have hk8 : act.tmps.getD 8 undef = (.pointer (some ⟨g8, 0, none⟩)) := hkeep 8 (by kernel_rfl)
  obtain ⟨tm, df⟩ := act
  obtain rfl : df = [] := hdf
  clear hkeep
  obtain ⟨f, rfl, hk1, hk2, hk3, hk6, hk8, hn30⟩ : ∃ f : Nat → Value, tm = ((List.range 84).map f).toArray ∧ f 1 = (.int .i64 (k : Int)) ∧ f 2 = (.iface 127 (.agg #[.int .i64 at_, .string ⟨s.toArray⟩])) ∧ f 3 = (.pointer (some ⟨w.heap.size, 0, none⟩)) ∧ f 6 = (.pointer (some ⟨w.heap.size + 1, 0, none⟩)) ∧ f 8 = (.pointer (some ⟨g8, 0, none⟩)) ∧ f 30 = (.bool true) := ⟨fun i => tm.getD i undef, arr_eta tm hsz, hk1, hk2, hk3, hk6, hk8, hn30⟩
  rewrite [show ((List.range 84).map f).toArray = #[f 0, f 1, f 2, f 3, f 4, f 5, f 6, f 7, f 8, f 9, f 10, f 11, f 12, f 13, f 14, f 15, f 16, f 17, f 18, f 19, f 20, f 21, f 22, f 23, f 24, f 25, f 26, f 27, f 28, f 29, f 30, f 31, f 32, f 33, f 34, f 35, f 36, f 37, f 38, f 39, f 40, f 41, f 42, f 43, f 44, f 45, f 46, f 47, f 48, f 49, f 50, f 51, f 52, f 53, f 54, f 55, f 56, f 57, f 58, f 59, f 60, f 61, f 62, f 63, f 64, f 65, f 66, f 67, f 68, f 69, f 70, f 71, f 72, f 73, f 74, f 75, f 76, f 77, f 78, f 79, f 80, f 81, f 82, f 83] from rfl]
  rewrite [hk1, hk2, hk3, hk6, hk8, hn30]
  dsimp only
  clear hsz hk1 hk2 hk3 hk6 hk8 hn30
  replace T := T.grow hbT
  clear hbT
  obtain ⟨o0, o1, o2, o3, o4, c6⟩ := T.c6
  have HC6 := Kept.mk c6
  have HF6 := Kept.mk T.f6
  obtain ⟨hfl, hB5, hr5⟩ := ti_end T
  have HFL := Kept.mk hfl
  have HR5 := Kept.mk hr5
  obtain ⟨_, k0, k1, k2, k3, k4⟩ := T.c8
  clear T c6 hfl hr5
  go_wp2_with (refine wpList_store5 rfl (.tmp 6) (.tmp 31) rfl (w.heap.size + 1) _ _ _ _ _ rfl rfl HC6.out HF6.out oo1 oo2 rfl rfl rfl ?_)
  exact bodyPost_ret (results2 rfl _ _ (w.heap.size + 1) _ _ _ _ _ (.int .i64 1) rfl rfl HR5.out) rfl ⟨_, rfl, HFL.out, hB5⟩

/-- What an erase makes of a device, and what it tells. -/
def eraseF (F : Fl) (page : Int) : Fl :=
  if hasB F page = false then F else if F.dead = true then F else
  if F.fuse = 0 then { F with pages := F.pages.set page.toNat (betweenL (F.pages.getD page.toNat []) (List.replicate (F.pages.getD page.toNat []).length 255) F.torn), dead := true } else
  { F with pages := F.pages.set page.toNat (List.replicate (F.pages.getD page.toNat []).length 255), wear := F.wear.set page.toNat (wornN (F.wear.getD page.toNat 0)), fuse := if 0 < F.fuse then F.fuse - 1 else F.fuse }
def eraseE (F : Fl) (page : Int) : Int := if hasB F page = false then 1 else if F.dead = true then 8 else if F.fuse = 0 then 8 else 0
/-- What a program makes of it. -/
def fitsB (F : Fl) (page at_ : Int) (s : List UInt8) : Bool := decide (0 ≤ at_) && decide (at_ ≤ ((F.pages.getD page.toNat []).length : Int) - (s.length : Int))
def progF (F : Fl) (page at_ : Int) (s : List UInt8) : Fl :=
  if hasB F page = false then F else if fitsB F page at_ s = false then F else if F.dead = true then F else
  if F.fuse = 0 then { F with pages := F.pages.set page.toNat (betweenL (F.pages.getD page.toNat []) (progL (F.pages.getD page.toNat []) at_.toNat s) F.torn), dead := true } else
  { F with pages := F.pages.set page.toNat (progL (F.pages.getD page.toNat []) at_.toNat s), wear := F.wear.set page.toNat (F.wear.getD page.toNat 0), fuse := if 0 < F.fuse then F.fuse - 1 else F.fuse }
def progE (F : Fl) (page at_ : Int) (s : List UInt8) : Int := if hasB F page = false then 1 else if fitsB F page at_ s = false then 1 else if F.dead = true then 8 else if F.fuse = 0 then 8 else 0
theorem has_nat {F : Fl} {page : Int} (h : hasB F page = true) : ∃ k : Nat, page = (k : Int) := by
  unfold hasB at h
  simp only [Bool.and_eq_true, decide_eq_true_eq] at h
  exact Int.eq_ofNat_of_zero_le h.1.2
theorem take_p (F : Fl) (page at_ : Int) (s : List UInt8) (v : Value) (w : World) (hv : isFl F v w) (hs : s.length ≤ 1000000) (h1 : F.pages.length ≤ 1000000) (h2 : F.wear.length ≤ 1000000) (hfz : F.fuse ≤ 9223372036854775807) :
    Calls Tryz.prog 103 #[v, .int .i64 page, .iface 127 (.agg #[.int .i64 at_, .string ⟨s.toArray⟩])] w fun e w' => ∃ v', e = .returned (.tuple #[v', .int .i64 (progE F page at_ s)]) ∧ isFlN w.heap.size (progF F page at_ s) v' w' ∧ Below w.heap.size w w' := by
  cases hh : hasB F page with
  | false =>
    rw [show progE F page at_ s = 1 by simp [progE, hh], show progF F page at_ s = F by simp [progF, hh]]
    exact take_pno F v w hv h1 h2 at_ s hs page hh
  | true =>
    obtain ⟨k, rfl⟩ := has_nat hh
    cases hf : fitsB F k at_ s with
    | false =>
      rw [show progE F k at_ s = 1 by simp [progE, hh, hf], show progF F k at_ s = F by simp [progF, hh, hf]]
      unfold fitsB at hf
      rw [Int.toNat_natCast] at hf
      exact take_pout F v w hv k at_ s hs hf hh
    | true =>
      have hf' := hf
      unfold fitsB at hf'
      rw [Int.toNat_natCast] at hf'
      simp only [Bool.and_eq_true, decide_eq_true_eq] at hf'
      obtain ⟨n, rfl⟩ := Int.eq_ofNat_of_zero_le hf'.1
      cases hd : F.dead with
      | true =>
        rw [show progE F k n s = 8 by simp [progE, hh, hd, hf], show progF F k n s = F by simp [progF, hh, hd, hf]]
        exact take_pdead F v w hv k n s hs (by omega) hd hh
      | false =>
        by_cases h0 : F.fuse = 0
        · rw [show progE F k n s = 8 by simp [progE, hh, hd, h0, hf]]
          unfold progF
          rw [if_neg (by simp [hh]), if_neg (by simp [hf]), if_neg (by simp [hd]), if_pos h0, Int.toNat_natCast, Int.toNat_natCast]
          exact take_ptorn F v w hv k n s hs (by omega) hd h0 hh
        · rw [show progE F k n s = 0 by simp [progE, hh, hd, h0, hf]]
          unfold progF
          rw [if_neg (by simp [hh]), if_neg (by simp [hf]), if_neg (by simp [hd]), if_neg h0, Int.toNat_natCast, Int.toNat_natCast]
          by_cases hp : 0 < F.fuse
          · rw [if_pos hp]
            exact take_pburn F v w hv k n s hs (by omega) hd hp hfz hh
          · rw [if_neg hp]
            exact take_pdone F v w hv k n s hs (by omega) hd (by omega) hh
end Go.Proofs.YtpjafjnokgeifaaGreatDoor
end
section
namespace Go.Proofs.YtpjafjnokgeifaaGreatDoor
open Go.RowKit
set_option linter.unusedVariables false
set_option linter.unusedSimpArgs false
attribute [local irreducible] set5

/-- Where a result is laid down that was told by a callee. -/
theorem told {w W1 w1 : World} {B g : Nat} {G : Fl} {vp' vw' o0 o1 o2 o3 o4 : Value} (hB : g < B) (hW : W1.heap.size = B) (hbw : Below w.heap.size w W1) (hg : w.heap.size ≤ g) (hc : Cells5 W1 g o0 o1 o2 o3 o4) (hf : Free5 W1 g) (hb1 : Below W1.heap.size W1 w1)
    (hp : isBtw B w1.heap.size 9 (G.pages.map strC) vp' w1) (hq : isBtw B w1.heap.size 3 (G.wear.map intC) vw' w1) :
    Kept (Cells5 w1 g o0 o1 o2 o3 o4) ∧ Kept (Free5 w1 g) ∧ Kept (Cells5 (set5 w1 g vp' vw' (.int .i64 G.fuse) (strC G.torn) (.bool G.dead)) g vp' vw' (.int .i64 G.fuse) (strC G.torn) (.bool G.dead)) ∧
      Kept (isFlN w.heap.size G (.agg #[vp', vw', .int .i64 G.fuse, strC G.torn, .bool G.dead]) (set5 w1 g vp' vw' (.int .i64 G.fuse) (strC G.torn) (.bool G.dead))) ∧ Kept (Below w.heap.size w (set5 w1 g vp' vw' (.int .i64 G.fuse) (strC G.torn) (.bool G.dead))) := by
  have hc1 := hc.keep hb1 (by omega)
  refine ⟨⟨hc1⟩, ⟨hf.keep hb1 (by omega)⟩, ⟨hc1.set5_ _ _ _ _ _⟩, ⟨⟨vp', vw', rfl, ?_, ?_⟩⟩, ⟨below_set5 (hbw.trans (hb1.mono hbw.size)) hg _ _ _ _ _⟩⟩
  · have := (hp.out5 (g := g) (.inl hB) vp' vw' (.int .i64 G.fuse) (strC G.torn) (.bool G.dead)).weak (lo' := w.heap.size) (by omega) (Nat.le_refl _)
    rwa [← size_set5 w1 g vp' vw' (.int .i64 G.fuse) (strC G.torn) (.bool G.dead)] at this
  · have := (hq.out5 (g := g) (.inl hB) vp' vw' (.int .i64 G.fuse) (strC G.torn) (.bool G.dead)).weak (lo' := w.heap.size) (by omega) (Nat.le_refl _)
    rwa [← size_set5 w1 g vp' vw' (.int .i64 G.fuse) (strC G.torn) (.bool G.dead)] at this

set_option maxRecDepth 100000 in
set_option maxHeartbeats 1000000 in
theorem program_any (F : Fl) (page at_ : Int) (s : List UInt8) (v : Value) (w : World) (hv : isFl F v w) (hs : s.length ≤ 1000000) (h1 : F.pages.length ≤ 1000000) (h2 : F.wear.length ≤ 1000000) (hfz : F.fuse ≤ 9223372036854775807) :
    Calls Tryz.prog 50 #[v, .int .i64 page, .int .i64 at_, .string ⟨s.toArray⟩] w fun e w' => ∃ v', e = .returned (.tuple #[v', .int .i64 (progE F page at_ s)]) ∧ isFlN w.heap.size (progF F page at_ s) v' w' ∧ Below w.heap.size w w' := by
  obtain ⟨G, hG⟩ : ∃ G, G = progF F page at_ s := ⟨_, rfl⟩
  obtain ⟨E, hE⟩ : ∃ E, E = progE F page at_ s := ⟨_, rfl⟩
  rw [← hG, ← hE]
  have HG := Kept.mk hG
  have HE := Kept.mk hE
  clear hG hE
  obtain ⟨vp, vw, rfl, hp, hq⟩ := hv
  have hb0 : Below w.heap.size w ((w.alloc (.cells #[vp, vw, .int .i64 F.fuse, strC F.torn, .bool F.dead] 25)).alloc (.cells #[.slice none 0 0, .slice none 0 0, .int .i64 0, .string ⟨#[]⟩, .bool false] 25)) := ((Below.refl _ _).alloc (Nat.le_refl _) _).alloc (by simp) _
  have HP := Kept.mk hp
  have HQ := Kept.mk hq
  have HB0 := Kept.mk hb0
  have HFZ := Kept.mk hfz
  clear hp hq hb0 hfz
  go_enter Tryz.func50, Tryz.ntmps50
  go_wp2_with fail
  refine (take_p F page at_ s _ _ ⟨vp, vw, rfl, stable_cells _ _ _ _ HP.out HB0.out, stable_cells _ _ _ _ HQ.out HB0.out⟩ hs h1 h2 HFZ.out).mono ?_
  rintro e w1 ⟨v', rfl, hf', hb1⟩
  rw [← HG.out] at hf'
  rewrite [← HE.out]
  obtain ⟨vp', vw', rfl, hp', hq'⟩ := hf'
  have oo1 := hp'.one
  have oo2 := hq'.one
  obtain ⟨K1, K2, K3, K4, K5⟩ := told (g := w.heap.size + 1) (by simp) rfl HB0.out (by omega) (cells5_at (w.alloc (.cells #[vp, vw, .int .i64 F.fuse, strC F.torn, .bool F.dead] 25)) 25 (.slice none 0 0) (.slice none 0 0) (.int .i64 0) (.string ⟨#[]⟩) (.bool false) (w.heap.size + 1) (by simp)) (free5_at (w.alloc (.cells #[vp, vw, .int .i64 F.fuse, strC F.torn, .bool F.dead] 25)) #[.slice none 0 0, .slice none 0 0, .int .i64 0, .string ⟨#[]⟩, .bool false] 25 (w.heap.size + 1) (by simp)) hb1 hp' hq'
  clear hp' hq' hb1
  go_wp2_with (refine wpList_store5 rfl (.tmp 8) (.tmp 17) rfl (w.heap.size + 1) vp' vw' (.int .i64 G.fuse) (strC G.torn) (.bool G.dead) rfl rfl K1.out K2.out oo1 oo2 rfl rfl rfl ?_)
  exact bodyPost_ret (results2 rfl _ _ (w.heap.size + 1) _ _ _ _ _ (.int .i64 E) rfl rfl K3.out) rfl ⟨_, rfl, K4.out, K5.out⟩
end Go.Proofs.YtpjafjnokgeifaaGreatDoor
end
section
namespace Go.Proofs.YtpjafjnokgeifaaGreatDoor
open Go.RowKit
set_option linter.unusedVariables false
set_option linter.unusedSimpArgs false


def sameB (F G : Fl) : Bool := decide (F.pages = G.pages) && decide (F.wear = G.wear) && (F.fuse == G.fuse) && (F.torn == G.torn) && (F.dead == G.dead)
end Go.Proofs.YtpjafjnokgeifaaGreatDoor
end
section
namespace Go.Proofs.YtpjafjnokgeifaaGreatDoor
open Go.RowKit
set_option linter.unusedVariables false
set_option linter.unusedSimpArgs false
attribute [local irreducible] set5

section
variable {w0 W : World} {lo hi g3 g6 g8 : Nat} {F G : Fl} {vp vw vp' vw' : Value}
theorem TI.tear (h : TI w0 W lo hi g3 g6 g8 F G vp vw vp' vw') (t : List UInt8) : TI w0 (W.setCell ⟨g8, 3, none⟩ (strC t)) lo hi g3 g6 g8 F { G with torn := t } vp vw vp' vw' := by
  have o3 := h.o3
  have o6 := h.o6
  have o8 := h.o8
  exact {
    below := h.below.setCell (p := ⟨g8, 3, none⟩) (by show _ ≤ g8; omega) _
    o3 := o3
    o6 := o6
    o36 := h.o36
    o8 := o8
    c3 := h.c3.apart _ (by omega)
    c6 := by obtain ⟨o0, o1, o2, o3', o4, hc⟩ := h.c6; exact ⟨o0, o1, o2, o3', o4, hc.apart _ (by omega)⟩
    f6 := h.f6.set _ _
    c8 := h.c8.set3 _
    f8 := h.f8.set _ _
    p := h.p
    q := h.q
    p' := h.p'.out (p := ⟨g8, 3, none⟩) (.inr (by show _ ≤ g8; omega)) _
    q' := h.q'.out (p := ⟨g8, 3, none⟩) (.inr (by show _ ≤ g8; omega)) _ }
end
def wakeB (F : Fl) (torn : List UInt8) : Bool := mayB F && decide ((torn.length : Int) ≤ 64)
def wakeF (F : Fl) (fuse : Int) (torn : List UInt8) : Fl := if wakeB F torn = true then { F with fuse := fuse, torn := torn, dead := false } else F
def wakeE (F : Fl) (torn : List UInt8) : Int := if wakeB F torn = true then 0 else 1

end Go.Proofs.YtpjafjnokgeifaaGreatDoor
end
