/- Entries: the document's words, in numbers and lists, and what holds of them. Nothing of the program. -/
import Derived.Test.YtebjljiklacolaaVaMath
import Derived.Test.YtebjljiklacolaaOctNum
namespace Go.Proofs.Ytebjljiklacolaa
set_option linter.unusedVariables false
set_option linter.unusedSimpArgs false

structure En where
  key : List UInt8
  val : Va
  deriving DecidableEq

def zeroE : En := ⟨[], zeroV⟩
def zerosL (n : Nat) : List UInt8 := List.replicate n 0
def bitN (b : Bool) : Nat := if b = true then 1 else 0
def numsL : List Int → List UInt8
  | [] => []
  | n :: r => putL n.toNat 2 ++ numsL r
def dataL (v : Va) : List UInt8 :=
  if v.kind = 1 then putL v.time.toNat 4 ++ (putL v.node.toNat 1 ++ (putL (bitN v.dead) 1 ++ (putL v.text.length 1 ++ v.text)))
  else if v.kind = 2 then numsL v.plus ++ numsL v.minus
  else putL (v.flags.toNat % 4294967296) 4 ++ putL (v.flags.toNat / 4294967296) 4
def okE (E : En) : Bool := decide (1 ≤ E.key.length) && decide (E.key.length ≤ 8) && okV E.val
def headL (E : En) : List UInt8 := putL E.val.kind.toNat 1 ++ (putL E.key.length 1 ++ (E.key ++ zerosL (8 - E.key.length)))
def putEn (E : En) : List UInt8 := headL E ++ (dataL E.val ++ zerosL (32 - (dataL E.val).length))
def putF (E : En) : List UInt8 := if okE E = true then putEn E else []
def chkE (E : En) : Int := if okE E = true then 0 else 2
def lessE (a b : En) : Bool := if a.val.kind = b.val.kind then Op.bytesLess a.key b.key else decide (a.val.kind < b.val.kind)
def nameB (a b : En) : Bool := decide (a.val.kind = b.val.kind) && decide (a.key = b.key)
def joinEE (a b : En) : Int := if (okE a && okE b) = true then (if nameB a b = true then 0 else 3) else 2
def joinEF (a b : En) : En := if joinEE a b = 0 then ⟨a.key, joinV a.val b.val⟩ else zeroE

theorem length_zeros (n : Nat) : (zerosL n).length = n := by simp [zerosL]
theorem zeros_add (a b : Nat) : zerosL a ++ zerosL b = zerosL (a + b) := by simp [zerosL, List.replicate_append_replicate]
theorem length_nums : ∀ l : List Int, (numsL l).length = 2 * l.length
  | [] => rfl
  | n :: r => by rw [numsL, List.length_append, length_putL, length_nums r, List.length_cons]; omega

/-! ### Bytes that are read -/
def numsOf : Nat → List UInt8 → List Int
  | 0, _ => []
  | n + 1, s => (getN (s.take 2) : Int) :: numsOf n (s.drop 2)
def restOf : Nat → List UInt8 → List UInt8
  | 0, s => s
  | n + 1, s => restOf n (s.drop 2)
def regV (s : List UInt8) : Va := ⟨1, (getN (s.take 4) : Int), (getN ((s.drop 4).take 1) : Int), decide (getN (((s.drop 4).drop 1).take 1) = 1),
  ((((s.drop 4).drop 1).drop 1).drop 1).take (getN ((((s.drop 4).drop 1).drop 1).take 1)), [], [], 0⟩
def padOk (z room : Nat) (s : List UInt8) : Prop := z ≤ room ∧ (s.drop z).take (room - z) = zerosL (room - z)
instance (z room : Nat) (s : List UInt8) : Decidable (padOk z room s) := by unfold padOk; infer_instance
def regZ (s : List UInt8) : Nat := getN ((((s.drop 4).drop 1).drop 1).take 1)
def regS (s : List UInt8) : List UInt8 := (((s.drop 4).drop 1).drop 1).drop 1
def regOk (s : List UInt8) : Prop := getN (((s.drop 4).drop 1).take 1) ≤ 1 ∧ padOk (regZ s) 8 (regS s)
instance (s : List UInt8) : Decidable (regOk s) := by unfold regOk; infer_instance
def regR (s : List UInt8) : List UInt8 := ((regS s).drop (regZ s)).drop (8 - regZ s)
def countV (s : List UInt8) : Va := ⟨2, 0, 0, false, [], numsOf 8 s, numsOf 8 (restOf 8 s), 0⟩
def flagsV (s : List UInt8) : Va := ⟨3, 0, 0, false, [], [], [], UInt64.ofNat (getN (s.take 4) + 4294967296 * getN ((s.drop 4).take 4))⟩
def rdVal (kind : Nat) (s : List UInt8) : Option (Va × List UInt8) :=
  if kind = 1 then (if regOk s then some (regV s, regR s) else none)
  else if kind = 2 then some (countV s, restOf 8 (restOf 8 s))
  else if kind = 3 then some (flagsV s, (s.drop 4).drop 4)
  else none
def keyZ (s : List UInt8) : Nat := getN ((s.drop 1).take 1)
def keyS (s : List UInt8) : List UInt8 := (s.drop 1).drop 1
def keyOf (s : List UInt8) : List UInt8 := (keyS s).take (keyZ s)
def valS (s : List UInt8) : List UInt8 := ((keyS s).drop (keyZ s)).drop (8 - keyZ s)
def rdEn (s : List UInt8) : Option En :=
  if s.length = 42 ∧ padOk (keyZ s) 8 (keyS s) then
    match rdVal (getN (s.take 1)) (valS s) with
    | none => none
    | some (v, r) => if r = zerosL r.length ∧ okE ⟨keyOf s, v⟩ = true then some ⟨keyOf s, v⟩ else none
  else none

theorem num_cut (n : Nat) (s : List UInt8) (h : n ≤ s.length) : s = putL (getN (s.take n)) n ++ s.drop n := by
  have := putL_getN (s.take n)
  rw [List.length_take, Nat.min_eq_left h] at this
  rw [this, List.take_append_drop]
theorem pad_cut {z room : Nat} {s : List UInt8} (h : padOk z room s) : s = s.take z ++ (zerosL (room - z) ++ (s.drop z).drop (room - z)) := by
  rw [← h.2, List.take_append_drop, List.take_append_drop]
theorem take_put (n w : Nat) (t : List UInt8) : (putL n w ++ t).take w = putL n w := by
  rw [List.take_append_of_le_length (by rw [length_putL]; exact Nat.le_refl _), List.take_of_length_le (by rw [length_putL]; exact Nat.le_refl _)]
theorem drop_put (n w : Nat) (t : List UInt8) : (putL n w ++ t).drop w = t := by
  exact List.drop_left' (length_putL w n)
theorem get_put (n w : Nat) (t : List UInt8) (h : n < 256 ^ w) : getN ((putL n w ++ t).take w) = n := by rw [take_put, getN_putL w n h]
theorem nums_cut : ∀ (n : Nat) (s : List UInt8), 2 * n ≤ s.length → s = numsL (numsOf n s) ++ restOf n s
  | 0, s, _ => rfl
  | n + 1, s, h => by
    have h2 := nums_cut n (s.drop 2) (by rw [List.length_drop]; omega)
    rw [numsOf, numsL, restOf, Int.toNat_natCast, List.append_assoc, ← h2]
    exact num_cut 2 s (by omega)
theorem nums_put : ∀ (l : List Int) (t : List UInt8), l.all okNum = true → numsOf l.length (numsL l ++ t) = l ∧ restOf l.length (numsL l ++ t) = t
  | [], t, _ => ⟨rfl, rfl⟩
  | n :: r, t, h => by
    rw [List.all_cons, Bool.and_eq_true] at h
    have h1 := h.1
    simp only [okNum, Bool.and_eq_true, decide_eq_true_eq] at h1
    obtain ⟨e1, e2⟩ := nums_put r t h.2
    rw [List.length_cons, numsOf, restOf, numsL, List.append_assoc, drop_put, e1, e2, get_put _ _ _ (by omega)]
    exact ⟨by rw [Int.toNat_of_nonneg h1.1], rfl⟩
theorem length_rest : ∀ (n : Nat) (s : List UInt8), (restOf n s).length = s.length - 2 * n
  | 0, s => by simp [restOf]
  | n + 1, s => by rw [restOf, length_rest n, List.length_drop]; omega
theorem length_numsOf : ∀ (n : Nat) (s : List UInt8), (numsOf n s).length = n
  | 0, s => rfl
  | n + 1, s => by rw [numsOf, List.length_cons, length_numsOf]

theorem data_reg {v : Va} (h : v.kind = 1) : dataL v = putL v.time.toNat 4 ++ (putL v.node.toNat 1 ++ (putL (bitN v.dead) 1 ++ (putL v.text.length 1 ++ v.text))) := by rw [dataL, if_pos h]
theorem data_count {v : Va} (h : v.kind = 2) : dataL v = numsL v.plus ++ numsL v.minus := by rw [dataL, if_neg (by rw [h]; decide), if_pos h]
theorem data_flags {v : Va} (h : v.kind = 3) : dataL v = putL (v.flags.toNat % 4294967296) 4 ++ putL (v.flags.toNat / 4294967296) 4 := by rw [dataL, if_neg (by rw [h]; decide), if_neg (by rw [h]; decide)]

/-- What is read is put just so. -/
theorem val_put {k : Nat} {s r : List UInt8} {v : Va} (h : rdVal k s = some (v, r)) (hl : 32 ≤ s.length) : (∃ a, s = dataL v ++ (zerosL a ++ r)) ∧ v.kind = k := by
  unfold rdVal at h
  split at h
  · rename_i hk
    split at h
    · rename_i hr
      injection h with h
      injection h with h1 h2
      subst h1 h2
      refine ⟨⟨8 - regZ s, ?_⟩, by rw [hk]; rfl⟩
      rw [data_reg rfl]
      obtain ⟨hd, hp⟩ := hr
      have e5 : regS s = (regV s).text ++ (zerosL (8 - regZ s) ++ regR s) := pad_cut hp
      have hz : (regV s).text.length = regZ s := by
        show ((regS s).take (regZ s)).length = _
        rw [List.length_take]
        have := hp.1
        have : (regS s).length = s.length - 7 := by simp only [regS, List.length_drop]; omega
        omega
      have e4 : ((s.drop 4).drop 1).drop 1 = putL (regV s).text.length 1 ++ regS s := by
        rw [hz]; exact num_cut 1 _ (by simp; omega)
      have e3 : (s.drop 4).drop 1 = putL (bitN (regV s).dead) 1 ++ ((s.drop 4).drop 1).drop 1 := by
        have : bitN (regV s).dead = getN (((s.drop 4).drop 1).take 1) := by
          show bitN (decide (getN (((s.drop 4).drop 1).take 1) = 1)) = _
          unfold bitN
          by_cases h1 : getN (((s.drop 4).drop 1).take 1) = 1
          · rw [h1]; rfl
          · rw [if_neg (by simpa using h1)]; omega
        rw [this]; exact num_cut 1 _ (by simp; omega)
      have e2 : s.drop 4 = putL (regV s).node.toNat 1 ++ (s.drop 4).drop 1 := by
        show _ = putL (Int.toNat (getN ((s.drop 4).take 1) : Int)) 1 ++ _
        rw [Int.toNat_natCast]; exact num_cut 1 _ (by simp; omega)
      have e1 : s = putL (regV s).time.toNat 4 ++ s.drop 4 := by
        show _ = putL (Int.toNat (getN (s.take 4) : Int)) 4 ++ _
        rw [Int.toNat_natCast]; exact num_cut 4 _ (by omega)
      simp only [List.append_assoc]
      rw [← e5, ← e4, ← e3, ← e2]
      exact e1
    · cases h
  · split at h
    · rename_i hk
      injection h with h
      injection h with h1 h2
      subst h1 h2
      refine ⟨⟨0, ?_⟩, by rw [hk]; rfl⟩
      rw [data_count rfl]
      show s = (numsL (numsOf 8 s) ++ numsL (numsOf 8 (restOf 8 s))) ++ ([] ++ restOf 8 (restOf 8 s))
      rw [List.nil_append, List.append_assoc, ← nums_cut 8 (restOf 8 s) (by rw [length_rest]; omega)]
      exact nums_cut 8 s (by omega)
    · split at h
      · rename_i hk
        injection h with h
        injection h with h1 h2
        subst h1 h2
        refine ⟨⟨0, ?_⟩, by rw [hk]; rfl⟩
        rw [data_flags rfl]
        have g1 : getN (s.take 4) < 4294967296 := by
          have := getN_lt (s.take 4); rw [List.length_take, Nat.min_eq_left (by omega)] at this; exact this
        have g2 : getN ((s.drop 4).take 4) < 4294967296 := by
          have := getN_lt ((s.drop 4).take 4); rw [List.length_take, Nat.min_eq_left (by rw [List.length_drop]; omega)] at this; exact this
        have e : (flagsV s).flags.toNat = getN (s.take 4) + 4294967296 * getN ((s.drop 4).take 4) := by
          show (UInt64.ofNat _).toNat = _
          rw [UInt64.toNat_ofNat']
          exact Nat.mod_eq_of_lt (by omega)
        rw [e, show (getN (s.take 4) + 4294967296 * getN ((s.drop 4).take 4)) % 4294967296 = getN (s.take 4) by omega, show (getN (s.take 4) + 4294967296 * getN ((s.drop 4).take 4)) / 4294967296 = getN ((s.drop 4).take 4) by omega, List.append_assoc]
        show s = putL _ 4 ++ (putL _ 4 ++ ([] ++ (s.drop 4).drop 4))
        rw [List.nil_append, ← num_cut 4 (s.drop 4) (by rw [List.length_drop]; omega)]
        exact num_cut 4 s (by omega)
      · cases h

theorem length_data_le {v : Va} (h : okV v = true) : (dataL v).length ≤ 32 ∧ (v.kind = 1 → (dataL v).length = 7 + v.text.length ∧ v.text.length ≤ 8) ∧ (v.kind = 2 → (dataL v).length = 32) := by
  unfold okV kindN at h
  split at h
  · rename_i hk
    rw [data_reg hk]
    split at h
    · rename_i hi
      simp only [inReg, Bool.and_eq_true, decide_eq_true_eq] at hi
      have := hi.1.1.2
      simp only [List.length_append, length_putL]
      exact ⟨by omega, fun _ => ⟨by omega, by omega⟩, fun h2 => by rw [hk] at h2; exact absurd h2 (by decide)⟩
    · simp at h
  · split at h
    · rename_i hk
      rw [data_count hk]
      split at h
      · rename_i hi
        simp only [inCount, okRow, Bool.and_eq_true, decide_eq_true_eq] at hi
        have h1 := hi.1.1.1
        have h2 := hi.1.2.1
        simp only [List.length_append, length_nums, h1, h2]
        exact ⟨by omega, fun h1 => by rw [hk] at h1; exact absurd h1 (by decide), fun _ => trivial⟩
      · simp at h
    · split at h
      · rename_i h1 h2 hk
        rw [data_flags hk]
        simp only [List.length_append, length_putL]
        exact ⟨by omega, fun h => absurd h h1, fun h => absurd h h2⟩
      · simp at h

/-- What is put is read again. -/
theorem val_get {v : Va} (h : okV v = true) (n : Nat) (hn : (dataL v).length + n = 32) : ∃ m, rdVal v.kind.toNat (dataL v ++ zerosL n) = some (v, zerosL m) := by
  have hL := length_data_le h
  unfold okV kindN at h
  split at h
  · rename_i hk
    have hlen := (hL.2.1 hk).1
    have h8 := (hL.2.1 hk).2
    split at h
    · rename_i hi
      simp only [inReg, Bool.and_eq_true, decide_eq_true_eq] at hi
      obtain ⟨⟨⟨⟨ht, hn'⟩, _⟩, _⟩, ho⟩ := hi
      have e1 : getN ((dataL v ++ zerosL n).take 4) = v.time.toNat := by rw [data_reg hk, List.append_assoc, get_put _ _ _ (by omega)]
      have s1 : (dataL v ++ zerosL n).drop 4 = putL v.node.toNat 1 ++ (putL (bitN v.dead) 1 ++ (putL v.text.length 1 ++ (v.text ++ zerosL n))) := by rw [data_reg hk, List.append_assoc, drop_put]; simp only [List.append_assoc]
      have e2 : getN (((dataL v ++ zerosL n).drop 4).take 1) = v.node.toNat := by rw [s1, get_put _ _ _ (by omega)]
      have s2 : ((dataL v ++ zerosL n).drop 4).drop 1 = putL (bitN v.dead) 1 ++ (putL v.text.length 1 ++ (v.text ++ zerosL n)) := by rw [s1, drop_put]
      have e3 : getN ((((dataL v ++ zerosL n).drop 4).drop 1).take 1) = bitN v.dead := by rw [s2, get_put _ _ _ (by unfold bitN; split <;> omega)]
      have s3 : (((dataL v ++ zerosL n).drop 4).drop 1).drop 1 = putL v.text.length 1 ++ (v.text ++ zerosL n) := by rw [s2, drop_put]
      have e4 : regZ (dataL v ++ zerosL n) = v.text.length := by unfold regZ; rw [s3, get_put _ _ _ (by omega)]
      have s4 : regS (dataL v ++ zerosL n) = v.text ++ (zerosL (8 - v.text.length) ++ zerosL (n - (8 - v.text.length))) := by
        unfold regS; rw [s3, drop_put, zeros_add, show 8 - v.text.length + (n - (8 - v.text.length)) = n by omega]
      have ok : regOk (dataL v ++ zerosL n) := by
        refine ⟨by rw [e3]; unfold bitN; split <;> omega, ?_⟩
        rw [e4, s4]
        refine ⟨h8, ?_⟩
        rw [List.drop_left, List.take_append_of_le_length (by rw [length_zeros]; exact Nat.le_refl _), List.take_of_length_le (by rw [length_zeros]; exact Nat.le_refl _)]
      have hr : regR (dataL v ++ zerosL n) = zerosL (n - (8 - v.text.length)) := by
        unfold regR
        rw [e4, s4, List.drop_left]
        have := length_zeros (8 - v.text.length)
        conv => lhs; rw [← this]
        rw [this]
        conv => lhs; arg 1; rw [← this]
        exact List.drop_left
      have hv : regV (dataL v ++ zerosL n) = v := by
        have : regV (dataL v ++ zerosL n) = onlyReg v := by
          unfold regV onlyReg
          have ht' : (regS (dataL v ++ zerosL n)).take (regZ (dataL v ++ zerosL n)) = v.text := by rw [e4, s4, List.take_left]
          unfold regS regZ at ht'
          rw [e1, e2, e3, ht', Int.toNat_of_nonneg ht.1, Int.toNat_of_nonneg hn'.1]
          congr 1
          unfold bitN; cases v.dead <;> simp
        rw [this, ← ho]
      refine ⟨n - (8 - v.text.length), ?_⟩
      unfold rdVal
      rw [hk, if_pos (show Int.toNat 1 = 1 from rfl), if_pos ok, hv, hr]
    · simp at h
  · split at h
    · rename_i hk
      split at h
      · rename_i hi
        simp only [inCount, okRow, Bool.and_eq_true, decide_eq_true_eq] at hi
        obtain ⟨⟨⟨l1, a1⟩, ⟨l2, a2⟩⟩, ho⟩ := hi
        have hlen := hL.2.2 hk
        obtain ⟨p1, p2⟩ := nums_put v.plus (numsL v.minus ++ zerosL n) a1
        obtain ⟨m1, m2⟩ := nums_put v.minus (zerosL n) a2
        rw [l1] at p1 p2
        rw [l2] at m1 m2
        refine ⟨n, ?_⟩
        unfold rdVal
        rw [hk, if_neg (by decide), if_pos (show Int.toNat 2 = 2 from rfl), data_count hk, List.append_assoc]
        unfold countV
        rw [p1, p2, m1, m2]
        exact congrArg (fun x => some (x, zerosL n)) ho.symm
      · simp at h
    · split at h
      · rename_i hk
        split at h
        · rename_i ho
          simp only [decide_eq_true_eq] at ho
          refine ⟨n, ?_⟩
          have hf : v.flags.toNat < 18446744073709551616 := v.flags.toNat_lt
          unfold rdVal
          rw [hk, if_neg (by decide), if_neg (by decide), if_pos (show Int.toNat 3 = 3 from rfl), data_flags hk, List.append_assoc]
          unfold flagsV
          rw [get_put _ _ _ (by omega), drop_put, get_put _ _ _ (by omega), drop_put, show v.flags.toNat % 4294967296 + 4294967296 * (v.flags.toNat / 4294967296) = v.flags.toNat by omega, UInt64.ofNat_toNat]
          exact congrArg (fun x => some (x, zerosL n)) ho.symm
        · simp at h
      · simp at h

theorem length_head {E : En} (h : okE E = true) : (headL E).length = 10 := by
  simp only [okE, Bool.and_eq_true, decide_eq_true_eq] at h
  simp only [headL, List.length_append, length_putL, length_zeros]
  omega
theorem length_putEn {E : En} (h : okE E = true) : (putEn E).length = 42 := by
  have h1 := length_head h
  simp only [okE, Bool.and_eq_true, decide_eq_true_eq] at h
  have h2 := (length_data_le h.2).1
  simp only [putEn, List.length_append, length_zeros, h1]
  omega
theorem kind_lt {v : Va} (h : okV v = true) : 1 ≤ v.kind ∧ v.kind ≤ 3 := by
  unfold okV kindN at h
  split at h
  · omega
  · split at h
    · omega
    · split at h
      · omega
      · simp at h

/-- What is put is got again. -/
theorem rd_putEn {E : En} (h : okE E = true) : rdEn (putEn E) = some E := by
  have hL := length_putEn h
  have hh := h
  simp only [okE, Bool.and_eq_true, decide_eq_true_eq] at hh
  obtain ⟨⟨h1, h8⟩, hv⟩ := hh
  have hk := kind_lt hv
  have e0 : getN ((putEn E).take 1) = E.val.kind.toNat := by unfold putEn headL; rw [List.append_assoc, get_put _ _ _ (by omega)]
  have s1 : (putEn E).drop 1 = putL E.key.length 1 ++ (E.key ++ (zerosL (8 - E.key.length) ++ (dataL E.val ++ zerosL (32 - (dataL E.val).length)))) := by unfold putEn headL; rw [List.append_assoc, drop_put]; simp only [List.append_assoc]
  have e1 : keyZ (putEn E) = E.key.length := by unfold keyZ; rw [s1, get_put _ _ _ (by omega)]
  have s2 : keyS (putEn E) = E.key ++ (zerosL (8 - E.key.length) ++ (dataL E.val ++ zerosL (32 - (dataL E.val).length))) := by unfold keyS; rw [s1, drop_put]
  have hp : padOk (keyZ (putEn E)) 8 (keyS (putEn E)) := by
    rw [e1, s2]
    refine ⟨h8, ?_⟩
    rw [List.drop_left, List.take_append_of_le_length (by rw [length_zeros]; exact Nat.le_refl _), List.take_of_length_le (by rw [length_zeros]; exact Nat.le_refl _)]
  have hkey : keyOf (putEn E) = E.key := by unfold keyOf; rw [e1, s2, List.take_left]
  have hvs : valS (putEn E) = dataL E.val ++ zerosL (32 - (dataL E.val).length) := by
    unfold valS
    rw [e1, s2, List.drop_left]
    have := length_zeros (8 - E.key.length)
    conv => lhs; arg 1; rw [← this]
    exact List.drop_left
  obtain ⟨m, hm⟩ := val_get hv (32 - (dataL E.val).length) (by have := (length_data_le hv).1; omega)
  unfold rdEn
  rw [if_pos ⟨hL, hp⟩, e0, hvs, hm]
  show (if zerosL m = zerosL (zerosL m).length ∧ okE ⟨keyOf (putEn E), E.val⟩ = true then some (⟨keyOf (putEn E), E.val⟩ : En) else none) = some E
  rw [hkey, length_zeros, if_pos ⟨rfl, h⟩]

/-- What is got is put just so. -/
theorem put_rdEn {s : List UInt8} {E : En} (h : rdEn s = some E) : okE E = true ∧ putEn E = s := by
  unfold rdEn at h
  split at h
  · rename_i hs
    obtain ⟨hl, hp⟩ := hs
    split at h
    · cases h
    · rename_i v r hr
      split at h
      · rename_i hz
        injection h with h
        subst h
        refine ⟨hz.2, ?_⟩
        have h8 := hp.1
        have lS : (keyS s).length = 40 := by simp [keyS]; omega
        have lV : (valS s).length = 32 := by simp only [valS, List.length_drop, lS]; omega
        have lK : (keyOf s).length = keyZ s := by unfold keyOf; rw [List.length_take, lS]; omega
        obtain ⟨⟨a, ha⟩, hk⟩ := val_put hr (by omega)
        have hz1 := hz.1
        rw [hz1, zeros_add] at ha
        have hA : a + r.length = 32 - (dataL v).length := by
          have := congrArg List.length ha
          rw [List.length_append, length_zeros, lV] at this
          omega
        rw [hA] at ha
        unfold putEn headL
        simp only [List.append_assoc]
        show putL v.kind.toNat 1 ++ (putL (keyOf s).length 1 ++ (keyOf s ++ (zerosL (8 - (keyOf s).length) ++ (dataL v ++ zerosL (32 - (dataL v).length))))) = s
        rw [← ha, lK, hk, Int.toNat_natCast]
        have e3 : keyS s = keyOf s ++ (zerosL (8 - keyZ s) ++ valS s) := pad_cut hp
        rw [← e3]
        have e2 : s.drop 1 = putL (keyZ s) 1 ++ keyS s := num_cut 1 _ (by simp; omega)
        rw [← e2]
        exact (num_cut 1 s (by omega)).symm
      · cases h
  · cases h

/-! ### The document's reading -/
def atN (s : List UInt8) (at_ w : Nat) : Nat := getN ((s.drop at_).take w)
def getsL (s : List UInt8) (at_ : Nat) : Nat → List Int
  | 0 => []
  | n + 1 => getsL s at_ n ++ [(atN s (at_ + 2 * n) 2 : Int)]
def readV (s : List UInt8) : Va :=
  if atN s 0 1 = 1 then ⟨1, atN s 10 4, atN s 14 1, decide (atN s 15 1 = 1), (s.drop 17).take (min (atN s 16 1) 8), [], [], 0⟩
  else if atN s 0 1 = 2 then ⟨2, 0, 0, false, [], getsL s 10 8, getsL s 26 8, 0⟩
  else if atN s 0 1 = 3 then ⟨3, 0, 0, false, [], [], [], UInt64.ofNat (atN s 10 4 + 4294967296 * atN s 14 4)⟩
  else ⟨atN s 0 1, 0, 0, false, [], [], [], 0⟩
def readE (s : List UInt8) : En := ⟨(s.drop 2).take (min (atN s 1 1) 8), readV s⟩
theorem gets_front : ∀ (n : Nat) (s : List UInt8) (at_ : Nat), getsL s at_ (n + 1) = (atN s at_ 2 : Int) :: getsL s (at_ + 2) n
  | 0, s, at_ => rfl
  | n + 1, s, at_ => by
    rw [getsL, gets_front n s at_, getsL, List.cons_append, show at_ + 2 + 2 * n = at_ + 2 * (n + 1) by omega]
theorem gets_nums : ∀ (n : Nat) (s : List UInt8) (at_ : Nat), getsL s at_ n = numsOf n (s.drop at_)
  | 0, s, at_ => rfl
  | n + 1, s, at_ => by
    rw [gets_front, gets_nums n s (at_ + 2), numsOf, List.drop_drop]
    rfl
theorem rest_drop : ∀ (n : Nat) (s : List UInt8), restOf n s = s.drop (2 * n)
  | 0, s => by simp [restOf]
  | n + 1, s => by rw [restOf, rest_drop n, List.drop_drop]; congr 1; omega
theorem readE_rd {s : List UInt8} {E : En} (h : rdEn s = some E) : readE s = E := by
  unfold rdEn at h
  split at h
  · rename_i hs
    obtain ⟨hl, hp⟩ := hs
    have h8 := hp.1
    split at h
    · cases h
    · rename_i v r hr
      split at h
      · injection h with h
        subst h
        have e1 : atN s 1 1 = keyZ s := rfl
        have e2 : s.drop 2 = keyS s := by unfold keyS; rw [List.drop_drop]
        have ev : valS s = s.drop 10 := by unfold valS; rw [← e2, List.drop_drop, List.drop_drop]; congr 1; omega
        have e0 : atN s 0 1 = getN (s.take 1) := by unfold atN; rw [List.drop_zero]
        unfold readE
        rw [e1, Nat.min_eq_left h8, e2]
        congr 1
        rw [ev] at hr
        unfold readV
        rw [e0]
        unfold rdVal at hr
        split at hr
        · rename_i hk
          rw [if_pos hk]
          split at hr
          · rename_i hok
            injection hr with hr
            injection hr with h1 h2
            subst h1
            have hz := hok.2.1
            unfold regZ at hz
            simp only [List.drop_drop] at hz
            simp only [regV, atN, List.drop_drop]
            rw [Nat.min_eq_left hz]
            rfl
          · cases hr
        · rename_i hk
          rw [if_neg hk]
          split at hr
          · rename_i hk2
            rw [if_pos hk2]
            injection hr with hr
            injection hr with h1 h2
            subst h1
            unfold countV
            rw [gets_nums, gets_nums, rest_drop, List.drop_drop]
          · rename_i hk2
            rw [if_neg hk2]
            split at hr
            · rename_i hk3
              rw [if_pos hk3]
              injection hr with hr
              injection hr with h1 h2
              subst h1
              simp only [flagsV, atN, List.drop_drop]
            · cases hr
      · cases h
  · cases h

def getOk (s : List UInt8) : Bool := (rdEn s).isSome
def getEF (s : List UInt8) : En := (rdEn s).getD zeroE
def getEE (s : List UInt8) : Int := if getOk s = true then 0 else 2
theorem getOk_iff (s : List UInt8) : getOk s = true ↔ s.length = 42 ∧ okE (readE s) = true ∧ putEn (readE s) = s := by
  unfold getOk
  constructor
  · intro h
    obtain ⟨E, hE⟩ := Option.isSome_iff_exists.1 h
    have h1 := put_rdEn hE
    have h2 := readE_rd hE
    rw [h2]
    exact ⟨by rw [← h1.2]; exact length_putEn h1.1, h1⟩
  · rintro ⟨_, h1, h2⟩
    have := rd_putEn h1
    rw [h2] at this
    rw [this]; rfl
theorem getEF_read {s : List UInt8} (h : getOk s = true) : getEF s = readE s := by
  obtain ⟨E, hE⟩ := Option.isSome_iff_exists.1 h
  unfold getEF
  rw [hE, readE_rd hE]; rfl
theorem getEF_none {s : List UInt8} (h : getOk s = false) : getEF s = zeroE := by
  unfold getEF
  unfold getOk at h
  cases hr : rdEn s with
  | none => rfl
  | some E => rw [hr] at h; cases h
end Go.Proofs.Ytebjljiklacolaa
