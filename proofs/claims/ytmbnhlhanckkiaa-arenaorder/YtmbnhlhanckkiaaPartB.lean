/- Joined texts: contracts of the program's functions, and the mathematics that they lean on. -/
import Derived.Test.YtmbnhlhanckkiaaPartA
import Derived.Deep.OwnRows
import Derived.ChangeKeysEq
import Derived.Laws.Rows
section
namespace Go.Proofs.Ytmbnhlhanckkiaa
set_option linter.unusedVariables false
set_option linter.unusedSimpArgs false

structure En where
  key : List UInt8
  val : Va
  deriving DecidableEq

def zeroE : En := ⟨[], zeroV⟩
def zerosL (n : Nat) : List UInt8 := List.replicate n 0
def bitN (b : Bool) : Nat := if b = true then 1 else 0
def numsL : List Int → List UInt8
  | [] => []
  | n :: r => putL n.toNat 2 ++ numsL r
def dataL (v : Va) : List UInt8 :=
  if v.kind = 1 then putL v.time.toNat 4 ++ (putL v.node.toNat 1 ++ (putL (bitN v.dead) 1 ++ (putL v.text.length 1 ++ v.text)))
  else if v.kind = 2 then numsL v.plus ++ numsL v.minus
  else putL (v.flags.toNat % 4294967296) 4 ++ putL (v.flags.toNat / 4294967296) 4
def okE (E : En) : Bool := decide (1 ≤ E.key.length) && decide (E.key.length ≤ 8) && okV E.val
def headL (E : En) : List UInt8 := putL E.val.kind.toNat 1 ++ (putL E.key.length 1 ++ (E.key ++ zerosL (8 - E.key.length)))
def putEn (E : En) : List UInt8 := headL E ++ (dataL E.val ++ zerosL (32 - (dataL E.val).length))
def putF (E : En) : List UInt8 := if okE E = true then putEn E else []
def chkE (E : En) : Int := if okE E = true then 0 else 2
def lessE (a b : En) : Bool := if a.val.kind = b.val.kind then Op.bytesLess a.key b.key else decide (a.val.kind < b.val.kind)
def nameB (a b : En) : Bool := decide (a.val.kind = b.val.kind) && decide (a.key = b.key)
def joinEE (a b : En) : Int := if (okE a && okE b) = true then (if nameB a b = true then 0 else 3) else 2
def joinEF (a b : En) : En := if joinEE a b = 0 then ⟨a.key, joinV a.val b.val⟩ else zeroE

theorem length_zeros (n : Nat) : (zerosL n).length = n := by simp [zerosL]
theorem zeros_add (a b : Nat) : zerosL a ++ zerosL b = zerosL (a + b) := by simp [zerosL, List.replicate_append_replicate]
theorem length_nums : ∀ l : List Int, (numsL l).length = 2 * l.length
  | [] => rfl
  | n :: r => by rw [numsL, List.length_append, length_putL, length_nums r, List.length_cons]; omega

/-! ### Bytes that are read -/
def numsOf : Nat → List UInt8 → List Int
  | 0, _ => []
  | n + 1, s => (getN (s.take 2) : Int) :: numsOf n (s.drop 2)
def restOf : Nat → List UInt8 → List UInt8
  | 0, s => s
  | n + 1, s => restOf n (s.drop 2)
def regV (s : List UInt8) : Va := ⟨1, (getN (s.take 4) : Int), (getN ((s.drop 4).take 1) : Int), decide (getN (((s.drop 4).drop 1).take 1) = 1),
  ((((s.drop 4).drop 1).drop 1).drop 1).take (getN ((((s.drop 4).drop 1).drop 1).take 1)), [], [], 0⟩
def padOk (z room : Nat) (s : List UInt8) : Prop := z ≤ room ∧ (s.drop z).take (room - z) = zerosL (room - z)
instance (z room : Nat) (s : List UInt8) : Decidable (padOk z room s) := by unfold padOk; infer_instance
def regZ (s : List UInt8) : Nat := getN ((((s.drop 4).drop 1).drop 1).take 1)
def regS (s : List UInt8) : List UInt8 := (((s.drop 4).drop 1).drop 1).drop 1
def regOk (s : List UInt8) : Prop := getN (((s.drop 4).drop 1).take 1) ≤ 1 ∧ padOk (regZ s) 8 (regS s)
instance (s : List UInt8) : Decidable (regOk s) := by unfold regOk; infer_instance
def regR (s : List UInt8) : List UInt8 := ((regS s).drop (regZ s)).drop (8 - regZ s)
def countV (s : List UInt8) : Va := ⟨2, 0, 0, false, [], numsOf 8 s, numsOf 8 (restOf 8 s), 0⟩
def flagsV (s : List UInt8) : Va := ⟨3, 0, 0, false, [], [], [], UInt64.ofNat (getN (s.take 4) + 4294967296 * getN ((s.drop 4).take 4))⟩
def rdVal (kind : Nat) (s : List UInt8) : Option (Va × List UInt8) :=
  if kind = 1 then (if regOk s then some (regV s, regR s) else none)
  else if kind = 2 then some (countV s, restOf 8 (restOf 8 s))
  else if kind = 3 then some (flagsV s, (s.drop 4).drop 4)
  else none
def keyZ (s : List UInt8) : Nat := getN ((s.drop 1).take 1)
def keyS (s : List UInt8) : List UInt8 := (s.drop 1).drop 1
def keyOf (s : List UInt8) : List UInt8 := (keyS s).take (keyZ s)
def valS (s : List UInt8) : List UInt8 := ((keyS s).drop (keyZ s)).drop (8 - keyZ s)
def rdEn (s : List UInt8) : Option En :=
  if s.length = 42 ∧ padOk (keyZ s) 8 (keyS s) then
    match rdVal (getN (s.take 1)) (valS s) with
    | none => none
    | some (v, r) => if r = zerosL r.length ∧ okE ⟨keyOf s, v⟩ = true then some ⟨keyOf s, v⟩ else none
  else none

theorem num_cut (n : Nat) (s : List UInt8) (h : n ≤ s.length) : s = putL (getN (s.take n)) n ++ s.drop n := by
  have := putL_getN (s.take n)
  rw [List.length_take, Nat.min_eq_left h] at this
  rw [this, List.take_append_drop]
theorem pad_cut {z room : Nat} {s : List UInt8} (h : padOk z room s) : s = s.take z ++ (zerosL (room - z) ++ (s.drop z).drop (room - z)) := by
  rw [← h.2, List.take_append_drop, List.take_append_drop]
theorem take_put (n w : Nat) (t : List UInt8) : (putL n w ++ t).take w = putL n w := by
  rw [List.take_append_of_le_length (by rw [length_putL]; exact Nat.le_refl _), List.take_of_length_le (by rw [length_putL]; exact Nat.le_refl _)]
theorem drop_put (n w : Nat) (t : List UInt8) : (putL n w ++ t).drop w = t := by
  exact List.drop_left' (length_putL w n)
theorem get_put (n w : Nat) (t : List UInt8) (h : n < 256 ^ w) : getN ((putL n w ++ t).take w) = n := by rw [take_put, getN_putL w n h]
theorem nums_cut : ∀ (n : Nat) (s : List UInt8), 2 * n ≤ s.length → s = numsL (numsOf n s) ++ restOf n s
  | 0, s, _ => rfl
  | n + 1, s, h => by
    have h2 := nums_cut n (s.drop 2) (by rw [List.length_drop]; omega)
    rw [numsOf, numsL, restOf, Int.toNat_natCast, List.append_assoc, ← h2]
    exact num_cut 2 s (by omega)
theorem nums_put : ∀ (l : List Int) (t : List UInt8), l.all okNum = true → numsOf l.length (numsL l ++ t) = l ∧ restOf l.length (numsL l ++ t) = t
  | [], t, _ => ⟨rfl, rfl⟩
  | n :: r, t, h => by
    rw [List.all_cons, Bool.and_eq_true] at h
    have h1 := h.1
    simp only [okNum, Bool.and_eq_true, decide_eq_true_eq] at h1
    obtain ⟨e1, e2⟩ := nums_put r t h.2
    rw [List.length_cons, numsOf, restOf, numsL, List.append_assoc, drop_put, e1, e2, get_put _ _ _ (by omega)]
    exact ⟨by rw [Int.toNat_of_nonneg h1.1], rfl⟩
theorem length_rest : ∀ (n : Nat) (s : List UInt8), (restOf n s).length = s.length - 2 * n
  | 0, s => by simp [restOf]
  | n + 1, s => by rw [restOf, length_rest n, List.length_drop]; omega
theorem length_numsOf : ∀ (n : Nat) (s : List UInt8), (numsOf n s).length = n
  | 0, s => rfl
  | n + 1, s => by rw [numsOf, List.length_cons, length_numsOf]

theorem data_reg {v : Va} (h : v.kind = 1) : dataL v = putL v.time.toNat 4 ++ (putL v.node.toNat 1 ++ (putL (bitN v.dead) 1 ++ (putL v.text.length 1 ++ v.text))) := by rw [dataL, if_pos h]
theorem data_count {v : Va} (h : v.kind = 2) : dataL v = numsL v.plus ++ numsL v.minus := by rw [dataL, if_neg (by rw [h]; decide), if_pos h]
theorem data_flags {v : Va} (h : v.kind = 3) : dataL v = putL (v.flags.toNat % 4294967296) 4 ++ putL (v.flags.toNat / 4294967296) 4 := by rw [dataL, if_neg (by rw [h]; decide), if_neg (by rw [h]; decide)]

/-- What is read is put just so. -/
theorem val_put {k : Nat} {s r : List UInt8} {v : Va} (h : rdVal k s = some (v, r)) (hl : 32 ≤ s.length) : (∃ a, s = dataL v ++ (zerosL a ++ r)) ∧ v.kind = k := by
  unfold rdVal at h
  split at h
  · rename_i hk
    split at h
    · rename_i hr
      injection h with h
      injection h with h1 h2
      subst h1 h2
      refine ⟨⟨8 - regZ s, ?_⟩, by rw [hk]; rfl⟩
      rw [data_reg rfl]
      obtain ⟨hd, hp⟩ := hr
      have e5 : regS s = (regV s).text ++ (zerosL (8 - regZ s) ++ regR s) := pad_cut hp
      have hz : (regV s).text.length = regZ s := by
        show ((regS s).take (regZ s)).length = _
        rw [List.length_take]
        have := hp.1
        have : (regS s).length = s.length - 7 := by simp only [regS, List.length_drop]; omega
        omega
      have e4 : ((s.drop 4).drop 1).drop 1 = putL (regV s).text.length 1 ++ regS s := by
        rw [hz]; exact num_cut 1 _ (by simp; omega)
      have e3 : (s.drop 4).drop 1 = putL (bitN (regV s).dead) 1 ++ ((s.drop 4).drop 1).drop 1 := by
        have : bitN (regV s).dead = getN (((s.drop 4).drop 1).take 1) := by
          show bitN (decide (getN (((s.drop 4).drop 1).take 1) = 1)) = _
          unfold bitN
          by_cases h1 : getN (((s.drop 4).drop 1).take 1) = 1
          · rw [h1]; rfl
          · rw [if_neg (by simpa using h1)]; omega
        rw [this]; exact num_cut 1 _ (by simp; omega)
      have e2 : s.drop 4 = putL (regV s).node.toNat 1 ++ (s.drop 4).drop 1 := by
        show _ = putL (Int.toNat (getN ((s.drop 4).take 1) : Int)) 1 ++ _
        rw [Int.toNat_natCast]; exact num_cut 1 _ (by simp; omega)
      have e1 : s = putL (regV s).time.toNat 4 ++ s.drop 4 := by
        show _ = putL (Int.toNat (getN (s.take 4) : Int)) 4 ++ _
        rw [Int.toNat_natCast]; exact num_cut 4 _ (by omega)
      simp only [List.append_assoc]
      rw [← e5, ← e4, ← e3, ← e2]
      exact e1
    · cases h
  · split at h
    · rename_i hk
      injection h with h
      injection h with h1 h2
      subst h1 h2
      refine ⟨⟨0, ?_⟩, by rw [hk]; rfl⟩
      rw [data_count rfl]
      show s = (numsL (numsOf 8 s) ++ numsL (numsOf 8 (restOf 8 s))) ++ ([] ++ restOf 8 (restOf 8 s))
      rw [List.nil_append, List.append_assoc, ← nums_cut 8 (restOf 8 s) (by rw [length_rest]; omega)]
      exact nums_cut 8 s (by omega)
    · split at h
      · rename_i hk
        injection h with h
        injection h with h1 h2
        subst h1 h2
        refine ⟨⟨0, ?_⟩, by rw [hk]; rfl⟩
        rw [data_flags rfl]
        have g1 : getN (s.take 4) < 4294967296 := by
          have := getN_lt (s.take 4); rw [List.length_take, Nat.min_eq_left (by omega)] at this; exact this
        have g2 : getN ((s.drop 4).take 4) < 4294967296 := by
          have := getN_lt ((s.drop 4).take 4); rw [List.length_take, Nat.min_eq_left (by rw [List.length_drop]; omega)] at this; exact this
        have e : (flagsV s).flags.toNat = getN (s.take 4) + 4294967296 * getN ((s.drop 4).take 4) := by
          show (UInt64.ofNat _).toNat = _
          rw [UInt64.toNat_ofNat']
          exact Nat.mod_eq_of_lt (by omega)
        rw [e, show (getN (s.take 4) + 4294967296 * getN ((s.drop 4).take 4)) % 4294967296 = getN (s.take 4) by omega, show (getN (s.take 4) + 4294967296 * getN ((s.drop 4).take 4)) / 4294967296 = getN ((s.drop 4).take 4) by omega, List.append_assoc]
        show s = putL _ 4 ++ (putL _ 4 ++ ([] ++ (s.drop 4).drop 4))
        rw [List.nil_append, ← num_cut 4 (s.drop 4) (by rw [List.length_drop]; omega)]
        exact num_cut 4 s (by omega)
      · cases h

theorem length_data_le {v : Va} (h : okV v = true) : (dataL v).length ≤ 32 ∧ (v.kind = 1 → (dataL v).length = 7 + v.text.length ∧ v.text.length ≤ 8) ∧ (v.kind = 2 → (dataL v).length = 32) := by
  unfold okV kindN at h
  split at h
  · rename_i hk
    rw [data_reg hk]
    split at h
    · rename_i hi
      simp only [inReg, Bool.and_eq_true, decide_eq_true_eq] at hi
      have := hi.1.1.2
      simp only [List.length_append, length_putL]
      exact ⟨by omega, fun _ => ⟨by omega, by omega⟩, fun h2 => by rw [hk] at h2; exact absurd h2 (by decide)⟩
    · simp at h
  · split at h
    · rename_i hk
      rw [data_count hk]
      split at h
      · rename_i hi
        simp only [inCount, okRow, Bool.and_eq_true, decide_eq_true_eq] at hi
        have h1 := hi.1.1.1
        have h2 := hi.1.2.1
        simp only [List.length_append, length_nums, h1, h2]
        exact ⟨by omega, fun h1 => by rw [hk] at h1; exact absurd h1 (by decide), fun _ => trivial⟩
      · simp at h
    · split at h
      · rename_i h1 h2 hk
        rw [data_flags hk]
        simp only [List.length_append, length_putL]
        exact ⟨by omega, fun h => absurd h h1, fun h => absurd h h2⟩
      · simp at h

/-- What is put is read again. -/
theorem val_get {v : Va} (h : okV v = true) (n : Nat) (hn : (dataL v).length + n = 32) : ∃ m, rdVal v.kind.toNat (dataL v ++ zerosL n) = some (v, zerosL m) := by
  have hL := length_data_le h
  unfold okV kindN at h
  split at h
  · rename_i hk
    have hlen := (hL.2.1 hk).1
    have h8 := (hL.2.1 hk).2
    split at h
    · rename_i hi
      simp only [inReg, Bool.and_eq_true, decide_eq_true_eq] at hi
      obtain ⟨⟨⟨⟨ht, hn'⟩, _⟩, _⟩, ho⟩ := hi
      have e1 : getN ((dataL v ++ zerosL n).take 4) = v.time.toNat := by rw [data_reg hk, List.append_assoc, get_put _ _ _ (by omega)]
      have s1 : (dataL v ++ zerosL n).drop 4 = putL v.node.toNat 1 ++ (putL (bitN v.dead) 1 ++ (putL v.text.length 1 ++ (v.text ++ zerosL n))) := by rw [data_reg hk, List.append_assoc, drop_put]; simp only [List.append_assoc]
      have e2 : getN (((dataL v ++ zerosL n).drop 4).take 1) = v.node.toNat := by rw [s1, get_put _ _ _ (by omega)]
      have s2 : ((dataL v ++ zerosL n).drop 4).drop 1 = putL (bitN v.dead) 1 ++ (putL v.text.length 1 ++ (v.text ++ zerosL n)) := by rw [s1, drop_put]
      have e3 : getN ((((dataL v ++ zerosL n).drop 4).drop 1).take 1) = bitN v.dead := by rw [s2, get_put _ _ _ (by unfold bitN; split <;> omega)]
      have s3 : (((dataL v ++ zerosL n).drop 4).drop 1).drop 1 = putL v.text.length 1 ++ (v.text ++ zerosL n) := by rw [s2, drop_put]
      have e4 : regZ (dataL v ++ zerosL n) = v.text.length := by unfold regZ; rw [s3, get_put _ _ _ (by omega)]
      have s4 : regS (dataL v ++ zerosL n) = v.text ++ (zerosL (8 - v.text.length) ++ zerosL (n - (8 - v.text.length))) := by
        unfold regS; rw [s3, drop_put, zeros_add, show 8 - v.text.length + (n - (8 - v.text.length)) = n by omega]
      have ok : regOk (dataL v ++ zerosL n) := by
        refine ⟨by rw [e3]; unfold bitN; split <;> omega, ?_⟩
        rw [e4, s4]
        refine ⟨h8, ?_⟩
        rw [List.drop_left, List.take_append_of_le_length (by rw [length_zeros]; exact Nat.le_refl _), List.take_of_length_le (by rw [length_zeros]; exact Nat.le_refl _)]
      have hr : regR (dataL v ++ zerosL n) = zerosL (n - (8 - v.text.length)) := by
        unfold regR
        rw [e4, s4, List.drop_left]
        have := length_zeros (8 - v.text.length)
        conv => lhs; rw [← this]
        rw [this]
        conv => lhs; arg 1; rw [← this]
        exact List.drop_left
      have hv : regV (dataL v ++ zerosL n) = v := by
        have : regV (dataL v ++ zerosL n) = onlyReg v := by
          unfold regV onlyReg
          have ht' : (regS (dataL v ++ zerosL n)).take (regZ (dataL v ++ zerosL n)) = v.text := by rw [e4, s4, List.take_left]
          unfold regS regZ at ht'
          rw [e1, e2, e3, ht', Int.toNat_of_nonneg ht.1, Int.toNat_of_nonneg hn'.1]
          congr 1
          unfold bitN; cases v.dead <;> simp
        rw [this, ← ho]
      refine ⟨n - (8 - v.text.length), ?_⟩
      unfold rdVal
      rw [hk, if_pos (show Int.toNat 1 = 1 from rfl), if_pos ok, hv, hr]
    · simp at h
  · split at h
    · rename_i hk
      split at h
      · rename_i hi
        simp only [inCount, okRow, Bool.and_eq_true, decide_eq_true_eq] at hi
        obtain ⟨⟨⟨l1, a1⟩, ⟨l2, a2⟩⟩, ho⟩ := hi
        have hlen := hL.2.2 hk
        obtain ⟨p1, p2⟩ := nums_put v.plus (numsL v.minus ++ zerosL n) a1
        obtain ⟨m1, m2⟩ := nums_put v.minus (zerosL n) a2
        rw [l1] at p1 p2
        rw [l2] at m1 m2
        refine ⟨n, ?_⟩
        unfold rdVal
        rw [hk, if_neg (by decide), if_pos (show Int.toNat 2 = 2 from rfl), data_count hk, List.append_assoc]
        unfold countV
        rw [p1, p2, m1, m2]
        exact congrArg (fun x => some (x, zerosL n)) ho.symm
      · simp at h
    · split at h
      · rename_i hk
        split at h
        · rename_i ho
          simp only [decide_eq_true_eq] at ho
          refine ⟨n, ?_⟩
          have hf : v.flags.toNat < 18446744073709551616 := v.flags.toNat_lt
          unfold rdVal
          rw [hk, if_neg (by decide), if_neg (by decide), if_pos (show Int.toNat 3 = 3 from rfl), data_flags hk, List.append_assoc]
          unfold flagsV
          rw [get_put _ _ _ (by omega), drop_put, get_put _ _ _ (by omega), drop_put, show v.flags.toNat % 4294967296 + 4294967296 * (v.flags.toNat / 4294967296) = v.flags.toNat by omega, UInt64.ofNat_toNat]
          exact congrArg (fun x => some (x, zerosL n)) ho.symm
        · simp at h
      · simp at h

theorem length_head {E : En} (h : okE E = true) : (headL E).length = 10 := by
  simp only [okE, Bool.and_eq_true, decide_eq_true_eq] at h
  simp only [headL, List.length_append, length_putL, length_zeros]
  omega
theorem length_putEn {E : En} (h : okE E = true) : (putEn E).length = 42 := by
  have h1 := length_head h
  simp only [okE, Bool.and_eq_true, decide_eq_true_eq] at h
  have h2 := (length_data_le h.2).1
  simp only [putEn, List.length_append, length_zeros, h1]
  omega
theorem kind_lt {v : Va} (h : okV v = true) : 1 ≤ v.kind ∧ v.kind ≤ 3 := by
  unfold okV kindN at h
  split at h
  · omega
  · split at h
    · omega
    · split at h
      · omega
      · simp at h

/-- What is put is got again. -/
theorem rd_putEn {E : En} (h : okE E = true) : rdEn (putEn E) = some E := by
  have hL := length_putEn h
  have hh := h
  simp only [okE, Bool.and_eq_true, decide_eq_true_eq] at hh
  obtain ⟨⟨h1, h8⟩, hv⟩ := hh
  have hk := kind_lt hv
  have e0 : getN ((putEn E).take 1) = E.val.kind.toNat := by unfold putEn headL; rw [List.append_assoc, get_put _ _ _ (by omega)]
  have s1 : (putEn E).drop 1 = putL E.key.length 1 ++ (E.key ++ (zerosL (8 - E.key.length) ++ (dataL E.val ++ zerosL (32 - (dataL E.val).length)))) := by unfold putEn headL; rw [List.append_assoc, drop_put]; simp only [List.append_assoc]
  have e1 : keyZ (putEn E) = E.key.length := by unfold keyZ; rw [s1, get_put _ _ _ (by omega)]
  have s2 : keyS (putEn E) = E.key ++ (zerosL (8 - E.key.length) ++ (dataL E.val ++ zerosL (32 - (dataL E.val).length))) := by unfold keyS; rw [s1, drop_put]
  have hp : padOk (keyZ (putEn E)) 8 (keyS (putEn E)) := by
    rw [e1, s2]
    refine ⟨h8, ?_⟩
    rw [List.drop_left, List.take_append_of_le_length (by rw [length_zeros]; exact Nat.le_refl _), List.take_of_length_le (by rw [length_zeros]; exact Nat.le_refl _)]
  have hkey : keyOf (putEn E) = E.key := by unfold keyOf; rw [e1, s2, List.take_left]
  have hvs : valS (putEn E) = dataL E.val ++ zerosL (32 - (dataL E.val).length) := by
    unfold valS
    rw [e1, s2, List.drop_left]
    have := length_zeros (8 - E.key.length)
    conv => lhs; arg 1; rw [← this]
    exact List.drop_left
  obtain ⟨m, hm⟩ := val_get hv (32 - (dataL E.val).length) (by have := (length_data_le hv).1; omega)
  unfold rdEn
  rw [if_pos ⟨hL, hp⟩, e0, hvs, hm]
  show (if zerosL m = zerosL (zerosL m).length ∧ okE ⟨keyOf (putEn E), E.val⟩ = true then some (⟨keyOf (putEn E), E.val⟩ : En) else none) = some E
  rw [hkey, length_zeros, if_pos ⟨rfl, h⟩]

/-- What is got is put just so. -/
theorem put_rdEn {s : List UInt8} {E : En} (h : rdEn s = some E) : okE E = true ∧ putEn E = s := by
  unfold rdEn at h
  split at h
  · rename_i hs
    obtain ⟨hl, hp⟩ := hs
    split at h
    · cases h
    · rename_i v r hr
      split at h
      · rename_i hz
        injection h with h
        subst h
        refine ⟨hz.2, ?_⟩
        have h8 := hp.1
        have lS : (keyS s).length = 40 := by simp [keyS]; omega
        have lV : (valS s).length = 32 := by simp only [valS, List.length_drop, lS]; omega
        have lK : (keyOf s).length = keyZ s := by unfold keyOf; rw [List.length_take, lS]; omega
        obtain ⟨⟨a, ha⟩, hk⟩ := val_put hr (by omega)
        have hz1 := hz.1
        rw [hz1, zeros_add] at ha
        have hA : a + r.length = 32 - (dataL v).length := by
          have := congrArg List.length ha
          rw [List.length_append, length_zeros, lV] at this
          omega
        rw [hA] at ha
        unfold putEn headL
        simp only [List.append_assoc]
        show putL v.kind.toNat 1 ++ (putL (keyOf s).length 1 ++ (keyOf s ++ (zerosL (8 - (keyOf s).length) ++ (dataL v ++ zerosL (32 - (dataL v).length))))) = s
        rw [← ha, lK, hk, Int.toNat_natCast]
        have e3 : keyS s = keyOf s ++ (zerosL (8 - keyZ s) ++ valS s) := pad_cut hp
        rw [← e3]
        have e2 : s.drop 1 = putL (keyZ s) 1 ++ keyS s := num_cut 1 _ (by simp; omega)
        rw [← e2]
        exact (num_cut 1 s (by omega)).symm
      · cases h
  · cases h

/-! ### The document's reading -/
def atN (s : List UInt8) (at_ w : Nat) : Nat := getN ((s.drop at_).take w)
def getsL (s : List UInt8) (at_ : Nat) : Nat → List Int
  | 0 => []
  | n + 1 => getsL s at_ n ++ [(atN s (at_ + 2 * n) 2 : Int)]
def readV (s : List UInt8) : Va :=
  if atN s 0 1 = 1 then ⟨1, atN s 10 4, atN s 14 1, decide (atN s 15 1 = 1), (s.drop 17).take (min (atN s 16 1) 8), [], [], 0⟩
  else if atN s 0 1 = 2 then ⟨2, 0, 0, false, [], getsL s 10 8, getsL s 26 8, 0⟩
  else if atN s 0 1 = 3 then ⟨3, 0, 0, false, [], [], [], UInt64.ofNat (atN s 10 4 + 4294967296 * atN s 14 4)⟩
  else ⟨atN s 0 1, 0, 0, false, [], [], [], 0⟩
def readE (s : List UInt8) : En := ⟨(s.drop 2).take (min (atN s 1 1) 8), readV s⟩
theorem gets_front : ∀ (n : Nat) (s : List UInt8) (at_ : Nat), getsL s at_ (n + 1) = (atN s at_ 2 : Int) :: getsL s (at_ + 2) n
  | 0, s, at_ => rfl
  | n + 1, s, at_ => by
    rw [getsL, gets_front n s at_, getsL, List.cons_append, show at_ + 2 + 2 * n = at_ + 2 * (n + 1) by omega]
theorem gets_nums : ∀ (n : Nat) (s : List UInt8) (at_ : Nat), getsL s at_ n = numsOf n (s.drop at_)
  | 0, s, at_ => rfl
  | n + 1, s, at_ => by
    rw [gets_front, gets_nums n s (at_ + 2), numsOf, List.drop_drop]
    rfl
theorem rest_drop : ∀ (n : Nat) (s : List UInt8), restOf n s = s.drop (2 * n)
  | 0, s => by simp [restOf]
  | n + 1, s => by rw [restOf, rest_drop n, List.drop_drop]; congr 1; omega
theorem readE_rd {s : List UInt8} {E : En} (h : rdEn s = some E) : readE s = E := by
  unfold rdEn at h
  split at h
  · rename_i hs
    obtain ⟨hl, hp⟩ := hs
    have h8 := hp.1
    split at h
    · cases h
    · rename_i v r hr
      split at h
      · injection h with h
        subst h
        have e1 : atN s 1 1 = keyZ s := rfl
        have e2 : s.drop 2 = keyS s := by unfold keyS; rw [List.drop_drop]
        have ev : valS s = s.drop 10 := by unfold valS; rw [← e2, List.drop_drop, List.drop_drop]; congr 1; omega
        have e0 : atN s 0 1 = getN (s.take 1) := by unfold atN; rw [List.drop_zero]
        unfold readE
        rw [e1, Nat.min_eq_left h8, e2]
        congr 1
        rw [ev] at hr
        unfold readV
        rw [e0]
        unfold rdVal at hr
        split at hr
        · rename_i hk
          rw [if_pos hk]
          split at hr
          · rename_i hok
            injection hr with hr
            injection hr with h1 h2
            subst h1
            have hz := hok.2.1
            unfold regZ at hz
            simp only [List.drop_drop] at hz
            simp only [regV, atN, List.drop_drop]
            rw [Nat.min_eq_left hz]
            rfl
          · cases hr
        · rename_i hk
          rw [if_neg hk]
          split at hr
          · rename_i hk2
            rw [if_pos hk2]
            injection hr with hr
            injection hr with h1 h2
            subst h1
            unfold countV
            rw [gets_nums, gets_nums, rest_drop, List.drop_drop]
          · rename_i hk2
            rw [if_neg hk2]
            split at hr
            · rename_i hk3
              rw [if_pos hk3]
              injection hr with hr
              injection hr with h1 h2
              subst h1
              simp only [flagsV, atN, List.drop_drop]
            · cases hr
      · cases h
  · cases h

def getOk (s : List UInt8) : Bool := (rdEn s).isSome
def getEF (s : List UInt8) : En := (rdEn s).getD zeroE
def getEE (s : List UInt8) : Int := if getOk s = true then 0 else 2
theorem getOk_iff (s : List UInt8) : getOk s = true ↔ s.length = 42 ∧ okE (readE s) = true ∧ putEn (readE s) = s := by
  unfold getOk
  constructor
  · intro h
    obtain ⟨E, hE⟩ := Option.isSome_iff_exists.1 h
    have h1 := put_rdEn hE
    have h2 := readE_rd hE
    rw [h2]
    exact ⟨by rw [← h1.2]; exact length_putEn h1.1, h1⟩
  · rintro ⟨_, h1, h2⟩
    have := rd_putEn h1
    rw [h2] at this
    rw [this]; rfl
theorem getEF_read {s : List UInt8} (h : getOk s = true) : getEF s = readE s := by
  obtain ⟨E, hE⟩ := Option.isSome_iff_exists.1 h
  unfold getEF
  rw [hE, readE_rd hE]; rfl
theorem getEF_none {s : List UInt8} (h : getOk s = false) : getEF s = zeroE := by
  unfold getEF
  unfold getOk at h
  cases hr : rdEn s with
  | none => rfl
  | some E => rw [hr] at h; cases h
end Go.Proofs.Ytmbnhlhanckkiaa
end
section
namespace Go.Proofs.Ytmbnhlhanckkiaa
open Go.RowKit
set_option linter.unusedVariables false
set_option linter.unusedSimpArgs false

end Go.Proofs.Ytmbnhlhanckkiaa
end
section
namespace Go.Proofs.Ytmbnhlhanckkiaa
open Go.RowKit
set_option linter.unusedVariables false
set_option linter.unusedSimpArgs false

theorem ret_bool {a b : Bool} (h : a = b) : Ending.returned (.bool a) = .returned (.bool b) := by rw [h]
theorem within_any (n most : Int) (w : World) : Calls Try.prog 84 #[.int .i64 n, .int .i64 most] w fun e w' => e = .returned (.bool (decide (0 ≤ n) && decide (n ≤ most))) ∧ w = w' := by
  by_cases h1 : 0 ≤ n
  · have h1' : decide (0 ≤ n) = true := by simpa using h1
    go_enter Try.func84, Try.ntmps84
    go_wp2
    go_ret
    exact ⟨by simp [h1], rfl⟩
  · have h1' : decide (0 ≤ n) = false := by simpa using h1
    go_enter Try.func84, Try.ntmps84
    go_wp2
    go_ret
    exact ⟨by simp [h1], rfl⟩
theorem isNaN_i (x : Int) (w : World) : Calls Try.prog 89 #[.int .i64 x] w fun e w' => e = .returned (.bool false) ∧ w = w' := by
  go_enter Try.func89, Try.ntmps89
  go_wp2
  go_ret
  exact ⟨by simp, rfl⟩
theorem isNaN_s (x : List UInt8) (w : World) : Calls Try.prog 90 #[.string ⟨x.toArray⟩] w fun e w' => e = .returned (.bool false) ∧ w = w' := by
  go_enter Try.func90, Try.ntmps90
  go_wp2
  go_ret
  exact ⟨by simp, rfl⟩
theorem compare_i (x y : Int) (w : World) : Calls Try.prog 86 #[.int .i64 x, .int .i64 y] w fun e w' => e = .returned (.int .i64 (cmpI x y)) ∧ w = w' := by
  have HC := Kept.mk (show cmpI x y = if x < y then -1 else if y < x then 1 else 0 from rfl)
  by_cases h1 : x < y
  · have d1 : decide (x < y) = true := by simpa using h1
    have HR := Kept.mk (show cmpI x y = -1 by rw [HC.out, if_pos h1])
    clear h1
    go_enter Try.func86, Try.ntmps86
    go_wp2_with fail
    refine (isNaN_i x _).mono ?_; rintro e w' ⟨rfl, rfl⟩
    go_wp2_with fail
    refine (isNaN_i y _).mono ?_; rintro e w' ⟨rfl, rfl⟩
    go_wp2
    go_ret
    exact ⟨by rw [HR.out]; rfl, rfl⟩
  · have d1 : decide (x < y) = false := by simpa using h1
    by_cases h2 : y < x
    · have d2 : decide (y < x) = true := by simpa using h2
      have HR := Kept.mk (show cmpI x y = 1 by rw [HC.out, if_neg h1, if_pos h2])
      clear h1 h2
      go_enter Try.func86, Try.ntmps86
      go_wp2_with fail
      refine (isNaN_i x _).mono ?_; rintro e w' ⟨rfl, rfl⟩
      go_wp2_with fail
      refine (isNaN_i y _).mono ?_; rintro e w' ⟨rfl, rfl⟩
      go_wp2
      go_ret
      exact ⟨by rw [HR.out]; rfl, rfl⟩
    · have d2 : decide (y < x) = false := by simpa using h2
      have HR := Kept.mk (show cmpI x y = 0 by rw [HC.out, if_neg h1, if_neg h2])
      clear h1 h2
      go_enter Try.func86, Try.ntmps86
      go_wp2_with fail
      refine (isNaN_i x _).mono ?_; rintro e w' ⟨rfl, rfl⟩
      go_wp2_with fail
      refine (isNaN_i y _).mono ?_; rintro e w' ⟨rfl, rfl⟩
      go_wp2
      go_ret
      exact ⟨by rw [HR.out]; rfl, rfl⟩
theorem rank_any (b : Bool) (w : World) : Calls Try.prog 87 #[.bool b] w fun e w' => e = .returned (.int .i64 (rankI b)) ∧ w = w' := by
  cases b
  · go_enter Try.func87, Try.ntmps87
    go_wp2
    go_ret
    exact ⟨rfl, rfl⟩
  · go_enter Try.func87, Try.ntmps87
    go_wp2
    go_ret
    exact ⟨rfl, rfl⟩
theorem text_eq (x y : List UInt8) : (x == y) = decide (x = y) := by by_cases h : x = y <;> simp [h]
set_option maxHeartbeats 400000 in
theorem compare_s (x y : List UInt8) (w : World) : Calls Try.prog 88 #[.string ⟨x.toArray⟩, .string ⟨y.toArray⟩] w fun e w' => e = .returned (.int .i64 (cmpT x y)) ∧ w = w' := by
  have HC := Kept.mk (show cmpT x y = if Op.bytesLess x y = true then -1 else if x = y then 0 else 1 from rfl)
  cases h1 : Op.bytesLess x y with
  | true =>
    have HR := Kept.mk (show cmpT x y = -1 by rw [HC.out, if_pos h1])
    go_enter Try.func88, Try.ntmps88
    go_wp2_with fail
    refine (isNaN_s x _).mono ?_; rintro e w' ⟨rfl, rfl⟩
    go_wp2_with fail
    refine (isNaN_s y _).mono ?_; rintro e w' ⟨rfl, rfl⟩
    go_wp2
    go_ret
    exact ⟨by rw [HR.out]; rfl, rfl⟩
  | false =>
    cases h2 : x == y with
    | true =>
      have HR := Kept.mk (show cmpT x y = 0 by rw [HC.out, h1, if_neg (by simp), if_pos (by simpa using h2)])
      go_enter Try.func88, Try.ntmps88
      go_wp2_with fail
      refine (isNaN_s x _).mono ?_; rintro e w' ⟨rfl, rfl⟩
      go_wp2_with fail
      refine (isNaN_s y _).mono ?_; rintro e w' ⟨rfl, rfl⟩
      go_wp2
      go_ret
      exact ⟨by rw [HR.out]; rfl, rfl⟩
    | false =>
      have HR := Kept.mk (show cmpT x y = 1 by rw [HC.out, h1, if_neg (by simp), if_neg (by simpa using h2)])
      go_enter Try.func88, Try.ntmps88
      go_wp2_with fail
      refine (isNaN_s x _).mono ?_; rintro e w' ⟨rfl, rfl⟩
      go_wp2_with fail
      refine (isNaN_s y _).mono ?_; rintro e w' ⟨rfl, rfl⟩
      go_wp2
      go_ret
      exact ⟨by rw [HR.out]; rfl, rfl⟩

theorem behindL_nil : behindL [] = false := rfl
theorem behindL_cons (x : Int) (r : List Int) : behindL (x :: r) = if x = 0 then behindL r else decide (0 < x) := rfl
set_option maxHeartbeats 400000 in
theorem isBehind_any (l : List Int) (v : Value) (w : World) (hv : isCells (l.map intC) v w) (hl : l.length ≤ 1000000) :
    Calls Try.prog 85 #[v] w fun e w' => e = .returned (.bool (behindL l)) ∧ w = w' := by
  obtain ⟨a, cap, hva⟩ := hv.len
  rw [List.length_map] at hva
  subst hva
  have HV := Kept.mk hv
  clear hv
  go_enter Try.func85, Try.ntmps85
  go_wp2
  go_loop [7] (fun i => ∃ k : Nat, k ≤ l.length ∧ i = .int .i64 (k : Int) ∧ Kept (behindL l = behindL (l.drop k))) (fun i => l.length - (intOf i).toNat)
  case atStart => exact ⟨0, Nat.zero_le _, rfl, ⟨rfl⟩⟩
  case round =>
    obtain ⟨k, hk, rfl, HB⟩ := hrel
    by_cases hlt : k < l.length
    · obtain ⟨b, off, cap', hs, hb, hc⟩ := HV.out.some_ (by rw [List.length_map]; omega)
      rw [List.length_map] at hs
      injection hs with h1 h2 h3
      subst h1 h3
      have hcell := hc k _ (get_map intC l k hlt)
      have HD := Kept.mk (show l.drop k = l[k] :: l.drop (k + 1) from List.drop_eq_getElem_cons hlt)
      obtain ⟨x, hx⟩ : ∃ x, x = l[k] := ⟨_, rfl⟩
      rw [← hx] at hcell HD
      unfold intC at hcell
      clear hc hx
      by_cases hz : x = 0
      · have d : (x == 0) = true := by simpa using hz
        have HR := Kept.mk (show behindL l = behindL (l.drop (k + 1)) by rw [HB.out, HD.out, behindL_cons, if_pos hz])
        clear hz
        go_wp2
        go_round
        case rel => exact ⟨k + 1, by omega, by go_num, HR⟩
        case measure => simp [intOf]; omega
      · have d : (x == 0) = false := by simpa using hz
        have HR := Kept.mk (show behindL l = decide (0 < x) by rw [HB.out, HD.out, behindL_cons, if_neg hz])
        clear hz
        go_wp2
        go_ret
        exact ⟨by rw [HR.out]; rfl, rfl⟩
    · have HR := Kept.mk (show behindL l = false by rw [HB.out, List.drop_eq_nil_of_le (by omega)]; rfl)
      go_wp2
      go_ret
      exact ⟨by rw [HR.out]; rfl, rfl⟩

theorem isRow1_any (x : Int) (w : World) : Calls Try.prog 101 #[.int .i64 x] w fun e w' => e = .returned (.bool (!okNum x)) ∧ w = w' := by
  have HO := Kept.mk (show okNum x = (decide (0 ≤ x) && decide (x ≤ 65535)) from rfl)
  go_enter Try.func101, Try.ntmps101
  go_wp2_with fail
  refine (within_any x 65535 _).mono ?_; rintro e w' ⟨rfl, rfl⟩
  obtain ⟨z, hz⟩ : ∃ z, z = (decide (0 ≤ x) && decide (x ≤ 65535)) := ⟨_, rfl⟩
  rw [← hz] at HO ⊢
  clear hz
  go_wp2
  go_ret
  exact ⟨by rw [HO.out]; rfl, rfl⟩
def badNum : Value → Bool
  | .int .i64 x => !okNum x
  | _ => false
theorem badNum_int (x : Int) : badNum (intC x) = !okNum x := rfl
theorem okNum_eq (l : List Int) : l.all okNum = !(l.map intC).any badNum := by
  induction l with
  | nil => rfl
  | cons x r ih => rw [List.all_cons, List.map_cons, List.any_cons, badNum_int, ih, Bool.not_or, Bool.not_not]
attribute [irreducible] badNum
set_option maxRecDepth 20000 in
theorem isRow_any (l : List Int) (v : Value) (w : World) (hv : isCells (l.map intC) v w) (hl : l.length ≤ 140737488355328) :
    Calls Try.prog 96 #[v] w fun e w' => e = .returned (.bool (okRow l)) ∧ w = w' := by
  have hen : Enters Try.prog 101 := enters_of Try.func101 (by kernel_rfl) rfl
  obtain ⟨a, cap, hva⟩ := hv.len
  rw [List.length_map] at hva
  subst hva
  have HV := Kept.mk hv
  clear hv
  by_cases h : l.length = 8
  · have h' : ((l.length : Int) == 8) = true := by simp; omega
    have HE := Kept.mk (show okRow l = !(l.map intC).any badNum by
      unfold okRow
      rw [decide_eq_true h, Bool.true_and, okNum_eq])
    clear h
    go_enter Try.func96, Try.ntmps96
    go_wp2_with fail
    refine (contains_i badNum 101 #[] hen (l.map intC) _ _ HV.out (by simpa using hl) ?_).mono ?_
    · intro x hx
      obtain ⟨y, _, rfl⟩ := List.mem_map.1 hx
      rw [badNum_int]
      exact isRow1_any y _
    rintro e w' ⟨rfl, rfl⟩
    generalize (l.map intC).any badNum = z at *
    go_wp2
    go_ret
    exact ⟨by rw [HE.out]; rfl, rfl⟩
  · have h' : ((l.length : Int) == 8) = false := by simp; omega
    have HE := Kept.mk (show okRow l = false by unfold okRow; rw [decide_eq_false h]; rfl)
    go_enter Try.func96, Try.ntmps96
    go_wp2
    go_ret
    exact ⟨by rw [HE.out]; rfl, rfl⟩
theorem sum_take (l : List Int) (k : Nat) (h : k < l.length) : (l.take (k + 1)).sum = (l.take k).sum + l[k] := by
  rw [List.take_succ_eq_append_getElem h, List.sum_append]; simp
theorem sum_bound : ∀ (l : List Int), l.all okNum = true → 0 ≤ l.sum ∧ l.sum ≤ 65535 * l.length
  | [], _ => by simp
  | x :: r, h => by
    rw [List.all_cons, Bool.and_eq_true] at h
    have := sum_bound r h.2
    have hx := h.1
    unfold okNum at hx
    simp only [Bool.and_eq_true, decide_eq_true_eq] at hx
    rw [List.sum_cons, List.length_cons]
    omega
end Go.Proofs.Ytmbnhlhanckkiaa
end
section
namespace Go.Proofs.Ytmbnhlhanckkiaa
open Go.RowKit
set_option linter.unusedVariables false
set_option linter.unusedSimpArgs false

theorem own_of_row {w : World} {B g n : Nat} {f : Nat → Value} {t : TypeId} (h : w.rowIs g t n f) (hB : B ≤ g) (hm : n ≤ maxLen) : isOwn B t ((List.range n).map f) (.slice (some ⟨g, 0, none⟩) n n) w := by
  obtain ⟨c, hb, hn, hc⟩ := h
  unfold isOwn World.ownsRow
  rw [List.length_map, List.length_range]
  refine ⟨by simp, .inr ⟨g, n, c, rfl, hB, hb, Nat.le_refl _, hm, by simpa using hn, ?_⟩⟩
  rw [Nat.mul_one]
  apply List.ext_getElem?
  intro j
  by_cases hj : j < n
  · rw [List.getElem?_take, if_pos hj, Array.getElem?_toList, hc j hj]
    simp [hj]
  · rw [List.getElem?_eq_none (by simp; omega), List.getElem?_eq_none (by simp; omega)]
theorem Try.infoInt : (Try.prog.info? 3).map (fun i => (i.zero, i.size, i.bytes)) = some (some (.int .i64 0), 1, 8) := by kernel_rfl
set_option maxRecDepth 20000 in
set_option maxHeartbeats 400000 in
theorem row_any (f : Nat → Int) (g : Nat) (caps : Array Value) (hent : Enters Try.prog g) (w : World)
    (hf : ∀ (k : Nat) (w' : World), k < 8 → Below w.heap.size w w' → Calls Try.prog g (#[.int .i64 (k : Int)] ++ caps) w' fun e w'' => e = .returned (.int .i64 (f k)) ∧ Below w'.heap.size w' w'') :
    Calls Try.prog 97 #[.func (.func g) #[] caps] w fun e w' => e = .returned (.slice (some ⟨w.heap.size, 0, none⟩) 8 8) ∧ w'.rowIs w.heap.size 3 8 (fun j => intC (f j)) ∧ Below w.heap.size w w' := by
  have HF := Kept.mk hf
  clear hf
  have hmk : ∀ W : World, (Instr.makeSlice 23 (.int .i64 8) (.int .i64 8)).run Try.prog W = .ok (.slice (some ⟨W.heap.size, 0, none⟩) 8 8) (W.alloc (.cells (madeCells #[Value.int .i64 0] 8) 3)) := fun W => run_make_row' (P := Try.prog) 23 3 (.int .i64 0) 8 Try.underlying23 Try.infoInt rfl .i64 .i64 8 (by omega) (by omega) W
  have HB0 := Kept.mk (show Below w.heap.size w (w.alloc (.cells (madeCells #[Value.int .i64 0] 8) 3)) from (Below.refl _ _).alloc (Nat.le_refl _) _)
  have HR0 := Kept.mk (World.rowIs_made w (.int .i64 0) 8 3)
  go_enter Try.func97, Try.ntmps97
  go_wp2
  clear hmk
  generalize w.alloc (.cells (madeCells #[Value.int .i64 0] 8) 3) = w0 at *
  go_loopw [8] (fun i wr => ∃ k : Nat, k ≤ 8 ∧ i = .int .i64 (k : Int) ∧ Kept (wr.rowIs w.heap.size 3 8 (fun j => if j < k then intC (f j) else intC 0)) ∧ Kept (Below w.heap.size w wr)) (fun i _ => 8 - (intOf i).toNat)
  case atStart => exact ⟨0, by omega, rfl, ⟨HR0.out.congr (fun i _ => by simp [intC])⟩, HB0⟩
  case round =>
    clear HR0 HB0
    obtain ⟨k, hk, rfl, HR, HB⟩ := hrel
    by_cases hlt : k < 8
    · have d1 : decide ((k : Int) < 8) = true := by simp; omega
      go_wp2_with fail
      rw [hent]
      simp only [Oper.upon]
      refine (HF.out k _ hlt HB.out).mono ?_
      rintro e w2 ⟨rfl, hb2⟩
      have HR2 := HR.out.of_block (hb2.block _ HR.out.lt)
      have hcell := HR2.cell hlt
      have hfz := HR2.frozen k
      have HR3 := Kept.mk (HR2.set k (.int .i64 (f k)))
      have HB3 := Kept.mk ((HB.out.trans (hb2.mono HB.out.size)).setCell (p := ⟨w.heap.size, k, none⟩) (Nat.le_refl _) (.int .i64 (f k)))
      clear HR2 hb2
      rewrite [if_neg (by omega)] at hcell
      unfold intC at hcell
      go_wp2
      go_roundw
      case rel =>
        refine ⟨k + 1, by omega, by go_num, ⟨HR3.out.congr (fun j hj => ?_)⟩, HB3⟩
        by_cases e : j = k
        · subst e; simp [intC]
        · rw [if_neg e]
          by_cases l : j < k
          · rw [if_pos l, if_pos (by omega)]
          · rw [if_neg l, if_neg (by omega)]
      case measure => simp [intOf]; omega
    · have d1 : decide ((k : Int) < 8) = false := by simp; omega
      obtain rfl : k = 8 := by omega
      have HO := Kept.mk (HR.out.congr (g := fun j => intC (f j)) (fun j hj => by rw [if_pos hj]))
      go_wp2
      go_ret
      exact ⟨rfl, HO.out, HB.out⟩
theorem cells_of_row {w : World} {g n : Nat} {f : Nat → Value} {t : TypeId} (h : w.rowIs g t n f) : isCells ((List.range n).map f) (.slice (some ⟨g, 0, none⟩) n n) w := by
  have e : ((List.range n).map f).length = n := by simp
  have := (show isCells ((List.range n).map f) (.slice (some ⟨g, 0, none⟩) ((List.range n).map f).length n) w from .inr (.inr ⟨g, 0, n, rfl, h.lt, fun j x hx => by
    have hj : j < n := by have := (List.getElem?_eq_some_iff.1 hx).1; simpa using this
    rw [Nat.zero_add, h.cell hj]
    simpa [hj] using hx⟩))
  rwa [e] at this
end Go.Proofs.Ytmbnhlhanckkiaa
end
section
namespace Go.Proofs.Ytmbnhlhanckkiaa
open Go.RowKit
set_option linter.unusedVariables false
set_option linter.unusedSimpArgs false

def isVa (A : Va) : VP := fun v w => ∃ vp vm, v = .agg #[.int .i64 A.kind, .int .i64 A.time, .int .i64 A.node, .bool A.dead, .string ⟨A.text.toArray⟩, vp, vm, .int .u64 (A.flags.toNat : Int)] ∧ isCells (A.plus.map intC) vp w ∧ isCells (A.minus.map intC) vm w
theorem stable_va (A : Va) : Stable (isVa A) := fun v w w' ⟨vp, vm, e, hp, hm⟩ hb => ⟨vp, vm, e, stable_cells _ _ _ _ hp hb, stable_cells _ _ _ _ hm hb⟩
theorem va_grow {A : Va} {v : Value} {w w' : World} (h : isVa A v w) (hb : Below w.heap.size w w') : isVa A v w' := stable_va A v w w' h hb
theorem isCells.one {cs : List Value} {v : Value} {w : World} (h : isCells cs v w) : v.oneCell' = true := by
  obtain ⟨a, cap, rfl⟩ := h.len
  rfl
/-- Block g holds the value A. -/
def VarV (w : World) (g : Nat) (A : Va) : Prop := ∃ vp vm, CellsN w g [.int .i64 A.kind, .int .i64 A.time, .int .i64 A.node, .bool A.dead, .string ⟨A.text.toArray⟩, vp, vm, .int .u64 (A.flags.toNat : Int)] ∧ isCells (A.plus.map intC) vp w ∧ isCells (A.minus.map intC) vm w
theorem VarV.keep {w w' : World} {g : Nat} {A : Va} (h : VarV w g A) (hb : Below w.heap.size w w') : VarV w' g A := by
  obtain ⟨vp, vm, hc, hp, hm⟩ := h
  exact ⟨vp, vm, hc.keep hb hc.1, stable_cells _ _ _ _ hp hb, stable_cells _ _ _ _ hm hb⟩
theorem VarV.lt {w : World} {g : Nat} {A : Va} (h : VarV w g A) : g < w.heap.size := by obtain ⟨_, _, hc, _⟩ := h; exact hc.1
theorem VarV.open_ {w : World} {g : Nat} {A : Va} (h : VarV w g A) : ∃ vp vm, isVa A (.agg #[.int .i64 A.kind, .int .i64 A.time, .int .i64 A.node, .bool A.dead, .string ⟨A.text.toArray⟩, vp, vm, .int .u64 (A.flags.toNat : Int)]) w ∧ Kept (isCells (A.plus.map intC) vp w) ∧ Kept (isCells (A.minus.map intC) vm w) ∧
    w.cell? ⟨g, 0, none⟩ = some (.int .i64 A.kind) ∧ w.cell? ⟨g, 1, none⟩ = some (.int .i64 A.time) ∧ w.cell? ⟨g, 2, none⟩ = some (.int .i64 A.node) ∧ w.cell? ⟨g, 3, none⟩ = some (.bool A.dead) ∧ w.cell? ⟨g, 4, none⟩ = some (.string ⟨A.text.toArray⟩) ∧
    w.cell? ⟨g, 5, none⟩ = some vp ∧ w.cell? ⟨g, 6, none⟩ = some vm ∧ w.cell? ⟨g, 7, none⟩ = some (.int .u64 (A.flags.toNat : Int)) := by
  obtain ⟨vp, vm, hc, hp, hm⟩ := h
  exact ⟨vp, vm, ⟨vp, vm, rfl, hp, hm⟩, ⟨hp⟩, ⟨hm⟩, hc.2 0 _ rfl, hc.2 1 _ rfl, hc.2 2 _ rfl, hc.2 3 _ rfl, hc.2 4 _ rfl, hc.2 5 _ rfl, hc.2 6 _ rfl, hc.2 7 _ rfl⟩
/-- .. with just these rows. -/
def VarE (w : World) (g : Nat) (A : Va) (vp vm : Value) : Prop := CellsN w g [.int .i64 A.kind, .int .i64 A.time, .int .i64 A.node, .bool A.dead, .string ⟨A.text.toArray⟩, vp, vm, .int .u64 (A.flags.toNat : Int)] ∧ isCells (A.plus.map intC) vp w ∧ isCells (A.minus.map intC) vm w
theorem VarE.var {w : World} {g : Nat} {A : Va} {vp vm : Value} (h : VarE w g A vp vm) : VarV w g A := ⟨vp, vm, h⟩
def blk : Value → Option Nat
  | .slice (some a) _ _ => some a.block
  | _ => none
/-- It stands in a block that is no older than B, or in none. -/
def NewB (B : Nat) (v : Value) : Prop := ∀ b, blk v = some b → B ≤ b
theorem NewB.low {B B' : Nat} {v : Value} (h : NewB B v) (hB : B' ≤ B) : NewB B' v := fun b hb => Nat.le_trans hB (h b hb)
theorem newB_nil (B : Nat) : NewB B (.slice none 0 0) := fun b h => by cases h
theorem newB_row {B g : Nat} (h : B ≤ g) (o n c : Nat) : NewB B (.slice (some ⟨g, o, none⟩) n c) := fun b hb => by cases hb; exact h
theorem NewB.ne {B g : Nat} {v : Value} (h : NewB B v) (hg : g < B) : blk v ≠ some g := fun e => by have := h g e; omega
/-- A value whose rows are new. -/
def isVaN (B : Nat) (A : Va) : VP := fun v w => ∃ vp vm, v = .agg #[.int .i64 A.kind, .int .i64 A.time, .int .i64 A.node, .bool A.dead, .string ⟨A.text.toArray⟩, vp, vm, .int .u64 (A.flags.toNat : Int)] ∧ isCells (A.plus.map intC) vp w ∧ isCells (A.minus.map intC) vm w ∧ NewB B vp ∧ NewB B vm
theorem isVaN.va {B : Nat} {A : Va} {v : Value} {w : World} (h : isVaN B A v w) : isVa A v w := by obtain ⟨vp, vm, e, hp, hm, _⟩ := h; exact ⟨vp, vm, e, hp, hm⟩
theorem isVaN.low {B B' : Nat} {A : Va} {v : Value} {w : World} (h : isVaN B A v w) (hB : B' ≤ B) : isVaN B' A v w := by obtain ⟨vp, vm, e, hp, hm, np, nm⟩ := h; exact ⟨vp, vm, e, hp, hm, np.low hB, nm.low hB⟩
/-- A parameter's box. -/
theorem vbox (w : World) (A : Va) (vp vm : Value) (hp : isCells (A.plus.map intC) vp w) (hm : isCells (A.minus.map intC) vm w) (n : Nat) (hn : n = w.heap.size) :
    Kept (Below w.heap.size w (w.alloc (.cells #[.int .i64 A.kind, .int .i64 A.time, .int .i64 A.node, .bool A.dead, .string ⟨A.text.toArray⟩, vp, vm, .int .u64 (A.flags.toNat : Int)] 28))) ∧
    Kept (VarV (w.alloc (.cells #[.int .i64 A.kind, .int .i64 A.time, .int .i64 A.node, .bool A.dead, .string ⟨A.text.toArray⟩, vp, vm, .int .u64 (A.flags.toNat : Int)] 28)) n A) := by
  subst hn
  have hb : Below w.heap.size w (w.alloc (.cells #[.int .i64 A.kind, .int .i64 A.time, .int .i64 A.node, .bool A.dead, .string ⟨A.text.toArray⟩, vp, vm, .int .u64 (A.flags.toNat : Int)] 28)) := (Below.refl _ _).alloc (Nat.le_refl _) _
  exact ⟨⟨hb⟩, ⟨⟨vp, vm, cellsN_new w 28 _, stable_cells _ _ _ _ hp hb, stable_cells _ _ _ _ hm hb⟩⟩⟩
theorem lit_below (W : World) (o : Obj) : Below W.heap.size W (W.alloc o) := (Below.refl _ _).alloc (Nat.le_refl _) _
theorem size_va : (Try.prog.info? 28).map (·.size) = some 8 := by kernel_rfl
theorem agg_va (w : World) : (isAgg 28).run Try.prog w = .ok true w := by simp [isAgg, run_underlying Try.underlying28]
theorem field_va (g k : Nat) (hk : k < 8) (w : World) : (Instr.fieldAt 28 (.pointer (some ⟨g, 0, none⟩)) k).run Try.prog w = .ok (.pointer (some ⟨g, k, none⟩)) w := by
  have h : k = 0 ∨ k = 1 ∨ k = 2 ∨ k = 3 ∨ k = 4 ∨ k = 5 ∨ k = 6 ∨ k = 7 := by omega
  rcases h with rfl | rfl | rfl | rfl | rfl | rfl | rfl | rfl <;> simp [Instr.fieldAt, run_underlying Try.underlying28, Instr.sureAddr, fieldPlace, Addr.add]
/-- A result's or a variable's new block, in which a value is laid down. -/
theorem vnew (w : World) (A : Va) (vp vm : Value) (hp : isCells (A.plus.map intC) vp w) (hm : isCells (A.minus.map intC) vm w) (n : Nat) (hn : n = w.heap.size) :
    Kept (CellsN (w.alloc (.cells #[.int .i64 0, .int .i64 0, .int .i64 0, .bool false, .string ⟨#[]⟩, .slice none 0 0, .slice none 0 0, .int .u64 0] 28)) n [.int .i64 0, .int .i64 0, .int .i64 0, .bool false, .string ⟨#[]⟩, .slice none 0 0, .slice none 0 0, .int .u64 0]) ∧
    Kept (Free5 (w.alloc (.cells #[.int .i64 0, .int .i64 0, .int .i64 0, .bool false, .string ⟨#[]⟩, .slice none 0 0, .slice none 0 0, .int .u64 0] 28)) n) ∧
    Kept (Below w.heap.size w (setN (w.alloc (.cells #[.int .i64 0, .int .i64 0, .int .i64 0, .bool false, .string ⟨#[]⟩, .slice none 0 0, .slice none 0 0, .int .u64 0] 28)) n 0 [.int .i64 A.kind, .int .i64 A.time, .int .i64 A.node, .bool A.dead, .string ⟨A.text.toArray⟩, vp, vm, .int .u64 (A.flags.toNat : Int)])) ∧
    Kept (VarE (setN (w.alloc (.cells #[.int .i64 0, .int .i64 0, .int .i64 0, .bool false, .string ⟨#[]⟩, .slice none 0 0, .slice none 0 0, .int .u64 0] 28)) n 0 [.int .i64 A.kind, .int .i64 A.time, .int .i64 A.node, .bool A.dead, .string ⟨A.text.toArray⟩, vp, vm, .int .u64 (A.flags.toNat : Int)]) n A vp vm) ∧ Kept (Ones [.int .i64 A.kind, .int .i64 A.time, .int .i64 A.node, .bool A.dead, .string ⟨A.text.toArray⟩, vp, vm, .int .u64 (A.flags.toNat : Int)]) := by
  subst hn
  have hb := lit_below w (.cells #[.int .i64 0, .int .i64 0, .int .i64 0, .bool false, .string ⟨#[]⟩, .slice none 0 0, .slice none 0 0, .int .u64 0] 28)
  have hc := cellsN_new w 28 [.int .i64 0, .int .i64 0, .int .i64 0, .bool false, .string ⟨#[]⟩, .slice none 0 0, .slice none 0 0, .int .u64 0]
  have hb5 := below_setN (Nat.le_refl _) [.int .i64 A.kind, .int .i64 A.time, .int .i64 A.node, .bool A.dead, .string ⟨A.text.toArray⟩, vp, vm, .int .u64 (A.flags.toNat : Int)] 0 _ hb
  exact ⟨⟨hc⟩, ⟨free5_new w _ _⟩, ⟨hb5⟩, ⟨⟨hc.setN_ _ rfl, stable_cells _ _ _ _ hp hb5, stable_cells _ _ _ _ hm hb5⟩⟩, ⟨⟨rfl, rfl, rfl, rfl, rfl, hp.one, hm.one, rfl, trivial⟩⟩⟩
/-- A row stands as it stood, where another block is written. -/
theorem cells_apart {cs : List Value} {v : Value} {w : World} (h : isCells cs v w) {g : Nat} (hg : ∀ b off cap, v = .slice (some ⟨b, off, none⟩) cs.length cap → cs ≠ [] → b ≠ g) (k : Nat) (l : List Value) : isCells cs v (setN w g k l) := by
  rcases h with h | h | ⟨b, off, cap, e, hlt, hc⟩
  · exact .inl h
  · exact .inr (.inl h)
  · by_cases h0 : cs = []
    · subst h0; exact .inr (.inl ⟨_, _, e, rfl⟩)
    · exact .inr (.inr ⟨b, off, cap, e, by rw [size_setN]; exact hlt, fun j x hx => (setN_other g l k w _ (.inl (hg b off cap e h0))).trans (hc j x hx)⟩)
/-- .. in a block that is there already. -/
theorem vset {B g : Nat} {w0 w : World} (A : Va) (vp vm : Value) (hB : B ≤ g) (hb : Below B w0 w) {old : List Value} (hc : CellsN w g old) (h8 : old.length = 8) (hp : isCells (A.plus.map intC) vp w) (hm : isCells (A.minus.map intC) vm w) (np : blk vp ≠ some g) (nm : blk vm ≠ some g) :
    Kept (Below B w0 (setN w g 0 [.int .i64 A.kind, .int .i64 A.time, .int .i64 A.node, .bool A.dead, .string ⟨A.text.toArray⟩, vp, vm, .int .u64 (A.flags.toNat : Int)])) ∧
    Kept (VarE (setN w g 0 [.int .i64 A.kind, .int .i64 A.time, .int .i64 A.node, .bool A.dead, .string ⟨A.text.toArray⟩, vp, vm, .int .u64 (A.flags.toNat : Int)]) g A vp vm) ∧ Kept (Ones [.int .i64 A.kind, .int .i64 A.time, .int .i64 A.node, .bool A.dead, .string ⟨A.text.toArray⟩, vp, vm, .int .u64 (A.flags.toNat : Int)]) := by
  have ap : ∀ (v : Value) (cs : List Value), blk v ≠ some g → ∀ b off cap, v = .slice (some ⟨b, off, none⟩) cs.length cap → cs ≠ [] → b ≠ g := by
    rintro v cs h b off cap rfl _ rfl
    exact h rfl
  exact ⟨⟨below_setN hB _ 0 _ hb⟩, ⟨⟨hc.setN_ _ h8, cells_apart hp (ap vp _ np) _ _, cells_apart hm (ap vm _ nm) _ _⟩⟩, ⟨⟨rfl, rfl, rfl, rfl, rfl, hp.one, hm.one, rfl, trivial⟩⟩⟩
/-- A row that stood ahead of a block stands, where that block is written. -/
theorem cells_old {cs : List Value} {v : Value} {w0 w : World} (h : isCells cs v w0) (hb : Below w0.heap.size w0 w) {g : Nat} (hg : w0.heap.size ≤ g) (k : Nat) (l : List Value) : isCells cs v (setN w g k l) :=
  stable_cells _ _ _ _ h (below_setN hg l k _ hb)
end Go.Proofs.Ytmbnhlhanckkiaa
end
section
namespace Go.Proofs.Ytmbnhlhanckkiaa
open Go.RowKit
set_option linter.unusedVariables false
set_option linter.unusedSimpArgs false

/-- Block b holds just these cells, and may be written. -/
structure Blk (W : World) (b : Nat) (cs : List Value) : Prop where
  cells : CellsN W b cs
  free : Free5 W b
theorem Blk.lt {W : World} {b : Nat} {cs : List Value} (h : Blk W b cs) : b < W.heap.size := h.cells.1
theorem Blk.wr {W W' : World} {b g : Nat} {cs : List Value} {x : Value} (h : Blk W b cs) (k : Wr g x W W') (hne : b ≠ g) : Blk W' b cs :=
  ⟨⟨Nat.lt_of_lt_of_le h.lt k.size, fun j x hx => (k.cell (p := ⟨b, j, none⟩) h.lt hne).trans (h.cells.2 j x hx)⟩, fun j => (k.frozen (p := ⟨b, j, none⟩) h.lt hne).trans (h.free j)⟩
theorem Blk.keep {W W' : World} {b : Nat} {cs : List Value} (h : Blk W b cs) (k : Below W.heap.size W W') : Blk W' b cs := ⟨h.cells.keep k h.lt, h.free.keep k h.lt⟩
theorem Blk.set {W : World} {b : Nat} {cs : List Value} (h : Blk W b cs) (k : Nat) (x : Value) (hk : k < cs.length) : Blk (W.setCell ⟨b, k, none⟩ x) b (cs.set k x) := by
  refine ⟨⟨by simpa using h.lt, fun j y hy => ?_⟩, fun j => by rw [World.frozen?_setCell]; exact h.free j⟩
  by_cases e : k = j
  · subst e
    rw [World.cell?_setCell_same W _ _ (h.cells.2 k _ (List.getElem?_eq_getElem hk))]
    rw [List.getElem?_set_self hk] at hy
    exact hy
  · rw [World.cell?_setCell_other W _ _ _ (by intro h; injection h; contradiction)]
    rw [List.getElem?_set_ne e] at hy
    exact h.cells.2 j y hy
theorem Blk.apart {W : World} {b b' : Nat} {cs : List Value} (h : Blk W b cs) (hne : b ≠ b') (k : Nat) (x : Value) : Blk (W.setCell ⟨b', k, none⟩ x) b cs :=
  ⟨⟨by simpa using h.lt, fun j y hy => by rw [World.cell?_setCell_other W _ _ _ (by intro h; injection h with h1; exact hne h1.symm)]; exact h.cells.2 j y hy⟩, fun j => by rw [World.frozen?_setCell]; exact h.free j⟩
theorem Blk.all_ {W : World} {b : Nat} {cs l : List Value} (h : Blk W b cs) (hl : cs.length = l.length) : Blk (setN W b 0 l) b l := ⟨h.cells.setN_ l hl, h.free.setN_ b 0 l⟩
theorem Blk.apartN {W : World} {b b' : Nat} {cs : List Value} (h : Blk W b cs) (hne : b ≠ b') (k : Nat) (l : List Value) : Blk (setN W b' k l) b cs := ⟨h.cells.apartN k l (fun e => hne e.symm), h.free.setN_ b' k l⟩
theorem Blk.new (W : World) (t : TypeId) (l : List Value) (n : Nat) (hn : n = W.heap.size) : Blk (W.alloc (.cells l.toArray t)) n l := ⟨cellsN_at W t l n hn, free5_at W l.toArray t n hn⟩
theorem Blk.alloc {W : World} {b : Nat} {cs : List Value} (h : Blk W b cs) (o : Obj) : Blk (W.alloc o) b cs := h.keep ((Below.refl _ _).alloc (Nat.le_refl _) _)

theorem Wr.setCell_new {g b : Nat} {x : Value} {w W : World} (h : Wr g x w W) (hb : w.heap.size ≤ b) (hne : b ≠ g) (k : Nat) (y : Value) : Wr g x w (W.setCell ⟨b, k, none⟩ y) where
  os := h.os
  tape := h.tape
  output := h.output
  size := by simpa using h.size
  block i hi hig := (Below.heap_setCell W _ y i (by show i ≠ b; omega)).trans (h.block i hi hig)
  at_ := ⟨by rw [World.cell?_setCell_other W _ _ _ (by intro e; injection e with e1; exact hne e1)]; exact h.at_.cell, by rw [World.frozen?_setCell]; exact h.at_.free, by simpa using h.at_.lt⟩
theorem Wr.setN_new {g b : Nat} {x : Value} {w : World} (hb : w.heap.size ≤ b) (hne : b ≠ g) : ∀ (l : List Value) (k : Nat) (W : World), Wr g x w W → Wr g x w (setN W b k l)
  | [], k, W, h => h
  | y :: r, k, W, h => by
    show Wr g x w (setN (W.setCell ⟨b, k, none⟩ y) b (k + 1) r)
    exact Wr.setN_new hb hne r (k + 1) _ (h.setCell_new hb hne k y)
theorem Wr.alloc {g : Nat} {x : Value} {w W : World} (h : Wr g x w W) (o : Obj) : Wr g x w (W.alloc o) := h.then_ ((Below.refl _ _).alloc (Nat.le_refl _) _)
/-- A row that stands elsewhere. -/
theorem isCells.wr {cs : List Value} {v : Value} {g : Nat} {x : Value} {w w' : World} (h : isCells cs v w) (k : Wr g x w w') (hg : blk v ≠ some g) : isCells cs v w' := by
  rcases h with h | h | ⟨b, off, cap, e, hlt, hc⟩
  · exact .inl h
  · exact .inr (.inl h)
  · have hne : b ≠ g := by rintro rfl; exact hg (by rw [e]; rfl)
    exact .inr (.inr ⟨b, off, cap, e, Nat.lt_of_lt_of_le hlt k.size, fun j x hx => (k.cell (p := ⟨b, off + j, none⟩) hlt hne).trans (hc j x hx)⟩)
theorem isCells.setCell_apart {cs : List Value} {v : Value} {w : World} (h : isCells cs v w) (g k : Nat) (x : Value) (hg : blk v ≠ some g) : isCells cs v (w.setCell ⟨g, k, none⟩ x) := by
  rcases h with h | h | ⟨b, off, cap, e, hlt, hc⟩
  · exact .inl h
  · exact .inr (.inl h)
  · have hne : b ≠ g := by rintro rfl; exact hg (by rw [e]; rfl)
    exact .inr (.inr ⟨b, off, cap, e, by simpa using hlt, fun j y hy => by rw [World.cell?_setCell_other w _ _ _ (by intro e; injection e with e1; exact hne e1.symm)]; exact hc j y hy⟩)
end Go.Proofs.Ytmbnhlhanckkiaa
end
section
namespace Go.Proofs.Ytmbnhlhanckkiaa
open Go.RowKit
set_option linter.unusedVariables false
set_option linter.unusedSimpArgs false
attribute [local irreducible] setN

/-- Behind a call of the reader. -/
theorem step3 {w W W' : World} {g r v : Nat} {x y : Value} {cr cv : List Value} (HW : Kept (Wr g x w W)) (HR : Kept (Blk W r cr)) (HV : Kept (Blk W v cv)) (h : Wr g y W W') (hr : r ≠ g) (hv : v ≠ g) : Kept (Wr g y w W') ∧ Kept (Blk W' r cr) ∧ Kept (Blk W' v cv) :=
  ⟨⟨HW.out.trans h⟩, ⟨HR.out.wr h hr⟩, ⟨HV.out.wr h hv⟩⟩
/-- Behind a store into the variable. -/
theorem set3 {w W : World} {g r v : Nat} {x : Value} {cr cv : List Value} (HW : Kept (Wr g x w W)) (HR : Kept (Blk W r cr)) (HV : Kept (Blk W v cv)) (k : Nat) (y : Value) (hk : k < cv.length) (hw : w.heap.size ≤ v) (hr : r ≠ v) (hv : v ≠ g) : Kept (Wr g x w (W.setCell ⟨v, k, none⟩ y)) ∧ Kept (Blk (W.setCell ⟨v, k, none⟩ y) r cr) ∧ Kept (Blk (W.setCell ⟨v, k, none⟩ y) v (cv.set k y)) :=
  ⟨⟨HW.out.setCell_new hw hv k y⟩, ⟨HR.out.apart hr k y⟩, ⟨HV.out.set k y hk⟩⟩
/-- A result's block and a variable's, in which a literal is laid down. -/
theorem lay3 (w : World) (g : Nat) (x : Value) (h : At w g x) (l : List Value) (hl : l.length = 8) (n m : Nat) (hn : n = w.heap.size) (hm : m = w.heap.size + 1) :
    Kept (Blk ((w.alloc (.cells #[.int .i64 0, .int .i64 0, .int .i64 0, .bool false, .string ⟨#[]⟩, .slice none 0 0, .slice none 0 0, .int .u64 0] 28)).alloc (.cells #[.int .i64 0, .int .i64 0, .int .i64 0, .bool false, .string ⟨#[]⟩, .slice none 0 0, .slice none 0 0, .int .u64 0] 28)) m [.int .i64 0, .int .i64 0, .int .i64 0, .bool false, .string ⟨#[]⟩, .slice none 0 0, .slice none 0 0, .int .u64 0]) ∧ Kept (Wr g x w (setN ((w.alloc (.cells #[.int .i64 0, .int .i64 0, .int .i64 0, .bool false, .string ⟨#[]⟩, .slice none 0 0, .slice none 0 0, .int .u64 0] 28)).alloc (.cells #[.int .i64 0, .int .i64 0, .int .i64 0, .bool false, .string ⟨#[]⟩, .slice none 0 0, .slice none 0 0, .int .u64 0] 28)) m 0 l)) ∧ Kept (Blk (setN ((w.alloc (.cells #[.int .i64 0, .int .i64 0, .int .i64 0, .bool false, .string ⟨#[]⟩, .slice none 0 0, .slice none 0 0, .int .u64 0] 28)).alloc (.cells #[.int .i64 0, .int .i64 0, .int .i64 0, .bool false, .string ⟨#[]⟩, .slice none 0 0, .slice none 0 0, .int .u64 0] 28)) m 0 l) n [.int .i64 0, .int .i64 0, .int .i64 0, .bool false, .string ⟨#[]⟩, .slice none 0 0, .slice none 0 0, .int .u64 0]) ∧ Kept (Blk (setN ((w.alloc (.cells #[.int .i64 0, .int .i64 0, .int .i64 0, .bool false, .string ⟨#[]⟩, .slice none 0 0, .slice none 0 0, .int .u64 0] 28)).alloc (.cells #[.int .i64 0, .int .i64 0, .int .i64 0, .bool false, .string ⟨#[]⟩, .slice none 0 0, .slice none 0 0, .int .u64 0] 28)) m 0 l) m l) := by
  subst hn hm
  have hg := h.lt
  have b1 := Blk.new w 28 [.int .i64 0, .int .i64 0, .int .i64 0, .bool false, .string ⟨#[]⟩, .slice none 0 0, .slice none 0 0, .int .u64 0] w.heap.size rfl
  have b2 := Blk.new (w.alloc (.cells #[.int .i64 0, .int .i64 0, .int .i64 0, .bool false, .string ⟨#[]⟩, .slice none 0 0, .slice none 0 0, .int .u64 0] 28)) 28 [.int .i64 0, .int .i64 0, .int .i64 0, .bool false, .string ⟨#[]⟩, .slice none 0 0, .slice none 0 0, .int .u64 0] (w.heap.size + 1) (by simp)
  exact ⟨⟨b2⟩, ⟨Wr.setN_new (by omega) (by omega) l 0 _ (((Wr.refl h).alloc _).alloc _)⟩, ⟨(b1.alloc _).apartN (by omega) 0 l⟩, ⟨b2.all_ hl.symm⟩⟩
end Go.Proofs.Ytmbnhlhanckkiaa
end
section
namespace Go.Proofs.Ytmbnhlhanckkiaa
open Go.RowKit
set_option linter.unusedVariables false
set_option linter.unusedSimpArgs false

theorem same_split (A B : Va) : decide (A = B) = ((A.kind == B.kind) && (A.time == B.time) && (A.node == B.node) && (A.dead == B.dead) && (A.text == B.text) && decide (A.plus = B.plus) && decide (A.minus = B.minus) && ((A.flags.toNat : Int) == (B.flags.toNat : Int))) := by
  obtain ⟨a0, a1, a2, a3, a4, a5, a6, a7⟩ := A
  obtain ⟨b0, b1, b2, b3, b4, b5, b6, b7⟩ := B
  rw [Bool.eq_iff_iff]
  simp only [decide_eq_true_eq, Bool.and_eq_true, beq_iff_eq, Va.mk.injEq]
  have h7 : a7 = b7 ↔ (a7.toNat : Int) = (b7.toNat : Int) := by rw [← UInt64.toNat_inj]; omega
  rw [h7]
  constructor
  · rintro ⟨h0, h1, h2, h3, h4, h5, h6, h7⟩; exact ⟨⟨⟨⟨⟨⟨⟨h0, h1⟩, h2⟩, h3⟩, h4⟩, h5⟩, h6⟩, h7⟩
  · rintro ⟨⟨⟨⟨⟨⟨⟨h0, h1⟩, h2⟩, h3⟩, h4⟩, h5⟩, h6⟩, h7⟩; exact ⟨h0, h1, h2, h3, h4, h5, h6, h7⟩
set_option maxRecDepth 20000 in
set_option maxHeartbeats 2000000 in
theorem vsame_any (A B : Va) (v u : Value) (w : World) (hv : isVa A v w) (hu : isVa B u w) (h1 : A.plus.length ≤ 1000000000) (h2 : A.minus.length ≤ 1000000000) (h3 : B.plus.length ≤ 1000000000) (h4 : B.minus.length ≤ 1000000000) :
    Calls Try.prog 39 #[v, u] w fun e w' => e = .returned (.bool (decide (A = B))) ∧ Below w.heap.size w w' := by
  obtain ⟨vp, vm, rfl, hp, hm⟩ := hv
  obtain ⟨up, um, rfl, gp, gm⟩ := hu
  obtain ⟨hB0, hV0⟩ := vbox w A vp vm hp hm w.heap.size rfl
  obtain ⟨hB1, hU⟩ := vbox _ B up um (stable_cells _ _ _ _ gp hB0.out) (stable_cells _ _ _ _ gm hB0.out) (w.heap.size + 1) (by simp)
  have hV := Kept.mk (hV0.out.keep hB1.out)
  have hB := Kept.mk (hB0.out.trans (hB1.out.mono hB0.out.size))
  have HP := Kept.mk hp
  have HM := Kept.mk hm
  have GP := Kept.mk gp
  have GM := Kept.mk gm
  have HS := Kept.mk (same_split A B)
  clear hp hm gp gm hV0 hB0 hB1
  cases d0 : (A.kind == B.kind) with
  | false =>
    go_enter Try.func39, Try.ntmps39
    go_wp2
    go_ret
    exact ⟨by rw [HS.out, d0]; rfl, hB.out⟩
  | true =>
    cases d1 : (A.time == B.time) with
    | false =>
      go_enter Try.func39, Try.ntmps39
      go_wp2
      go_ret
      exact ⟨by rw [HS.out, d0, d1]; rfl, hB.out⟩
    | true =>
      cases d2 : (A.node == B.node) with
      | false =>
        go_enter Try.func39, Try.ntmps39
        go_wp2
        go_ret
        exact ⟨by rw [HS.out, d0, d1, d2]; rfl, hB.out⟩
      | true =>
        cases d3 : (A.dead == B.dead) with
        | false =>
          go_enter Try.func39, Try.ntmps39
          go_wp2
          go_ret
          exact ⟨by rw [HS.out, d0, d1, d2, d3]; rfl, hB.out⟩
        | true =>
          cases d4 : (A.text == B.text) with
          | false =>
            go_enter Try.func39, Try.ntmps39
            go_wp2
            go_ret
            exact ⟨by rw [HS.out, d0, d1, d2, d3, d4]; rfl, hB.out⟩
          | true =>
            go_enter Try.func39, Try.ntmps39
            go_wp2_with fail
            refine (equal_i A.plus B.plus _ _ _ (stable_cells _ _ _ _ HP.out hB.out) (stable_cells _ _ _ _ GP.out hB.out) (by omega) (by omega)).mono ?_
            rintro e w5 ⟨rfl, hb⟩
            replace hV := Kept.mk (hV.out.keep hb)
            replace hU := Kept.mk (hU.out.keep hb)
            replace hB := Kept.mk (hB.out.trans (hb.mono hB.out.size))
            clear hb
            obtain ⟨qA5, rA5, _, _, hmA, kA0, kA1, kA2, kA3, kA4, kA5, kA6, kA7⟩ := hV.out.open_
            obtain ⟨qB5, rB5, _, _, hmB, kB0, kB1, kB2, kB3, kB4, kB5, kB6, kB7⟩ := hU.out.open_
            cases d5 : decide (A.plus = B.plus) with
            | false =>
              go_wp2
              go_ret
              exact ⟨by rw [HS.out, d0, d1, d2, d3, d4, d5]; rfl, hB.out⟩
            | true =>
              have HP2 := Kept.mk (show True from trivial)
              go_wp2_with fail
              refine (equal_i A.minus B.minus _ _ _ hmA.out hmB.out (by omega) (by omega)).mono ?_
              rintro e w6 ⟨rfl, hb⟩
              replace hV := Kept.mk (hV.out.keep hb)
              replace hU := Kept.mk (hU.out.keep hb)
              replace hB := Kept.mk (hB.out.trans (hb.mono hB.out.size))
              clear hb
              clear hmA hmB kA0 kA1 kA2 kA3 kA4 kA5 kA6 kA7 kB0 kB1 kB2 kB3 kB4 kB5 kB6 kB7
              obtain ⟨qA6, rA6, _, _, hmA, kA0, kA1, kA2, kA3, kA4, kA5, kA6, kA7⟩ := hV.out.open_
              obtain ⟨qB6, rB6, _, _, hmB, kB0, kB1, kB2, kB3, kB4, kB5, kB6, kB7⟩ := hU.out.open_
              cases d6 : decide (A.minus = B.minus) with
              | false =>
                go_wp2
                go_ret
                exact ⟨by rw [HS.out, d0, d1, d2, d3, d4, d5, d6]; rfl, hB.out⟩
              | true =>
                cases d7 : ((A.flags.toNat : Int) == (B.flags.toNat : Int)) with
                | false =>
                  go_wp2
                  go_ret
                  exact ⟨by rw [HS.out, d0, d1, d2, d3, d4, d5, d6, d7]; rfl, hB.out⟩
                | true =>
                  go_wp2
                  go_ret
                  exact ⟨by rw [HS.out, d0, d1, d2, d3, d4, d5, d6, d7]; rfl, hB.out⟩
end Go.Proofs.Ytmbnhlhanckkiaa
end
section
namespace Go.Proofs.Ytmbnhlhanckkiaa
open Go.RowKit
set_option linter.unusedVariables false
set_option linter.unusedSimpArgs false
attribute [local irreducible] setN

set_option maxRecDepth 20000 in
set_option maxHeartbeats 1000000 in
theorem flagsInrange_any (A : Va) (v : Value) (w : World) (hv : isVa A v w) :
    Calls Try.prog 103 #[.agg #[], v] w fun e w' => e = .returned (.bool true) ∧ Below w.heap.size w w' := by
  obtain ⟨vp, vm, rfl, hp, hm⟩ := hv
  have hB0 := lit_below w (.cells #[] 96)
  obtain ⟨hB1, hV⟩ := vbox _ A vp vm (stable_cells _ _ _ _ hp hB0) (stable_cells _ _ _ _ hm hB0) (w.heap.size + 1) (by simp)
  have hB := Kept.mk (hB0.trans (hB1.out.mono hB0.size))
  clear hp hm hB0 hB1 hV
  go_enter Try.func103, Try.ntmps103
  go_wp2
  go_ret
  exact ⟨rfl, hB.out⟩
set_option maxRecDepth 20000 in
set_option maxHeartbeats 1000000 in
theorem regIn_any (A : Va) (v : Value) (w : World) (hv : isVa A v w) (hl : A.text.length ≤ 1000000000) :
    Calls Try.prog 79 #[.agg #[], v] w fun e w' => e = .returned (.bool (inReg A)) ∧ Below w.heap.size w w' := by
  obtain ⟨vp, vm, rfl, hp, hm⟩ := hv
  have hB0 := lit_below w (.cells #[] 94)
  obtain ⟨hB1, hV⟩ := vbox _ A vp vm (stable_cells _ _ _ _ hp hB0) (stable_cells _ _ _ _ hm hB0) (w.heap.size + 1) (by simp)
  have hB := Kept.mk (hB0.trans (hB1.out.mono hB0.size))
  clear hp hm hB0 hB1 hV
  have HI := Kept.mk (show inReg A = ((decide (0 ≤ A.time) && decide (A.time ≤ 2147483647)) && (decide (0 ≤ A.node) && decide (A.node ≤ 7)) && decide ((A.text.length : Int) ≤ 8) && (!A.dead || A.text.isEmpty)) by unfold inReg; cases A.text <;> rfl)
  have hsz : (⟨A.text.toArray⟩ : ByteArray).size = A.text.length := size_mk _
  go_enter Try.func79, Try.ntmps79
  go_wp2_with fail
  refine (within_any _ _ _).mono ?_; rintro e w' ⟨rfl, rfl⟩
  cases d1 : (decide (0 ≤ A.time) && decide (A.time ≤ 2147483647)) with
  | false =>
    go_wp2
    go_ret
    exact ⟨by rw [HI.out, d1]; rfl, hB.out⟩
  | true =>
    go_wp2_with fail
    refine (within_any _ _ _).mono ?_; rintro e w' ⟨rfl, rfl⟩
    cases d2 : (decide (0 ≤ A.node) && decide (A.node ≤ 7)) with
    | false =>
      go_wp2
      go_ret
      exact ⟨by rw [HI.out, d1, d2]; rfl, hB.out⟩
    | true =>
      cases d3 : decide ((A.text.length : Int) ≤ 8) with
      | false =>
        go_wp2
        go_ret
        exact ⟨by rw [HI.out, d1, d2, d3]; rfl, hB.out⟩
      | true =>
        cases d4 : A.dead with
        | false =>
          rw [d4] at hB
          go_wp2
          go_ret
          exact ⟨by rw [HI.out, d1, d2, d3, d4]; rfl, hB.out⟩
        | true =>
          rw [d4] at hB
          go_wp2
          go_ret
          exact ⟨by rw [HI.out, d1, d2, d3, d4]; rfl, hB.out⟩
set_option maxRecDepth 20000 in
set_option maxHeartbeats 1000000 in
theorem countIn_any (A : Va) (v : Value) (w : World) (hv : isVa A v w) (h1 : A.plus.length ≤ 1000000000) (h2 : A.minus.length ≤ 1000000000) :
    Calls Try.prog 91 #[.agg #[], v] w fun e w' => e = .returned (.bool (inCount A)) ∧ Below w.heap.size w w' := by
  obtain ⟨vp, vm, rfl, hp, hm⟩ := hv
  have hB0 := lit_below w (.cells #[] 95)
  obtain ⟨hB1, hV⟩ := vbox _ A vp vm (stable_cells _ _ _ _ hp hB0) (stable_cells _ _ _ _ hm hB0) (w.heap.size + 1) (by simp)
  have hB := Kept.mk (hB0.trans (hB1.out.mono hB0.size))
  have HP := Kept.mk (stable_cells _ _ _ _ hp hB.out)
  have HM := Kept.mk (stable_cells _ _ _ _ hm hB.out)
  clear hp hm hB0 hB1 hV
  have HI := Kept.mk (show inCount A = (okRow A.plus && okRow A.minus) from rfl)
  go_enter Try.func91, Try.ntmps91
  go_wp2_with fail
  refine (isRow_any A.plus _ _ HP.out (by omega)).mono ?_; rintro e w' ⟨rfl, rfl⟩
  cases d1 : okRow A.plus with
  | false =>
    go_wp2
    go_ret
    exact ⟨by rw [HI.out, d1]; rfl, hB.out⟩
  | true =>
    go_wp2_with fail
    refine (isRow_any A.minus _ _ HM.out (by omega)).mono ?_; rintro e w' ⟨rfl, rfl⟩
    cases d2 : okRow A.minus with
    | false =>
      go_wp2
      go_ret
      exact ⟨by rw [HI.out, d1, d2]; rfl, hB.out⟩
    | true =>
      go_wp2
      go_ret
      exact ⟨by rw [HI.out, d1, d2]; rfl, hB.out⟩
set_option maxRecDepth 20000 in
set_option maxHeartbeats 1000000 in
theorem regOnly_any (A : Va) (v : Value) (w : World) (hv : isVa A v w) :
    Calls Try.prog 82 #[.agg #[], v] w fun e w' => ∃ v', e = .returned v' ∧ isVaN w.heap.size (onlyReg A) v' w' ∧ Below w.heap.size w w' := by
  obtain ⟨vp, vm, rfl, hp, hm⟩ := hv
  have hB0 := lit_below w (.cells #[] 94)
  obtain ⟨hB1, hV⟩ := vbox _ A vp vm (stable_cells _ _ _ _ hp hB0) (stable_cells _ _ _ _ hm hB0) (w.heap.size + 1) (by simp)
  have hB := Kept.mk (hB0.trans (hB1.out.mono hB0.size))
  obtain ⟨K1, K2, K3, K4, K5⟩ := vnew ((w.alloc (.cells #[] 94)).alloc (.cells #[.int .i64 A.kind, .int .i64 A.time, .int .i64 A.node, .bool A.dead, .string ⟨A.text.toArray⟩, vp, vm, .int .u64 (A.flags.toNat : Int)] 28)) (onlyReg A) (.slice none 0 0) (.slice none 0 0) (.inl ⟨rfl, rfl⟩) (.inl ⟨rfl, rfl⟩) (w.heap.size + 2) (by simp)
  obtain ⟨hc', hp', hm'⟩ := K4.out
  have hBK := Kept.mk (hB.out.trans (K3.out.mono hB.out.size))
  clear hB0 hB1 hV hB K3 K4 hp hm
  go_enter Try.func82, Try.ntmps82
  go_wp2_with (refine wpList_storeN 28 rfl (.tmp 4) (.tmp 13) rfl (w.heap.size + 2) [.int .i64 1, .int .i64 A.time, .int .i64 A.node, .bool A.dead, .string ⟨A.text.toArray⟩, .slice none 0 0, .slice none 0 0, .int .u64 0] size_va rfl rfl K1.out rfl K2.out K5.out ?_)
  exact bodyPost_ret (resultsN1 rfl _ _ (w.heap.size + 2) _ size_va agg_va rfl hc') rfl ⟨_, rfl, ⟨_, _, rfl, hp', hm', newB_nil _, newB_nil _⟩, hBK.out⟩
set_option maxRecDepth 20000 in
set_option maxHeartbeats 1000000 in
theorem flagsOnly_any (A : Va) (v : Value) (w : World) (hv : isVa A v w) :
    Calls Try.prog 106 #[.agg #[], v] w fun e w' => ∃ v', e = .returned v' ∧ isVaN w.heap.size (onlyFlags A) v' w' ∧ Below w.heap.size w w' := by
  obtain ⟨vp, vm, rfl, hp, hm⟩ := hv
  have hB0 := lit_below w (.cells #[] 96)
  obtain ⟨hB1, hV⟩ := vbox _ A vp vm (stable_cells _ _ _ _ hp hB0) (stable_cells _ _ _ _ hm hB0) (w.heap.size + 1) (by simp)
  have hB := Kept.mk (hB0.trans (hB1.out.mono hB0.size))
  obtain ⟨K1, K2, K3, K4, K5⟩ := vnew ((w.alloc (.cells #[] 96)).alloc (.cells #[.int .i64 A.kind, .int .i64 A.time, .int .i64 A.node, .bool A.dead, .string ⟨A.text.toArray⟩, vp, vm, .int .u64 (A.flags.toNat : Int)] 28)) (onlyFlags A) (.slice none 0 0) (.slice none 0 0) (.inl ⟨rfl, rfl⟩) (.inl ⟨rfl, rfl⟩) (w.heap.size + 2) (by simp)
  obtain ⟨hc', hp', hm'⟩ := K4.out
  have hBK := Kept.mk (hB.out.trans (K3.out.mono hB.out.size))
  clear hB0 hB1 hV hB K3 K4 hp hm
  go_enter Try.func106, Try.ntmps106
  go_wp2_with (refine wpList_storeN 28 rfl (.tmp 4) (.tmp 7) rfl (w.heap.size + 2) [.int .i64 3, .int .i64 0, .int .i64 0, .bool false, .string ⟨#[]⟩, .slice none 0 0, .slice none 0 0, .int .u64 (A.flags.toNat : Int)] size_va rfl rfl K1.out rfl K2.out K5.out ?_)
  exact bodyPost_ret (resultsN1 rfl _ _ (w.heap.size + 2) _ size_va agg_va rfl hc') rfl ⟨_, rfl, ⟨_, _, rfl, hp', hm', newB_nil _, newB_nil _⟩, hBK.out⟩
theorem or_u64 (x y : UInt64) : bits .or .u64 (x.toNat : Int) (y.toNat : Int) = ((x ||| y).toNat : Int) := by
  rw [u64_or_nat _ _ x.toNat_lt y.toNat_lt, UInt64.toNat_or]
set_option maxRecDepth 20000 in
set_option maxHeartbeats 1000000 in
theorem flagsJoin_any (A B : Va) (v u : Value) (w : World) (hv : isVa A v w) (hu : isVa B u w) :
    Calls Try.prog 104 #[.agg #[], v, u] w fun e w' => ∃ v', e = .returned v' ∧ isVaN w.heap.size (joinFlags A B) v' w' ∧ Below w.heap.size w w' := by
  obtain ⟨up, um, rfl, gp, gm⟩ := hu
  obtain ⟨vp, vm, rfl, hp, hm⟩ := hv
  have hB0 := lit_below w (.cells #[] 96)
  obtain ⟨hB1, hV⟩ := vbox _ A vp vm (stable_cells _ _ _ _ hp hB0) (stable_cells _ _ _ _ hm hB0) (w.heap.size + 1) (by simp)
  have hB := Kept.mk (hB0.trans (hB1.out.mono hB0.size))
  obtain ⟨hB2, hU⟩ := vbox ((w.alloc (.cells #[] 96)).alloc (.cells #[.int .i64 A.kind, .int .i64 A.time, .int .i64 A.node, .bool A.dead, .string ⟨A.text.toArray⟩, vp, vm, .int .u64 (A.flags.toNat : Int)] 28)) B up um (stable_cells _ _ _ _ gp hB.out) (stable_cells _ _ _ _ gm hB.out) (w.heap.size + 2) (by simp)
  replace hB := Kept.mk (hB.out.trans (hB2.out.mono hB.out.size))
  obtain ⟨K1, K2, K3, K4, K5⟩ := vnew (((w.alloc (.cells #[] 96)).alloc (.cells #[.int .i64 A.kind, .int .i64 A.time, .int .i64 A.node, .bool A.dead, .string ⟨A.text.toArray⟩, vp, vm, .int .u64 (A.flags.toNat : Int)] 28)).alloc (.cells #[.int .i64 B.kind, .int .i64 B.time, .int .i64 B.node, .bool B.dead, .string ⟨B.text.toArray⟩, up, um, .int .u64 (B.flags.toNat : Int)] 28)) (joinFlags A B) (.slice none 0 0) (.slice none 0 0) (.inl ⟨rfl, rfl⟩) (.inl ⟨rfl, rfl⟩) (w.heap.size + 3) (by simp)
  obtain ⟨hc', hp', hm'⟩ := K4.out
  have hBK := Kept.mk (hB.out.trans (K3.out.mono hB.out.size))
  have hor := or_u64 A.flags B.flags
  clear hB0 hB1 hB2 hV hU hB K3 K4 hp hm gp gm
  go_enter Try.func104, Try.ntmps104
  go_wp2_with (refine wpList_storeN 28 rfl (.tmp 6) (.tmp 12) rfl (w.heap.size + 3) [.int .i64 3, .int .i64 0, .int .i64 0, .bool false, .string ⟨#[]⟩, .slice none 0 0, .slice none 0 0, .int .u64 ((A.flags ||| B.flags).toNat : Int)] size_va rfl (by rw [UInt64.toNat_or]; rfl) K1.out rfl K2.out K5.out ?_)
  exact bodyPost_ret (resultsN1 rfl _ _ (w.heap.size + 3) _ size_va agg_va rfl hc') rfl ⟨_, rfl, ⟨_, _, rfl, hp', hm', newB_nil _, newB_nil _⟩, hBK.out⟩
end Go.Proofs.Ytmbnhlhanckkiaa
end
section
namespace Go.Proofs.Ytmbnhlhanckkiaa
open Go.RowKit
set_option linter.unusedVariables false
set_option linter.unusedSimpArgs false
attribute [local irreducible] setN

theorem nums_snoc : ∀ (k : Nat) (l : List UInt8), numsOf (k + 1) l = numsOf k l ++ [(getN ((restOf k l).take 2) : Int)]
  | 0, l => rfl
  | k + 1, l => by
    rw [numsOf, nums_snoc k (l.drop 2), numsOf, restOf, List.cons_append]
theorem rest_snoc : ∀ (k : Nat) (l : List UInt8), restOf (k + 1) l = (restOf k l).drop 2
  | 0, l => rfl
  | k + 1, l => by
    rw [restOf, rest_snoc k (l.drop 2), restOf]
theorem flags_or (lo hi : Nat) (h1 : lo < 4294967296) (h2 : hi < 4294967296) : bits .or .u64 (lo : Int) ((hi : Int) * 4294967296) = ((UInt64.ofNat (lo + 4294967296 * hi)).toNat : Int) := by
  have e : (hi : Int) * 4294967296 = ((4294967296 * hi : Nat) : Int) := by omega
  have e2 : 4294967296 * hi ||| lo = 4294967296 * hi + lo := (Nat.two_pow_add_eq_or_of_lt (i := 32) h1 hi).symm
  rw [e, u64_or_nat _ _ (by omega) (by omega), Nat.or_comm, e2, UInt64.toNat_ofNat', Nat.mod_eq_of_lt (by omega)]
  congr 1
  omega
def rowL (k : Nat) (l : List UInt8) : List Value := (numsOf k l).map intC ++ List.replicate (8 - k) (intC 0)
theorem rowL_len (k : Nat) (l : List UInt8) (h : k ≤ 8) : (rowL k l).length = 8 := by
  simp only [rowL, List.length_append, List.length_map, length_numsOf, List.length_replicate]; omega
theorem rowL_set (k : Nat) (l : List UInt8) (h : k < 8) : (rowL k l).set k (intC (getN ((restOf k l).take 2) : Int)) = rowL (k + 1) l := by
  unfold rowL
  rw [nums_snoc, List.map_append, show 8 - k = (8 - (k + 1)) + 1 by omega, List.replicate_succ, List.set_append_right _ _ (by simp [length_numsOf])]
  simp [length_numsOf]
theorem rowL_at (k : Nat) (l : List UInt8) (h : k < 8) : (rowL k l)[k]? = some (intC 0) := by
  unfold rowL
  rw [List.getElem?_append_right (by simp [length_numsOf])]
  rw [List.length_map, length_numsOf, Nat.sub_self, List.getElem?_replicate, if_pos (by omega)]
theorem rowL_zero (l : List UInt8) : (rowL 0 l).toArray = madeCells #[Value.int .i64 0] 8 := by
  apply Array.ext'
  simp [rowL, numsOf, madeCells, intC, List.replicate]
  rfl
theorem rowL_all (l : List UInt8) : rowL 8 l = (numsOf 8 l).map intC := by simp [rowL]
end Go.Proofs.Ytmbnhlhanckkiaa
end
section
namespace Go.Proofs.Ytmbnhlhanckkiaa
open Go.RowKit
set_option linter.unusedVariables false
set_option linter.unusedSimpArgs false
attribute [local irreducible] setN

set_option maxRecDepth 20000 in
set_option maxHeartbeats 1000000 in
theorem join1_any (A B : Va) (k ga gb : Nat) (w : World) (hA : VarV w ga A) (hB : VarV w gb B) (ha : A.plus.length = 8) (hb : B.plus.length = 8) (hk : k < 8) :
    Calls Try.prog 98 #[.int .i64 (k : Int), .pointer (some ⟨ga, 0, none⟩), .pointer (some ⟨gb, 0, none⟩)] w fun e w' => e = .returned (.int .i64 (maxI (A.plus.getD k 0) (B.plus.getD k 0))) ∧ Below w.heap.size w w' := by
  obtain ⟨vp, vm, hc, hp, hm⟩ := hA
  obtain ⟨up, um, gc, gp, gm⟩ := hB
  obtain ⟨b, off, cap, rfl, hlt, hcell⟩ := hp.some_ (by rw [List.length_map]; omega)
  obtain ⟨b2, off2, cap2, rfl, hlt2, hcell2⟩ := gp.some_ (by rw [List.length_map]; omega)
  rw [List.length_map, ha] at hc
  rw [List.length_map, hb] at gc
  have k1 := hc.2 5 _ rfl
  have k2 := gc.2 5 _ rfl
  have c1 : w.cell? ⟨b, off + k, none⟩ = some (.int .i64 (A.plus.getD k 0)) := by rw [hcell k _ (get_map intC _ k (by omega))]; simp [intC, List.getD_eq_getElem?_getD, show k < A.plus.length by omega]
  have c2 : w.cell? ⟨b2, off2 + k, none⟩ = some (.int .i64 (B.plus.getD k 0)) := by rw [hcell2 k _ (get_map intC _ k (by omega))]; simp [intC, List.getD_eq_getElem?_getD, show k < B.plus.length by omega]
  have HM := Kept.mk (show maxI (A.plus.getD k 0) (B.plus.getD k 0) = max (A.plus.getD k 0) (B.plus.getD k 0) by unfold maxI; split <;> omega)
  generalize A.plus.getD k 0 = x at *
  generalize B.plus.getD k 0 = y at *
  clear hc hp hm gc gp gm hcell hcell2
  go_enter Try.func98, Try.ntmps98
  go_wp2
  go_region
  all_goals go_wp2
  all_goals go_ret
  all_goals exact ⟨by rw [HM.out]; rfl, by exact below_drewN _ 1⟩
set_option maxRecDepth 20000 in
set_option maxHeartbeats 1000000 in
theorem join2_any (A B : Va) (k ga gb : Nat) (w : World) (hA : VarV w ga A) (hB : VarV w gb B) (ha : A.minus.length = 8) (hb : B.minus.length = 8) (hk : k < 8) :
    Calls Try.prog 99 #[.int .i64 (k : Int), .pointer (some ⟨ga, 0, none⟩), .pointer (some ⟨gb, 0, none⟩)] w fun e w' => e = .returned (.int .i64 (maxI (A.minus.getD k 0) (B.minus.getD k 0))) ∧ Below w.heap.size w w' := by
  obtain ⟨vp, vm, hc, hp, hm⟩ := hA
  obtain ⟨up, um, gc, gp, gm⟩ := hB
  obtain ⟨b, off, cap, rfl, hlt, hcell⟩ := hm.some_ (by rw [List.length_map]; omega)
  obtain ⟨b2, off2, cap2, rfl, hlt2, hcell2⟩ := gm.some_ (by rw [List.length_map]; omega)
  rw [List.length_map, ha] at hc
  rw [List.length_map, hb] at gc
  have k1 := hc.2 6 _ rfl
  have k2 := gc.2 6 _ rfl
  have c1 : w.cell? ⟨b, off + k, none⟩ = some (.int .i64 (A.minus.getD k 0)) := by rw [hcell k _ (get_map intC _ k (by omega))]; simp [intC, List.getD_eq_getElem?_getD, show k < A.minus.length by omega]
  have c2 : w.cell? ⟨b2, off2 + k, none⟩ = some (.int .i64 (B.minus.getD k 0)) := by rw [hcell2 k _ (get_map intC _ k (by omega))]; simp [intC, List.getD_eq_getElem?_getD, show k < B.minus.length by omega]
  have HM := Kept.mk (show maxI (A.minus.getD k 0) (B.minus.getD k 0) = max (A.minus.getD k 0) (B.minus.getD k 0) by unfold maxI; split <;> omega)
  generalize A.minus.getD k 0 = x at *
  generalize B.minus.getD k 0 = y at *
  clear hc hp hm gc gp gm hcell hcell2
  go_enter Try.func99, Try.ntmps99
  go_wp2
  go_region
  all_goals go_wp2
  all_goals go_ret
  all_goals exact ⟨by rw [HM.out]; rfl, by exact below_drewN _ 1⟩
theorem zip_range : ∀ (n : Nat) (l m : List Int), l.length = n → m.length = n → (List.range n).map (fun j => maxI (l.getD j 0) (m.getD j 0)) = List.zipWith maxI l m := by
  intro n l m h1 h2
  apply List.ext_getElem?
  intro j
  by_cases hj : j < n
  · rw [List.getElem?_map, List.getElem?_range hj, List.getElem?_zipWith, List.getElem?_eq_getElem (by omega : j < l.length), List.getElem?_eq_getElem (by omega : j < m.length)]
    simp [List.getD_eq_getElem?_getD, show j < l.length by omega, show j < m.length by omega]
  · rw [List.getElem?_eq_none (by simp; omega), List.getElem?_eq_none (by simp; omega)]
theorem cells_row8 {w : World} {g : Nat} {f : Nat → Int} {l : List Int} (h : w.rowIs g 3 8 (fun j => intC (f j))) (e : (List.range 8).map f = l) : isCells (l.map intC) (.slice (some ⟨g, 0, none⟩) 8 8) w := by
  have := cells_of_row h
  rw [← e, List.map_map]
  exact this
set_option maxRecDepth 20000 in
set_option maxHeartbeats 1000000 in
theorem countJoin_any (A B : Va) (v u : Value) (w : World) (hv : isVa A v w) (hu : isVa B u w) (a1 : A.plus.length = 8) (a2 : A.minus.length = 8) (b1 : B.plus.length = 8) (b2 : B.minus.length = 8) :
    Calls Try.prog 92 #[.agg #[], v, u] w fun e w' => ∃ v', e = .returned v' ∧ isVaN w.heap.size (joinCount A B) v' w' ∧ Below w.heap.size w w' := by
  have hen1 : Enters Try.prog 98 := enters_of Try.func98 (by kernel_rfl) rfl
  have hen2 : Enters Try.prog 99 := enters_of Try.func99 (by kernel_rfl) rfl
  obtain ⟨up, um, rfl, gp, gm⟩ := hu
  obtain ⟨vp, vm, rfl, hp, hm⟩ := hv
  have hB0 := lit_below w (.cells #[] 95)
  obtain ⟨hB1, hV⟩ := vbox _ A vp vm (stable_cells _ _ _ _ hp hB0) (stable_cells _ _ _ _ hm hB0) (w.heap.size + 1) (by simp)
  have hB := Kept.mk (hB0.trans (hB1.out.mono hB0.size))
  obtain ⟨hB2, hU⟩ := vbox ((w.alloc (.cells #[] 95)).alloc (.cells #[.int .i64 A.kind, .int .i64 A.time, .int .i64 A.node, .bool A.dead, .string ⟨A.text.toArray⟩, vp, vm, .int .u64 (A.flags.toNat : Int)] 28)) B up um (stable_cells _ _ _ _ gp hB.out) (stable_cells _ _ _ _ gm hB.out) (w.heap.size + 2) (by simp)
  replace hB := Kept.mk (hB.out.trans (hB2.out.mono hB.out.size))
  have hB3 := lit_below (((w.alloc (.cells #[] 95)).alloc (.cells #[.int .i64 A.kind, .int .i64 A.time, .int .i64 A.node, .bool A.dead, .string ⟨A.text.toArray⟩, vp, vm, .int .u64 (A.flags.toNat : Int)] 28)).alloc (.cells #[.int .i64 B.kind, .int .i64 B.time, .int .i64 B.node, .bool B.dead, .string ⟨B.text.toArray⟩, up, um, .int .u64 (B.flags.toNat : Int)] 28)) (.cells #[.int .i64 0, .int .i64 0, .int .i64 0, .bool false, .string ⟨#[]⟩, .slice none 0 0, .slice none 0 0, .int .u64 0] 28)
  have HZ := Kept.mk (cellsN_at (((w.alloc (.cells #[] 95)).alloc (.cells #[.int .i64 A.kind, .int .i64 A.time, .int .i64 A.node, .bool A.dead, .string ⟨A.text.toArray⟩, vp, vm, .int .u64 (A.flags.toNat : Int)] 28)).alloc (.cells #[.int .i64 B.kind, .int .i64 B.time, .int .i64 B.node, .bool B.dead, .string ⟨B.text.toArray⟩, up, um, .int .u64 (B.flags.toNat : Int)] 28)) 28 [.int .i64 0, .int .i64 0, .int .i64 0, .bool false, .string ⟨#[]⟩, .slice none 0 0, .slice none 0 0, .int .u64 0] (w.heap.size + 3) (by simp))
  have HF := Kept.mk (free5_at (((w.alloc (.cells #[] 95)).alloc (.cells #[.int .i64 A.kind, .int .i64 A.time, .int .i64 A.node, .bool A.dead, .string ⟨A.text.toArray⟩, vp, vm, .int .u64 (A.flags.toNat : Int)] 28)).alloc (.cells #[.int .i64 B.kind, .int .i64 B.time, .int .i64 B.node, .bool B.dead, .string ⟨B.text.toArray⟩, up, um, .int .u64 (B.flags.toNat : Int)] 28)) #[.int .i64 0, .int .i64 0, .int .i64 0, .bool false, .string ⟨#[]⟩, .slice none 0 0, .slice none 0 0, .int .u64 0] 28 (w.heap.size + 3) (by simp))
  replace hV := Kept.mk ((hV.out.keep hB2.out).keep hB3)
  replace hU := Kept.mk (hU.out.keep hB3)
  replace hB := Kept.mk (hB.out.trans (hB3.mono hB.out.size))
  have hS : Kept (w.heap.size + 4 = ((((w.alloc (.cells #[] 95)).alloc (.cells #[.int .i64 A.kind, .int .i64 A.time, .int .i64 A.node, .bool A.dead, .string ⟨A.text.toArray⟩, vp, vm, .int .u64 (A.flags.toNat : Int)] 28)).alloc (.cells #[.int .i64 B.kind, .int .i64 B.time, .int .i64 B.node, .bool B.dead, .string ⟨B.text.toArray⟩, up, um, .int .u64 (B.flags.toNat : Int)] 28)).alloc (.cells #[.int .i64 0, .int .i64 0, .int .i64 0, .bool false, .string ⟨#[]⟩, .slice none 0 0, .slice none 0 0, .int .u64 0] 28)).heap.size) := ⟨by simp⟩
  clear hp hm gp gm hB0 hB1 hB2 hB3
  go_enter Try.func92, Try.ntmps92
  go_wp2_with fail
  generalize ((((w.alloc (.cells #[] 95)).alloc (.cells #[.int .i64 A.kind, .int .i64 A.time, .int .i64 A.node, .bool A.dead, .string ⟨A.text.toArray⟩, vp, vm, .int .u64 (A.flags.toNat : Int)] 28)).alloc (.cells #[.int .i64 B.kind, .int .i64 B.time, .int .i64 B.node, .bool B.dead, .string ⟨B.text.toArray⟩, up, um, .int .u64 (B.flags.toNat : Int)] 28)).alloc (.cells #[.int .i64 0, .int .i64 0, .int .i64 0, .bool false, .string ⟨#[]⟩, .slice none 0 0, .slice none 0 0, .int .u64 0] 28)) = W0 at *
  refine (row_any (fun j => maxI (A.plus.getD j 0) (B.plus.getD j 0)) 98 _ hen1 W0 ?_).mono ?_
  · intro k w' hk hb
    exact join1_any A B k _ _ w' (hV.out.keep hb) (hU.out.keep hb) a1 b1 hk
  rintro e w1 ⟨rfl, hr1, hb1⟩
  have HR1 := Kept.mk hr1
  have HB1 := Kept.mk hb1
  clear hr1 hb1
  go_wp2_with fail
  refine (row_any (fun j => maxI (A.minus.getD j 0) (B.minus.getD j 0)) 99 _ hen2 w1 ?_).mono ?_
  · intro k w' hk hb
    exact join2_any A B k _ _ w' ((hV.out.keep HB1.out).keep hb) ((hU.out.keep HB1.out).keep hb) a2 b2 hk
  rintro e w2 ⟨rfl, hr2, hb2⟩
  have hlt1 := HR1.out.lt
  have hp2 := cells_row8 (HR1.out.of_block (hb2.block _ hlt1)) (zip_range 8 A.plus B.plus a1 b1)
  have hm2 := cells_row8 hr2 (zip_range 8 A.minus B.minus a2 b2)
  have hBB := hB.out.trans ((HB1.out.trans (hb2.mono HB1.out.size)).mono hB.out.size)
  have hZ := (HZ.out.keep HB1.out HZ.out.1).keep hb2 (Nat.lt_of_lt_of_le HZ.out.1 HB1.out.size)
  have K2 := Kept.mk ((HF.out.keep HB1.out HZ.out.1).keep hb2 (Nat.lt_of_lt_of_le HZ.out.1 HB1.out.size))
  have hs := hS.out
  obtain ⟨hBK, K4, K5⟩ := vset (joinCount A B) (.slice (some ⟨W0.heap.size, 0, none⟩) 8 8) (.slice (some ⟨w1.heap.size, 0, none⟩) 8 8) (g := w.heap.size + 3) (by omega) hBB hZ rfl hp2 hm2 (by simp [blk]; omega) (by simp [blk]; omega)
  have K1 := Kept.mk hZ
  obtain ⟨hc', hp', hm'⟩ := K4.out
  have np := newB_row (B := w.heap.size) (show w.heap.size ≤ W0.heap.size by omega) 0 8 8
  have nm := newB_row (B := w.heap.size) (show w.heap.size ≤ w1.heap.size by omega) 0 8 8
  clear hp2 hm2 hBB hZ hb2 hr2 HR1 HB1 K4
  go_wp2_with (refine wpList_storeN 28 rfl (.tmp 6) (.tmp 11) rfl (w.heap.size + 3) [.int .i64 2, .int .i64 0, .int .i64 0, .bool false, .string ⟨#[]⟩, .slice (some ⟨W0.heap.size, 0, none⟩) 8 8, .slice (some ⟨w1.heap.size, 0, none⟩) 8 8, .int .u64 0] size_va rfl rfl K1.out rfl K2.out K5.out ?_)
  exact bodyPost_ret (resultsN1 rfl _ _ (w.heap.size + 3) _ size_va agg_va rfl hc') rfl ⟨_, rfl, ⟨_, _, rfl, hp', hm', np, nm⟩, hBK.out⟩
end Go.Proofs.Ytmbnhlhanckkiaa
end
section
namespace Go.Proofs.Ytmbnhlhanckkiaa
open Go.RowKit
set_option linter.unusedVariables false
set_option linter.unusedSimpArgs false
attribute [local irreducible] setN

theorem agg_u64 (w : World) : (isAgg 26).run Try.prog w = .ok false w := by simp [isAgg, run_underlying Try.underlying26]
theorem sub_small (t : TypeId) (a b : Int) (h1 : -1000000000000 ≤ a - b) (h2 : a - b ≤ 1000000000000) (w : World) : (binOp .sub t (.int .i64 a) (.int .i64 b)).run Try.prog w = .ok (.int .i64 (a - b)) w := by
  simp [go_sem]
  rw [IntKind.wrap_i64]
  omega
theorem call_cmp (x y : Int) (w : World) : Calls Try.prog 86 #[.int .i64 x, .int .i64 y] w fun e w' => ∃ v, e = .returned v ∧ isVal (.int .i64 (cmpI x y)) v w' ∧ Below w.heap.size w w' :=
  (compare_i x y w).mono (by rintro e w' ⟨rfl, rfl⟩; exact ⟨_, rfl, rfl, Below.refl _ _⟩)
theorem call_cmpT (x y : List UInt8) (w : World) : Calls Try.prog 88 #[.string ⟨x.toArray⟩, .string ⟨y.toArray⟩] w fun e w' => ∃ v, e = .returned v ∧ isVal (.int .i64 (cmpT x y)) v w' ∧ Below w.heap.size w w' :=
  (compare_s x y w).mono (by rintro e w' ⟨rfl, rfl⟩; exact ⟨_, rfl, rfl, Below.refl _ _⟩)
theorem call_rank (b : Bool) (w : World) : Calls Try.prog 87 #[.bool b] w fun e w' => ∃ v, e = .returned v ∧ isVal (.int .i64 (rankI b)) v w' ∧ Below w.heap.size w w' :=
  (rank_any b w).mono (by rintro e w' ⟨rfl, rfl⟩; exact ⟨_, rfl, rfl, Below.refl _ _⟩)
theorem call_behind (A B : Va) (u : Value) (w : World) (hu : isCells [intC (cmpI A.time B.time), intC (cmpI A.node B.node), intC (cmpI (rankI A.dead) (rankI B.dead)), intC (cmpT A.text B.text)] u w) :
    Calls Try.prog 85 #[u] w fun e w' => ∃ v, e = .returned v ∧ isVal (.bool (behindB A B)) v w' ∧ Below w.heap.size w w' :=
  (isBehind_any (ordL A B) u w hu (by show 4 ≤ _; omega)).mono (by rintro e w' ⟨rfl, rfl⟩; exact ⟨_, rfl, rfl, Below.refl _ _⟩)
noncomputable def rjoinOps : Array Oper := regionOf Try.f80 1
set_option maxRecDepth 100000 in
set_option maxHeartbeats 2000000 in
theorem rjoin_region (Q : Exit → Act → World → Prop) (a0 : Act) (w0 : World) (hsz : a0.tmps.size = 37) (A B : Va) (ga gb : Nat) (vp vm up um : Value) (e4 : a0.tmps.getD 4 undef = .pointer (some ⟨ga, 0, none⟩)) (e5 : a0.tmps.getD 5 undef = .pointer (some ⟨gb, 0, none⟩)) (hc : CellsN w0 ga [.int .i64 A.kind, .int .i64 A.time, .int .i64 A.node, .bool A.dead, .string ⟨A.text.toArray⟩, vp, vm, .int .u64 (A.flags.toNat : Int)]) (gc : CellsN w0 gb [.int .i64 B.kind, .int .i64 B.time, .int .i64 B.node, .bool B.dead, .string ⟨B.text.toArray⟩, up, um, .int .u64 (B.flags.toNat : Int)])
    (hQ : ∀ (g : Nat → Value) (w : World), g 30 = .bool (behindB A B) → Below w0.heap.size w0 w → Q .normal { tmps := [7, 8, 9, 10, 11, 12, 13, 14, 15, 16, 17, 18, 19, 20, 21, 22, 23, 24, 25, 26, 27, 28, 29, 30].foldl (fun t s => t.setIfInBounds s (g s)) a0.tmps, defers := a0.defers } w) :
    (Code.region 1 rjoinOps true).wp Try.prog Q a0 w0 := by
  obtain ⟨iint, hiint, hzint, hsint, _⟩ := info_parts Try.infoInt
  refine wp_region_flow mixed (by rw [hsz]; kernel_rfl) ?_
  rw [show rjoinOps.size = 24 by kernel_rfl]
  refine ⟨isVal (.pointer (some ⟨ga, 1, none⟩)), step_field 28 (.tmp 4) 1 ⟨ga, 0, none⟩ ⟨ga, 1, none⟩ (by kernel_rfl) (wanted_none (by kernel_rfl)) (knows_old 4 (.pointer (some ⟨ga, 0, none⟩)) (by kernel_rfl) e4) (field_va ga 1 (by omega)), ?_⟩
  refine ⟨isVal (.int .i64 A.time), step_read 3 (.tmp 7) ⟨ga, 1, none⟩ (.int .i64 A.time) (by kernel_rfl) (wanted_none (by kernel_rfl)) (knows_new (V := isVal (.pointer (some ⟨ga, 1, none⟩))) 7 0 (by kernel_rfl) (by kernel_rfl) (by kernel_rfl)) (hc.2 1 _ rfl) hc.1 agg_int, ?_⟩
  refine ⟨isVal (.pointer (some ⟨gb, 1, none⟩)), step_field 28 (.tmp 5) 1 ⟨gb, 0, none⟩ ⟨gb, 1, none⟩ (by kernel_rfl) (wanted_none (by kernel_rfl)) (knows_old 5 (.pointer (some ⟨gb, 0, none⟩)) (by kernel_rfl) e5) (field_va gb 1 (by omega)), ?_⟩
  refine ⟨isVal (.int .i64 B.time), step_read 3 (.tmp 9) ⟨gb, 1, none⟩ (.int .i64 B.time) (by kernel_rfl) (wanted_none (by kernel_rfl)) (knows_new (V := isVal (.pointer (some ⟨gb, 1, none⟩))) 9 2 (by kernel_rfl) (by kernel_rfl) (by kernel_rfl)) (gc.2 1 _ rfl) gc.1 agg_int, ?_⟩
  refine ⟨isVal (.int .i64 (cmpI A.time B.time)), step_call 86 #[.tmp 8, .tmp 10] #[3, 3] #[.int .i64 A.time, .int .i64 B.time] (by kernel_rfl) (wanted_none (by kernel_rfl)) (stable_val _) (args2 (.tmp 8) (.tmp 10) (.int .i64 A.time) (.int .i64 B.time) (knows_new (V := isVal (.int .i64 A.time)) 8 1 (by kernel_rfl) (by kernel_rfl) (by kernel_rfl)) (knows_new (V := isVal (.int .i64 B.time)) 10 3 (by kernel_rfl) (by kernel_rfl) (by kernel_rfl))) (enters_of Try.func86 (by kernel_rfl) rfl) (by intro w hb; exact call_cmp A.time B.time w), ?_⟩
  refine ⟨isVal (.pointer (some ⟨ga, 2, none⟩)), step_field 28 (.tmp 4) 2 ⟨ga, 0, none⟩ ⟨ga, 2, none⟩ (by kernel_rfl) (wanted_none (by kernel_rfl)) (knows_old 4 (.pointer (some ⟨ga, 0, none⟩)) (by kernel_rfl) e4) (field_va ga 2 (by omega)), ?_⟩
  refine ⟨isVal (.int .i64 A.node), step_read 3 (.tmp 12) ⟨ga, 2, none⟩ (.int .i64 A.node) (by kernel_rfl) (wanted_none (by kernel_rfl)) (knows_new (V := isVal (.pointer (some ⟨ga, 2, none⟩))) 12 5 (by kernel_rfl) (by kernel_rfl) (by kernel_rfl)) (hc.2 2 _ rfl) hc.1 agg_int, ?_⟩
  refine ⟨isVal (.pointer (some ⟨gb, 2, none⟩)), step_field 28 (.tmp 5) 2 ⟨gb, 0, none⟩ ⟨gb, 2, none⟩ (by kernel_rfl) (wanted_none (by kernel_rfl)) (knows_old 5 (.pointer (some ⟨gb, 0, none⟩)) (by kernel_rfl) e5) (field_va gb 2 (by omega)), ?_⟩
  refine ⟨isVal (.int .i64 B.node), step_read 3 (.tmp 14) ⟨gb, 2, none⟩ (.int .i64 B.node) (by kernel_rfl) (wanted_none (by kernel_rfl)) (knows_new (V := isVal (.pointer (some ⟨gb, 2, none⟩))) 14 7 (by kernel_rfl) (by kernel_rfl) (by kernel_rfl)) (gc.2 2 _ rfl) gc.1 agg_int, ?_⟩
  refine ⟨isVal (.int .i64 (cmpI A.node B.node)), step_call 86 #[.tmp 13, .tmp 15] #[3, 3] #[.int .i64 A.node, .int .i64 B.node] (by kernel_rfl) (wanted_none (by kernel_rfl)) (stable_val _) (args2 (.tmp 13) (.tmp 15) (.int .i64 A.node) (.int .i64 B.node) (knows_new (V := isVal (.int .i64 A.node)) 13 6 (by kernel_rfl) (by kernel_rfl) (by kernel_rfl)) (knows_new (V := isVal (.int .i64 B.node)) 15 8 (by kernel_rfl) (by kernel_rfl) (by kernel_rfl))) (enters_of Try.func86 (by kernel_rfl) rfl) (by intro w hb; exact call_cmp A.node B.node w), ?_⟩
  refine ⟨isVal (.pointer (some ⟨ga, 3, none⟩)), step_field 28 (.tmp 4) 3 ⟨ga, 0, none⟩ ⟨ga, 3, none⟩ (by kernel_rfl) (wanted_none (by kernel_rfl)) (knows_old 4 (.pointer (some ⟨ga, 0, none⟩)) (by kernel_rfl) e4) (field_va ga 3 (by omega)), ?_⟩
  refine ⟨isVal (.bool A.dead), step_read 4 (.tmp 17) ⟨ga, 3, none⟩ (.bool A.dead) (by kernel_rfl) (wanted_none (by kernel_rfl)) (knows_new (V := isVal (.pointer (some ⟨ga, 3, none⟩))) 17 10 (by kernel_rfl) (by kernel_rfl) (by kernel_rfl)) (hc.2 3 _ rfl) hc.1 agg_bool, ?_⟩
  refine ⟨isVal (.int .i64 (rankI A.dead)), step_call 87 #[.tmp 18] #[4] #[.bool A.dead] (by kernel_rfl) (wanted_none (by kernel_rfl)) (stable_val _) (args1 (.tmp 18) (.bool A.dead) (knows_new (V := isVal (.bool A.dead)) 18 11 (by kernel_rfl) (by kernel_rfl) (by kernel_rfl))) (enters_of Try.func87 (by kernel_rfl) rfl) (by intro w hb; exact call_rank A.dead w), ?_⟩
  refine ⟨isVal (.pointer (some ⟨gb, 3, none⟩)), step_field 28 (.tmp 5) 3 ⟨gb, 0, none⟩ ⟨gb, 3, none⟩ (by kernel_rfl) (wanted_none (by kernel_rfl)) (knows_old 5 (.pointer (some ⟨gb, 0, none⟩)) (by kernel_rfl) e5) (field_va gb 3 (by omega)), ?_⟩
  refine ⟨isVal (.bool B.dead), step_read 4 (.tmp 20) ⟨gb, 3, none⟩ (.bool B.dead) (by kernel_rfl) (wanted_none (by kernel_rfl)) (knows_new (V := isVal (.pointer (some ⟨gb, 3, none⟩))) 20 13 (by kernel_rfl) (by kernel_rfl) (by kernel_rfl)) (gc.2 3 _ rfl) gc.1 agg_bool, ?_⟩
  refine ⟨isVal (.int .i64 (rankI B.dead)), step_call 87 #[.tmp 21] #[4] #[.bool B.dead] (by kernel_rfl) (wanted_none (by kernel_rfl)) (stable_val _) (args1 (.tmp 21) (.bool B.dead) (knows_new (V := isVal (.bool B.dead)) 21 14 (by kernel_rfl) (by kernel_rfl) (by kernel_rfl))) (enters_of Try.func87 (by kernel_rfl) rfl) (by intro w hb; exact call_rank B.dead w), ?_⟩
  refine ⟨isVal (.int .i64 (cmpI (rankI A.dead) (rankI B.dead))), step_call 86 #[.tmp 19, .tmp 22] #[3, 3] #[.int .i64 (rankI A.dead), .int .i64 (rankI B.dead)] (by kernel_rfl) (wanted_none (by kernel_rfl)) (stable_val _) (args2 (.tmp 19) (.tmp 22) (.int .i64 (rankI A.dead)) (.int .i64 (rankI B.dead)) (knows_new (V := isVal (.int .i64 (rankI A.dead))) 19 12 (by kernel_rfl) (by kernel_rfl) (by kernel_rfl)) (knows_new (V := isVal (.int .i64 (rankI B.dead))) 22 15 (by kernel_rfl) (by kernel_rfl) (by kernel_rfl))) (enters_of Try.func86 (by kernel_rfl) rfl) (by intro w hb; exact call_cmp (rankI A.dead) (rankI B.dead) w), ?_⟩
  refine ⟨isVal (.pointer (some ⟨ga, 4, none⟩)), step_field 28 (.tmp 4) 4 ⟨ga, 0, none⟩ ⟨ga, 4, none⟩ (by kernel_rfl) (wanted_none (by kernel_rfl)) (knows_old 4 (.pointer (some ⟨ga, 0, none⟩)) (by kernel_rfl) e4) (field_va ga 4 (by omega)), ?_⟩
  refine ⟨isVal (.string ⟨A.text.toArray⟩), step_read 9 (.tmp 24) ⟨ga, 4, none⟩ (.string ⟨A.text.toArray⟩) (by kernel_rfl) (wanted_none (by kernel_rfl)) (knows_new (V := isVal (.pointer (some ⟨ga, 4, none⟩))) 24 17 (by kernel_rfl) (by kernel_rfl) (by kernel_rfl)) (hc.2 4 _ rfl) hc.1 agg_str, ?_⟩
  refine ⟨isVal (.pointer (some ⟨gb, 4, none⟩)), step_field 28 (.tmp 5) 4 ⟨gb, 0, none⟩ ⟨gb, 4, none⟩ (by kernel_rfl) (wanted_none (by kernel_rfl)) (knows_old 5 (.pointer (some ⟨gb, 0, none⟩)) (by kernel_rfl) e5) (field_va gb 4 (by omega)), ?_⟩
  refine ⟨isVal (.string ⟨B.text.toArray⟩), step_read 9 (.tmp 26) ⟨gb, 4, none⟩ (.string ⟨B.text.toArray⟩) (by kernel_rfl) (wanted_none (by kernel_rfl)) (knows_new (V := isVal (.pointer (some ⟨gb, 4, none⟩))) 26 19 (by kernel_rfl) (by kernel_rfl) (by kernel_rfl)) (gc.2 4 _ rfl) gc.1 agg_str, ?_⟩
  refine ⟨isVal (.int .i64 (cmpT A.text B.text)), step_call 88 #[.tmp 25, .tmp 27] #[9, 9] #[.string ⟨A.text.toArray⟩, .string ⟨B.text.toArray⟩] (by kernel_rfl) (wanted_none (by kernel_rfl)) (stable_val _) (args2 (.tmp 25) (.tmp 27) (.string ⟨A.text.toArray⟩) (.string ⟨B.text.toArray⟩) (knows_new (V := isVal (.string ⟨A.text.toArray⟩)) 25 18 (by kernel_rfl) (by kernel_rfl) (by kernel_rfl)) (knows_new (V := isVal (.string ⟨B.text.toArray⟩)) 27 20 (by kernel_rfl) (by kernel_rfl) (by kernel_rfl))) (enters_of Try.func88 (by kernel_rfl) rfl) (by intro w hb; exact call_cmpT A.text B.text w), ?_⟩
  refine ⟨(isCells [intC (cmpI A.time B.time), intC (cmpI A.node B.node), intC (cmpI (rankI A.dead) (rankI B.dead)), intC (cmpT A.text B.text)]), step_ints4 23 3 (.tmp 11) (.tmp 16) (.tmp 23) (.tmp 28) (cmpI A.time B.time) (cmpI A.node B.node) (cmpI (rankI A.dead) (rankI B.dead)) (cmpT A.text B.text) iint (by kernel_rfl) (wanted_none (by kernel_rfl)) (knows_new (V := isVal (.int .i64 (cmpI A.time B.time))) 11 4 (by kernel_rfl) (by kernel_rfl) (by kernel_rfl)) (knows_new (V := isVal (.int .i64 (cmpI A.node B.node))) 16 9 (by kernel_rfl) (by kernel_rfl) (by kernel_rfl)) (knows_new (V := isVal (.int .i64 (cmpI (rankI A.dead) (rankI B.dead)))) 23 16 (by kernel_rfl) (by kernel_rfl) (by kernel_rfl)) (knows_new (V := isVal (.int .i64 (cmpT A.text B.text))) 28 21 (by kernel_rfl) (by kernel_rfl) (by kernel_rfl)) Try.underlying23 hiint hzint hsint, ?_⟩
  refine ⟨isVal (.bool (behindB A B)), step_callP 85 #[.tmp 29] #[23] (by kernel_rfl) (wanted_none (by kernel_rfl)) (stable_val _) (enters_of Try.func85 (by kernel_rfl) rfl) (fun vs w => ∃ u, vs = #[u] ∧ isCells [intC (cmpI A.time B.time), intC (cmpI A.node B.node), intC (cmpI (rankI A.dead) (rankI B.dead)), intC (cmpT A.text B.text)] u w) (pre1 (knows_new (V := (isCells [intC (cmpI A.time B.time), intC (cmpI A.node B.node), intC (cmpI (rankI A.dead) (rankI B.dead)), intC (cmpT A.text B.text)])) 29 22 (by kernel_rfl) (by kernel_rfl) (by kernel_rfl))) (by rintro vs w hb ⟨u, rfl, hu⟩; exact call_behind A B u w hu), ?_⟩
  intro a w hkp hb hd
  rw [kept_of hkp [some 7, some 8, some 9, some 10, some 11, some 12, some 13, some 14, some 15, some 16, some 17, some 18, some 19, some 20, some 21, some 22, some 23, some 24, some 25, some 26, some 27, some 28, some 29, some 30] [7, 8, 9, 10, 11, 12, 13, 14, 15, 16, 17, 18, 19, 20, 21, 22, 23, 24, 25, 26, 27, 28, 29, 30] (by kernel_rfl) (by decide)]
  have d30 := fdone_of (hd 23 (by rw [show rjoinOps.size = 24 by kernel_rfl]; decide)) (t := 30) (V := isVal (.bool (behindB A B))) (by kernel_rfl) (by kernel_rfl)
  exact hQ (fun s => a.tmps.getD s undef) w d30 hb
set_option maxRecDepth 20000 in
set_option maxHeartbeats 1000000 in
theorem regJoin_any (A B : Va) (v u : Value) (w : World) (hv : isVa A v w) (hu : isVa B u w) :
    Calls Try.prog 80 #[.agg #[], v, u] w fun e w' => ∃ v', e = .returned v' ∧ isVaN w.heap.size (joinReg A B) v' w' ∧ Below w.heap.size w w' := by
  obtain ⟨up, um, rfl, gp, gm⟩ := hu
  obtain ⟨vp, vm, rfl, hp, hm⟩ := hv
  have hB0 := lit_below w (.cells #[] 94)
  obtain ⟨hB1, hV⟩ := vbox _ A vp vm (stable_cells _ _ _ _ hp hB0) (stable_cells _ _ _ _ hm hB0) (w.heap.size + 1) (by simp)
  have hB := Kept.mk (hB0.trans (hB1.out.mono hB0.size))
  obtain ⟨hB2, hU⟩ := vbox ((w.alloc (.cells #[] 94)).alloc (.cells #[.int .i64 A.kind, .int .i64 A.time, .int .i64 A.node, .bool A.dead, .string ⟨A.text.toArray⟩, vp, vm, .int .u64 (A.flags.toNat : Int)] 28)) B up um (stable_cells _ _ _ _ gp hB.out) (stable_cells _ _ _ _ gm hB.out) (w.heap.size + 2) (by simp)
  replace hB := Kept.mk (hB.out.trans (hB2.out.mono hB.out.size))
  have hB3 := lit_below (((w.alloc (.cells #[] 94)).alloc (.cells #[.int .i64 A.kind, .int .i64 A.time, .int .i64 A.node, .bool A.dead, .string ⟨A.text.toArray⟩, vp, vm, .int .u64 (A.flags.toNat : Int)] 28)).alloc (.cells #[.int .i64 B.kind, .int .i64 B.time, .int .i64 B.node, .bool B.dead, .string ⟨B.text.toArray⟩, up, um, .int .u64 (B.flags.toNat : Int)] 28)) (.cells #[.int .i64 0, .int .i64 0, .int .i64 0, .bool false, .string ⟨#[]⟩, .slice none 0 0, .slice none 0 0, .int .u64 0] 28)
  have HZ := Kept.mk (cellsN_at (((w.alloc (.cells #[] 94)).alloc (.cells #[.int .i64 A.kind, .int .i64 A.time, .int .i64 A.node, .bool A.dead, .string ⟨A.text.toArray⟩, vp, vm, .int .u64 (A.flags.toNat : Int)] 28)).alloc (.cells #[.int .i64 B.kind, .int .i64 B.time, .int .i64 B.node, .bool B.dead, .string ⟨B.text.toArray⟩, up, um, .int .u64 (B.flags.toNat : Int)] 28)) 28 [.int .i64 0, .int .i64 0, .int .i64 0, .bool false, .string ⟨#[]⟩, .slice none 0 0, .slice none 0 0, .int .u64 0] (w.heap.size + 3) (by simp))
  have HF := Kept.mk (free5_at (((w.alloc (.cells #[] 94)).alloc (.cells #[.int .i64 A.kind, .int .i64 A.time, .int .i64 A.node, .bool A.dead, .string ⟨A.text.toArray⟩, vp, vm, .int .u64 (A.flags.toNat : Int)] 28)).alloc (.cells #[.int .i64 B.kind, .int .i64 B.time, .int .i64 B.node, .bool B.dead, .string ⟨B.text.toArray⟩, up, um, .int .u64 (B.flags.toNat : Int)] 28)) #[.int .i64 0, .int .i64 0, .int .i64 0, .bool false, .string ⟨#[]⟩, .slice none 0 0, .slice none 0 0, .int .u64 0] 28 (w.heap.size + 3) (by simp))
  replace hV := Kept.mk ((hV.out.keep hB2.out).keep hB3)
  replace hU := Kept.mk (hU.out.keep hB3)
  replace hB := Kept.mk (hB.out.trans (hB3.mono hB.out.size))
  have hC := Kept.mk (((cellsN_at (w.alloc (.cells #[] 94)) 28 [.int .i64 A.kind, .int .i64 A.time, .int .i64 A.node, .bool A.dead, .string ⟨A.text.toArray⟩, vp, vm, .int .u64 (A.flags.toNat : Int)] (w.heap.size + 1) (by simp)).keep hB2.out (by simp)).keep hB3 (by simp))
  have gC := Kept.mk ((cellsN_at ((w.alloc (.cells #[] 94)).alloc (.cells #[.int .i64 A.kind, .int .i64 A.time, .int .i64 A.node, .bool A.dead, .string ⟨A.text.toArray⟩, vp, vm, .int .u64 (A.flags.toNat : Int)] 28)) 28 [.int .i64 B.kind, .int .i64 B.time, .int .i64 B.node, .bool B.dead, .string ⟨B.text.toArray⟩, up, um, .int .u64 (B.flags.toNat : Int)] (w.heap.size + 2) (by simp)).keep hB3 (by simp))
  have hX := Kept.mk (show isVa A (.agg #[.int .i64 A.kind, .int .i64 A.time, .int .i64 A.node, .bool A.dead, .string ⟨A.text.toArray⟩, vp, vm, .int .u64 (A.flags.toNat : Int)]) ((((w.alloc (.cells #[] 94)).alloc (.cells #[.int .i64 A.kind, .int .i64 A.time, .int .i64 A.node, .bool A.dead, .string ⟨A.text.toArray⟩, vp, vm, .int .u64 (A.flags.toNat : Int)] 28)).alloc (.cells #[.int .i64 B.kind, .int .i64 B.time, .int .i64 B.node, .bool B.dead, .string ⟨B.text.toArray⟩, up, um, .int .u64 (B.flags.toNat : Int)] 28)).alloc (.cells #[.int .i64 0, .int .i64 0, .int .i64 0, .bool false, .string ⟨#[]⟩, .slice none 0 0, .slice none 0 0, .int .u64 0] 28)) from ⟨vp, vm, rfl, stable_cells _ _ _ _ hp hB.out, stable_cells _ _ _ _ hm hB.out⟩)
  have gX := Kept.mk (show isVa B (.agg #[.int .i64 B.kind, .int .i64 B.time, .int .i64 B.node, .bool B.dead, .string ⟨B.text.toArray⟩, up, um, .int .u64 (B.flags.toNat : Int)]) ((((w.alloc (.cells #[] 94)).alloc (.cells #[.int .i64 A.kind, .int .i64 A.time, .int .i64 A.node, .bool A.dead, .string ⟨A.text.toArray⟩, vp, vm, .int .u64 (A.flags.toNat : Int)] 28)).alloc (.cells #[.int .i64 B.kind, .int .i64 B.time, .int .i64 B.node, .bool B.dead, .string ⟨B.text.toArray⟩, up, um, .int .u64 (B.flags.toNat : Int)] 28)).alloc (.cells #[.int .i64 0, .int .i64 0, .int .i64 0, .bool false, .string ⟨#[]⟩, .slice none 0 0, .slice none 0 0, .int .u64 0] 28)) from ⟨up, um, rfl, stable_cells _ _ _ _ gp hB.out, stable_cells _ _ _ _ gm hB.out⟩)
  have hR : Kept ((((((w.alloc (.cells #[] 94)).alloc (.cells #[.int .i64 A.kind, .int .i64 A.time, .int .i64 A.node, .bool A.dead, .string ⟨A.text.toArray⟩, vp, vm, .int .u64 (A.flags.toNat : Int)] 28)).alloc (.cells #[.int .i64 B.kind, .int .i64 B.time, .int .i64 B.node, .bool B.dead, .string ⟨B.text.toArray⟩, up, um, .int .u64 (B.flags.toNat : Int)] 28)).alloc (.cells #[.int .i64 0, .int .i64 0, .int .i64 0, .bool false, .string ⟨#[]⟩, .slice none 0 0, .slice none 0 0, .int .u64 0] 28))).heap[w.heap.size]? = some (.cells #[] 94 (0, 0))) := ⟨by rw [hB3.block _ (by simp <;> omega), hB2.out.block _ (by simp <;> omega), hB1.out.block _ (by simp <;> omega)]; show (w.heap.push _)[w.heap.size]? = _; simp⟩
  have hS : Kept (w.heap.size + 4 = ((((w.alloc (.cells #[] 94)).alloc (.cells #[.int .i64 A.kind, .int .i64 A.time, .int .i64 A.node, .bool A.dead, .string ⟨A.text.toArray⟩, vp, vm, .int .u64 (A.flags.toNat : Int)] 28)).alloc (.cells #[.int .i64 B.kind, .int .i64 B.time, .int .i64 B.node, .bool B.dead, .string ⟨B.text.toArray⟩, up, um, .int .u64 (B.flags.toNat : Int)] 28)).alloc (.cells #[.int .i64 0, .int .i64 0, .int .i64 0, .bool false, .string ⟨#[]⟩, .slice none 0 0, .slice none 0 0, .int .u64 0] 28)).heap.size) := ⟨by simp⟩
  clear hp hm gp gm hB0 hB1 hB2 hB3 hV hU
  go_enter Try.func80, Try.ntmps80
  go_wp2_with fail
  generalize ((((w.alloc (.cells #[] 94)).alloc (.cells #[.int .i64 A.kind, .int .i64 A.time, .int .i64 A.node, .bool A.dead, .string ⟨A.text.toArray⟩, vp, vm, .int .u64 (A.flags.toNat : Int)] 28)).alloc (.cells #[.int .i64 B.kind, .int .i64 B.time, .int .i64 B.node, .bool B.dead, .string ⟨B.text.toArray⟩, up, um, .int .u64 (B.flags.toNat : Int)] 28)).alloc (.cells #[.int .i64 0, .int .i64 0, .int .i64 0, .bool false, .string ⟨#[]⟩, .slice none 0 0, .slice none 0 0, .int .u64 0] 28)) = W0 at *
  refine rjoin_region _ _ _ rfl A B (w.heap.size + 1) (w.heap.size + 2) vp vm up um rfl rfl hC.out gC.out ?_
  intro f9 W9 d30 hb9
  simp only [List.foldl_cons, List.foldl_nil, d30]
  generalize f9 7 = y7
  generalize f9 8 = y8
  generalize f9 9 = y9
  generalize f9 10 = y10
  generalize f9 11 = y11
  generalize f9 12 = y12
  generalize f9 13 = y13
  generalize f9 14 = y14
  generalize f9 15 = y15
  generalize f9 16 = y16
  generalize f9 17 = y17
  generalize f9 18 = y18
  generalize f9 19 = y19
  generalize f9 20 = y20
  generalize f9 21 = y21
  generalize f9 22 = y22
  generalize f9 23 = y23
  generalize f9 24 = y24
  generalize f9 25 = y25
  generalize f9 26 = y26
  generalize f9 27 = y27
  generalize f9 28 = y28
  generalize f9 29 = y29
  clear d30
  simp only [List.setIfInBounds_toArray, List.set_cons_succ, List.set_cons_zero]
  replace hB := Kept.mk (hB.out.trans (hb9.mono hB.out.size))
  have hs := hS.out
  have hR9 := (hb9.block w.heap.size (by omega)).trans hR.out
  obtain ⟨_, kA⟩ := hC.out.keep hb9 (by omega)
  obtain ⟨_, kB⟩ := gC.out.keep hb9 (by omega)
  have hX9 := Kept.mk (va_grow hX.out hb9)
  have gX9 := Kept.mk (va_grow gX.out hb9)
  have hZ9 := Kept.mk (HZ.out.keep hb9 (by omega))
  have hF9 := Kept.mk (HF.out.keep hb9 (by omega))
  have hs9 := hb9.size
  clear hX gX HZ HF hb9 hR hC gC
  cases hz : behindB A B with
  | true =>
    have HJ := Kept.mk (show joinReg A B = onlyReg A by unfold joinReg; rw [hz]; rfl)
    have k0 := kA 0 _ rfl
    have k1 := kA 1 _ rfl
    have k2 := kA 2 _ rfl
    have k3 := kA 3 _ rfl
    have k4 := kA 4 _ rfl
    have k5 := kA 5 _ rfl
    have k6 := kA 6 _ rfl
    have k7 := kA 7 _ rfl
    clear kA kB
    go_wp2_with fail
    refine (regOnly_any A _ _ hX9.out).mono ?_
    rintro e w1 ⟨v', rfl, ⟨p', m', rfl, hp1, hm1, np, nm⟩, hb1⟩
    have hZ1 := hZ9.out.keep hb1 (by omega)
    have K1 := Kept.mk hZ1
    have K2 := Kept.mk (hF9.out.keep hb1 (by omega))
    replace hB := Kept.mk (hB.out.trans (hb1.mono hB.out.size))
    obtain ⟨hBK, K4, K5⟩ := vset (onlyReg A) p' m' (g := w.heap.size + 3) (by omega) hB.out hZ1 rfl hp1 hm1 (np.ne (by omega)) (nm.ne (by omega))
    obtain ⟨hc', hp', hm'⟩ := K4.out
    replace np := np.low (B' := w.heap.size) (by omega)
    replace nm := nm.low (B' := w.heap.size) (by omega)
    clear K4 hp1 hm1 hZ1 hb1
    go_wp2_with (refine wpList_storeN 28 rfl (.tmp 6) (.tmp 33) rfl (w.heap.size + 3) [.int .i64 (onlyReg A).kind, .int .i64 (onlyReg A).time, .int .i64 (onlyReg A).node, .bool (onlyReg A).dead, .string ⟨(onlyReg A).text.toArray⟩, p', m', .int .u64 ((onlyReg A).flags.toNat : Int)] size_va rfl rfl K1.out rfl K2.out K5.out ?_)
    rw [HJ.out]
    exact bodyPost_ret (resultsN1 rfl _ _ (w.heap.size + 3) _ size_va agg_va rfl hc') rfl ⟨_, rfl, ⟨_, _, rfl, hp', hm', np, nm⟩, hBK.out⟩
  | false =>
    have HJ := Kept.mk (show joinReg A B = onlyReg B by unfold joinReg; rw [hz]; rfl)
    have k0 := kB 0 _ rfl
    have k1 := kB 1 _ rfl
    have k2 := kB 2 _ rfl
    have k3 := kB 3 _ rfl
    have k4 := kB 4 _ rfl
    have k5 := kB 5 _ rfl
    have k6 := kB 6 _ rfl
    have k7 := kB 7 _ rfl
    clear kA kB
    go_wp2_with fail
    refine (regOnly_any B _ _ gX9.out).mono ?_
    rintro e w1 ⟨v', rfl, ⟨p', m', rfl, hp1, hm1, np, nm⟩, hb1⟩
    have hZ1 := hZ9.out.keep hb1 (by omega)
    have K1 := Kept.mk hZ1
    have K2 := Kept.mk (hF9.out.keep hb1 (by omega))
    replace hB := Kept.mk (hB.out.trans (hb1.mono hB.out.size))
    obtain ⟨hBK, K4, K5⟩ := vset (onlyReg B) p' m' (g := w.heap.size + 3) (by omega) hB.out hZ1 rfl hp1 hm1 (np.ne (by omega)) (nm.ne (by omega))
    obtain ⟨hc', hp', hm'⟩ := K4.out
    replace np := np.low (B' := w.heap.size) (by omega)
    replace nm := nm.low (B' := w.heap.size) (by omega)
    clear K4 hp1 hm1 hZ1 hb1
    go_wp2_with (refine wpList_storeN 28 rfl (.tmp 6) (.tmp 36) rfl (w.heap.size + 3) [.int .i64 (onlyReg B).kind, .int .i64 (onlyReg B).time, .int .i64 (onlyReg B).node, .bool (onlyReg B).dead, .string ⟨(onlyReg B).text.toArray⟩, p', m', .int .u64 ((onlyReg B).flags.toNat : Int)] size_va rfl rfl K1.out rfl K2.out K5.out ?_)
    rw [HJ.out]
    exact bodyPost_ret (resultsN1 rfl _ _ (w.heap.size + 3) _ size_va agg_va rfl hc') rfl ⟨_, rfl, ⟨_, _, rfl, hp', hm', np, nm⟩, hBK.out⟩
end Go.Proofs.Ytmbnhlhanckkiaa
end
section
namespace Go.Proofs.Ytmbnhlhanckkiaa
open Go.RowKit
set_option linter.unusedVariables false
set_option linter.unusedSimpArgs false
attribute [local irreducible] setN

theorem own_slice {B : Nat} {e : TypeId} {cs : List Value} {v : Value} {w : World} (h : isOwn B e cs v w) : NewB B v ∧ ∃ a n c, v = .slice a n c := by
  obtain ⟨hl, ⟨rfl, _⟩ | ⟨g, cap, cur, rfl, hB, _⟩⟩ := h
  · exact ⟨newB_nil B, _, _, _, rfl⟩
  · exact ⟨newB_row hB _ _ _, _, _, _, rfl⟩
theorem built_count (a a2 : Option Addr) (n c n2 c2 : Nat) : Try.prog.built 28 [(0, .int .i64 2), (5, .slice a n c), (6, .slice a2 n2 c2)] = some #[.int .i64 2, .int .i64 0, .int .i64 0, .bool false, .string ⟨#[]⟩, .slice a n c, .slice a2 n2 c2, .int .u64 0] := by kernel_rfl
/-- A counter put together of two new rows. -/
def isCnt (B : Nat) (l m : List Value) : VP := fun v w => ∃ p' m', v = .agg #[.int .i64 2, .int .i64 0, .int .i64 0, .bool false, .string ⟨#[]⟩, p', m', .int .u64 0] ∧ isOwn B 3 l p' w ∧ isOwn B 3 m m' w
theorem stable_cnt (B : Nat) (l m : List Value) : Stable (isCnt B l m) := fun v w w' ⟨p', m', e, h1, h2⟩ hb => ⟨p', m', e, stable_own _ _ _ _ _ _ h1 hb, stable_own _ _ _ _ _ _ h2 hb⟩
theorem cnt_built {B : Nat} {l m : List Value} {u v : Value} {w : World} (h1 : isOwn B 3 l u w) (h2 : isOwn B 3 m v w) : ∃ cs, Try.prog.built 28 [(0, .int .i64 2), (5, u), (6, v)] = some cs ∧ isCnt B l m (.agg cs) w := by
  obtain ⟨_, a1, n1, c1, rfl⟩ := own_slice h1
  obtain ⟨_, a2, n2, c2, rfl⟩ := own_slice h2
  exact ⟨_, built_count _ _ _ _ _ _, _, _, rfl, h1, h2⟩
noncomputable def conlyOps : Array Oper := regionOf Try.f94 1
set_option maxRecDepth 100000 in
set_option maxHeartbeats 1000000 in
theorem conly_region (Q : Exit → Act → World → Prop) (a0 : Act) (w0 : World) (hsz : a0.tmps.size = 12) (A : Va) (g r : Nat) (vp vm : Value) (e3 : a0.tmps.getD 3 undef = .pointer (some ⟨g, 0, none⟩)) (e4 : a0.tmps.getD 4 undef = .pointer (some ⟨r, 0, none⟩)) (hc : CellsN w0 g [.int .i64 A.kind, .int .i64 A.time, .int .i64 A.node, .bool A.dead, .string ⟨A.text.toArray⟩, vp, vm, .int .u64 (A.flags.toNat : Int)]) (hr : CellsN w0 r [.int .i64 0, .int .i64 0, .int .i64 0, .bool false, .string ⟨#[]⟩, .slice none 0 0, .slice none 0 0, .int .u64 0]) (hf : Free5 w0 r)
    (hp : isCells (A.plus.map intC) vp w0) (hm : isCells (A.minus.map intC) vm w0) (hp1 : A.plus.length * 8 ≤ 140737488355328) (hm1 : A.minus.length * 8 ≤ 140737488355328)
    (hQ : ∀ (a : Act) (w1 : World) (p' m' : Value), a.defers = a0.defers → a.tmps.getD 4 undef = .pointer (some ⟨r, 0, none⟩) → Below w0.heap.size w0 w1 → isOwn w0.heap.size 3 (A.plus.map intC) p' w1 → isOwn w0.heap.size 3 (A.minus.map intC) m' w1 → Q .normal a (setN w1 r 0 [.int .i64 2, .int .i64 0, .int .i64 0, .bool false, .string ⟨#[]⟩, p', m', .int .u64 0])) :
    (Code.region 1 conlyOps true).wp Try.prog Q a0 w0 := by
  refine wp_region_tail 7 mixed (by rw [hsz]; kernel_rfl) (by kernel_rfl) ?_
  rw [show conlyOps.size - 7 = 1 by kernel_rfl]
  refine ⟨isVal (.pointer (some ⟨g, 5, none⟩)), step_field 28 (.tmp 3) 5 ⟨g, 0, none⟩ ⟨g, 5, none⟩ (by kernel_rfl) (wanted_none (by kernel_rfl)) (knows_old 3 (.pointer (some ⟨g, 0, none⟩)) (by kernel_rfl) e3) (field_va g 5 (by omega)), ?_⟩
  refine ⟨isVal vp, step_read 23 (.tmp 5) ⟨g, 5, none⟩ vp (by kernel_rfl) (wanted_none (by kernel_rfl)) (knows_new (V := isVal (.pointer (some ⟨g, 5, none⟩))) 5 0 (by kernel_rfl) (by kernel_rfl) (by kernel_rfl)) (hc.2 5 _ rfl) hc.1 agg_ints, ?_⟩
  refine ⟨(isOwn w0.heap.size 3 (A.plus.map intC)), step_call 44 #[.tmp 6] #[23] #[vp] (by kernel_rfl) (wanted_none (by kernel_rfl)) (stable_own _ _ _) (args1 (.tmp 6) vp (knows_new (V := isVal vp) 6 1 (by kernel_rfl) (by kernel_rfl) (by kernel_rfl))) (enters_of Try.func44 (by kernel_rfl) rfl) (by intro w hb; exact clone_i' w0.heap.size A.plus vp w (stable_cells _ _ _ _ hp hb) hp1 hb.size), ?_⟩
  refine ⟨isVal (.pointer (some ⟨g, 6, none⟩)), step_field 28 (.tmp 3) 6 ⟨g, 0, none⟩ ⟨g, 6, none⟩ (by kernel_rfl) (wanted_none (by kernel_rfl)) (knows_old 3 (.pointer (some ⟨g, 0, none⟩)) (by kernel_rfl) e3) (field_va g 6 (by omega)), ?_⟩
  refine ⟨isVal vm, step_read 23 (.tmp 8) ⟨g, 6, none⟩ vm (by kernel_rfl) (wanted_none (by kernel_rfl)) (knows_new (V := isVal (.pointer (some ⟨g, 6, none⟩))) 8 3 (by kernel_rfl) (by kernel_rfl) (by kernel_rfl)) (hc.2 6 _ rfl) hc.1 agg_ints, ?_⟩
  refine ⟨(isOwn w0.heap.size 3 (A.minus.map intC)), step_call 44 #[.tmp 9] #[23] #[vm] (by kernel_rfl) (wanted_none (by kernel_rfl)) (stable_own _ _ _) (args1 (.tmp 9) vm (knows_new (V := isVal vm) 9 4 (by kernel_rfl) (by kernel_rfl) (by kernel_rfl))) (enters_of Try.func44 (by kernel_rfl) rfl) (by intro w hb; exact clone_i' w0.heap.size A.minus vm w (stable_cells _ _ _ _ hm hb) hm1 hb.size), ?_⟩
  refine ⟨isCnt w0.heap.size (A.plus.map intC) (A.minus.map intC), step_buildP 28 #[(0, .const (.int .i64 2)), (5, .tmp 7), (6, .tmp 10)] (by kernel_rfl) (wanted_none (by kernel_rfl)) (stable_cnt _ _ _) (by
    intro a w hk hd
    have h1 := knows_new (ops := conlyOps) (a0 := a0) (V := isOwn w0.heap.size 3 (A.plus.map intC)) 7 2 (by kernel_rfl) (by kernel_rfl) (by kernel_rfl) a w hk hd
    have h2 := knows_new (ops := conlyOps) (a0 := a0) (V := isOwn w0.heap.size 3 (A.minus.map intC)) 10 5 (by kernel_rfl) (by kernel_rfl) (by kernel_rfl) a w hk hd
    have e0 : a.eval (.const (.int .i64 2)) = .int .i64 2 := rfl
    simpa [e0] using cnt_built h1 h2), ?_⟩
  intro a w hk hb hd
  obtain ⟨p', m', d11, o1, o2⟩ := fdone_of (hd 6 (by decide)) (t := 11) (V := isCnt w0.heap.size (A.plus.map intC) (A.minus.map intC)) (by kernel_rfl) (by kernel_rfl)
  have e4' : a.tmps.getD 4 undef = .pointer (some ⟨r, 0, none⟩) := (hk.2.2 4 (by kernel_rfl)).trans e4
  refine tail_storeN 28 (.tmp 4) (.tmp 11) r [.int .i64 2, .int .i64 0, .int .i64 0, .bool false, .string ⟨#[]⟩, p', m', .int .u64 0] _ (by kernel_rfl) (by kernel_rfl) size_va e4' d11 (hr.keep hb hr.1) rfl (hf.keep hb hr.1) ⟨rfl, rfl, rfl, rfl, rfl, o1.one.2, o2.one.2, rfl, trivial⟩ ?_
  exact hQ _ w _ _ hk.1 e4' hb o1 o2
set_option maxRecDepth 20000 in
set_option maxHeartbeats 1000000 in
theorem countOnly_any (A : Va) (v : Value) (w : World) (hv : isVa A v w) (hp1 : A.plus.length ≤ 1000000000) (hm1 : A.minus.length ≤ 1000000000) :
    Calls Try.prog 94 #[.agg #[], v] w fun e w' => ∃ v', e = .returned v' ∧ isVaN w.heap.size (onlyCount A) v' w' ∧ Below w.heap.size w w' := by
  obtain ⟨vp, vm, rfl, hp, hm⟩ := hv
  have hB0 := lit_below w (.cells #[] 95)
  obtain ⟨hB1, hV⟩ := vbox _ A vp vm (stable_cells _ _ _ _ hp hB0) (stable_cells _ _ _ _ hm hB0) (w.heap.size + 1) (by simp)
  have hB := Kept.mk (hB0.trans (hB1.out.mono hB0.size))
  have hB3 := lit_below ((w.alloc (.cells #[] 95)).alloc (.cells #[.int .i64 A.kind, .int .i64 A.time, .int .i64 A.node, .bool A.dead, .string ⟨A.text.toArray⟩, vp, vm, .int .u64 (A.flags.toNat : Int)] 28)) (.cells #[.int .i64 0, .int .i64 0, .int .i64 0, .bool false, .string ⟨#[]⟩, .slice none 0 0, .slice none 0 0, .int .u64 0] 28)
  have HC := Kept.mk ((cellsN_at (w.alloc (.cells #[] 95)) 28 [.int .i64 A.kind, .int .i64 A.time, .int .i64 A.node, .bool A.dead, .string ⟨A.text.toArray⟩, vp, vm, .int .u64 (A.flags.toNat : Int)] (w.heap.size + 1) (by simp)).keep hB3 (by simp))
  have HZ := Kept.mk (cellsN_at ((w.alloc (.cells #[] 95)).alloc (.cells #[.int .i64 A.kind, .int .i64 A.time, .int .i64 A.node, .bool A.dead, .string ⟨A.text.toArray⟩, vp, vm, .int .u64 (A.flags.toNat : Int)] 28)) 28 [.int .i64 0, .int .i64 0, .int .i64 0, .bool false, .string ⟨#[]⟩, .slice none 0 0, .slice none 0 0, .int .u64 0] (w.heap.size + 2) (by simp))
  have HF := Kept.mk (free5_at ((w.alloc (.cells #[] 95)).alloc (.cells #[.int .i64 A.kind, .int .i64 A.time, .int .i64 A.node, .bool A.dead, .string ⟨A.text.toArray⟩, vp, vm, .int .u64 (A.flags.toNat : Int)] 28)) #[.int .i64 0, .int .i64 0, .int .i64 0, .bool false, .string ⟨#[]⟩, .slice none 0 0, .slice none 0 0, .int .u64 0] 28 (w.heap.size + 2) (by simp))
  have hS : Kept (w.heap.size + 3 = (((w.alloc (.cells #[] 95)).alloc (.cells #[.int .i64 A.kind, .int .i64 A.time, .int .i64 A.node, .bool A.dead, .string ⟨A.text.toArray⟩, vp, vm, .int .u64 (A.flags.toNat : Int)] 28)).alloc (.cells #[.int .i64 0, .int .i64 0, .int .i64 0, .bool false, .string ⟨#[]⟩, .slice none 0 0, .slice none 0 0, .int .u64 0] 28)).heap.size) := ⟨by simp⟩
  replace hB := Kept.mk (hB.out.trans (hB3.mono hB.out.size))
  have HP := Kept.mk (stable_cells _ _ _ _ hp hB.out)
  have HM := Kept.mk (stable_cells _ _ _ _ hm hB.out)
  clear hp hm hB0 hB1 hV hB3
  go_enter Try.func94, Try.ntmps94
  go_wp2_with fail
  generalize ((w.alloc (.cells #[] 95)).alloc (.cells #[.int .i64 A.kind, .int .i64 A.time, .int .i64 A.node, .bool A.dead, .string ⟨A.text.toArray⟩, vp, vm, .int .u64 (A.flags.toNat : Int)] 28)).alloc (.cells #[.int .i64 0, .int .i64 0, .int .i64 0, .bool false, .string ⟨#[]⟩, .slice none 0 0, .slice none 0 0, .int .u64 0] 28) = W0 at *
  refine conly_region _ _ _ rfl A (w.heap.size + 1) (w.heap.size + 2) vp vm rfl rfl HC.out HZ.out HF.out HP.out HM.out (by omega) (by omega) ?_
  intro a w1 p' m' hd h4 hb1 o1 o2
  have hs := hS.out
  have hZ1 := HZ.out.keep hb1 HZ.out.1
  obtain ⟨np, _⟩ := own_slice o1
  obtain ⟨nm, _⟩ := own_slice o2
  obtain ⟨hBK, K4, K5⟩ := vset (onlyCount A) p' m' (g := w.heap.size + 2) (by omega) (hB.out.trans (hb1.mono hB.out.size)) hZ1 rfl o1.cells o2.cells (np.ne (by omega)) (nm.ne (by omega))
  obtain ⟨hc', hp', hm'⟩ := K4.out
  replace np := np.low (B' := w.heap.size) (by omega)
  replace nm := nm.low (B' := w.heap.size) (by omega)
  go_wp2
  exact bodyPost_ret (resultsN1 rfl _ _ (w.heap.size + 2) _ size_va agg_va h4 hc') hd ⟨_, rfl, ⟨_, _, rfl, hp', hm', np, nm⟩, hBK.out⟩
end Go.Proofs.Ytmbnhlhanckkiaa
end
section
namespace Go.Proofs.Ytmbnhlhanckkiaa
open Go.RowKit
set_option linter.unusedVariables false
set_option linter.unusedSimpArgs false

section
variable {P : Program} {ops : Array Oper} {base : World} {a0 : Act} {Q : Exit → Act → World → Prop} {kn : Nat → VP} {i : Nat} {V : VP}

/-- make([]byte, n) -/
theorem step_make (t e : TypeId) (x : Operand) (n : Nat) (hop : (ops[i]?).map (·.op) = some (.makeSlice t x x)) (hw : Wanted ops a0 kn i) (hx : Knows ops a0 kn i x (isVal (.int .i64 (n : Int))))
    (ht : P.underlying t = some (.slice e)) (hi : (P.info? e).map (fun i => (i.zero, i.size, i.bytes)) = some (some (.int .u8 0), 1, 1)) (hn : n ≤ 1000000) : FStep P ops base a0 Q kn i (isRow (List.replicate n 0)) :=
  step_mk (stable_row _) hw fun o ho a w hk hb hd => by
    have e1 : a.eval x = .int .i64 (n : Int) := hx a w hk hd
    have hr := run_make_row' (P := P) t e (.int .u8 0) 1 ht hi rfl .i64 .i64 n (by omega) (by omega) w
    unfold Oper.wp execOp
    rw [op_of hop ho]
    simp only [e1, Sem.run_bind, hr, Result.andThen_ok, Sem.run_pure]
    refine ⟨_, rfl, ⟨w.heap.size, by simp, by simp, BRow.made w e n⟩, (Below.refl _ _).alloc (Nat.le_refl _) _⟩

/-- A place in an array. -/
theorem step_at (t e : TypeId) (x : Operand) (n k g : Nat) (hop : (ops[i]?).map (·.op) = some (.indexAddr t x (.const (.int .i64 (k : Int))))) (hw : Wanted ops a0 kn i) (hx : Knows ops a0 kn i x (isVal (.pointer (some ⟨g, 0, none⟩))))
    (ht : P.underlying t = some (.array n e)) (hs : P.cellsOf e = 1) (hi : (P.info? e).map (·.size) = some 1) (hk : k < n) : FStep P ops base a0 Q kn i (isVal (.pointer (some (Addr.add ⟨g, 0, none⟩ k)))) :=
  step_pure _ hop hw fun o a w ho hk' hd => by
    have e1 : a.eval x = .pointer (some ⟨g, 0, none⟩) := hx a w hk' hd
    have e2 : a.eval (.const (.int .i64 (k : Int))) = .int .i64 (k : Int) := rfl
    unfold execOp
    rw [ho]
    simp only [e1, e2, Sem.run_bind]
    obtain ⟨ie, hie, hz⟩ := Option.map_eq_some_iff.1 hi
    have hsz : (sizeOf e).run P w = .ok 1 w := by simp [sizeOf, typeInfo, hie, hz]
    simp [Instr.indexAt, run_underlying ht, Instr.sureAddr, asIntOf, hsz, hk]

/-- What stands in a place that was there ahead of the region. -/
theorem step_cell (t : TypeId) (x : Operand) (p : Addr) (v : Value) (d : TypeDesc) (hop : (ops[i]?).map (·.op) = some (.load t x)) (hw : Wanted ops a0 kn i) (hx : Knows ops a0 kn i x (isVal (.pointer (some p))))
    (hc : base.cell? p = some v) (hp : p.block < base.heap.size) (hu : P.underlying t = some (.int .u8)) : FStep P ops base a0 Q kn i (isVal v) :=
  step_mk (stable_val _) hw fun o ho a w hk hb hd => by
    have e1 : a.eval x = .pointer (some p) := hx a w hk hd
    have e2 : w.cell? p = some v := (hb.cell hp).trans hc
    unfold Oper.wp execOp
    rw [op_of hop ho]
    simp only [e1, Instr.loadAt, Instr.sureAddr, Sem.run_bind, Sem.run_pure, Result.andThen_ok]
    simp [loadVar, isAgg, run_underlying hu, e2, Oper.upon]
    exact ⟨v, rfl, rfl, Below.refl _ _⟩

theorem step_whole (t e : TypeId) (x : Operand) (g : Nat) (n : Nat) (cs : Array Value) (t' : TypeId) (fr : Nat × Nat) (hop : (ops[i]?).map (·.op) = some (.load t x)) (hw : Wanted ops a0 kn i) (hx : Knows ops a0 kn i x (isVal (.pointer (some ⟨g, 0, none⟩))))
    (hc : base.heap[g]? = some (.cells cs t' fr)) (hu : P.underlying t = some (.array n e)) (hi : (P.info? t).map (·.size) = some cs.size) : FStep P ops base a0 Q kn i (isVal (.agg cs)) :=
  step_mk (stable_val _) hw fun o ho a w hk hb hd => by
    have e1 : a.eval x = .pointer (some ⟨g, 0, none⟩) := hx a w hk hd
    have hg : g < base.heap.size := (Array.getElem?_eq_some_iff.1 hc).1
    have e2 : w.heap[g]? = some (.cells cs t' fr) := (hb.block g hg).trans hc
    exact wp_load_row t x (op_of hop ho) g e1 t' cs fr _ e2 hu rfl hi ⟨_, rfl, rfl, Below.refl _ _⟩

theorem step_none (t : TypeId) (cs : Array Value) (hop : (ops[i]?).map (·.op) = some (.build t #[])) (hw : Wanted ops a0 kn i) (hb : P.built t [] = some cs) : FStep P ops base a0 Q kn i (isVal (.agg cs)) :=
  step_pure _ hop hw fun o a w ho hk hd => by
    unfold execOp
    rw [ho]
    simp only [Sem.run_bind]
    rw [run_build (P := P) w t _ cs (by simpa using hb)]
    rfl

/-- A literal of four bytes that were found out. -/
theorem step_row4 (t e : TypeId) (x0 x1 x2 x3 : Operand) (b0 b1 b2 b3 : UInt8) (hop : (ops[i]?).map (·.op) = some (.buildSlice t 4 #[(0, x0), (1, x1), (2, x2), (3, x3)])) (hw : Wanted ops a0 kn i)
    (h0 : Knows ops a0 kn i x0 (isVal (.int .u8 (b0.toNat : Int)))) (h1 : Knows ops a0 kn i x1 (isVal (.int .u8 (b1.toNat : Int)))) (h2 : Knows ops a0 kn i x2 (isVal (.int .u8 (b2.toNat : Int)))) (h3 : Knows ops a0 kn i x3 (isVal (.int .u8 (b3.toNat : Int))))
    (hu : P.underlying t = some (.slice e)) (hi : (P.info? e).map (fun i => (i.zero, i.size, i.bytes)) = some (some (.int .u8 0), 1, 1)) : FStep P ops base a0 Q kn i (isRow [b0, b1, b2, b3]) :=
  step_mk (stable_row _) hw fun o ho a w hk hb hd => by
    obtain ⟨ie, hie, hzz⟩ := Option.map_eq_some_iff.1 hi
    simp only [Prod.mk.injEq] at hzz
    obtain ⟨hz, hsz, _⟩ := hzz
    have e0 : a.eval x0 = _ := h0 a w hk hd
    have e1 : a.eval x1 = _ := h1 a w hk hd
    have e2 : a.eval x2 = _ := h2 a w hk hd
    have e3 : a.eval x3 = _ := h3 a w hk hd
    have hf : Instr.fill (fun i => some (i * ie.size, ie.size)) ((Array.range (4 * ie.size)).map ((Value.int .u8 0).cells[· % (Value.int .u8 0).cells.size]!)) (#[(0, x0), (1, x1), (2, x2), (3, x3)].map fun (i, x) => (i, a.eval x)).toList = some ([b0, b1, b2, b3].map fun b => Value.int .u8 (b.toNat : Int)).toArray := by
      have e4 : (#[(0, x0), (1, x1), (2, x2), (3, x3)].map fun (i, x) => (i, a.eval x)).toList = (([b0, b1, b2, b3].map fun b => Value.int .u8 (b.toNat : Int)).zipIdx 0).map fun x => (x.2, x.1) := by
        simp [e0, e1, e2, e3]
      rw [e4, hsz]
      exact Great.fill_flat _ _ (fun v hv => by obtain ⟨n, _, rfl⟩ := List.mem_map.1 hv; rfl) (by simp)
    refine wp_buildSlice t e 4 _ (op_of hop ho) _ ie (.int .u8 0) hu hie hz (by rw [hsz]; omega) (by rw [hsz]; omega) hf ?_
    refine ⟨_, rfl, ⟨w.heap.size, rfl, by simp, fun j hj => ⟨?_, World.frozen?_alloc_new w _ _ _⟩⟩, (Below.refl _ _).alloc (Nat.le_refl _) _⟩
    rw [World.cell?_alloc_new]
    simp only [List.getElem?_toArray, List.getElem?_map, List.getElem?_eq_getElem hj, Option.map_some]
end

/-- Four bytes are alike where each is. -/
theorem eql_four {P : Program} (t e : TypeId) (x0 x1 x2 x3 y0 y1 y2 y3 : Int) (b : Bool) (hu : P.underlying t = some (.array 4 e)) (he : P.underlying e = some (.int .u8)) (hi : (P.info? e).map (·.size) = some 1)
    (hb : (x0 == y0 && x1 == y1 && x2 == y2 && x3 == y3) = b) (w : World) :
    (binOp .eql t (.agg #[.int .u8 x0, .int .u8 x1, .int .u8 x2, .int .u8 x3]) (.agg #[.int .u8 y0, .int .u8 y1, .int .u8 y2, .int .u8 y3])).run P w = .ok (.bool b) w := by
  obtain ⟨ie, hie, hz⟩ := Option.map_eq_some_iff.1 hi
  have hc : P.cellsOf e = 1 := by simp [Program.cellsOf, hie, hz]
  rw [run_eql_struct, show (10000 : Nat) = 9999 + 1 from rfl, run_equalIn_array w 9999 _ _ hu hie, hc]
  have hsz : ∀ w, (sizeOf e).run P w = .ok 1 w := fun w => by simp [sizeOf, typeInfo, hie, hz]
  rw [show List.range 4 = [0, 1, 2, 3] from rfl, ← hb]
  have hp : ∀ (xs : Array Value) (off : Nat) (v : Value) (w : World), xs[off]? = some v → (part e xs off).run P w = .ok v w := fun xs off v w hx => by simp [part, isAgg, run_underlying he, hx]
  have heq : ∀ (x y : Int) (w : World), (Op.equalIn 9999 e (.int .u8 x) (.int .u8 y)).run P w = .ok (x == y) w := fun x y w => run_equalIn_int w 9998 e .u8 .u8 x y he
  simp only [Op.eqItems, Sem.run_bind, Nat.zero_mul, Nat.mul_one]
  rw [hp _ 0 (.int .u8 x0) w rfl]
  simp only [Result.andThen_ok]
  rw [hp _ 0 (.int .u8 y0) w rfl]
  simp only [Result.andThen_ok]
  rw [heq x0 y0]
  cases h0 : x0 == y0 with
  | false => simp
  | true =>
    simp only [Result.andThen_ok, Bool.not_true, Bool.false_eq_true, if_false, Sem.run_pure, Sem.run_bind]
    rw [hp _ 1 (.int .u8 x1) w rfl]
    simp only [Result.andThen_ok]
    rw [hp _ 1 (.int .u8 y1) w rfl]
    simp only [Result.andThen_ok]
    rw [heq x1 y1]
    cases h1 : x1 == y1 with
    | false => simp
    | true =>
      simp only [Result.andThen_ok, Bool.not_true, Bool.false_eq_true, if_false, Sem.run_pure, Sem.run_bind]
      rw [hp _ 2 (.int .u8 x2) w rfl]
      simp only [Result.andThen_ok]
      rw [hp _ 2 (.int .u8 y2) w rfl]
      simp only [Result.andThen_ok]
      rw [heq x2 y2]
      cases h2 : x2 == y2 with
      | false => simp
      | true =>
        simp only [Result.andThen_ok, Bool.not_true, Bool.false_eq_true, if_false, Sem.run_pure, Sem.run_bind]
        rw [hp _ 3 (.int .u8 x3) w rfl]
        simp only [Result.andThen_ok]
        rw [hp _ 3 (.int .u8 y3) w rfl]
        simp only [Result.andThen_ok]
        rw [heq x3 y3]
        cases h3 : x3 == y3 with
        | false => simp
        | true => simp
end Go.Proofs.Ytmbnhlhanckkiaa
end
section
namespace Go.Proofs.Ytmbnhlhanckkiaa
open Go.RowKit
set_option linter.unusedVariables false
set_option linter.unusedSimpArgs false
attribute [local irreducible] setN

/-- A kind, as the program has it. -/
def ifaceK : Nat → Value
  | 1 => .iface 94 (.agg #[])
  | 2 => .iface 95 (.agg #[])
  | 3 => .iface 96 (.agg #[])
  | _ => .nilIface
def kOf (n : Int) : Nat := if n = 1 then 1 else if n = 2 then 2 else if n = 3 then 3 else 0
theorem kindOf_any (n : Int) (w : World) : Calls Try.prog 59 #[.int .i64 n] w fun e w' => e = .returned (.tuple #[ifaceK (kOf n), .bool (decide (kOf n ≠ 0))]) ∧ w = w' := by
  by_cases h1 : n = 1
  · subst h1
    go_enter Try.func59, Try.ntmps59
    go_wp2
    go_ret2
    exact ⟨rfl, rfl⟩
  · have d1 : (n == 1) = false := by simpa using h1
    by_cases h2 : n = 2
    · subst h2
      go_enter Try.func59, Try.ntmps59
      go_wp2
      go_ret2
      exact ⟨rfl, rfl⟩
    · have d2 : (n == 2) = false := by simpa using h2
      by_cases h3 : n = 3
      · subst h3
        go_enter Try.func59, Try.ntmps59
        go_wp2
        go_ret2
        exact ⟨rfl, rfl⟩
      · have d3 : (n == 3) = false := by simpa using h3
        have HK := Kept.mk (show kOf n = 0 by unfold kOf; rw [if_neg h1, if_neg h2, if_neg h3])
        clear h1 h2 h3
        go_enter Try.func59, Try.ntmps59
        go_wp2
        go_ret2
        exact ⟨by rw [HK.out]; rfl, rfl⟩
/-- What is looked at is small enough. -/
structure Fit (A : Va) : Prop where
  text : A.text.length ≤ 1000000000
  plus : A.plus.length ≤ 1000000
  minus : A.minus.length ≤ 1000000
theorem call_regIn (A : Va) (b : Bool) (v : Value) (w : World) (hv : isVa A v w) (hf : Fit A) (hb : inReg A = b) : Calls Try.prog 79 #[.agg #[], v] w fun e w' => ∃ x, e = .returned x ∧ isVal (.bool b) x w' ∧ Below w.heap.size w w' :=
  (regIn_any A v w hv hf.text).mono (by rintro e w' ⟨rfl, h⟩; exact ⟨_, rfl, by rw [hb]; rfl, h⟩)
theorem call_countIn (A : Va) (b : Bool) (v : Value) (w : World) (hv : isVa A v w) (hf : Fit A) (hb : inCount A = b) : Calls Try.prog 91 #[.agg #[], v] w fun e w' => ∃ x, e = .returned x ∧ isVal (.bool b) x w' ∧ Below w.heap.size w w' :=
  (countIn_any A v w hv (by have := hf.plus; omega) (by have := hf.minus; omega)).mono (by rintro e w' ⟨rfl, h⟩; exact ⟨_, rfl, by rw [hb]; rfl, h⟩)
theorem call_flagsIn (A : Va) (b : Bool) (v : Value) (w : World) (hv : isVa A v w) (hf : Fit A) (hb : true = b) : Calls Try.prog 103 #[.agg #[], v] w fun e w' => ∃ x, e = .returned x ∧ isVal (.bool b) x w' ∧ Below w.heap.size w w' :=
  (flagsInrange_any A v w hv).mono (by rintro e w' ⟨rfl, h⟩; exact ⟨_, rfl, by rw [hb]; rfl, h⟩)
theorem call_regOnly (A : Va) (v : Value) (w : World) (hv : isVa A v w) (hf : Fit A) : Calls Try.prog 82 #[.agg #[], v] w fun e w' => ∃ x, e = .returned x ∧ isVa (onlyReg A) x w' ∧ Below w.heap.size w w' :=
  (regOnly_any A v w hv).mono (by rintro e w' ⟨x, rfl, h, hb⟩; exact ⟨_, rfl, h.va, hb⟩)
theorem call_countOnly (A : Va) (v : Value) (w : World) (hv : isVa A v w) (hf : Fit A) : Calls Try.prog 94 #[.agg #[], v] w fun e w' => ∃ x, e = .returned x ∧ isVa (onlyCount A) x w' ∧ Below w.heap.size w w' :=
  (countOnly_any A v w hv (by have := hf.plus; omega) (by have := hf.minus; omega)).mono (by rintro e w' ⟨x, rfl, h, hb⟩; exact ⟨_, rfl, h.va, hb⟩)
theorem call_flagsOnly (A : Va) (v : Value) (w : World) (hv : isVa A v w) (hf : Fit A) : Calls Try.prog 106 #[.agg #[], v] w fun e w' => ∃ x, e = .returned x ∧ isVa (onlyFlags A) x w' ∧ Below w.heap.size w w' :=
  (flagsOnly_any A v w hv).mono (by rintro e w' ⟨x, rfl, h, hb⟩; exact ⟨_, rfl, h.va, hb⟩)
theorem call_same (A B : Va) (v u : Value) (w : World) (hv : isVa A v w) (hu : isVa B u w) (h1 : Fit A) (h2 : B.plus.length ≤ 1000000) (h3 : B.minus.length ≤ 1000000) :
    Calls Try.prog 39 #[v, u] w fun e w' => ∃ x, e = .returned x ∧ isVal (.bool (decide (A = B))) x w' ∧ Below w.heap.size w w' :=
  (vsame_any A B v u w hv hu (by have := h1.plus; omega) (by have := h1.minus; omega) (by omega) (by omega)).mono (by rintro e w' ⟨rfl, h⟩; exact ⟨_, rfl, rfl, h⟩)
theorem same_self (B : Va) (h : Fit B) : (onlyReg B).plus.length ≤ 1000000 ∧ (onlyReg B).minus.length ≤ 1000000 ∧ (onlyCount B).plus.length ≤ 1000000 ∧ (onlyCount B).minus.length ≤ 1000000 ∧ (onlyFlags B).plus.length ≤ 1000000 ∧ (onlyFlags B).minus.length ≤ 1000000 :=
  ⟨Nat.zero_le _, Nat.zero_le _, h.plus, h.minus, Nat.zero_le _, Nat.zero_le _⟩
noncomputable def kv_noneOps : Array Oper := regionOf Try.f53 2
set_option maxRecDepth 100000 in
set_option maxHeartbeats 2000000 in
theorem kv_none_region (Q : Exit → Act → World → Prop) (a0 : Act) (w0 : World) (hsz : a0.tmps.size = 29) (A : Va) (g : Nat) (vp vm : Value) (e1 : a0.tmps.getD 1 undef = .pointer (some ⟨g, 0, none⟩)) (e4 : a0.tmps.getD 4 undef = .nilIface) (e5 : a0.tmps.getD 5 undef = .bool false) (hc : CellsN w0 g [.int .i64 A.kind, .int .i64 A.time, .int .i64 A.node, .bool A.dead, .string ⟨A.text.toArray⟩, vp, vm, .int .u64 (A.flags.toNat : Int)]) (hX : isVa A (.agg #[.int .i64 A.kind, .int .i64 A.time, .int .i64 A.node, .bool A.dead, .string ⟨A.text.toArray⟩, vp, vm, .int .u64 (A.flags.toNat : Int)]) w0) (hF : Fit A)
    (hQ : ∀ (g : Nat → Value) (w : World), g 27 = .bool true → Below w0.heap.size w0 w → Q .normal { tmps := [12, 13, 14, 15, 16, 17, 18, 19, 20, 21, 22, 23, 24, 25, 26, 27].foldl (fun t s => t.setIfInBounds s (g s)) a0.tmps, defers := a0.defers } w) :
    (Code.region 2 kv_noneOps true).wp Try.prog Q a0 w0 := by
  refine wp_region_flow mixed (by rw [hsz]; kernel_rfl) ?_
  rw [show kv_noneOps.size = 16 by kernel_rfl]
  refine ⟨isVal (.bool false), step_move (.tmp 5) (by kernel_rfl) (wanted_none (by kernel_rfl)) (stable_val _) (knows_old 5 (.bool false) (by kernel_rfl) e5), ?_⟩
  refine ⟨isVal (.bool true), step_un .not 4 (.tmp 12) (.bool false) (.bool true) (by kernel_rfl) (wanted_none (by kernel_rfl)) (knows_new (V := isVal (.bool false)) 12 0 (by kernel_rfl) (by kernel_rfl) (by kernel_rfl)) (fun _ => rfl), ?_⟩
  refine ⟨isVal (.bool true), step_move (.tmp 13) (by kernel_rfl) (wanted_none (by kernel_rfl)) (stable_val _) (knows_new (V := isVal (.bool true)) 13 1 (by kernel_rfl) (by kernel_rfl) (by kernel_rfl)), ?_⟩
  refine ⟨_, step_skip 2 14 false true (by kernel_rfl) (by kernel_rfl) (by kernel_rfl) (by kernel_rfl) rfl, ?_⟩
  refine ⟨_, step_skip 2 14 false true (by kernel_rfl) (by kernel_rfl) (by kernel_rfl) (by kernel_rfl) rfl, ?_⟩
  refine ⟨_, step_skip 2 14 false true (by kernel_rfl) (by kernel_rfl) (by kernel_rfl) (by kernel_rfl) rfl, ?_⟩
  refine ⟨_, step_skip 2 14 false true (by kernel_rfl) (by kernel_rfl) (by kernel_rfl) (by kernel_rfl) rfl, ?_⟩
  refine ⟨isVal (.bool true), step_pick (.tmp 14) (.const (.bool true)) (.tmp 18) true (by kernel_rfl) (wanted_none (by kernel_rfl)) (stable_val _) (knows_new (V := isVal (.bool true)) 14 2 (by kernel_rfl) (by kernel_rfl) (by kernel_rfl)) (knows_const _), ?_⟩
  refine ⟨isVal (.bool true), step_move (.tmp 19) (by kernel_rfl) (wanted_none (by kernel_rfl)) (stable_val _) (knows_new (V := isVal (.bool true)) 19 7 (by kernel_rfl) (by kernel_rfl) (by kernel_rfl)), ?_⟩
  refine ⟨_, step_skip 8 20 false true (by kernel_rfl) (by kernel_rfl) (by kernel_rfl) (by kernel_rfl) rfl, ?_⟩
  refine ⟨_, step_skip 8 20 false true (by kernel_rfl) (by kernel_rfl) (by kernel_rfl) (by kernel_rfl) rfl, ?_⟩
  refine ⟨_, step_skip 8 20 false true (by kernel_rfl) (by kernel_rfl) (by kernel_rfl) (by kernel_rfl) rfl, ?_⟩
  refine ⟨_, step_skip 8 20 false true (by kernel_rfl) (by kernel_rfl) (by kernel_rfl) (by kernel_rfl) rfl, ?_⟩
  refine ⟨_, step_skip 8 20 false true (by kernel_rfl) (by kernel_rfl) (by kernel_rfl) (by kernel_rfl) rfl, ?_⟩
  refine ⟨_, step_skip 8 20 false true (by kernel_rfl) (by kernel_rfl) (by kernel_rfl) (by kernel_rfl) rfl, ?_⟩
  refine ⟨isVal (.bool true), step_pick (.tmp 20) (.const (.bool true)) (.tmp 26) true (by kernel_rfl) (wanted_none (by kernel_rfl)) (stable_val _) (knows_new (V := isVal (.bool true)) 20 8 (by kernel_rfl) (by kernel_rfl) (by kernel_rfl)) (knows_const _), ?_⟩
  intro a w hkp hb hd
  rw [kept_of hkp [some 12, some 13, some 14, some 15, some 16, some 17, some 18, some 19, some 20, some 21, some 22, some 23, some 24, some 25, some 26, some 27] [12, 13, 14, 15, 16, 17, 18, 19, 20, 21, 22, 23, 24, 25, 26, 27] (by kernel_rfl) (by decide)]
  have d27 := fdone_of (hd 15 (by rw [show kv_noneOps.size = 16 by kernel_rfl]; decide)) (t := 27) (V := isVal (.bool true)) (by kernel_rfl) (by kernel_rfl)
  exact hQ (fun s => a.tmps.getD s undef) w d27 hb
set_option maxRecDepth 20000 in
set_option maxHeartbeats 1000000 in
theorem kv_none_any (A : Va) (v : Value) (w : World) (hv : isVa A v w) (hF : Fit A) (hk : kOf A.kind = 0) :
    Calls Try.prog 53 #[v] w fun e w' => e = .returned (.tuple #[ifaceK 0, .bool false]) ∧ Below w.heap.size w w' := by
  obtain ⟨vp, vm, rfl, hp, hm⟩ := hv
  obtain ⟨hB, hV⟩ := vbox w A vp vm hp hm w.heap.size rfl
  have hX := Kept.mk (show isVa A (.agg #[.int .i64 A.kind, .int .i64 A.time, .int .i64 A.node, .bool A.dead, .string ⟨A.text.toArray⟩, vp, vm, .int .u64 (A.flags.toNat : Int)]) (w.alloc (.cells #[.int .i64 A.kind, .int .i64 A.time, .int .i64 A.node, .bool A.dead, .string ⟨A.text.toArray⟩, vp, vm, .int .u64 (A.flags.toNat : Int)] 28)) from ⟨vp, vm, rfl, stable_cells _ _ _ _ hp hB.out, stable_cells _ _ _ _ hm hB.out⟩)
  have HC := Kept.mk (cellsN_at w 28 [.int .i64 A.kind, .int .i64 A.time, .int .i64 A.node, .bool A.dead, .string ⟨A.text.toArray⟩, vp, vm, .int .u64 (A.flags.toNat : Int)] w.heap.size rfl)
  have HK := Kept.mk (show kOf A.kind = 0 by exact hk)
  have HK2 := Kept.mk hk
  clear hp hm hV hk
  go_enter Try.func53, Try.ntmps53
  go_wp2_with fail
  refine (kindOf_any A.kind _).mono ?_; rintro e w' ⟨rfl, rfl⟩
  rewrite [HK.out]
  go_wp2_with fail
  refine kv_none_region _ _ _ rfl A w.heap.size vp vm rfl rfl rfl HC.out hX.out hF ?_
  intro f9 W9 d27 hb9
  simp only [List.foldl_cons, List.foldl_nil, d27]
  generalize f9 12 = y12
  generalize f9 13 = y13
  generalize f9 14 = y14
  generalize f9 15 = y15
  generalize f9 16 = y16
  generalize f9 17 = y17
  generalize f9 18 = y18
  generalize f9 19 = y19
  generalize f9 20 = y20
  generalize f9 21 = y21
  generalize f9 22 = y22
  generalize f9 23 = y23
  generalize f9 24 = y24
  generalize f9 25 = y25
  generalize f9 26 = y26
  clear d27
  simp only [List.setIfInBounds_toArray, List.set_cons_succ, List.set_cons_zero]
  replace hB := Kept.mk (hB.out.trans (hb9.mono hB.out.size))
  clear hb9 hX HC
  go_wp2
  go_ret2
  exact ⟨rfl, hB.out⟩
noncomputable def kv_reg0Ops : Array Oper := regionOf Try.f53 2
set_option maxRecDepth 100000 in
set_option maxHeartbeats 2000000 in
theorem kv_reg0_region (Q : Exit → Act → World → Prop) (a0 : Act) (w0 : World) (hsz : a0.tmps.size = 29) (A : Va) (g : Nat) (vp vm : Value) (e1 : a0.tmps.getD 1 undef = .pointer (some ⟨g, 0, none⟩)) (e4 : a0.tmps.getD 4 undef = (.iface 94 (.agg #[]))) (e5 : a0.tmps.getD 5 undef = .bool true) (hc : CellsN w0 g [.int .i64 A.kind, .int .i64 A.time, .int .i64 A.node, .bool A.dead, .string ⟨A.text.toArray⟩, vp, vm, .int .u64 (A.flags.toNat : Int)]) (hX : isVa A (.agg #[.int .i64 A.kind, .int .i64 A.time, .int .i64 A.node, .bool A.dead, .string ⟨A.text.toArray⟩, vp, vm, .int .u64 (A.flags.toNat : Int)]) w0) (hF : Fit A) (hI : inReg A = false)
    (hQ : ∀ (g : Nat → Value) (w : World), g 27 = .bool true → Below w0.heap.size w0 w → Q .normal { tmps := [12, 13, 14, 15, 16, 17, 18, 19, 20, 21, 22, 23, 24, 25, 26, 27].foldl (fun t s => t.setIfInBounds s (g s)) a0.tmps, defers := a0.defers } w) :
    (Code.region 2 kv_reg0Ops true).wp Try.prog Q a0 w0 := by
  refine wp_region_flow mixed (by rw [hsz]; kernel_rfl) ?_
  rw [show kv_reg0Ops.size = 16 by kernel_rfl]
  refine ⟨isVal (.bool true), step_move (.tmp 5) (by kernel_rfl) (wanted_none (by kernel_rfl)) (stable_val _) (knows_old 5 (.bool true) (by kernel_rfl) e5), ?_⟩
  refine ⟨isVal (.bool false), step_un .not 4 (.tmp 12) (.bool true) (.bool false) (by kernel_rfl) (wanted_none (by kernel_rfl)) (knows_new (V := isVal (.bool true)) 12 0 (by kernel_rfl) (by kernel_rfl) (by kernel_rfl)) (fun _ => rfl), ?_⟩
  refine ⟨isVal (.bool false), step_move (.tmp 13) (by kernel_rfl) (wanted_none (by kernel_rfl)) (stable_val _) (knows_new (V := isVal (.bool false)) 13 1 (by kernel_rfl) (by kernel_rfl) (by kernel_rfl)), ?_⟩
  refine ⟨isVal (.iface 94 (.agg #[])), step_move (.tmp 4) (by kernel_rfl) (wanted_some 2 14 false (by kernel_rfl) (by kernel_rfl) (by kernel_rfl) (by kernel_rfl)) (stable_val _) (knows_old 4 (.iface 94 (.agg #[])) (by kernel_rfl) e4), ?_⟩
  refine ⟨isVal (.agg #[.int .i64 A.kind, .int .i64 A.time, .int .i64 A.node, .bool A.dead, .string ⟨A.text.toArray⟩, vp, vm, .int .u64 (A.flags.toNat : Int)]), step_loadN 28 (.tmp 1) (g) [.int .i64 A.kind, .int .i64 A.time, .int .i64 A.node, .bool A.dead, .string ⟨A.text.toArray⟩, vp, vm, .int .u64 (A.flags.toNat : Int)] (by kernel_rfl) (wanted_some 2 14 false (by kernel_rfl) (by kernel_rfl) (by kernel_rfl) (by kernel_rfl)) (knows_old 1 (.pointer (some ⟨g, 0, none⟩)) (by kernel_rfl) e1) size_va agg_va hc, ?_⟩
  refine ⟨isVal (.bool false), step_invoke "ouroboros/value.inRange" (.tmp 15) (.iface 94 (.agg #[])) 79 #[.tmp 16] #[28] #[.agg #[.int .i64 A.kind, .int .i64 A.time, .int .i64 A.node, .bool A.dead, .string ⟨A.text.toArray⟩, vp, vm, .int .u64 (A.flags.toNat : Int)]] #[.agg #[], .agg #[.int .i64 A.kind, .int .i64 A.time, .int .i64 A.node, .bool A.dead, .string ⟨A.text.toArray⟩, vp, vm, .int .u64 (A.flags.toNat : Int)]] (by kernel_rfl) (wanted_some 2 14 false (by kernel_rfl) (by kernel_rfl) (by kernel_rfl) (by kernel_rfl)) (stable_val _) (args1 (.tmp 16) (.agg #[.int .i64 A.kind, .int .i64 A.time, .int .i64 A.node, .bool A.dead, .string ⟨A.text.toArray⟩, vp, vm, .int .u64 (A.flags.toNat : Int)]) (knows_new (V := isVal (.agg #[.int .i64 A.kind, .int .i64 A.time, .int .i64 A.node, .bool A.dead, .string ⟨A.text.toArray⟩, vp, vm, .int .u64 (A.flags.toNat : Int)])) 16 4 (by kernel_rfl) (by kernel_rfl) (by kernel_rfl))) (knows_new (V := isVal (.iface 94 (.agg #[]))) 15 3 (by kernel_rfl) (by kernel_rfl) (by kernel_rfl)) (fun w => by kernel_rfl) (by intro w hb; exact call_regIn A false _ w (va_grow hX hb) hF hI), ?_⟩
  refine ⟨isVal (.bool true), step_un .not 4 (.tmp 17) (.bool false) (.bool true) (by kernel_rfl) (wanted_some 2 14 false (by kernel_rfl) (by kernel_rfl) (by kernel_rfl) (by kernel_rfl)) (knows_new (V := isVal (.bool false)) 17 5 (by kernel_rfl) (by kernel_rfl) (by kernel_rfl)) (fun _ => rfl), ?_⟩
  refine ⟨isVal (.bool true), step_pick (.tmp 14) (.const (.bool true)) (.tmp 18) false (by kernel_rfl) (wanted_none (by kernel_rfl)) (stable_val _) (knows_new (V := isVal (.bool false)) 14 2 (by kernel_rfl) (by kernel_rfl) (by kernel_rfl)) (knows_new (V := isVal (.bool true)) 18 6 (by kernel_rfl) (by kernel_rfl) (by kernel_rfl)), ?_⟩
  refine ⟨isVal (.bool true), step_move (.tmp 19) (by kernel_rfl) (wanted_none (by kernel_rfl)) (stable_val _) (knows_new (V := isVal (.bool true)) 19 7 (by kernel_rfl) (by kernel_rfl) (by kernel_rfl)), ?_⟩
  refine ⟨_, step_skip 8 20 false true (by kernel_rfl) (by kernel_rfl) (by kernel_rfl) (by kernel_rfl) rfl, ?_⟩
  refine ⟨_, step_skip 8 20 false true (by kernel_rfl) (by kernel_rfl) (by kernel_rfl) (by kernel_rfl) rfl, ?_⟩
  refine ⟨_, step_skip 8 20 false true (by kernel_rfl) (by kernel_rfl) (by kernel_rfl) (by kernel_rfl) rfl, ?_⟩
  refine ⟨_, step_skip 8 20 false true (by kernel_rfl) (by kernel_rfl) (by kernel_rfl) (by kernel_rfl) rfl, ?_⟩
  refine ⟨_, step_skip 8 20 false true (by kernel_rfl) (by kernel_rfl) (by kernel_rfl) (by kernel_rfl) rfl, ?_⟩
  refine ⟨_, step_skip 8 20 false true (by kernel_rfl) (by kernel_rfl) (by kernel_rfl) (by kernel_rfl) rfl, ?_⟩
  refine ⟨isVal (.bool true), step_pick (.tmp 20) (.const (.bool true)) (.tmp 26) true (by kernel_rfl) (wanted_none (by kernel_rfl)) (stable_val _) (knows_new (V := isVal (.bool true)) 20 8 (by kernel_rfl) (by kernel_rfl) (by kernel_rfl)) (knows_const _), ?_⟩
  intro a w hkp hb hd
  rw [kept_of hkp [some 12, some 13, some 14, some 15, some 16, some 17, some 18, some 19, some 20, some 21, some 22, some 23, some 24, some 25, some 26, some 27] [12, 13, 14, 15, 16, 17, 18, 19, 20, 21, 22, 23, 24, 25, 26, 27] (by kernel_rfl) (by decide)]
  have d27 := fdone_of (hd 15 (by rw [show kv_reg0Ops.size = 16 by kernel_rfl]; decide)) (t := 27) (V := isVal (.bool true)) (by kernel_rfl) (by kernel_rfl)
  exact hQ (fun s => a.tmps.getD s undef) w d27 hb
set_option maxRecDepth 20000 in
set_option maxHeartbeats 1000000 in
theorem kv_reg0_any (A : Va) (v : Value) (w : World) (hv : isVa A v w) (hF : Fit A) (hk : A.kind = 1) (hI : inReg A = false) :
    Calls Try.prog 53 #[v] w fun e w' => e = .returned (.tuple #[ifaceK 0, .bool false]) ∧ Below w.heap.size w w' := by
  obtain ⟨vp, vm, rfl, hp, hm⟩ := hv
  obtain ⟨hB, hV⟩ := vbox w A vp vm hp hm w.heap.size rfl
  have hX := Kept.mk (show isVa A (.agg #[.int .i64 A.kind, .int .i64 A.time, .int .i64 A.node, .bool A.dead, .string ⟨A.text.toArray⟩, vp, vm, .int .u64 (A.flags.toNat : Int)]) (w.alloc (.cells #[.int .i64 A.kind, .int .i64 A.time, .int .i64 A.node, .bool A.dead, .string ⟨A.text.toArray⟩, vp, vm, .int .u64 (A.flags.toNat : Int)] 28)) from ⟨vp, vm, rfl, stable_cells _ _ _ _ hp hB.out, stable_cells _ _ _ _ hm hB.out⟩)
  have HC := Kept.mk (cellsN_at w 28 [.int .i64 A.kind, .int .i64 A.time, .int .i64 A.node, .bool A.dead, .string ⟨A.text.toArray⟩, vp, vm, .int .u64 (A.flags.toNat : Int)] w.heap.size rfl)
  have HK := Kept.mk (show kOf A.kind = 1 by rw [hk]; rfl)
  have HK2 := Kept.mk hk
  clear hp hm hV hk
  have HI := Kept.mk hI
  clear hI
  go_enter Try.func53, Try.ntmps53
  go_wp2_with fail
  refine (kindOf_any A.kind _).mono ?_; rintro e w' ⟨rfl, rfl⟩
  rewrite [HK.out]
  go_wp2_with fail
  refine kv_reg0_region _ _ _ rfl A w.heap.size vp vm rfl rfl rfl HC.out hX.out hF HI.out ?_
  intro f9 W9 d27 hb9
  simp only [List.foldl_cons, List.foldl_nil, d27]
  generalize f9 12 = y12
  generalize f9 13 = y13
  generalize f9 14 = y14
  generalize f9 15 = y15
  generalize f9 16 = y16
  generalize f9 17 = y17
  generalize f9 18 = y18
  generalize f9 19 = y19
  generalize f9 20 = y20
  generalize f9 21 = y21
  generalize f9 22 = y22
  generalize f9 23 = y23
  generalize f9 24 = y24
  generalize f9 25 = y25
  generalize f9 26 = y26
  clear d27
  simp only [List.setIfInBounds_toArray, List.set_cons_succ, List.set_cons_zero]
  replace hB := Kept.mk (hB.out.trans (hb9.mono hB.out.size))
  clear hb9 hX HC
  go_wp2
  go_ret2
  exact ⟨rfl, hB.out⟩
noncomputable def kv_reg1Ops : Array Oper := regionOf Try.f53 2
set_option maxRecDepth 100000 in
set_option maxHeartbeats 2000000 in
theorem kv_reg1_region (Q : Exit → Act → World → Prop) (a0 : Act) (w0 : World) (hsz : a0.tmps.size = 29) (A : Va) (g : Nat) (vp vm : Value) (e1 : a0.tmps.getD 1 undef = .pointer (some ⟨g, 0, none⟩)) (e4 : a0.tmps.getD 4 undef = (.iface 94 (.agg #[]))) (e5 : a0.tmps.getD 5 undef = .bool true) (hc : CellsN w0 g [.int .i64 A.kind, .int .i64 A.time, .int .i64 A.node, .bool A.dead, .string ⟨A.text.toArray⟩, vp, vm, .int .u64 (A.flags.toNat : Int)]) (hX : isVa A (.agg #[.int .i64 A.kind, .int .i64 A.time, .int .i64 A.node, .bool A.dead, .string ⟨A.text.toArray⟩, vp, vm, .int .u64 (A.flags.toNat : Int)]) w0) (hF : Fit A) (hI : inReg A = true)
    (hQ : ∀ (g : Nat → Value) (w : World), g 27 = .bool (!decide (A = onlyReg A)) → Below w0.heap.size w0 w → Q .normal { tmps := [12, 13, 14, 15, 16, 17, 18, 19, 20, 21, 22, 23, 24, 25, 26, 27].foldl (fun t s => t.setIfInBounds s (g s)) a0.tmps, defers := a0.defers } w) :
    (Code.region 2 kv_reg1Ops true).wp Try.prog Q a0 w0 := by
  refine wp_region_flow mixed (by rw [hsz]; kernel_rfl) ?_
  rw [show kv_reg1Ops.size = 16 by kernel_rfl]
  refine ⟨isVal (.bool true), step_move (.tmp 5) (by kernel_rfl) (wanted_none (by kernel_rfl)) (stable_val _) (knows_old 5 (.bool true) (by kernel_rfl) e5), ?_⟩
  refine ⟨isVal (.bool false), step_un .not 4 (.tmp 12) (.bool true) (.bool false) (by kernel_rfl) (wanted_none (by kernel_rfl)) (knows_new (V := isVal (.bool true)) 12 0 (by kernel_rfl) (by kernel_rfl) (by kernel_rfl)) (fun _ => rfl), ?_⟩
  refine ⟨isVal (.bool false), step_move (.tmp 13) (by kernel_rfl) (wanted_none (by kernel_rfl)) (stable_val _) (knows_new (V := isVal (.bool false)) 13 1 (by kernel_rfl) (by kernel_rfl) (by kernel_rfl)), ?_⟩
  refine ⟨isVal (.iface 94 (.agg #[])), step_move (.tmp 4) (by kernel_rfl) (wanted_some 2 14 false (by kernel_rfl) (by kernel_rfl) (by kernel_rfl) (by kernel_rfl)) (stable_val _) (knows_old 4 (.iface 94 (.agg #[])) (by kernel_rfl) e4), ?_⟩
  refine ⟨isVal (.agg #[.int .i64 A.kind, .int .i64 A.time, .int .i64 A.node, .bool A.dead, .string ⟨A.text.toArray⟩, vp, vm, .int .u64 (A.flags.toNat : Int)]), step_loadN 28 (.tmp 1) (g) [.int .i64 A.kind, .int .i64 A.time, .int .i64 A.node, .bool A.dead, .string ⟨A.text.toArray⟩, vp, vm, .int .u64 (A.flags.toNat : Int)] (by kernel_rfl) (wanted_some 2 14 false (by kernel_rfl) (by kernel_rfl) (by kernel_rfl) (by kernel_rfl)) (knows_old 1 (.pointer (some ⟨g, 0, none⟩)) (by kernel_rfl) e1) size_va agg_va hc, ?_⟩
  refine ⟨isVal (.bool true), step_invoke "ouroboros/value.inRange" (.tmp 15) (.iface 94 (.agg #[])) 79 #[.tmp 16] #[28] #[.agg #[.int .i64 A.kind, .int .i64 A.time, .int .i64 A.node, .bool A.dead, .string ⟨A.text.toArray⟩, vp, vm, .int .u64 (A.flags.toNat : Int)]] #[.agg #[], .agg #[.int .i64 A.kind, .int .i64 A.time, .int .i64 A.node, .bool A.dead, .string ⟨A.text.toArray⟩, vp, vm, .int .u64 (A.flags.toNat : Int)]] (by kernel_rfl) (wanted_some 2 14 false (by kernel_rfl) (by kernel_rfl) (by kernel_rfl) (by kernel_rfl)) (stable_val _) (args1 (.tmp 16) (.agg #[.int .i64 A.kind, .int .i64 A.time, .int .i64 A.node, .bool A.dead, .string ⟨A.text.toArray⟩, vp, vm, .int .u64 (A.flags.toNat : Int)]) (knows_new (V := isVal (.agg #[.int .i64 A.kind, .int .i64 A.time, .int .i64 A.node, .bool A.dead, .string ⟨A.text.toArray⟩, vp, vm, .int .u64 (A.flags.toNat : Int)])) 16 4 (by kernel_rfl) (by kernel_rfl) (by kernel_rfl))) (knows_new (V := isVal (.iface 94 (.agg #[]))) 15 3 (by kernel_rfl) (by kernel_rfl) (by kernel_rfl)) (fun w => by kernel_rfl) (by intro w hb; exact call_regIn A true _ w (va_grow hX hb) hF hI), ?_⟩
  refine ⟨isVal (.bool false), step_un .not 4 (.tmp 17) (.bool true) (.bool false) (by kernel_rfl) (wanted_some 2 14 false (by kernel_rfl) (by kernel_rfl) (by kernel_rfl) (by kernel_rfl)) (knows_new (V := isVal (.bool true)) 17 5 (by kernel_rfl) (by kernel_rfl) (by kernel_rfl)) (fun _ => rfl), ?_⟩
  refine ⟨isVal (.bool false), step_pick (.tmp 14) (.const (.bool true)) (.tmp 18) false (by kernel_rfl) (wanted_none (by kernel_rfl)) (stable_val _) (knows_new (V := isVal (.bool false)) 14 2 (by kernel_rfl) (by kernel_rfl) (by kernel_rfl)) (knows_new (V := isVal (.bool false)) 18 6 (by kernel_rfl) (by kernel_rfl) (by kernel_rfl)), ?_⟩
  refine ⟨isVal (.bool false), step_move (.tmp 19) (by kernel_rfl) (wanted_none (by kernel_rfl)) (stable_val _) (knows_new (V := isVal (.bool false)) 19 7 (by kernel_rfl) (by kernel_rfl) (by kernel_rfl)), ?_⟩
  refine ⟨isVal (.agg #[.int .i64 A.kind, .int .i64 A.time, .int .i64 A.node, .bool A.dead, .string ⟨A.text.toArray⟩, vp, vm, .int .u64 (A.flags.toNat : Int)]), step_loadN 28 (.tmp 1) (g) [.int .i64 A.kind, .int .i64 A.time, .int .i64 A.node, .bool A.dead, .string ⟨A.text.toArray⟩, vp, vm, .int .u64 (A.flags.toNat : Int)] (by kernel_rfl) (wanted_some 8 20 false (by kernel_rfl) (by kernel_rfl) (by kernel_rfl) (by kernel_rfl)) (knows_old 1 (.pointer (some ⟨g, 0, none⟩)) (by kernel_rfl) e1) size_va agg_va hc, ?_⟩
  refine ⟨isVal (.iface 94 (.agg #[])), step_move (.tmp 4) (by kernel_rfl) (wanted_some 8 20 false (by kernel_rfl) (by kernel_rfl) (by kernel_rfl) (by kernel_rfl)) (stable_val _) (knows_old 4 (.iface 94 (.agg #[])) (by kernel_rfl) e4), ?_⟩
  refine ⟨isVal (.agg #[.int .i64 A.kind, .int .i64 A.time, .int .i64 A.node, .bool A.dead, .string ⟨A.text.toArray⟩, vp, vm, .int .u64 (A.flags.toNat : Int)]), step_loadN 28 (.tmp 1) (g) [.int .i64 A.kind, .int .i64 A.time, .int .i64 A.node, .bool A.dead, .string ⟨A.text.toArray⟩, vp, vm, .int .u64 (A.flags.toNat : Int)] (by kernel_rfl) (wanted_some 8 20 false (by kernel_rfl) (by kernel_rfl) (by kernel_rfl) (by kernel_rfl)) (knows_old 1 (.pointer (some ⟨g, 0, none⟩)) (by kernel_rfl) e1) size_va agg_va hc, ?_⟩
  refine ⟨(isVa (onlyReg A)), step_invoke "ouroboros/value.only" (.tmp 22) (.iface 94 (.agg #[])) 82 #[.tmp 23] #[28] #[.agg #[.int .i64 A.kind, .int .i64 A.time, .int .i64 A.node, .bool A.dead, .string ⟨A.text.toArray⟩, vp, vm, .int .u64 (A.flags.toNat : Int)]] #[.agg #[], .agg #[.int .i64 A.kind, .int .i64 A.time, .int .i64 A.node, .bool A.dead, .string ⟨A.text.toArray⟩, vp, vm, .int .u64 (A.flags.toNat : Int)]] (by kernel_rfl) (wanted_some 8 20 false (by kernel_rfl) (by kernel_rfl) (by kernel_rfl) (by kernel_rfl)) (stable_va _) (args1 (.tmp 23) (.agg #[.int .i64 A.kind, .int .i64 A.time, .int .i64 A.node, .bool A.dead, .string ⟨A.text.toArray⟩, vp, vm, .int .u64 (A.flags.toNat : Int)]) (knows_new (V := isVal (.agg #[.int .i64 A.kind, .int .i64 A.time, .int .i64 A.node, .bool A.dead, .string ⟨A.text.toArray⟩, vp, vm, .int .u64 (A.flags.toNat : Int)])) 23 11 (by kernel_rfl) (by kernel_rfl) (by kernel_rfl))) (knows_new (V := isVal (.iface 94 (.agg #[]))) 22 10 (by kernel_rfl) (by kernel_rfl) (by kernel_rfl)) (fun w => by kernel_rfl) (by intro w hb; exact call_regOnly A _ w (va_grow hX hb) hF), ?_⟩
  refine ⟨isVal (.bool (decide (A = onlyReg A))), step_callP 39 #[.tmp 21, .tmp 24] #[28, 28] (by kernel_rfl) (wanted_some 8 20 false (by kernel_rfl) (by kernel_rfl) (by kernel_rfl) (by kernel_rfl)) (stable_val _) (enters_of Try.func39 (by kernel_rfl) rfl) (fun vs w => ∃ u v, vs = #[u, v] ∧ isVal (.agg #[.int .i64 A.kind, .int .i64 A.time, .int .i64 A.node, .bool A.dead, .string ⟨A.text.toArray⟩, vp, vm, .int .u64 (A.flags.toNat : Int)]) u w ∧ isVa (onlyReg A) v w) (pre2 (knows_new (V := isVal (.agg #[.int .i64 A.kind, .int .i64 A.time, .int .i64 A.node, .bool A.dead, .string ⟨A.text.toArray⟩, vp, vm, .int .u64 (A.flags.toNat : Int)])) 21 9 (by kernel_rfl) (by kernel_rfl) (by kernel_rfl)) (knows_new (V := (isVa (onlyReg A))) 24 12 (by kernel_rfl) (by kernel_rfl) (by kernel_rfl))) (by rintro vs w hb ⟨u, v, rfl, rfl, hv⟩; exact call_same A (onlyReg A) _ v w (va_grow hX hb) hv hF (same_self A hF).1 (same_self A hF).2.1), ?_⟩
  refine ⟨isVal (.bool (!decide (A = onlyReg A))), step_un .not 4 (.tmp 25) (.bool (decide (A = onlyReg A))) (.bool (!decide (A = onlyReg A))) (by kernel_rfl) (wanted_some 8 20 false (by kernel_rfl) (by kernel_rfl) (by kernel_rfl) (by kernel_rfl)) (knows_new (V := isVal (.bool (decide (A = onlyReg A)))) 25 13 (by kernel_rfl) (by kernel_rfl) (by kernel_rfl)) (fun _ => rfl), ?_⟩
  refine ⟨isVal (.bool (!decide (A = onlyReg A))), step_pick (.tmp 20) (.const (.bool true)) (.tmp 26) false (by kernel_rfl) (wanted_none (by kernel_rfl)) (stable_val _) (knows_new (V := isVal (.bool false)) 20 8 (by kernel_rfl) (by kernel_rfl) (by kernel_rfl)) (knows_new (V := isVal (.bool (!decide (A = onlyReg A)))) 26 14 (by kernel_rfl) (by kernel_rfl) (by kernel_rfl)), ?_⟩
  intro a w hkp hb hd
  rw [kept_of hkp [some 12, some 13, some 14, some 15, some 16, some 17, some 18, some 19, some 20, some 21, some 22, some 23, some 24, some 25, some 26, some 27] [12, 13, 14, 15, 16, 17, 18, 19, 20, 21, 22, 23, 24, 25, 26, 27] (by kernel_rfl) (by decide)]
  have d27 := fdone_of (hd 15 (by rw [show kv_reg1Ops.size = 16 by kernel_rfl]; decide)) (t := 27) (V := isVal (.bool (!decide (A = onlyReg A)))) (by kernel_rfl) (by kernel_rfl)
  exact hQ (fun s => a.tmps.getD s undef) w d27 hb
set_option maxRecDepth 20000 in
set_option maxHeartbeats 1000000 in
theorem kv_reg1_any (A : Va) (v : Value) (w : World) (hv : isVa A v w) (hF : Fit A) (hk : A.kind = 1) (hI : inReg A = true) (z : Bool) (hz : decide (A = onlyReg A) = z) :
    Calls Try.prog 53 #[v] w fun e w' => e = .returned (.tuple #[ifaceK (if z = true then 1 else 0), .bool z]) ∧ Below w.heap.size w w' := by
  obtain ⟨vp, vm, rfl, hp, hm⟩ := hv
  obtain ⟨hB, hV⟩ := vbox w A vp vm hp hm w.heap.size rfl
  have hX := Kept.mk (show isVa A (.agg #[.int .i64 A.kind, .int .i64 A.time, .int .i64 A.node, .bool A.dead, .string ⟨A.text.toArray⟩, vp, vm, .int .u64 (A.flags.toNat : Int)]) (w.alloc (.cells #[.int .i64 A.kind, .int .i64 A.time, .int .i64 A.node, .bool A.dead, .string ⟨A.text.toArray⟩, vp, vm, .int .u64 (A.flags.toNat : Int)] 28)) from ⟨vp, vm, rfl, stable_cells _ _ _ _ hp hB.out, stable_cells _ _ _ _ hm hB.out⟩)
  have HC := Kept.mk (cellsN_at w 28 [.int .i64 A.kind, .int .i64 A.time, .int .i64 A.node, .bool A.dead, .string ⟨A.text.toArray⟩, vp, vm, .int .u64 (A.flags.toNat : Int)] w.heap.size rfl)
  have HK := Kept.mk (show kOf A.kind = 1 by rw [hk]; rfl)
  have HK2 := Kept.mk hk
  clear hp hm hV hk
  have HZ := Kept.mk hz
  clear hz
  have HI := Kept.mk hI
  clear hI
  go_enter Try.func53, Try.ntmps53
  go_wp2_with fail
  refine (kindOf_any A.kind _).mono ?_; rintro e w' ⟨rfl, rfl⟩
  rewrite [HK.out]
  go_wp2_with fail
  refine kv_reg1_region _ _ _ rfl A w.heap.size vp vm rfl rfl rfl HC.out hX.out hF HI.out ?_
  intro f9 W9 d27 hb9
  simp only [List.foldl_cons, List.foldl_nil, d27]
  generalize f9 12 = y12
  generalize f9 13 = y13
  generalize f9 14 = y14
  generalize f9 15 = y15
  generalize f9 16 = y16
  generalize f9 17 = y17
  generalize f9 18 = y18
  generalize f9 19 = y19
  generalize f9 20 = y20
  generalize f9 21 = y21
  generalize f9 22 = y22
  generalize f9 23 = y23
  generalize f9 24 = y24
  generalize f9 25 = y25
  generalize f9 26 = y26
  clear d27
  simp only [List.setIfInBounds_toArray, List.set_cons_succ, List.set_cons_zero]
  replace hB := Kept.mk (hB.out.trans (hb9.mono hB.out.size))
  clear hb9 hX HC
  rw [HZ.out]
  cases z
  · go_wp2
    go_ret2
    exact ⟨rfl, hB.out⟩
  · go_wp2
    go_ret2
    exact ⟨rfl, hB.out⟩
noncomputable def kv_count0Ops : Array Oper := regionOf Try.f53 2
set_option maxRecDepth 100000 in
set_option maxHeartbeats 2000000 in
theorem kv_count0_region (Q : Exit → Act → World → Prop) (a0 : Act) (w0 : World) (hsz : a0.tmps.size = 29) (A : Va) (g : Nat) (vp vm : Value) (e1 : a0.tmps.getD 1 undef = .pointer (some ⟨g, 0, none⟩)) (e4 : a0.tmps.getD 4 undef = (.iface 95 (.agg #[]))) (e5 : a0.tmps.getD 5 undef = .bool true) (hc : CellsN w0 g [.int .i64 A.kind, .int .i64 A.time, .int .i64 A.node, .bool A.dead, .string ⟨A.text.toArray⟩, vp, vm, .int .u64 (A.flags.toNat : Int)]) (hX : isVa A (.agg #[.int .i64 A.kind, .int .i64 A.time, .int .i64 A.node, .bool A.dead, .string ⟨A.text.toArray⟩, vp, vm, .int .u64 (A.flags.toNat : Int)]) w0) (hF : Fit A) (hI : inCount A = false)
    (hQ : ∀ (g : Nat → Value) (w : World), g 27 = .bool true → Below w0.heap.size w0 w → Q .normal { tmps := [12, 13, 14, 15, 16, 17, 18, 19, 20, 21, 22, 23, 24, 25, 26, 27].foldl (fun t s => t.setIfInBounds s (g s)) a0.tmps, defers := a0.defers } w) :
    (Code.region 2 kv_count0Ops true).wp Try.prog Q a0 w0 := by
  refine wp_region_flow mixed (by rw [hsz]; kernel_rfl) ?_
  rw [show kv_count0Ops.size = 16 by kernel_rfl]
  refine ⟨isVal (.bool true), step_move (.tmp 5) (by kernel_rfl) (wanted_none (by kernel_rfl)) (stable_val _) (knows_old 5 (.bool true) (by kernel_rfl) e5), ?_⟩
  refine ⟨isVal (.bool false), step_un .not 4 (.tmp 12) (.bool true) (.bool false) (by kernel_rfl) (wanted_none (by kernel_rfl)) (knows_new (V := isVal (.bool true)) 12 0 (by kernel_rfl) (by kernel_rfl) (by kernel_rfl)) (fun _ => rfl), ?_⟩
  refine ⟨isVal (.bool false), step_move (.tmp 13) (by kernel_rfl) (wanted_none (by kernel_rfl)) (stable_val _) (knows_new (V := isVal (.bool false)) 13 1 (by kernel_rfl) (by kernel_rfl) (by kernel_rfl)), ?_⟩
  refine ⟨isVal (.iface 95 (.agg #[])), step_move (.tmp 4) (by kernel_rfl) (wanted_some 2 14 false (by kernel_rfl) (by kernel_rfl) (by kernel_rfl) (by kernel_rfl)) (stable_val _) (knows_old 4 (.iface 95 (.agg #[])) (by kernel_rfl) e4), ?_⟩
  refine ⟨isVal (.agg #[.int .i64 A.kind, .int .i64 A.time, .int .i64 A.node, .bool A.dead, .string ⟨A.text.toArray⟩, vp, vm, .int .u64 (A.flags.toNat : Int)]), step_loadN 28 (.tmp 1) (g) [.int .i64 A.kind, .int .i64 A.time, .int .i64 A.node, .bool A.dead, .string ⟨A.text.toArray⟩, vp, vm, .int .u64 (A.flags.toNat : Int)] (by kernel_rfl) (wanted_some 2 14 false (by kernel_rfl) (by kernel_rfl) (by kernel_rfl) (by kernel_rfl)) (knows_old 1 (.pointer (some ⟨g, 0, none⟩)) (by kernel_rfl) e1) size_va agg_va hc, ?_⟩
  refine ⟨isVal (.bool false), step_invoke "ouroboros/value.inRange" (.tmp 15) (.iface 95 (.agg #[])) 91 #[.tmp 16] #[28] #[.agg #[.int .i64 A.kind, .int .i64 A.time, .int .i64 A.node, .bool A.dead, .string ⟨A.text.toArray⟩, vp, vm, .int .u64 (A.flags.toNat : Int)]] #[.agg #[], .agg #[.int .i64 A.kind, .int .i64 A.time, .int .i64 A.node, .bool A.dead, .string ⟨A.text.toArray⟩, vp, vm, .int .u64 (A.flags.toNat : Int)]] (by kernel_rfl) (wanted_some 2 14 false (by kernel_rfl) (by kernel_rfl) (by kernel_rfl) (by kernel_rfl)) (stable_val _) (args1 (.tmp 16) (.agg #[.int .i64 A.kind, .int .i64 A.time, .int .i64 A.node, .bool A.dead, .string ⟨A.text.toArray⟩, vp, vm, .int .u64 (A.flags.toNat : Int)]) (knows_new (V := isVal (.agg #[.int .i64 A.kind, .int .i64 A.time, .int .i64 A.node, .bool A.dead, .string ⟨A.text.toArray⟩, vp, vm, .int .u64 (A.flags.toNat : Int)])) 16 4 (by kernel_rfl) (by kernel_rfl) (by kernel_rfl))) (knows_new (V := isVal (.iface 95 (.agg #[]))) 15 3 (by kernel_rfl) (by kernel_rfl) (by kernel_rfl)) (fun w => by kernel_rfl) (by intro w hb; exact call_countIn A false _ w (va_grow hX hb) hF hI), ?_⟩
  refine ⟨isVal (.bool true), step_un .not 4 (.tmp 17) (.bool false) (.bool true) (by kernel_rfl) (wanted_some 2 14 false (by kernel_rfl) (by kernel_rfl) (by kernel_rfl) (by kernel_rfl)) (knows_new (V := isVal (.bool false)) 17 5 (by kernel_rfl) (by kernel_rfl) (by kernel_rfl)) (fun _ => rfl), ?_⟩
  refine ⟨isVal (.bool true), step_pick (.tmp 14) (.const (.bool true)) (.tmp 18) false (by kernel_rfl) (wanted_none (by kernel_rfl)) (stable_val _) (knows_new (V := isVal (.bool false)) 14 2 (by kernel_rfl) (by kernel_rfl) (by kernel_rfl)) (knows_new (V := isVal (.bool true)) 18 6 (by kernel_rfl) (by kernel_rfl) (by kernel_rfl)), ?_⟩
  refine ⟨isVal (.bool true), step_move (.tmp 19) (by kernel_rfl) (wanted_none (by kernel_rfl)) (stable_val _) (knows_new (V := isVal (.bool true)) 19 7 (by kernel_rfl) (by kernel_rfl) (by kernel_rfl)), ?_⟩
  refine ⟨_, step_skip 8 20 false true (by kernel_rfl) (by kernel_rfl) (by kernel_rfl) (by kernel_rfl) rfl, ?_⟩
  refine ⟨_, step_skip 8 20 false true (by kernel_rfl) (by kernel_rfl) (by kernel_rfl) (by kernel_rfl) rfl, ?_⟩
  refine ⟨_, step_skip 8 20 false true (by kernel_rfl) (by kernel_rfl) (by kernel_rfl) (by kernel_rfl) rfl, ?_⟩
  refine ⟨_, step_skip 8 20 false true (by kernel_rfl) (by kernel_rfl) (by kernel_rfl) (by kernel_rfl) rfl, ?_⟩
  refine ⟨_, step_skip 8 20 false true (by kernel_rfl) (by kernel_rfl) (by kernel_rfl) (by kernel_rfl) rfl, ?_⟩
  refine ⟨_, step_skip 8 20 false true (by kernel_rfl) (by kernel_rfl) (by kernel_rfl) (by kernel_rfl) rfl, ?_⟩
  refine ⟨isVal (.bool true), step_pick (.tmp 20) (.const (.bool true)) (.tmp 26) true (by kernel_rfl) (wanted_none (by kernel_rfl)) (stable_val _) (knows_new (V := isVal (.bool true)) 20 8 (by kernel_rfl) (by kernel_rfl) (by kernel_rfl)) (knows_const _), ?_⟩
  intro a w hkp hb hd
  rw [kept_of hkp [some 12, some 13, some 14, some 15, some 16, some 17, some 18, some 19, some 20, some 21, some 22, some 23, some 24, some 25, some 26, some 27] [12, 13, 14, 15, 16, 17, 18, 19, 20, 21, 22, 23, 24, 25, 26, 27] (by kernel_rfl) (by decide)]
  have d27 := fdone_of (hd 15 (by rw [show kv_count0Ops.size = 16 by kernel_rfl]; decide)) (t := 27) (V := isVal (.bool true)) (by kernel_rfl) (by kernel_rfl)
  exact hQ (fun s => a.tmps.getD s undef) w d27 hb
set_option maxRecDepth 20000 in
set_option maxHeartbeats 1000000 in
theorem kv_count0_any (A : Va) (v : Value) (w : World) (hv : isVa A v w) (hF : Fit A) (hk : A.kind = 2) (hI : inCount A = false) :
    Calls Try.prog 53 #[v] w fun e w' => e = .returned (.tuple #[ifaceK 0, .bool false]) ∧ Below w.heap.size w w' := by
  obtain ⟨vp, vm, rfl, hp, hm⟩ := hv
  obtain ⟨hB, hV⟩ := vbox w A vp vm hp hm w.heap.size rfl
  have hX := Kept.mk (show isVa A (.agg #[.int .i64 A.kind, .int .i64 A.time, .int .i64 A.node, .bool A.dead, .string ⟨A.text.toArray⟩, vp, vm, .int .u64 (A.flags.toNat : Int)]) (w.alloc (.cells #[.int .i64 A.kind, .int .i64 A.time, .int .i64 A.node, .bool A.dead, .string ⟨A.text.toArray⟩, vp, vm, .int .u64 (A.flags.toNat : Int)] 28)) from ⟨vp, vm, rfl, stable_cells _ _ _ _ hp hB.out, stable_cells _ _ _ _ hm hB.out⟩)
  have HC := Kept.mk (cellsN_at w 28 [.int .i64 A.kind, .int .i64 A.time, .int .i64 A.node, .bool A.dead, .string ⟨A.text.toArray⟩, vp, vm, .int .u64 (A.flags.toNat : Int)] w.heap.size rfl)
  have HK := Kept.mk (show kOf A.kind = 2 by rw [hk]; rfl)
  have HK2 := Kept.mk hk
  clear hp hm hV hk
  have HI := Kept.mk hI
  clear hI
  go_enter Try.func53, Try.ntmps53
  go_wp2_with fail
  refine (kindOf_any A.kind _).mono ?_; rintro e w' ⟨rfl, rfl⟩
  rewrite [HK.out]
  go_wp2_with fail
  refine kv_count0_region _ _ _ rfl A w.heap.size vp vm rfl rfl rfl HC.out hX.out hF HI.out ?_
  intro f9 W9 d27 hb9
  simp only [List.foldl_cons, List.foldl_nil, d27]
  generalize f9 12 = y12
  generalize f9 13 = y13
  generalize f9 14 = y14
  generalize f9 15 = y15
  generalize f9 16 = y16
  generalize f9 17 = y17
  generalize f9 18 = y18
  generalize f9 19 = y19
  generalize f9 20 = y20
  generalize f9 21 = y21
  generalize f9 22 = y22
  generalize f9 23 = y23
  generalize f9 24 = y24
  generalize f9 25 = y25
  generalize f9 26 = y26
  clear d27
  simp only [List.setIfInBounds_toArray, List.set_cons_succ, List.set_cons_zero]
  replace hB := Kept.mk (hB.out.trans (hb9.mono hB.out.size))
  clear hb9 hX HC
  go_wp2
  go_ret2
  exact ⟨rfl, hB.out⟩
noncomputable def kv_count1Ops : Array Oper := regionOf Try.f53 2
set_option maxRecDepth 100000 in
set_option maxHeartbeats 2000000 in
theorem kv_count1_region (Q : Exit → Act → World → Prop) (a0 : Act) (w0 : World) (hsz : a0.tmps.size = 29) (A : Va) (g : Nat) (vp vm : Value) (e1 : a0.tmps.getD 1 undef = .pointer (some ⟨g, 0, none⟩)) (e4 : a0.tmps.getD 4 undef = (.iface 95 (.agg #[]))) (e5 : a0.tmps.getD 5 undef = .bool true) (hc : CellsN w0 g [.int .i64 A.kind, .int .i64 A.time, .int .i64 A.node, .bool A.dead, .string ⟨A.text.toArray⟩, vp, vm, .int .u64 (A.flags.toNat : Int)]) (hX : isVa A (.agg #[.int .i64 A.kind, .int .i64 A.time, .int .i64 A.node, .bool A.dead, .string ⟨A.text.toArray⟩, vp, vm, .int .u64 (A.flags.toNat : Int)]) w0) (hF : Fit A) (hI : inCount A = true)
    (hQ : ∀ (g : Nat → Value) (w : World), g 27 = .bool (!decide (A = onlyCount A)) → Below w0.heap.size w0 w → Q .normal { tmps := [12, 13, 14, 15, 16, 17, 18, 19, 20, 21, 22, 23, 24, 25, 26, 27].foldl (fun t s => t.setIfInBounds s (g s)) a0.tmps, defers := a0.defers } w) :
    (Code.region 2 kv_count1Ops true).wp Try.prog Q a0 w0 := by
  refine wp_region_flow mixed (by rw [hsz]; kernel_rfl) ?_
  rw [show kv_count1Ops.size = 16 by kernel_rfl]
  refine ⟨isVal (.bool true), step_move (.tmp 5) (by kernel_rfl) (wanted_none (by kernel_rfl)) (stable_val _) (knows_old 5 (.bool true) (by kernel_rfl) e5), ?_⟩
  refine ⟨isVal (.bool false), step_un .not 4 (.tmp 12) (.bool true) (.bool false) (by kernel_rfl) (wanted_none (by kernel_rfl)) (knows_new (V := isVal (.bool true)) 12 0 (by kernel_rfl) (by kernel_rfl) (by kernel_rfl)) (fun _ => rfl), ?_⟩
  refine ⟨isVal (.bool false), step_move (.tmp 13) (by kernel_rfl) (wanted_none (by kernel_rfl)) (stable_val _) (knows_new (V := isVal (.bool false)) 13 1 (by kernel_rfl) (by kernel_rfl) (by kernel_rfl)), ?_⟩
  refine ⟨isVal (.iface 95 (.agg #[])), step_move (.tmp 4) (by kernel_rfl) (wanted_some 2 14 false (by kernel_rfl) (by kernel_rfl) (by kernel_rfl) (by kernel_rfl)) (stable_val _) (knows_old 4 (.iface 95 (.agg #[])) (by kernel_rfl) e4), ?_⟩
  refine ⟨isVal (.agg #[.int .i64 A.kind, .int .i64 A.time, .int .i64 A.node, .bool A.dead, .string ⟨A.text.toArray⟩, vp, vm, .int .u64 (A.flags.toNat : Int)]), step_loadN 28 (.tmp 1) (g) [.int .i64 A.kind, .int .i64 A.time, .int .i64 A.node, .bool A.dead, .string ⟨A.text.toArray⟩, vp, vm, .int .u64 (A.flags.toNat : Int)] (by kernel_rfl) (wanted_some 2 14 false (by kernel_rfl) (by kernel_rfl) (by kernel_rfl) (by kernel_rfl)) (knows_old 1 (.pointer (some ⟨g, 0, none⟩)) (by kernel_rfl) e1) size_va agg_va hc, ?_⟩
  refine ⟨isVal (.bool true), step_invoke "ouroboros/value.inRange" (.tmp 15) (.iface 95 (.agg #[])) 91 #[.tmp 16] #[28] #[.agg #[.int .i64 A.kind, .int .i64 A.time, .int .i64 A.node, .bool A.dead, .string ⟨A.text.toArray⟩, vp, vm, .int .u64 (A.flags.toNat : Int)]] #[.agg #[], .agg #[.int .i64 A.kind, .int .i64 A.time, .int .i64 A.node, .bool A.dead, .string ⟨A.text.toArray⟩, vp, vm, .int .u64 (A.flags.toNat : Int)]] (by kernel_rfl) (wanted_some 2 14 false (by kernel_rfl) (by kernel_rfl) (by kernel_rfl) (by kernel_rfl)) (stable_val _) (args1 (.tmp 16) (.agg #[.int .i64 A.kind, .int .i64 A.time, .int .i64 A.node, .bool A.dead, .string ⟨A.text.toArray⟩, vp, vm, .int .u64 (A.flags.toNat : Int)]) (knows_new (V := isVal (.agg #[.int .i64 A.kind, .int .i64 A.time, .int .i64 A.node, .bool A.dead, .string ⟨A.text.toArray⟩, vp, vm, .int .u64 (A.flags.toNat : Int)])) 16 4 (by kernel_rfl) (by kernel_rfl) (by kernel_rfl))) (knows_new (V := isVal (.iface 95 (.agg #[]))) 15 3 (by kernel_rfl) (by kernel_rfl) (by kernel_rfl)) (fun w => by kernel_rfl) (by intro w hb; exact call_countIn A true _ w (va_grow hX hb) hF hI), ?_⟩
  refine ⟨isVal (.bool false), step_un .not 4 (.tmp 17) (.bool true) (.bool false) (by kernel_rfl) (wanted_some 2 14 false (by kernel_rfl) (by kernel_rfl) (by kernel_rfl) (by kernel_rfl)) (knows_new (V := isVal (.bool true)) 17 5 (by kernel_rfl) (by kernel_rfl) (by kernel_rfl)) (fun _ => rfl), ?_⟩
  refine ⟨isVal (.bool false), step_pick (.tmp 14) (.const (.bool true)) (.tmp 18) false (by kernel_rfl) (wanted_none (by kernel_rfl)) (stable_val _) (knows_new (V := isVal (.bool false)) 14 2 (by kernel_rfl) (by kernel_rfl) (by kernel_rfl)) (knows_new (V := isVal (.bool false)) 18 6 (by kernel_rfl) (by kernel_rfl) (by kernel_rfl)), ?_⟩
  refine ⟨isVal (.bool false), step_move (.tmp 19) (by kernel_rfl) (wanted_none (by kernel_rfl)) (stable_val _) (knows_new (V := isVal (.bool false)) 19 7 (by kernel_rfl) (by kernel_rfl) (by kernel_rfl)), ?_⟩
  refine ⟨isVal (.agg #[.int .i64 A.kind, .int .i64 A.time, .int .i64 A.node, .bool A.dead, .string ⟨A.text.toArray⟩, vp, vm, .int .u64 (A.flags.toNat : Int)]), step_loadN 28 (.tmp 1) (g) [.int .i64 A.kind, .int .i64 A.time, .int .i64 A.node, .bool A.dead, .string ⟨A.text.toArray⟩, vp, vm, .int .u64 (A.flags.toNat : Int)] (by kernel_rfl) (wanted_some 8 20 false (by kernel_rfl) (by kernel_rfl) (by kernel_rfl) (by kernel_rfl)) (knows_old 1 (.pointer (some ⟨g, 0, none⟩)) (by kernel_rfl) e1) size_va agg_va hc, ?_⟩
  refine ⟨isVal (.iface 95 (.agg #[])), step_move (.tmp 4) (by kernel_rfl) (wanted_some 8 20 false (by kernel_rfl) (by kernel_rfl) (by kernel_rfl) (by kernel_rfl)) (stable_val _) (knows_old 4 (.iface 95 (.agg #[])) (by kernel_rfl) e4), ?_⟩
  refine ⟨isVal (.agg #[.int .i64 A.kind, .int .i64 A.time, .int .i64 A.node, .bool A.dead, .string ⟨A.text.toArray⟩, vp, vm, .int .u64 (A.flags.toNat : Int)]), step_loadN 28 (.tmp 1) (g) [.int .i64 A.kind, .int .i64 A.time, .int .i64 A.node, .bool A.dead, .string ⟨A.text.toArray⟩, vp, vm, .int .u64 (A.flags.toNat : Int)] (by kernel_rfl) (wanted_some 8 20 false (by kernel_rfl) (by kernel_rfl) (by kernel_rfl) (by kernel_rfl)) (knows_old 1 (.pointer (some ⟨g, 0, none⟩)) (by kernel_rfl) e1) size_va agg_va hc, ?_⟩
  refine ⟨(isVa (onlyCount A)), step_invoke "ouroboros/value.only" (.tmp 22) (.iface 95 (.agg #[])) 94 #[.tmp 23] #[28] #[.agg #[.int .i64 A.kind, .int .i64 A.time, .int .i64 A.node, .bool A.dead, .string ⟨A.text.toArray⟩, vp, vm, .int .u64 (A.flags.toNat : Int)]] #[.agg #[], .agg #[.int .i64 A.kind, .int .i64 A.time, .int .i64 A.node, .bool A.dead, .string ⟨A.text.toArray⟩, vp, vm, .int .u64 (A.flags.toNat : Int)]] (by kernel_rfl) (wanted_some 8 20 false (by kernel_rfl) (by kernel_rfl) (by kernel_rfl) (by kernel_rfl)) (stable_va _) (args1 (.tmp 23) (.agg #[.int .i64 A.kind, .int .i64 A.time, .int .i64 A.node, .bool A.dead, .string ⟨A.text.toArray⟩, vp, vm, .int .u64 (A.flags.toNat : Int)]) (knows_new (V := isVal (.agg #[.int .i64 A.kind, .int .i64 A.time, .int .i64 A.node, .bool A.dead, .string ⟨A.text.toArray⟩, vp, vm, .int .u64 (A.flags.toNat : Int)])) 23 11 (by kernel_rfl) (by kernel_rfl) (by kernel_rfl))) (knows_new (V := isVal (.iface 95 (.agg #[]))) 22 10 (by kernel_rfl) (by kernel_rfl) (by kernel_rfl)) (fun w => by kernel_rfl) (by intro w hb; exact call_countOnly A _ w (va_grow hX hb) hF), ?_⟩
  refine ⟨isVal (.bool (decide (A = onlyCount A))), step_callP 39 #[.tmp 21, .tmp 24] #[28, 28] (by kernel_rfl) (wanted_some 8 20 false (by kernel_rfl) (by kernel_rfl) (by kernel_rfl) (by kernel_rfl)) (stable_val _) (enters_of Try.func39 (by kernel_rfl) rfl) (fun vs w => ∃ u v, vs = #[u, v] ∧ isVal (.agg #[.int .i64 A.kind, .int .i64 A.time, .int .i64 A.node, .bool A.dead, .string ⟨A.text.toArray⟩, vp, vm, .int .u64 (A.flags.toNat : Int)]) u w ∧ isVa (onlyCount A) v w) (pre2 (knows_new (V := isVal (.agg #[.int .i64 A.kind, .int .i64 A.time, .int .i64 A.node, .bool A.dead, .string ⟨A.text.toArray⟩, vp, vm, .int .u64 (A.flags.toNat : Int)])) 21 9 (by kernel_rfl) (by kernel_rfl) (by kernel_rfl)) (knows_new (V := (isVa (onlyCount A))) 24 12 (by kernel_rfl) (by kernel_rfl) (by kernel_rfl))) (by rintro vs w hb ⟨u, v, rfl, rfl, hv⟩; exact call_same A (onlyCount A) _ v w (va_grow hX hb) hv hF (same_self A hF).2.2.1 (same_self A hF).2.2.2.1), ?_⟩
  refine ⟨isVal (.bool (!decide (A = onlyCount A))), step_un .not 4 (.tmp 25) (.bool (decide (A = onlyCount A))) (.bool (!decide (A = onlyCount A))) (by kernel_rfl) (wanted_some 8 20 false (by kernel_rfl) (by kernel_rfl) (by kernel_rfl) (by kernel_rfl)) (knows_new (V := isVal (.bool (decide (A = onlyCount A)))) 25 13 (by kernel_rfl) (by kernel_rfl) (by kernel_rfl)) (fun _ => rfl), ?_⟩
  refine ⟨isVal (.bool (!decide (A = onlyCount A))), step_pick (.tmp 20) (.const (.bool true)) (.tmp 26) false (by kernel_rfl) (wanted_none (by kernel_rfl)) (stable_val _) (knows_new (V := isVal (.bool false)) 20 8 (by kernel_rfl) (by kernel_rfl) (by kernel_rfl)) (knows_new (V := isVal (.bool (!decide (A = onlyCount A)))) 26 14 (by kernel_rfl) (by kernel_rfl) (by kernel_rfl)), ?_⟩
  intro a w hkp hb hd
  rw [kept_of hkp [some 12, some 13, some 14, some 15, some 16, some 17, some 18, some 19, some 20, some 21, some 22, some 23, some 24, some 25, some 26, some 27] [12, 13, 14, 15, 16, 17, 18, 19, 20, 21, 22, 23, 24, 25, 26, 27] (by kernel_rfl) (by decide)]
  have d27 := fdone_of (hd 15 (by rw [show kv_count1Ops.size = 16 by kernel_rfl]; decide)) (t := 27) (V := isVal (.bool (!decide (A = onlyCount A)))) (by kernel_rfl) (by kernel_rfl)
  exact hQ (fun s => a.tmps.getD s undef) w d27 hb
set_option maxRecDepth 20000 in
set_option maxHeartbeats 1000000 in
theorem kv_count1_any (A : Va) (v : Value) (w : World) (hv : isVa A v w) (hF : Fit A) (hk : A.kind = 2) (hI : inCount A = true) (z : Bool) (hz : decide (A = onlyCount A) = z) :
    Calls Try.prog 53 #[v] w fun e w' => e = .returned (.tuple #[ifaceK (if z = true then 2 else 0), .bool z]) ∧ Below w.heap.size w w' := by
  obtain ⟨vp, vm, rfl, hp, hm⟩ := hv
  obtain ⟨hB, hV⟩ := vbox w A vp vm hp hm w.heap.size rfl
  have hX := Kept.mk (show isVa A (.agg #[.int .i64 A.kind, .int .i64 A.time, .int .i64 A.node, .bool A.dead, .string ⟨A.text.toArray⟩, vp, vm, .int .u64 (A.flags.toNat : Int)]) (w.alloc (.cells #[.int .i64 A.kind, .int .i64 A.time, .int .i64 A.node, .bool A.dead, .string ⟨A.text.toArray⟩, vp, vm, .int .u64 (A.flags.toNat : Int)] 28)) from ⟨vp, vm, rfl, stable_cells _ _ _ _ hp hB.out, stable_cells _ _ _ _ hm hB.out⟩)
  have HC := Kept.mk (cellsN_at w 28 [.int .i64 A.kind, .int .i64 A.time, .int .i64 A.node, .bool A.dead, .string ⟨A.text.toArray⟩, vp, vm, .int .u64 (A.flags.toNat : Int)] w.heap.size rfl)
  have HK := Kept.mk (show kOf A.kind = 2 by rw [hk]; rfl)
  have HK2 := Kept.mk hk
  clear hp hm hV hk
  have HZ := Kept.mk hz
  clear hz
  have HI := Kept.mk hI
  clear hI
  go_enter Try.func53, Try.ntmps53
  go_wp2_with fail
  refine (kindOf_any A.kind _).mono ?_; rintro e w' ⟨rfl, rfl⟩
  rewrite [HK.out]
  go_wp2_with fail
  refine kv_count1_region _ _ _ rfl A w.heap.size vp vm rfl rfl rfl HC.out hX.out hF HI.out ?_
  intro f9 W9 d27 hb9
  simp only [List.foldl_cons, List.foldl_nil, d27]
  generalize f9 12 = y12
  generalize f9 13 = y13
  generalize f9 14 = y14
  generalize f9 15 = y15
  generalize f9 16 = y16
  generalize f9 17 = y17
  generalize f9 18 = y18
  generalize f9 19 = y19
  generalize f9 20 = y20
  generalize f9 21 = y21
  generalize f9 22 = y22
  generalize f9 23 = y23
  generalize f9 24 = y24
  generalize f9 25 = y25
  generalize f9 26 = y26
  clear d27
  simp only [List.setIfInBounds_toArray, List.set_cons_succ, List.set_cons_zero]
  replace hB := Kept.mk (hB.out.trans (hb9.mono hB.out.size))
  clear hb9 hX HC
  rw [HZ.out]
  cases z
  · go_wp2
    go_ret2
    exact ⟨rfl, hB.out⟩
  · go_wp2
    go_ret2
    exact ⟨rfl, hB.out⟩
noncomputable def kv_flags1Ops : Array Oper := regionOf Try.f53 2
set_option maxRecDepth 100000 in
set_option maxHeartbeats 2000000 in
theorem kv_flags1_region (Q : Exit → Act → World → Prop) (a0 : Act) (w0 : World) (hsz : a0.tmps.size = 29) (A : Va) (g : Nat) (vp vm : Value) (e1 : a0.tmps.getD 1 undef = .pointer (some ⟨g, 0, none⟩)) (e4 : a0.tmps.getD 4 undef = (.iface 96 (.agg #[]))) (e5 : a0.tmps.getD 5 undef = .bool true) (hc : CellsN w0 g [.int .i64 A.kind, .int .i64 A.time, .int .i64 A.node, .bool A.dead, .string ⟨A.text.toArray⟩, vp, vm, .int .u64 (A.flags.toNat : Int)]) (hX : isVa A (.agg #[.int .i64 A.kind, .int .i64 A.time, .int .i64 A.node, .bool A.dead, .string ⟨A.text.toArray⟩, vp, vm, .int .u64 (A.flags.toNat : Int)]) w0) (hF : Fit A) (hI : true = true)
    (hQ : ∀ (g : Nat → Value) (w : World), g 27 = .bool (!decide (A = onlyFlags A)) → Below w0.heap.size w0 w → Q .normal { tmps := [12, 13, 14, 15, 16, 17, 18, 19, 20, 21, 22, 23, 24, 25, 26, 27].foldl (fun t s => t.setIfInBounds s (g s)) a0.tmps, defers := a0.defers } w) :
    (Code.region 2 kv_flags1Ops true).wp Try.prog Q a0 w0 := by
  refine wp_region_flow mixed (by rw [hsz]; kernel_rfl) ?_
  rw [show kv_flags1Ops.size = 16 by kernel_rfl]
  refine ⟨isVal (.bool true), step_move (.tmp 5) (by kernel_rfl) (wanted_none (by kernel_rfl)) (stable_val _) (knows_old 5 (.bool true) (by kernel_rfl) e5), ?_⟩
  refine ⟨isVal (.bool false), step_un .not 4 (.tmp 12) (.bool true) (.bool false) (by kernel_rfl) (wanted_none (by kernel_rfl)) (knows_new (V := isVal (.bool true)) 12 0 (by kernel_rfl) (by kernel_rfl) (by kernel_rfl)) (fun _ => rfl), ?_⟩
  refine ⟨isVal (.bool false), step_move (.tmp 13) (by kernel_rfl) (wanted_none (by kernel_rfl)) (stable_val _) (knows_new (V := isVal (.bool false)) 13 1 (by kernel_rfl) (by kernel_rfl) (by kernel_rfl)), ?_⟩
  refine ⟨isVal (.iface 96 (.agg #[])), step_move (.tmp 4) (by kernel_rfl) (wanted_some 2 14 false (by kernel_rfl) (by kernel_rfl) (by kernel_rfl) (by kernel_rfl)) (stable_val _) (knows_old 4 (.iface 96 (.agg #[])) (by kernel_rfl) e4), ?_⟩
  refine ⟨isVal (.agg #[.int .i64 A.kind, .int .i64 A.time, .int .i64 A.node, .bool A.dead, .string ⟨A.text.toArray⟩, vp, vm, .int .u64 (A.flags.toNat : Int)]), step_loadN 28 (.tmp 1) (g) [.int .i64 A.kind, .int .i64 A.time, .int .i64 A.node, .bool A.dead, .string ⟨A.text.toArray⟩, vp, vm, .int .u64 (A.flags.toNat : Int)] (by kernel_rfl) (wanted_some 2 14 false (by kernel_rfl) (by kernel_rfl) (by kernel_rfl) (by kernel_rfl)) (knows_old 1 (.pointer (some ⟨g, 0, none⟩)) (by kernel_rfl) e1) size_va agg_va hc, ?_⟩
  refine ⟨isVal (.bool true), step_invoke "ouroboros/value.inRange" (.tmp 15) (.iface 96 (.agg #[])) 103 #[.tmp 16] #[28] #[.agg #[.int .i64 A.kind, .int .i64 A.time, .int .i64 A.node, .bool A.dead, .string ⟨A.text.toArray⟩, vp, vm, .int .u64 (A.flags.toNat : Int)]] #[.agg #[], .agg #[.int .i64 A.kind, .int .i64 A.time, .int .i64 A.node, .bool A.dead, .string ⟨A.text.toArray⟩, vp, vm, .int .u64 (A.flags.toNat : Int)]] (by kernel_rfl) (wanted_some 2 14 false (by kernel_rfl) (by kernel_rfl) (by kernel_rfl) (by kernel_rfl)) (stable_val _) (args1 (.tmp 16) (.agg #[.int .i64 A.kind, .int .i64 A.time, .int .i64 A.node, .bool A.dead, .string ⟨A.text.toArray⟩, vp, vm, .int .u64 (A.flags.toNat : Int)]) (knows_new (V := isVal (.agg #[.int .i64 A.kind, .int .i64 A.time, .int .i64 A.node, .bool A.dead, .string ⟨A.text.toArray⟩, vp, vm, .int .u64 (A.flags.toNat : Int)])) 16 4 (by kernel_rfl) (by kernel_rfl) (by kernel_rfl))) (knows_new (V := isVal (.iface 96 (.agg #[]))) 15 3 (by kernel_rfl) (by kernel_rfl) (by kernel_rfl)) (fun w => by kernel_rfl) (by intro w hb; exact call_flagsIn A true _ w (va_grow hX hb) hF hI), ?_⟩
  refine ⟨isVal (.bool false), step_un .not 4 (.tmp 17) (.bool true) (.bool false) (by kernel_rfl) (wanted_some 2 14 false (by kernel_rfl) (by kernel_rfl) (by kernel_rfl) (by kernel_rfl)) (knows_new (V := isVal (.bool true)) 17 5 (by kernel_rfl) (by kernel_rfl) (by kernel_rfl)) (fun _ => rfl), ?_⟩
  refine ⟨isVal (.bool false), step_pick (.tmp 14) (.const (.bool true)) (.tmp 18) false (by kernel_rfl) (wanted_none (by kernel_rfl)) (stable_val _) (knows_new (V := isVal (.bool false)) 14 2 (by kernel_rfl) (by kernel_rfl) (by kernel_rfl)) (knows_new (V := isVal (.bool false)) 18 6 (by kernel_rfl) (by kernel_rfl) (by kernel_rfl)), ?_⟩
  refine ⟨isVal (.bool false), step_move (.tmp 19) (by kernel_rfl) (wanted_none (by kernel_rfl)) (stable_val _) (knows_new (V := isVal (.bool false)) 19 7 (by kernel_rfl) (by kernel_rfl) (by kernel_rfl)), ?_⟩
  refine ⟨isVal (.agg #[.int .i64 A.kind, .int .i64 A.time, .int .i64 A.node, .bool A.dead, .string ⟨A.text.toArray⟩, vp, vm, .int .u64 (A.flags.toNat : Int)]), step_loadN 28 (.tmp 1) (g) [.int .i64 A.kind, .int .i64 A.time, .int .i64 A.node, .bool A.dead, .string ⟨A.text.toArray⟩, vp, vm, .int .u64 (A.flags.toNat : Int)] (by kernel_rfl) (wanted_some 8 20 false (by kernel_rfl) (by kernel_rfl) (by kernel_rfl) (by kernel_rfl)) (knows_old 1 (.pointer (some ⟨g, 0, none⟩)) (by kernel_rfl) e1) size_va agg_va hc, ?_⟩
  refine ⟨isVal (.iface 96 (.agg #[])), step_move (.tmp 4) (by kernel_rfl) (wanted_some 8 20 false (by kernel_rfl) (by kernel_rfl) (by kernel_rfl) (by kernel_rfl)) (stable_val _) (knows_old 4 (.iface 96 (.agg #[])) (by kernel_rfl) e4), ?_⟩
  refine ⟨isVal (.agg #[.int .i64 A.kind, .int .i64 A.time, .int .i64 A.node, .bool A.dead, .string ⟨A.text.toArray⟩, vp, vm, .int .u64 (A.flags.toNat : Int)]), step_loadN 28 (.tmp 1) (g) [.int .i64 A.kind, .int .i64 A.time, .int .i64 A.node, .bool A.dead, .string ⟨A.text.toArray⟩, vp, vm, .int .u64 (A.flags.toNat : Int)] (by kernel_rfl) (wanted_some 8 20 false (by kernel_rfl) (by kernel_rfl) (by kernel_rfl) (by kernel_rfl)) (knows_old 1 (.pointer (some ⟨g, 0, none⟩)) (by kernel_rfl) e1) size_va agg_va hc, ?_⟩
  refine ⟨(isVa (onlyFlags A)), step_invoke "ouroboros/value.only" (.tmp 22) (.iface 96 (.agg #[])) 106 #[.tmp 23] #[28] #[.agg #[.int .i64 A.kind, .int .i64 A.time, .int .i64 A.node, .bool A.dead, .string ⟨A.text.toArray⟩, vp, vm, .int .u64 (A.flags.toNat : Int)]] #[.agg #[], .agg #[.int .i64 A.kind, .int .i64 A.time, .int .i64 A.node, .bool A.dead, .string ⟨A.text.toArray⟩, vp, vm, .int .u64 (A.flags.toNat : Int)]] (by kernel_rfl) (wanted_some 8 20 false (by kernel_rfl) (by kernel_rfl) (by kernel_rfl) (by kernel_rfl)) (stable_va _) (args1 (.tmp 23) (.agg #[.int .i64 A.kind, .int .i64 A.time, .int .i64 A.node, .bool A.dead, .string ⟨A.text.toArray⟩, vp, vm, .int .u64 (A.flags.toNat : Int)]) (knows_new (V := isVal (.agg #[.int .i64 A.kind, .int .i64 A.time, .int .i64 A.node, .bool A.dead, .string ⟨A.text.toArray⟩, vp, vm, .int .u64 (A.flags.toNat : Int)])) 23 11 (by kernel_rfl) (by kernel_rfl) (by kernel_rfl))) (knows_new (V := isVal (.iface 96 (.agg #[]))) 22 10 (by kernel_rfl) (by kernel_rfl) (by kernel_rfl)) (fun w => by kernel_rfl) (by intro w hb; exact call_flagsOnly A _ w (va_grow hX hb) hF), ?_⟩
  refine ⟨isVal (.bool (decide (A = onlyFlags A))), step_callP 39 #[.tmp 21, .tmp 24] #[28, 28] (by kernel_rfl) (wanted_some 8 20 false (by kernel_rfl) (by kernel_rfl) (by kernel_rfl) (by kernel_rfl)) (stable_val _) (enters_of Try.func39 (by kernel_rfl) rfl) (fun vs w => ∃ u v, vs = #[u, v] ∧ isVal (.agg #[.int .i64 A.kind, .int .i64 A.time, .int .i64 A.node, .bool A.dead, .string ⟨A.text.toArray⟩, vp, vm, .int .u64 (A.flags.toNat : Int)]) u w ∧ isVa (onlyFlags A) v w) (pre2 (knows_new (V := isVal (.agg #[.int .i64 A.kind, .int .i64 A.time, .int .i64 A.node, .bool A.dead, .string ⟨A.text.toArray⟩, vp, vm, .int .u64 (A.flags.toNat : Int)])) 21 9 (by kernel_rfl) (by kernel_rfl) (by kernel_rfl)) (knows_new (V := (isVa (onlyFlags A))) 24 12 (by kernel_rfl) (by kernel_rfl) (by kernel_rfl))) (by rintro vs w hb ⟨u, v, rfl, rfl, hv⟩; exact call_same A (onlyFlags A) _ v w (va_grow hX hb) hv hF (same_self A hF).2.2.2.2.1 (same_self A hF).2.2.2.2.2), ?_⟩
  refine ⟨isVal (.bool (!decide (A = onlyFlags A))), step_un .not 4 (.tmp 25) (.bool (decide (A = onlyFlags A))) (.bool (!decide (A = onlyFlags A))) (by kernel_rfl) (wanted_some 8 20 false (by kernel_rfl) (by kernel_rfl) (by kernel_rfl) (by kernel_rfl)) (knows_new (V := isVal (.bool (decide (A = onlyFlags A)))) 25 13 (by kernel_rfl) (by kernel_rfl) (by kernel_rfl)) (fun _ => rfl), ?_⟩
  refine ⟨isVal (.bool (!decide (A = onlyFlags A))), step_pick (.tmp 20) (.const (.bool true)) (.tmp 26) false (by kernel_rfl) (wanted_none (by kernel_rfl)) (stable_val _) (knows_new (V := isVal (.bool false)) 20 8 (by kernel_rfl) (by kernel_rfl) (by kernel_rfl)) (knows_new (V := isVal (.bool (!decide (A = onlyFlags A)))) 26 14 (by kernel_rfl) (by kernel_rfl) (by kernel_rfl)), ?_⟩
  intro a w hkp hb hd
  rw [kept_of hkp [some 12, some 13, some 14, some 15, some 16, some 17, some 18, some 19, some 20, some 21, some 22, some 23, some 24, some 25, some 26, some 27] [12, 13, 14, 15, 16, 17, 18, 19, 20, 21, 22, 23, 24, 25, 26, 27] (by kernel_rfl) (by decide)]
  have d27 := fdone_of (hd 15 (by rw [show kv_flags1Ops.size = 16 by kernel_rfl]; decide)) (t := 27) (V := isVal (.bool (!decide (A = onlyFlags A)))) (by kernel_rfl) (by kernel_rfl)
  exact hQ (fun s => a.tmps.getD s undef) w d27 hb
set_option maxRecDepth 20000 in
set_option maxHeartbeats 1000000 in
theorem kv_flags1_any (A : Va) (v : Value) (w : World) (hv : isVa A v w) (hF : Fit A) (hk : A.kind = 3) (z : Bool) (hz : decide (A = onlyFlags A) = z) :
    Calls Try.prog 53 #[v] w fun e w' => e = .returned (.tuple #[ifaceK (if z = true then 3 else 0), .bool z]) ∧ Below w.heap.size w w' := by
  obtain ⟨vp, vm, rfl, hp, hm⟩ := hv
  obtain ⟨hB, hV⟩ := vbox w A vp vm hp hm w.heap.size rfl
  have hX := Kept.mk (show isVa A (.agg #[.int .i64 A.kind, .int .i64 A.time, .int .i64 A.node, .bool A.dead, .string ⟨A.text.toArray⟩, vp, vm, .int .u64 (A.flags.toNat : Int)]) (w.alloc (.cells #[.int .i64 A.kind, .int .i64 A.time, .int .i64 A.node, .bool A.dead, .string ⟨A.text.toArray⟩, vp, vm, .int .u64 (A.flags.toNat : Int)] 28)) from ⟨vp, vm, rfl, stable_cells _ _ _ _ hp hB.out, stable_cells _ _ _ _ hm hB.out⟩)
  have HC := Kept.mk (cellsN_at w 28 [.int .i64 A.kind, .int .i64 A.time, .int .i64 A.node, .bool A.dead, .string ⟨A.text.toArray⟩, vp, vm, .int .u64 (A.flags.toNat : Int)] w.heap.size rfl)
  have HK := Kept.mk (show kOf A.kind = 3 by rw [hk]; rfl)
  have HK2 := Kept.mk hk
  clear hp hm hV hk
  have HZ := Kept.mk hz
  clear hz
  go_enter Try.func53, Try.ntmps53
  go_wp2_with fail
  refine (kindOf_any A.kind _).mono ?_; rintro e w' ⟨rfl, rfl⟩
  rewrite [HK.out]
  go_wp2_with fail
  refine kv_flags1_region _ _ _ rfl A w.heap.size vp vm rfl rfl rfl HC.out hX.out hF rfl ?_
  intro f9 W9 d27 hb9
  simp only [List.foldl_cons, List.foldl_nil, d27]
  generalize f9 12 = y12
  generalize f9 13 = y13
  generalize f9 14 = y14
  generalize f9 15 = y15
  generalize f9 16 = y16
  generalize f9 17 = y17
  generalize f9 18 = y18
  generalize f9 19 = y19
  generalize f9 20 = y20
  generalize f9 21 = y21
  generalize f9 22 = y22
  generalize f9 23 = y23
  generalize f9 24 = y24
  generalize f9 25 = y25
  generalize f9 26 = y26
  clear d27
  simp only [List.setIfInBounds_toArray, List.set_cons_succ, List.set_cons_zero]
  replace hB := Kept.mk (hB.out.trans (hb9.mono hB.out.size))
  clear hb9 hX HC
  rw [HZ.out]
  cases z
  · go_wp2
    go_ret2
    exact ⟨rfl, hB.out⟩
  · go_wp2
    go_ret2
    exact ⟨rfl, hB.out⟩
end Go.Proofs.Ytmbnhlhanckkiaa
end
section
namespace Go.Proofs.Ytmbnhlhanckkiaa
open Go.RowKit
set_option linter.unusedVariables false
set_option linter.unusedSimpArgs false
attribute [local irreducible] setN

theorem kv_any (A : Va) (v : Value) (w : World) (hv : isVa A v w) (hF : Fit A) :
    Calls Try.prog 53 #[v] w fun e w' => e = .returned (.tuple #[ifaceK (kindN A), .bool (okV A)]) ∧ Below w.heap.size w w' := by
  unfold okV
  by_cases h1 : A.kind = 1
  · have hk : kindN A = if (inReg A && decide (A = onlyReg A)) = true then 1 else 0 := by unfold kindN; rw [if_pos h1]
    cases hI : inReg A with
    | false => rw [hk, hI]; exact kv_reg0_any A v w hv hF h1 hI
    | true =>
      have := kv_reg1_any A v w hv hF h1 hI _ rfl
      rw [hk, hI, Bool.true_and]
      cases hz : decide (A = onlyReg A) with
      | false => rw [hz] at this; exact this
      | true => rw [hz] at this; exact this
  · by_cases h2 : A.kind = 2
    · have hk : kindN A = if (inCount A && decide (A = onlyCount A)) = true then 2 else 0 := by unfold kindN; rw [if_neg h1, if_pos h2]
      cases hI : inCount A with
      | false => rw [hk, hI]; exact kv_count0_any A v w hv hF h2 hI
      | true =>
        have := kv_count1_any A v w hv hF h2 hI _ rfl
        rw [hk, hI, Bool.true_and]
        cases hz : decide (A = onlyCount A) with
        | false => rw [hz] at this; exact this
        | true => rw [hz] at this; exact this
    · by_cases h3 : A.kind = 3
      · have hk : kindN A = if decide (A = onlyFlags A) = true then 3 else 0 := by unfold kindN; rw [if_neg h1, if_neg h2, if_pos h3]
        have := kv_flags1_any A v w hv hF h3 _ rfl
        rw [hk]
        cases hz : decide (A = onlyFlags A) with
        | false => rw [hz] at this; exact this
        | true => rw [hz] at this; exact this
      · have hk : kindN A = 0 := by unfold kindN; rw [if_neg h1, if_neg h2, if_neg h3]
        rw [hk]
        exact kv_none_any A v w hv hF (by unfold kOf; rw [if_neg h1, if_neg h2, if_neg h3])
def checkV (A : Va) : Int := if okV A = true then 0 else 2
set_option maxRecDepth 20000 in
set_option maxHeartbeats 1000000 in
theorem vcheck_any (A : Va) (v : Value) (w : World) (hv : isVa A v w) (hF : Fit A) :
    Calls Try.prog 43 #[v] w fun e w' => e = .returned (.int .i64 (checkV A)) ∧ Below w.heap.size w w' := by
  obtain ⟨vp, vm, rfl, hp, hm⟩ := hv
  obtain ⟨hB, hV⟩ := vbox w A vp vm hp hm w.heap.size rfl
  have hX := Kept.mk (show isVa A (.agg #[.int .i64 A.kind, .int .i64 A.time, .int .i64 A.node, .bool A.dead, .string ⟨A.text.toArray⟩, vp, vm, .int .u64 (A.flags.toNat : Int)]) (w.alloc (.cells #[.int .i64 A.kind, .int .i64 A.time, .int .i64 A.node, .bool A.dead, .string ⟨A.text.toArray⟩, vp, vm, .int .u64 (A.flags.toNat : Int)] 28)) from ⟨vp, vm, rfl, stable_cells _ _ _ _ hp hB.out, stable_cells _ _ _ _ hm hB.out⟩)
  clear hp hm
  have HC := Kept.mk (show checkV A = if okV A = true then 0 else 2 from rfl)
  go_enter Try.func43, Try.ntmps43
  go_wp2_with fail
  refine (kv_any A _ _ hX.out hF).mono ?_
  rintro e w1 ⟨rfl, hb1⟩
  replace hB := Kept.mk (hB.out.trans (hb1.mono hB.out.size))
  clear hb1 hX hV
  generalize kindN A = kn
  cases hz : okV A with
  | false =>
    rw [hz] at HC
    go_wp2
    go_ret
    exact ⟨by rw [HC.out]; rfl, hB.out⟩
  | true =>
    rw [hz] at HC
    go_wp2
    go_ret
    exact ⟨by rw [HC.out]; rfl, hB.out⟩
theorem leastF_rows (k : Int) : (leastF k).plus.length ≤ 8 ∧ (leastF k).minus.length ≤ 8 := by
  unfold leastF
  split
  · exact ⟨by simp, by simp⟩
  · split
    · exact ⟨by simp, by simp⟩
    · split <;> exact ⟨by simp [zeroV], by simp [zeroV]⟩
end Go.Proofs.Ytmbnhlhanckkiaa
end
