/- Values: the document's words, in numbers and lists, and what holds of them. Nothing of the program. -/
import Derived.Test.YtebjljiklacolaaStBase
namespace Go.Proofs.Ytebjljiklacolaa
set_option linter.unusedVariables false
set_option linter.unusedSimpArgs false

structure Va where
  kind : Int
  time : Int
  node : Int
  dead : Bool
  text : List UInt8
  plus : List Int
  minus : List Int
  flags : UInt64
  deriving DecidableEq

def zeroV : Va := ⟨0, 0, 0, false, [], [], [], 0⟩
def inReg (v : Va) : Bool := (decide (0 ≤ v.time) && decide (v.time ≤ 2147483647)) && (decide (0 ≤ v.node) && decide (v.node ≤ 7)) && decide ((v.text.length : Int) ≤ 8) && (!v.dead || v.text == [])
def okNum (x : Int) : Bool := decide (0 ≤ x) && decide (x ≤ 65535)
def okRow (l : List Int) : Bool := decide (l.length = 8) && l.all okNum
def inCount (v : Va) : Bool := okRow v.plus && okRow v.minus
def onlyReg (v : Va) : Va := ⟨1, v.time, v.node, v.dead, v.text, [], [], 0⟩
def onlyCount (v : Va) : Va := ⟨2, 0, 0, false, [], v.plus, v.minus, 0⟩
def onlyFlags (v : Va) : Va := ⟨3, 0, 0, false, [], [], [], v.flags⟩
/-- Its kind, if it is a value; else 0. -/
def kindN (v : Va) : Nat :=
  if v.kind = 1 then (if (inReg v && decide (v = onlyReg v)) = true then 1 else 0)
  else if v.kind = 2 then (if (inCount v && decide (v = onlyCount v)) = true then 2 else 0)
  else if v.kind = 3 then (if decide (v = onlyFlags v) = true then 3 else 0) else 0
def okV (v : Va) : Bool := decide (kindN v ≠ 0)
def cmpI (a b : Int) : Int := if a < b then -1 else if b < a then 1 else 0
def cmpT (a b : List UInt8) : Int := if Op.bytesLess a b = true then -1 else if a = b then 0 else 1
def rankI (b : Bool) : Int := if b = true then 1 else 0
def behindL : List Int → Bool
  | [] => false
  | x :: r => if x = 0 then behindL r else decide (0 < x)
def ordL (a b : Va) : List Int := [cmpI a.time b.time, cmpI a.node b.node, cmpI (rankI a.dead) (rankI b.dead), cmpT a.text b.text]
def behindB (a b : Va) : Bool := behindL (ordL a b)
def maxI (a b : Int) : Int := if b > a then b else a
def joinReg (a b : Va) : Va := if behindB a b = true then onlyReg a else onlyReg b
def joinCount (a b : Va) : Va := ⟨2, 0, 0, false, [], List.zipWith maxI a.plus b.plus, List.zipWith maxI a.minus b.minus, 0⟩
def joinFlags (a b : Va) : Va := ⟨3, 0, 0, false, [], [], [], a.flags ||| b.flags⟩
def joinV (a b : Va) : Va := if a.kind = 1 then joinReg a b else if a.kind = 2 then joinCount a b else joinFlags a b
def joinE (a b : Va) : Int := if (okV a && okV b) = true then (if a.kind = b.kind then 0 else 3) else 2
def joinF (a b : Va) : Va := if joinE a b = 0 then joinV a b else zeroV
def belowB (a b : Va) : Bool := decide (joinE a b = 0) && decide (joinF a b = b)
def leastF (k : Int) : Va := if k = 1 then ⟨1, 0, 0, false, [], [], [], 0⟩ else if k = 2 then ⟨2, 0, 0, false, [], List.replicate 8 0, List.replicate 8 0, 0⟩ else if k = 3 then ⟨3, 0, 0, false, [], [], [], 0⟩ else zeroV
def leastE (k : Int) : Int := if k = 1 ∨ k = 2 ∨ k = 3 then 0 else 3
def sumN (v : Va) : Int := if kindN v = 2 then v.plus.sum - v.minus.sum else 0

/-! ### Texts, byte by byte -/
theorem less_irrefl : ∀ a : List UInt8, Op.bytesLess a a = false
  | [] => rfl
  | x :: r => by unfold Op.bytesLess; rw [less_irrefl r]; simp
theorem less_trans : ∀ {a b c : List UInt8}, Op.bytesLess a b = true → Op.bytesLess b c = true → Op.bytesLess a c = true
  | _, _, [], _, h => by unfold Op.bytesLess at h; simp at h
  | [], _, _ :: _, _, _ => by unfold Op.bytesLess; rfl
  | _ :: _, [], _ :: _, h, _ => by unfold Op.bytesLess at h; simp at h
  | x :: a, y :: b, z :: c, h1, h2 => by
    unfold Op.bytesLess at h1 h2 ⊢
    simp only [Bool.or_eq_true, decide_eq_true_eq, Bool.and_eq_true, beq_iff_eq] at h1 h2 ⊢
    rcases h1 with h1 | ⟨rfl, h1⟩
    · rcases h2 with h2 | ⟨rfl, h2⟩
      · exact .inl (UInt8.lt_trans h1 h2)
      · exact .inl h1
    · rcases h2 with h2 | ⟨rfl, h2⟩
      · exact .inl h2
      · exact .inr ⟨rfl, less_trans h1 h2⟩
theorem less_total : ∀ (a b : List UInt8), Op.bytesLess a b = false → Op.bytesLess b a = false → a = b
  | [], [], _, _ => rfl
  | [], _ :: _, h, _ => by unfold Op.bytesLess at h; simp at h
  | _ :: _, [], _, h => by unfold Op.bytesLess at h; simp at h
  | x :: a, y :: b, h1, h2 => by
    unfold Op.bytesLess at h1 h2
    simp only [Bool.or_eq_false_iff, decide_eq_false_iff_not, Bool.and_eq_false_imp, beq_iff_eq] at h1 h2
    have e : x = y := by
      have a1 := h1.1
      have a2 := h2.1
      exact UInt8.le_antisymm (UInt8.not_lt.1 a2) (UInt8.not_lt.1 a1)
    subst e
    rw [less_total a b (h1.2 rfl) (h2.2 rfl)]
theorem less_asymm {a b : List UInt8} (h : Op.bytesLess a b = true) : Op.bytesLess b a = false := by
  cases h' : Op.bytesLess b a with
  | false => rfl
  | true => have := less_trans h h'; rw [less_irrefl] at this; cases this

/-! ### What is behind -/
theorem cmpI_zero {a b : Int} : cmpI a b = 0 ↔ a = b := by unfold cmpI; split <;> (try split) <;> omega
theorem cmpI_pos {a b : Int} : 0 < cmpI a b ↔ b < a := by unfold cmpI; split <;> (try split) <;> omega
theorem cmpT_zero {a b : List UInt8} : cmpT a b = 0 ↔ a = b := by
  unfold cmpT
  constructor
  · intro h
    split at h
    · simp at h
    · split at h
      · assumption
      · simp at h
  · rintro rfl; rw [less_irrefl]; simp
theorem cmpT_pos {a b : List UInt8} : 0 < cmpT a b ↔ Op.bytesLess b a = true := by
  unfold cmpT
  constructor
  · intro h
    split at h
    · simp at h
    · split at h
      · simp at h
      · rename_i h1 h2
        cases h' : Op.bytesLess b a with
        | true => rfl
        | false => exact absurd (less_total a b (by simpa using h1) h') h2
  · intro h
    rw [less_asymm h]
    have : a ≠ b := by rintro rfl; rw [less_irrefl] at h; cases h
    simp [this]
def Behind (a b : Va) : Prop := b.time < a.time ∨ (a.time = b.time ∧ (b.node < a.node ∨ (a.node = b.node ∧ (rankI b.dead < rankI a.dead ∨ (rankI a.dead = rankI b.dead ∧ Op.bytesLess b.text a.text = true)))))
theorem behindB_iff (a b : Va) : behindB a b = true ↔ Behind a b := by
  unfold behindB ordL Behind behindL behindL behindL behindL behindL
  by_cases h1 : cmpI a.time b.time = 0
  · rw [if_pos h1]
    have e1 := cmpI_zero.1 h1
    by_cases h2 : cmpI a.node b.node = 0
    · rw [if_pos h2]
      have e2 := cmpI_zero.1 h2
      by_cases h3 : cmpI (rankI a.dead) (rankI b.dead) = 0
      · rw [if_pos h3]
        have e3 := cmpI_zero.1 h3
        by_cases h4 : cmpT a.text b.text = 0
        · rw [if_pos h4]
          have e4 := cmpT_zero.1 h4
          rw [e4, less_irrefl]
          simp [e1, e2, e3]
        · rw [if_neg h4, decide_eq_true_eq, cmpT_pos]
          constructor
          · intro h; exact .inr ⟨e1, .inr ⟨e2, .inr ⟨e3, h⟩⟩⟩
          · rintro (h | ⟨_, h | ⟨_, h | ⟨_, h⟩⟩⟩)
            · omega
            · omega
            · omega
            · exact h
      · rw [if_neg h3, decide_eq_true_eq, cmpI_pos]
        have e3 : rankI a.dead ≠ rankI b.dead := fun e => h3 (cmpI_zero.2 e)
        constructor
        · intro h; exact .inr ⟨e1, .inr ⟨e2, .inl h⟩⟩
        · rintro (h | ⟨_, h | ⟨_, h | ⟨h, _⟩⟩⟩)
          · omega
          · omega
          · exact h
          · exact absurd h e3
    · rw [if_neg h2, decide_eq_true_eq, cmpI_pos]
      have e2 : a.node ≠ b.node := fun e => h2 (cmpI_zero.2 e)
      constructor
      · intro h; exact .inr ⟨e1, .inl h⟩
      · rintro (h | ⟨_, h | ⟨h, _⟩⟩)
        · omega
        · exact h
        · exact absurd h e2
  · rw [if_neg h1, decide_eq_true_eq, cmpI_pos]
    have e1 : a.time ≠ b.time := fun e => h1 (cmpI_zero.2 e)
    constructor
    · intro h; exact .inl h
    · rintro (h | ⟨h, _⟩)
      · exact h
      · exact absurd h e1
theorem behind_irrefl (a : Va) : ¬ Behind a a := by
  rintro (h | ⟨_, h | ⟨_, h | ⟨_, h⟩⟩⟩)
  · omega
  · omega
  · omega
  · rw [less_irrefl] at h; cases h
theorem behind_trans {a b c : Va} (h1 : Behind a b) (h2 : Behind b c) : Behind a c := by
  unfold Behind at *
  rcases h1 with h1 | ⟨e1, h1 | ⟨f1, h1 | ⟨g1, h1⟩⟩⟩ <;> rcases h2 with h2 | ⟨e2, h2 | ⟨f2, h2 | ⟨g2, h2⟩⟩⟩
  all_goals first
    | exact .inl (by omega)
    | exact .inr ⟨by omega, .inl (by omega)⟩
    | exact .inr ⟨by omega, .inr ⟨by omega, .inl (by omega)⟩⟩
    | exact .inr ⟨by omega, .inr ⟨by omega, .inr ⟨by omega, less_trans h2 h1⟩⟩⟩
theorem rankI_inj {a b : Bool} (h : rankI a = rankI b) : a = b := by cases a <;> cases b <;> simp [rankI] at h <;> rfl
theorem behind_total {a b : Va} (h1 : ¬ Behind a b) (h2 : ¬ Behind b a) : onlyReg a = onlyReg b := by
  unfold Behind at h1 h2
  have e1 : a.time = b.time := by omega
  have h1' := fun h => h1 (.inr ⟨e1, h⟩)
  have h2' := fun h => h2 (.inr ⟨e1.symm, h⟩)
  have e2 : a.node = b.node := by
    have := fun h => h1' (.inl h)
    have := fun h => h2' (.inl h)
    omega
  have h1'' := fun h => h1' (.inr ⟨e2, h⟩)
  have h2'' := fun h => h2' (.inr ⟨e2.symm, h⟩)
  have e3 : rankI a.dead = rankI b.dead := by
    have := fun h => h1'' (.inl h)
    have := fun h => h2'' (.inl h)
    omega
  have e4 : a.text = b.text := by
    refine less_total _ _ ?_ ?_
    · cases h : Op.bytesLess a.text b.text with
      | false => rfl
      | true => exact absurd (.inr ⟨e3.symm, h⟩) h2''
    · cases h : Op.bytesLess b.text a.text with
      | false => rfl
      | true => exact absurd (.inr ⟨e3, h⟩) h1''
  unfold onlyReg
  rw [e1, e2, e4, rankI_inj e3]

/-! ### What a value is -/
theorem ok_reg {v : Va} (h : okV v = true) (hk : v.kind = 1) : inReg v = true ∧ v = onlyReg v := by
  unfold okV kindN at h
  rw [if_pos hk] at h
  by_cases c : (inReg v && decide (v = onlyReg v)) = true
  · simpa using c
  · rw [if_neg c] at h; simp at h
theorem ok_count {v : Va} (h : okV v = true) (hk : v.kind = 2) : inCount v = true ∧ v = onlyCount v := by
  unfold okV kindN at h
  rw [if_neg (by omega), if_pos hk] at h
  by_cases c : (inCount v && decide (v = onlyCount v)) = true
  · simpa using c
  · rw [if_neg c] at h; simp at h
theorem ok_flags {v : Va} (h : okV v = true) (hk : v.kind = 3) : v = onlyFlags v := by
  unfold okV kindN at h
  rw [if_neg (by omega), if_neg (by omega), if_pos hk] at h
  by_cases c : decide (v = onlyFlags v) = true
  · simpa using c
  · rw [if_neg c] at h; simp at h
theorem ok_kind {v : Va} (h : okV v = true) : v.kind = 1 ∨ v.kind = 2 ∨ v.kind = 3 := by
  by_cases h1 : v.kind = 1
  · exact .inl h1
  · by_cases h2 : v.kind = 2
    · exact .inr (.inl h2)
    · by_cases h3 : v.kind = 3
      · exact .inr (.inr h3)
      · unfold okV kindN at h
        rw [if_neg h1, if_neg h2, if_neg h3] at h
        simp at h
theorem kindN_ok {v : Va} (h : okV v = true) : (kindN v : Int) = v.kind := by
  rcases ok_kind h with hk | hk | hk
  · have := ok_reg h hk
    unfold kindN
    rw [if_pos hk, if_pos (by simpa using this), hk]; rfl
  · have := ok_count h hk
    unfold kindN
    rw [if_neg (by omega), if_pos hk, if_pos (by simpa using this), hk]; rfl
  · have := ok_flags h hk
    unfold kindN
    rw [if_neg (by omega), if_neg (by omega), if_pos hk, if_pos (by simpa using this), hk]; rfl
theorem reg_ok {v : Va} (hk : v.kind = 1) (h1 : inReg v = true) (h2 : v = onlyReg v) : okV v = true := by
  unfold okV kindN
  rw [if_pos hk, if_pos (by rw [h1]; simpa using h2)]; rfl
theorem count_ok {v : Va} (hk : v.kind = 2) (h1 : inCount v = true) (h2 : v = onlyCount v) : okV v = true := by
  unfold okV kindN
  rw [if_neg (by omega), if_pos hk, if_pos (by rw [h1]; simpa using h2)]; rfl
theorem flags_ok {v : Va} (hk : v.kind = 3) (h2 : v = onlyFlags v) : okV v = true := by
  unfold okV kindN
  rw [if_neg (by omega), if_neg (by omega), if_pos hk, if_pos (by simpa using h2)]; rfl

/-! ### Numbers, place by place -/
theorem maxI_comm (a b : Int) : maxI a b = maxI b a := by unfold maxI; split <;> split <;> omega
theorem maxI_assoc (a b c : Int) : maxI (maxI a b) c = maxI a (maxI b c) := by unfold maxI; (repeat' split) <;> omega
theorem maxI_self (a : Int) : maxI a a = a := by unfold maxI; split <;> rfl
theorem zip_comm : ∀ (l m : List Int), List.zipWith maxI l m = List.zipWith maxI m l
  | [], [] => rfl
  | [], _ :: _ => rfl
  | _ :: _, [] => rfl
  | x :: l, y :: m => by rw [List.zipWith_cons_cons, List.zipWith_cons_cons, maxI_comm, zip_comm l m]
theorem zip_assoc : ∀ (l m n : List Int), List.zipWith maxI (List.zipWith maxI l m) n = List.zipWith maxI l (List.zipWith maxI m n)
  | [], _, _ => by simp
  | _ :: _, [], _ => by simp
  | _ :: _, _ :: _, [] => by simp
  | x :: l, y :: m, z :: n => by simp only [List.zipWith_cons_cons, maxI_assoc, zip_assoc l m n]
theorem zip_self : ∀ (l : List Int), List.zipWith maxI l l = l
  | [] => rfl
  | x :: l => by rw [List.zipWith_cons_cons, maxI_self, zip_self l]
theorem okRow_len {l : List Int} (h : okRow l = true) : l.length = 8 := by unfold okRow at h; simp only [Bool.and_eq_true, decide_eq_true_eq] at h; exact h.1
theorem all_zip : ∀ (l m : List Int), l.all okNum = true → m.all okNum = true → (List.zipWith maxI l m).all okNum = true
  | [], _, _, _ => by simp
  | _ :: _, [], _, _ => by simp
  | x :: l, y :: m, h1, h2 => by
    rw [List.all_cons, Bool.and_eq_true] at h1 h2
    rw [List.zipWith_cons_cons, List.all_cons, all_zip l m h1.2 h2.2, Bool.and_true]
    unfold maxI
    split
    · exact h2.1
    · exact h1.1
theorem okRow_zip {l m : List Int} (h1 : okRow l = true) (h2 : okRow m = true) : okRow (List.zipWith maxI l m) = true := by
  have l1 := okRow_len h1
  have l2 := okRow_len h2
  unfold okRow at *
  simp only [Bool.and_eq_true, decide_eq_true_eq] at *
  exact ⟨by rw [List.length_zipWith, l1, l2]; rfl, all_zip l m h1.2 h2.2⟩

/-! ### Joins -/
theorem joinE_zero {a b : Va} : joinE a b = 0 ↔ okV a = true ∧ okV b = true ∧ a.kind = b.kind := by
  unfold joinE
  constructor
  · intro h
    split at h
    · rename_i h1
      simp only [Bool.and_eq_true] at h1
      split at h
      · exact ⟨h1.1, h1.2, by assumption⟩
      · simp at h
    · simp at h
  · rintro ⟨h1, h2, h3⟩
    simp [h1, h2, h3]
theorem joinE_comm (a b : Va) : joinE a b = joinE b a := by
  unfold joinE
  rw [Bool.and_comm]
  by_cases h : a.kind = b.kind
  · simp [h]
  · simp [h, Ne.symm h]
theorem joinF_ok {a b : Va} (h : joinE a b = 0) : joinF a b = joinV a b := by unfold joinF; rw [if_pos h]
theorem joinV_reg {a b : Va} (h : a.kind = 1) : joinV a b = joinReg a b := by unfold joinV; rw [if_pos h]
theorem joinV_count {a b : Va} (h : a.kind = 2) : joinV a b = joinCount a b := by unfold joinV; rw [if_neg (by omega), if_pos h]
theorem joinV_flags {a b : Va} (h : a.kind = 3) : joinV a b = joinFlags a b := by unfold joinV; rw [if_neg (by omega), if_neg (by omega)]
theorem reg_either (a b : Va) (ha : a = onlyReg a) (hb : b = onlyReg b) : joinReg a b = a ∨ joinReg a b = b := by
  unfold joinReg
  split
  · exact .inl ha.symm
  · exact .inr hb.symm
theorem join_ok {a b : Va} (h : joinE a b = 0) : okV (joinF a b) = true ∧ (joinF a b).kind = a.kind := by
  obtain ⟨ha, hb, hk⟩ := joinE_zero.1 h
  rw [joinF_ok h]
  rcases ok_kind ha with k | k | k
  · rw [joinV_reg k]
    rcases reg_either a b (ok_reg ha k).2 (ok_reg hb (by omega)).2 with e | e
    · rw [e]; exact ⟨ha, rfl⟩
    · rw [e]; exact ⟨hb, hk.symm⟩
  · rw [joinV_count k]
    have h1 := (ok_count ha k).1
    have h2 := (ok_count hb (by omega)).1
    unfold inCount at h1 h2
    rw [Bool.and_eq_true] at h1 h2
    refine ⟨count_ok rfl ?_ rfl, k.symm⟩
    unfold inCount joinCount
    rw [Bool.and_eq_true]
    exact ⟨okRow_zip h1.1 h2.1, okRow_zip h1.2 h2.2⟩
  · rw [joinV_flags k]
    exact ⟨flags_ok rfl rfl, k.symm⟩
theorem join_comm {a b : Va} (h : joinE a b = 0) : joinF a b = joinF b a := by
  have h' : joinE b a = 0 := by rw [joinE_comm]; exact h
  obtain ⟨ha, hb, hk⟩ := joinE_zero.1 h
  rw [joinF_ok h, joinF_ok h']
  rcases ok_kind ha with k | k | k
  · rw [joinV_reg k, joinV_reg (by omega)]
    unfold joinReg
    by_cases c : behindB a b = true
    · have c' : ¬ behindB b a = true := fun c' => behind_irrefl a (behind_trans ((behindB_iff _ _).1 c) ((behindB_iff _ _).1 c'))
      rw [if_pos c, if_neg c']
    · rw [if_neg c]
      by_cases c' : behindB b a = true
      · rw [if_pos c']
      · rw [if_neg c']
        exact (behind_total (fun x => c ((behindB_iff _ _).2 x)) (fun x => c' ((behindB_iff _ _).2 x))).symm
  · rw [joinV_count k, joinV_count (by omega)]
    unfold joinCount
    rw [zip_comm a.plus, zip_comm a.minus]
  · rw [joinV_flags k, joinV_flags (by omega)]
    unfold joinFlags
    rw [UInt64.or_comm]
theorem join_self {a : Va} (h : okV a = true) : joinE a a = 0 ∧ joinF a a = a := by
  have h0 : joinE a a = 0 := joinE_zero.2 ⟨h, h, rfl⟩
  refine ⟨h0, ?_⟩
  rw [joinF_ok h0]
  rcases ok_kind h with k | k | k
  · rw [joinV_reg k]
    rcases reg_either a a (ok_reg h k).2 (ok_reg h k).2 with e | e <;> exact e
  · rw [joinV_count k]
    unfold joinCount
    rw [zip_self, zip_self]
    exact (ok_count h k).2.symm
  · rw [joinV_flags k]
    unfold joinFlags
    rw [UInt64.or_self]
    exact (ok_flags h k).symm
theorem joinReg_assoc (a b c : Va) (ha : a = onlyReg a) (hb : b = onlyReg b) (hc : c = onlyReg c) : joinReg (joinReg a b) c = joinReg a (joinReg b c) := by
  have key : ∀ x y : Va, behindB x y = false → behindB y x = false → x = onlyReg x → y = onlyReg y → x = y := fun x y h1 h2 hx hy => by
    rw [hx, hy]; exact behind_total (fun z => by rw [(behindB_iff _ _).2 z] at h1; cases h1) (fun z => by rw [(behindB_iff _ _).2 z] at h2; cases h2)
  have tr : ∀ x y z : Va, behindB x y = true → behindB y z = true → behindB x z = true := fun x y z h1 h2 => (behindB_iff _ _).2 (behind_trans ((behindB_iff _ _).1 h1) ((behindB_iff _ _).1 h2))
  have ir : ∀ x : Va, behindB x x = false := fun x => by cases h : behindB x x with | false => rfl | true => exact absurd ((behindB_iff _ _).1 h) (behind_irrefl x)
  have E : ∀ x y : Va, x = onlyReg x → y = onlyReg y → joinReg x y = if behindB x y = true then x else y := fun x y hx hy => by unfold joinReg; rw [← hx, ← hy]
  have ntr : ∀ x y z : Va, x = onlyReg x → y = onlyReg y → behindB x y = false → behindB y z = false → behindB x z = false := by
    intro x y z hx hy h1 h2
    cases h : behindB x z with
    | false => rfl
    | true =>
      cases h3 : behindB y x with
      | true => rw [tr y x z h3 h] at h2; cases h2
      | false => rw [key x y h1 h3 hx hy, h2] at h; cases h
  have or_ : ∀ x y : Va, x = onlyReg x → y = onlyReg y → joinReg x y = onlyReg (joinReg x y) := fun x y hx hy => by rcases reg_either x y hx hy with e | e <;> rw [e] <;> assumption
  rw [E _ _ (or_ a b ha hb) hc, E _ _ ha (or_ b c hb hc), E a b ha hb, E b c hb hc]
  cases h1 : behindB a b with
  | true =>
    rw [if_pos rfl]
    cases h2 : behindB b c with
    | true => rw [if_pos rfl, tr a b c h1 h2, h1]; simp
    | false => simp
  | false =>
    cases h2 : behindB b c with
    | true => simp [h1, h2]
    | false => simp [ntr a b c ha hb h1 h2, h2]
theorem join_assoc {a b c : Va} (h1 : joinE a b = 0) (h2 : joinE b c = 0) : joinE (joinF a b) c = 0 ∧ joinE a (joinF b c) = 0 ∧ joinF (joinF a b) c = joinF a (joinF b c) := by
  obtain ⟨ha, hb, hk1⟩ := joinE_zero.1 h1
  obtain ⟨_, hc, hk2⟩ := joinE_zero.1 h2
  obtain ⟨o1, k1⟩ := join_ok h1
  obtain ⟨o2, k2⟩ := join_ok h2
  have h3 : joinE (joinF a b) c = 0 := joinE_zero.2 ⟨o1, hc, by omega⟩
  have h4 : joinE a (joinF b c) = 0 := joinE_zero.2 ⟨ha, o2, by omega⟩
  refine ⟨h3, h4, ?_⟩
  rw [joinF_ok h3, joinF_ok h4]
  rcases ok_kind ha with k | k | k
  · rw [joinV_reg (by omega), joinV_reg k, joinF_ok h1, joinF_ok h2, joinV_reg k, joinV_reg (by omega)]
    exact joinReg_assoc a b c (ok_reg ha k).2 (ok_reg hb (by omega)).2 (ok_reg hc (by omega)).2
  · rw [joinV_count (by omega), joinV_count k, joinF_ok h1, joinF_ok h2, joinV_count k, joinV_count (by omega)]
    unfold joinCount
    simp only [zip_assoc]
  · rw [joinV_flags (by omega), joinV_flags k, joinF_ok h1, joinF_ok h2, joinV_flags k, joinV_flags (by omega)]
    unfold joinFlags
    simp only [UInt64.or_assoc]

/-! ### Below -/
theorem below_iff {a b : Va} : belowB a b = true ↔ joinE a b = 0 ∧ joinF a b = b := by unfold belowB; simp
theorem below_join {a b : Va} (h : joinE a b = 0) : belowB a (joinF a b) = true := by
  obtain ⟨ha, hb, hk⟩ := joinE_zero.1 h
  obtain ⟨s1, s2⟩ := join_self ha
  obtain ⟨e1, e2, e3⟩ := join_assoc s1 h
  rw [below_iff]
  exact ⟨e2, by rw [← e3, s2]⟩
theorem below_join2 {a b : Va} (h : joinE a b = 0) : belowB b (joinF a b) = true := by
  rw [join_comm h]; exact below_join (by rw [joinE_comm]; exact h)
theorem below_trans {a b c : Va} (h1 : belowB a b = true) (h2 : belowB b c = true) : belowB a c = true := by
  rw [below_iff] at *
  obtain ⟨e1, e2, e3⟩ := join_assoc h1.1 h2.1
  rw [h1.2] at e3
  rw [h2.2] at e2 e3
  exact ⟨e2, e3.symm.trans rfl⟩
theorem below_both {a b c : Va} (h : joinE a b = 0) : (belowB a c && belowB b c) = belowB (joinF a b) c := by
  rw [Bool.eq_iff_iff, Bool.and_eq_true]
  constructor
  · rintro ⟨h1, h2⟩
    have g1 := below_iff.1 h1
    have g2 := below_iff.1 h2
    obtain ⟨e1, e2, e3⟩ := join_assoc h g2.1
    rw [g2.2, g1.2] at e3
    exact below_iff.2 ⟨e1, e3⟩
  · intro h1
    exact ⟨below_trans (below_join h) h1, below_trans (below_join2 h) h1⟩
theorem below_antisymm {a b : Va} (h1 : belowB a b = true) (h2 : belowB b a = true) : a = b := by
  have g1 := below_iff.1 h1
  have g2 := below_iff.1 h2
  have := join_comm g1.1
  rw [g1.2, g2.2] at this
  exact this.symm
theorem below_err {a b : Va} (h : joinE a b ≠ 0) : belowB a b = false := by unfold belowB; simp [h]

/-! ### The least -/
theorem zip_zero : ∀ (l : List Int) (n : Nat), l.length = n → l.all okNum = true → List.zipWith maxI (List.replicate n 0) l = l
  | [], n, h, _ => by subst h; rfl
  | x :: l, n, h, h2 => by
    subst h
    rw [List.all_cons, Bool.and_eq_true] at h2
    rw [List.length_cons, List.replicate_succ, List.zipWith_cons_cons, zip_zero l l.length rfl h2.2]
    have : 0 ≤ x := by have := h2.1; unfold okNum at this; simp only [Bool.and_eq_true, decide_eq_true_eq] at this; exact this.1
    unfold maxI
    split
    · rfl
    · rw [show x = 0 by omega]
theorem least_ok {k : Int} (h : k = 1 ∨ k = 2 ∨ k = 3) : okV (leastF k) = true ∧ (leastF k).kind = k := by
  rcases h with rfl | rfl | rfl <;> exact ⟨by decide, by decide⟩
theorem least_below {a : Va} (h : okV a = true) : leastE a.kind = 0 ∧ belowB (leastF a.kind) a = true := by
  have hk := ok_kind h
  obtain ⟨o1, o2⟩ := least_ok hk
  refine ⟨by unfold leastE; rw [if_pos hk], ?_⟩
  have h0 : joinE (leastF a.kind) a = 0 := joinE_zero.2 ⟨o1, h, o2⟩
  rw [below_iff]
  refine ⟨h0, ?_⟩
  rw [joinF_ok h0]
  rcases hk with k | k | k
  · rw [joinV_reg (by rw [o2]; exact k)]
    obtain ⟨r1, r2⟩ := ok_reg h k
    unfold joinReg
    rw [if_neg, ← r2]
    rw [behindB_iff, k]
    unfold inReg at r1
    simp only [Bool.and_eq_true, decide_eq_true_eq] at r1
    obtain ⟨⟨⟨⟨t1, _⟩, ⟨n1, _⟩⟩, _⟩, _⟩ := r1
    have hr : 0 ≤ rankI a.dead := by unfold rankI; split <;> omega
    rintro (c | ⟨_, c | ⟨_, c | ⟨_, c⟩⟩⟩)
    · have : a.time < 0 := c
      omega
    · have : a.node < 0 := c
      omega
    · have : rankI a.dead < 0 := c
      omega
    · have : Op.bytesLess a.text [] = true := c
      unfold Op.bytesLess at this
      cases a.text <;> simp at this
  · rw [joinV_count (by rw [o2]; exact k)]
    obtain ⟨r1, r2⟩ := ok_count h k
    unfold inCount okRow at r1
    simp only [Bool.and_eq_true, decide_eq_true_eq] at r1
    rw [k]
    show Va.mk 2 0 0 false [] (List.zipWith maxI (List.replicate 8 0) a.plus) (List.zipWith maxI (List.replicate 8 0) a.minus) 0 = a
    rw [zip_zero _ 8 r1.1.1 r1.1.2, zip_zero _ 8 r1.2.1 r1.2.2]
    exact r2.symm
  · rw [joinV_flags (by rw [o2]; exact k)]
    rw [k]
    show Va.mk 3 0 0 false [] [] [] (0 ||| a.flags) = a
    rw [UInt64.zero_or]
    exact (ok_flags h k).symm
end Go.Proofs.Ytebjljiklacolaa
