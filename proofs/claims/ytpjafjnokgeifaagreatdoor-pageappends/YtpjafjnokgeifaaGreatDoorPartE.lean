/- Joined texts: contracts of the program's functions, and the mathematics that they lean on. -/
import Derived.Test.YtpjafjnokgeifaaGreatDoorPartD
import Derived.Laws.AppendOwn
import Derived.IntWalk
import Derived.RangeFuncBox
import Derived.Maps.AppendAt
section
namespace Go.Proofs.YtpjafjnokgeifaaGreatDoor
open Go.RowKit
set_option linter.unusedVariables false

/-- A slice of bytes that is read as this text, now and later. -/
def isTxt (l : List UInt8) : VP := fun v w => ∀ W, Below w.heap.size w W → (convert 82 9 v).run Tryz.prog W = .ok (.string ⟨l.toArray⟩) W
theorem stable_txt (l : List UInt8) : Stable (isTxt l) := fun v w w' h hb W hW => h W (hb.trans (hW.mono hb.size))
theorem isTxt_at {w : World} {g off cap : Nat} {l : List UInt8} (hg : g < w.heap.size) (hc : ∀ j (hj : j < l.length), w.cell? ⟨g, off + j, none⟩ = some (.int .u8 (l[j].toNat : Int))) : isTxt l (.slice (some ⟨g, off, none⟩) l.length cap) w := by
  intro W hb
  refine run_convert_bytes_back W 82 9 5 ⟨g, off, none⟩ cap l Tryz.underlying82 Tryz.underlying5 Tryz.underlying9 (fun j hj => ?_)
  have e : (⟨g, off, none⟩ : Addr).add j = ⟨g, off + j, none⟩ := by
    by_cases e0 : j = 0
    · subst e0; simp [Addr.add]
    · simp [Addr.add, e0]
  rw [e, hb.cell (p := ⟨g, off + j, none⟩) hg]
  exact hc j hj
set_option maxRecDepth 100000 in
set_option maxHeartbeats 400000 in
theorem halves_any (l : List UInt8) (w : World) (hl : l.length ≤ 1000000) :
    Calls Tryz.prog 149 #[.string ⟨l.toArray⟩] w fun e w' => ∃ v0 v1, e = .returned (.tuple #[v0, v1]) ∧ isTxt (l.take (l.length / 2)) v0 w' ∧ isTxt (l.drop (l.length / 2)) v1 w' ∧ Below w.heap.size w w' := by
  have hsz : (⟨l.toArray⟩ : ByteArray).size = l.length := size_mk l
  have hcv := fun W => Lib.run_convert_string_bytes (P := Tryz.prog) W 9 82 5 ⟨l.toArray⟩ Tryz.underlying9 Tryz.underlying82 Tryz.underlying5
  have hcap := grownCap_ge w l.length 0 5
  have hq : Int.tdiv (l.length : Int) 2 = ((l.length / 2 : Nat) : Int) := by rw [Int.tdiv_eq_ediv_of_nonneg (by omega)]; rfl
  go_enter Tryz.func149, Tryz.ntmps149
  go_wp2_with fail
  go_region
  have hrow : BRow (Lib.bytesWorld w 5 ⟨l.toArray⟩) w.heap.size l := by simpa using bytesWorld_row w 5 ⟨l.toArray⟩
  have hbw := bytesWorld_below w 5 ⟨l.toArray⟩
  have hg : w.heap.size < (Lib.bytesWorld w 5 ⟨l.toArray⟩).drew.heap.size := by show _ < (Lib.bytesWorld w 5 ⟨l.toArray⟩).heap.size; rw [Lib.bytesWorld_size]; omega
  have t0 := isTxt_at (w := (Lib.bytesWorld w 5 ⟨l.toArray⟩).drew) (off := 0) (cap := l.length / 2) (l := l.take (l.length / 2)) hg (fun j hj => by
    rw [List.length_take] at hj
    rw [Nat.zero_add]
    simpa using (hrow j (by omega)).1)
  have t1 := isTxt_at (w := (Lib.bytesWorld w 5 ⟨l.toArray⟩).drew) (off := l.length / 2) (cap := l.length - l.length / 2) (l := l.drop (l.length / 2)) hg (fun j hj => by
    rw [List.length_drop] at hj
    simpa using (hrow (l.length / 2 + j) (by omega)).1)
  rw [List.length_take, Nat.min_eq_left (by omega)] at t0
  rw [List.length_drop] at t1
  have T0 := Lib.hid t0
  have T1 := Lib.hid t1
  have HB := Lib.hid hbw.drew
  clear t0 t1 hbw hrow hg hcv
  generalize (Lib.bytesWorld w 5 ⟨l.toArray⟩).drew = W at *
  clear hq hsz hcap
  generalize grownCap w l.length 0 5 = cp at *
  generalize hcc : (if l.length = l.length / 2 then some (⟨w.heap.size, 0, none⟩ : Addr) else some ⟨w.heap.size, l.length / 2, none⟩) = ad at *
  have HC := Lib.hid hcc
  clear hcc
  have hmm : l.length / 2 ≤ l.length ∧ (l.length = l.length / 2 → l.length = 0) := ⟨by omega, by omega⟩
  have HM := Lib.hid hmm
  clear hmm
  obtain ⟨m, hm⟩ : ∃ m, m = l.length / 2 := ⟨_, rfl⟩
  rw [← hm] at T0 T1 HC HM ⊢
  have HE := Lib.hid hm
  clear hm
  go_wp2
  go_ret2
  rw [← HE.out]
  refine ⟨_, _, rfl, T0.out, ?_, HB.out⟩
  have hc := HC.out
  show isTxt (l.drop m) (.slice ad (l.length - m) (l.length - m)) W
  rw [← hc]
  by_cases h0 : l.length = m
  · have h2 := HM.out.2 h0
    have h3 : m = 0 := by omega
    rw [if_pos h0]
    have T1' := T1.out
    rw [h3] at T1' ⊢
    exact T1'
  · rw [if_neg h0]
    exact T1.out

theorem step_convTxt {ops : Array Oper} {base : World} {a0 : Act} {Q : Exit → Act → World → Prop} {kn : Nat → VP} {i : Nat} (x : Operand) (v : Value) (l : List UInt8) (hop : (ops[i]?).map (·.op) = some (.convert 82 9 x)) (hw : Wanted ops a0 kn i)
    (hx : Knows ops a0 kn i x (isVal v)) (ht : isTxt l v base) : FStep Tryz.prog ops base a0 Q kn i (isVal (.string ⟨l.toArray⟩)) :=
  step_mk (stable_val _) hw fun o ho a w hk hb hd => by
    have e1 : a.eval x = v := hx a w hk hd
    unfold Oper.wp execOp
    rw [op_of hop ho]
    simp only [e1, Sem.run_bind, ht w hb, Result.andThen_ok, Sem.run_pure]
    exact ⟨_, rfl, rfl, Below.refl _ _⟩
theorem call_not (t : List UInt8) (ht : t.length ≤ 1000000000) (w : World) :
    Calls Tryz.prog 99 #[.string ⟨t.toArray⟩] w fun e w' => ∃ v, e = .returned v ∧ isVal (.string ⟨(notL t).toArray⟩) v w' ∧ Below w.heap.size w w' :=
  (not_l t w ht).mono (by rintro e w' ⟨rfl, hb⟩; exact ⟨_, rfl, rfl, hb⟩)
noncomputable def readOps : Array Oper := regionOf Tryz.f91 3
set_option maxRecDepth 100000 in
set_option maxHeartbeats 1000000 in
theorem read_region (Q : Exit → Act → World → Prop) (a0 : Act) (w0 : World) (hsz : a0.tmps.size = 23) (t b : List UInt8) (v : Value) (z : Bool) (ht : t.length ≤ 1000000) (hz : (notL t != b) = z)
    (h6 : a0.tmps.getD 6 undef = .string ⟨t.toArray⟩) (h5 : a0.tmps.getD 5 undef = v) (hv : isTxt b v w0)
    (hQ : ∀ (a : Act) (w : World), a.defers = a0.defers → a.tmps.size = a0.tmps.size → (∀ t, (readOps.toList.all fun o => o.dst != some t) = true → a.tmps.getD t undef = a0.tmps.getD t undef) →
      a.tmps.getD 18 undef = .bool z → Below w0.heap.size w0 w → Q .normal a w) :
    (Code.region 3 readOps true).wp Tryz.prog Q a0 w0 := by
  refine wp_region_flow mixed (by rw [hsz]; kernel_rfl) ?_
  rw [show readOps.size = 5 by kernel_rfl]
  refine ⟨isVal (.string ⟨t.toArray⟩), step_move (.tmp 6) (by kernel_rfl) (wanted_none (by kernel_rfl)) (stable_val _) (knows_old 6 (.string ⟨t.toArray⟩) (by kernel_rfl) h6), ?_⟩
  refine ⟨isVal (.string ⟨(notL t).toArray⟩), step_call 99 #[.tmp 14] #[9] #[.string ⟨t.toArray⟩] (by kernel_rfl) (wanted_none (by kernel_rfl)) (stable_val _) (args1 (.tmp 14) (.string ⟨t.toArray⟩) (knows_new (V := isVal (.string ⟨t.toArray⟩)) 14 0 (by kernel_rfl) (by kernel_rfl) (by kernel_rfl))) (enters_of Tryz.func99 (by kernel_rfl) rfl) (by intro w hb; exact call_not t (by omega) w), ?_⟩
  refine ⟨isVal v, step_move (.tmp 5) (by kernel_rfl) (wanted_none (by kernel_rfl)) (stable_val _) (knows_old 5 v (by kernel_rfl) h5), ?_⟩
  refine ⟨isVal (.string ⟨b.toArray⟩), step_convTxt (.tmp 16) v b (by kernel_rfl) (wanted_none (by kernel_rfl)) (knows_new (V := isVal v) 16 2 (by kernel_rfl) (by kernel_rfl) (by kernel_rfl)) hv, ?_⟩
  refine ⟨isVal (.bool z), step_bin .neq 9 9 (.tmp 15) (.tmp 17) (.string ⟨(notL t).toArray⟩) (.string ⟨b.toArray⟩) (.bool z) (by kernel_rfl) (wanted_none (by kernel_rfl)) (knows_new (V := isVal (.string ⟨(notL t).toArray⟩)) 15 1 (by kernel_rfl) (by kernel_rfl) (by kernel_rfl)) (knows_new (V := isVal (.string ⟨b.toArray⟩)) 17 3 (by kernel_rfl) (by kernel_rfl) (by kernel_rfl)) (fun _ => rfl) (neq_str _ _ _ _ hz), ?_⟩
  intro a w hkp hb hd
  exact hQ a w hkp.1 hkp.2.1 hkp.2.2 (by
    obtain ⟨o, ho⟩ : ∃ o, readOps[4]? = some o := ⟨_, Array.getElem?_eq_getElem (by rw [show readOps.size = 5 by kernel_rfl]; decide)⟩
    have hdst : (readOps[4]?).bind (·.dst) = some 18 := by kernel_rfl
    exact hd 4 (by rw [show readOps.size = 5 by kernel_rfl]; decide) o ho 18 (by rw [ho] at hdst; simpa using hdst)) hb
theorem arr_etaR (a : Array Value) {n : Nat} (h : a.size = n) : a = ((List.range n).map fun i => a.getD i undef).toArray := by
  subst h
  apply Array.ext
  · simp
  · intro i h1 h2
    simp [Array.getD, h1]

set_option maxRecDepth 100000 in
set_option maxHeartbeats 1000000 in
theorem read_any (l : List UInt8) (w : World) (hl : l.length ≤ 2056) :
    Calls Tryz.prog 91 #[.string ⟨l.toArray⟩] w fun e w' => e = .returned (.tuple #[.string ⟨(readS l).toArray⟩, .int .i64 (readE l)]) ∧ Below w.heap.size w w' := by
  have hlen : (l.take (l.length / 2)).length ≤ 1028 := by rw [List.length_take]; omega
  have HS := Lib.hid (show readS l = if halfB l = true then openS (l.take (l.length / 2)) else [] from rfl)
  have HE := Lib.hid (show readE l = if halfB l = true then openE (l.take (l.length / 2)) else 2 from rfl)
  have HH := Lib.hid (show (notL (l.take (l.length / 2)) != l.drop (l.length / 2)) = !halfB l by unfold halfB; by_cases h : notL (l.take (l.length / 2)) = l.drop (l.length / 2) <;> simp [h])
  obtain ⟨hb, ehb⟩ : ∃ hb, hb = halfB l := ⟨_, rfl⟩
  rw [← ehb] at HS HE HH
  clear ehb
  go_enter Tryz.func91, Tryz.ntmps91
  go_wp2_with fail
  refine (halves_any l _ (by omega)).mono ?_
  rintro e w1 ⟨v0, v1, rfl, t0, t1, hB⟩
  have hc0 := t0 w1 (Below.refl _ _)
  clear t0
  have T1 := Lib.hid t1
  clear t1
  generalize l.take (l.length / 2) = fr at *
  generalize l.drop (l.length / 2) = bk at *
  go_wp2_with fail
  refine read_region _ _ _ rfl fr bk v1 (!hb) (by omega) HH.out rfl rfl T1.out ?_
  intro act w3 hdf hsz hkeep hn18 hb3
  have hk0 : act.tmps.getD 0 undef = (.string ⟨l.toArray⟩) := (hkeep 0 (by kernel_rfl)).trans rfl
  have hk2 : act.tmps.getD 2 undef = (.string ⟨#[]⟩) := (hkeep 2 (by kernel_rfl)).trans rfl
  have hk3 : act.tmps.getD 3 undef = (.int .i64 0) := (hkeep 3 (by kernel_rfl)).trans rfl
  have hk6 : act.tmps.getD 6 undef = (.string ⟨fr.toArray⟩) := (hkeep 6 (by kernel_rfl)).trans rfl
  obtain ⟨tm, df⟩ := act
  obtain rfl : df = [] := hdf
  clear hkeep
  obtain ⟨f, rfl, hk0, hk2, hk3, hk6, hn18⟩ : ∃ f : Nat → Value, tm = ((List.range 23).map f).toArray ∧ f 0 = (.string ⟨l.toArray⟩) ∧ f 2 = (.string ⟨#[]⟩) ∧ f 3 = (.int .i64 0) ∧ f 6 = (.string ⟨fr.toArray⟩) ∧ f 18 = (.bool (!hb)) := ⟨fun i => tm.getD i undef, arr_etaR tm hsz, hk0, hk2, hk3, hk6, hn18⟩
  rewrite [show ((List.range 23).map f).toArray = #[f 0, f 1, f 2, f 3, f 4, f 5, f 6, f 7, f 8, f 9, f 10, f 11, f 12, f 13, f 14, f 15, f 16, f 17, f 18, f 19, f 20, f 21, f 22] from rfl]
  rewrite [hk0, hk2, hk3, hk6, hn18]
  clear hsz hk0 hk2 hk3 hk6 hn18
  have hB2 := hB.trans (hb3.mono hB.size)
  clear hB hb3
  cases hb with
  | false =>
    go_wp2
    go_ret2
    exact ⟨by rw [HS.out, HE.out]; rfl, hB2⟩
  | true =>
    have hS := HS.out
    have hE := HE.out
    rw [if_pos rfl] at hS hE
    have HS2 := Lib.hid hS
    have HE2 := Lib.hid hE
    clear hS hE HS HE HH
    go_wp2_with fail
    (with_reducible refine (open_any fr _ hlen).mono ?_); rintro e w4 ⟨rfl, hb4⟩
    replace hB2 := hB2.trans (hb4.mono hB2.size); clear hb4
    go_wp2
    go_ret2
    exact ⟨by rw [HS2.out, HE2.out]; rfl, hB2⟩

theorem make_any (l : List UInt8) (w : World) (hl : l.length ≤ 1024) :
    Calls Tryz.prog 46 #[.string ⟨l.toArray⟩] w fun e w' => e = .returned (.string ⟨(recL l).toArray⟩) ∧ Below w.heap.size w w' := by
  have hsl := length_sealL l
  have hnl := length_notL (sealL l)
  have hcat := fun W => run_string_add_lists (P := Tryz.prog) W (sealL l) (notL (sealL l)) (by omega) (by omega)
  have HR := Lib.hid (show sealL l ++ notL (sealL l) = recL l from rfl)
  go_enter Tryz.func46, Tryz.ntmps46
  go_wp2_with fail
  refine (seal_any l _ hl).mono ?_
  rintro e w1 ⟨rfl, hB⟩
  go_wp2_with fail
  (with_reducible refine (not_l (sealL l) _ (by omega)).mono ?_); rintro e w2 ⟨rfl, hb2⟩
  replace hB := hB.trans (hb2.mono hB.size); clear hb2
  go_wp2
  go_ret
  exact ⟨ret_str HR.out, hB⟩

theorem size_any (n : Int) (w : World) :
    Calls Tryz.prog 47 #[.int .i64 n] w fun e w' => e = .returned (.int .i64 (sizeN n)) ∧ w = w' := by
  by_cases h1 : n < 0
  · have d1 : decide (n < 0) = true := by simpa using h1
    go_enter Tryz.func47, Tryz.ntmps47
    go_wp2
    go_ret
    exact ⟨by simp [sizeN, h1], rfl⟩
  · have d1 : decide (n < 0) = false := by simpa using h1
    by_cases h2 : 4000 < n
    · have d2 : decide (4000 < n) = true := by simpa using h2
      go_enter Tryz.func47, Tryz.ntmps47
      go_wp2
      go_ret
      exact ⟨by simp [sizeN, h2], rfl⟩
    · have d2 : decide (4000 < n) = false := by simpa using h2
      go_enter Tryz.func47, Tryz.ntmps47
      go_wp2
      go_ret
      exact ⟨ret_int (by unfold sizeN; rw [if_neg (by omega)]), rfl⟩
end Go.Proofs.YtpjafjnokgeifaaGreatDoor
end
section
namespace Go.Proofs.YtpjafjnokgeifaaGreatDoor
open Go.RowKit
set_option linter.unusedVariables false
set_option linter.unusedSimpArgs false

/-- How many bytes a place has. -/
def szN (n : Int) : Nat := (sizeN n).toNat
theorem szN_eq (n : Int) : sizeN n = (szN n : Int) := by unfold szN sizeN; split <;> omega
theorem szN_le (n : Int) : szN n ≤ 8008 := by unfold szN sizeN; split <;> omega
theorem szN_even (n : Int) : szN n % 2 = 0 := by unfold szN sizeN; split <;> omega
def roomN (s : List UInt8) (n : Int) : Nat := s.length / szN n
theorem roomN_zero (s : List UInt8) (n : Int) (h : szN n = 0) : roomN s n = 0 := by unfold roomN; rw [h]; simp
theorem roomN_le (s : List UInt8) (n : Int) : roomN s n * szN n ≤ s.length := Nat.div_mul_le_self _ _
theorem roomN_len (s : List UInt8) (n : Int) : roomN s n ≤ s.length := Nat.div_le_self _ _
/-- The bytes of a place. -/
def slotL (s : List UInt8) (n : Int) (i : Nat) : List UInt8 := (s.drop (i * szN n)).take (szN n)
def slotI (s : List UInt8) (n i : Int) : List UInt8 := if 0 ≤ i ∧ i < (roomN s n : Int) then slotL s n i.toNat else []
def slotsL (s : List UInt8) (n : Int) : List (List UInt8) := (List.range (roomN s n)).map (slotL s n)
theorem slotL_len {s : List UInt8} {n : Int} {i : Nat} (h : i < roomN s n) : (slotL s n i).length = szN n := by
  have h1 := roomN_le s n
  have h2 : (i + 1) * szN n ≤ roomN s n * szN n := Nat.mul_le_mul_right _ h
  rw [Nat.add_mul, Nat.one_mul] at h2
  simp only [slotL, List.length_take, List.length_drop]
  omega

set_option maxHeartbeats 1000000 in
theorem room_any (s : List UInt8) (n : Int) (w : World) (hs : s.length ≤ 1000000000) :
    Calls Tryz.prog 41 #[.string ⟨s.toArray⟩, .int .i64 n] w fun e w' => e = .returned (.int .i64 (roomN s n : Int)) ∧ w = w' := by
  have hsz : (⟨s.toArray⟩ : ByteArray).size = s.length := size_mk s
  have HE := Lib.hid (szN_eq n)
  have HZ := Lib.hid (roomN_zero s n)
  have HR := Lib.hid (show (roomN s n : Int) = (s.length : Int) / (szN n : Int) by unfold roomN; simp)
  have hle := szN_le n
  have hrl := roomN_len s n
  generalize szN n = z at *
  generalize roomN s n = r at *
  by_cases h0 : z = 0
  · have d0 : ((z : Int) == 0) = true := by simp [h0]
    go_enter Tryz.func41, Tryz.ntmps41
    go_wp2_with fail
    ((with_reducible refine (size_any n _).mono ?_); rintro e w' ⟨rfl, rfl⟩)
    rw [HE.out]
    go_wp2
    go_ret
    exact ⟨by rw [HZ.out h0]; rfl, rfl⟩
  · have d0 : ((z : Int) == 0) = false := by simp; omega
    have hz1 : 0 < z := by omega
    have hq0 : 0 ≤ (s.length : Int) / (z : Int) := by rw [← HR.out]; omega
    have hq1 : (s.length : Int) / (z : Int) ≤ 1000000000 := by rw [← HR.out]; omega
    go_enter Tryz.func41, Tryz.ntmps41
    go_wp2_with fail
    ((with_reducible refine (size_any n _).mono ?_); rintro e w' ⟨rfl, rfl⟩)
    rw [HE.out]
    go_wp2
    go_ret
    exact ⟨by rw [HR.out]; rfl, rfl⟩
theorem ext_mid (l : List UInt8) (a b : Nat) : (⟨l.toArray⟩ : ByteArray).extract a b = ⟨((l.drop a).take (b - a)).toArray⟩ := by
  have h : ((⟨l.toArray⟩ : ByteArray).extract a b).data = (⟨((l.drop a).take (b - a)).toArray⟩ : ByteArray).data := by
    rw [ByteArray.data_extract]
    simp [List.extract_toArray, List.extract_eq_take_drop]
  cases hh : (⟨l.toArray⟩ : ByteArray).extract a b
  rw [hh] at h
  exact congrArg ByteArray.mk h
set_option maxHeartbeats 1000000 in
theorem slot_no (s : List UInt8) (n i : Int) (w : World) (hs : s.length ≤ 1000000000) (h : i < 0 ∨ (roomN s n : Int) ≤ i) :
    Calls Tryz.prog 45 #[.string ⟨s.toArray⟩, .int .i64 n, .int .i64 i] w fun e w' => e = .returned (.string ⟨#[]⟩) ∧ w = w' := by
  by_cases h0 : i < 0
  · have d0 : decide (i < 0) = true := by simpa using h0
    go_enter Tryz.func45, Tryz.ntmps45
    go_wp2
    go_ret
    exact ⟨rfl, rfl⟩
  · have d0 : decide (i < 0) = false := by simpa using h0
    have d1 : decide ((roomN s n : Int) ≤ i) = true := by simp; omega
    go_enter Tryz.func45, Tryz.ntmps45
    go_wp2_with fail
    ((with_reducible refine (room_any s n _ hs).mono ?_); rintro e w' ⟨rfl, rfl⟩)
    go_wp2
    go_ret
    exact ⟨rfl, rfl⟩
set_option maxHeartbeats 1000000 in
theorem slot_yes (s : List UInt8) (n : Int) (i : Nat) (w : World) (hs : s.length ≤ 1000000000) (h : i < roomN s n) :
    Calls Tryz.prog 45 #[.string ⟨s.toArray⟩, .int .i64 n, .int .i64 (i : Int)] w fun e w' => e = .returned (.string ⟨(slotL s n i).toArray⟩) ∧ w = w' := by
  have hsz : (⟨s.toArray⟩ : ByteArray).size = s.length := size_mk s
  have d0 : decide ((i : Int) < 0) = false := by simp
  have d1 : decide ((roomN s n : Int) ≤ (i : Int)) = false := by simp; omega
  have d1' : decide (roomN s n ≤ i) = false := by simp; omega
  have h1 := roomN_le s n
  have h2 : (i + 1) * szN n ≤ roomN s n * szN n := Nat.mul_le_mul_right _ h
  have h3 : (i + 1) * szN n = i * szN n + szN n := by rw [Nat.add_mul, Nat.one_mul]
  rw [h3] at h2
  have HE := Lib.hid (szN_eq n)
  have hz := szN_le n
  have HS := Lib.hid (show slotL s n i = (s.drop (i * szN n)).take (szN n) from rfl)
  have HM := Lib.hid (show (i : Int) * (szN n : Int) = ((i * szN n : Nat) : Int) by simp)
  have HM1 := Lib.hid (show ((i : Int) + 1) * (szN n : Int) = ((i * szN n + szN n : Nat) : Int) by rw [← h3]; push_cast; rfl)
  have HX := Lib.hid (ext_mid s (i * szN n) (i * szN n + szN n))
  have hil : i ≤ 1000000000 := Nat.le_trans (Nat.le_of_lt h) (Nat.le_trans (roomN_len s n) hs)
  generalize hzz : szN n = z at *
  generalize hq : i * z = q at *
  clear h3 hzz
  have hm0 : 0 ≤ (i : Int) * (z : Int) := by rw [HM.out]; omega
  have hm1 : (i : Int) * (z : Int) ≤ 1000000000 := by rw [HM.out]; omega
  have hm2 : 0 ≤ ((i : Int) + 1) * (z : Int) := by rw [HM1.out]; omega
  have hm3 : ((i : Int) + 1) * (z : Int) ≤ 1000000000 := by rw [HM1.out]; omega
  have hm4 : ((i : Int) + 1) * (z : Int) ≤ (s.length : Int) := by rw [HM1.out]; omega
  have hm5 : (i : Int) * (z : Int) ≤ ((i : Int) + 1) * (z : Int) := by rw [HM.out, HM1.out]; omega
  have HR := Lib.hid (show (⟨s.toArray⟩ : ByteArray).extract ((i : Int) * (z : Int)).toNat (((i : Int) + 1) * (z : Int)).toNat = ⟨(slotL s n i).toArray⟩ by
    rw [HM.out, HM1.out, Int.toNat_natCast, Int.toNat_natCast, HX.out, HS.out, Nat.add_sub_cancel_left])
  clear hq HS HX HM HM1 h1 h2
  go_enter Tryz.func45, Tryz.ntmps45
  go_wp2_with fail
  ((with_reducible refine (room_any s n _ hs).mono ?_); rintro e w' ⟨rfl, rfl⟩)
  go_wp2_with fail
  ((with_reducible refine (size_any n _).mono ?_); rintro e w' ⟨rfl, rfl⟩)
  rw [HE.out]
  go_wp2
  go_ret
  exact ⟨by rw [← HR.out]; rfl, rfl⟩
theorem slot_any (s : List UInt8) (n i : Int) (w : World) (hs : s.length ≤ 1000000000) :
    Calls Tryz.prog 45 #[.string ⟨s.toArray⟩, .int .i64 n, .int .i64 i] w fun e w' => e = .returned (.string ⟨(slotI s n i).toArray⟩) ∧ w = w' := by
  by_cases h : 0 ≤ i ∧ i < (roomN s n : Int)
  · obtain ⟨k, rfl⟩ := Int.eq_ofNat_of_zero_le h.1
    have := slot_yes s n k w hs (by omega)
    rwa [show slotI s n (k : Int) = slotL s n k by unfold slotI; rw [if_pos h]; rfl]
  · have := slot_no s n i w hs (by omega)
    rwa [show slotI s n i = [] by unfold slotI; rw [if_neg h]]
end Go.Proofs.YtpjafjnokgeifaaGreatDoor
end
section
namespace Go.Proofs.YtpjafjnokgeifaaGreatDoor
open Go.RowKit Go.Shelf
set_option linter.unusedVariables false
attribute [local go_sem] Oper.semAt_some

def encPl (s : List UInt8) (n : Int) (x : Nat) : Array Value := #[.int .i64 (x : Int), .string ⟨(slotL s n x).toArray⟩]
/-- Two boxes stay. -/
def Box2 (b c : Nat) (W W' : World) : Prop := W'.cell? ⟨b, 0, none⟩ = W.cell? ⟨b, 0, none⟩ ∧ W'.cell? ⟨c, 0, none⟩ = W.cell? ⟨c, 0, none⟩
theorem box2_t (b c : Nat) {A B C : World} (h : Box2 b c A B) (k : Box2 b c B C) : Box2 b c A C := ⟨k.1.trans h.1, k.2.trans h.2⟩
theorem box2_put (b c m : Nat) (hb : b < m) (hc : c < m) (W : World) (l : Nat) (o o' : Obj) (h : m ≤ l) (h1 : W.heap[l]? = some o) (h2 : o.isCells = false) (h3 : o.isWalk = false) : Box2 b c W (W.putObj l o') :=
  ⟨boxKept_put b m hb W l o o' h h1 h2 h3, boxKept_put c m hc W l o o' h h1 h2 h3⟩

set_option maxRecDepth 100000 in
set_option maxHeartbeats 1000000 in
theorem places1_in (m : Nat) (hm : 1 ≤ m) (l Bs Bn : Nat) (s : List UInt8) (n : Int) (hs : s.length ≤ 1000000000) (J Jx : List Nat → World → Prop)
    (hY : ∀ pre x W, J pre W → x < roomN s n → pre.length < roomN s n → YieldAt Fence.wide (m - 1) Tryz.prog l (encPl s n x) W fun e W' =>
      (e = .returned (.bool true) ∧ J (pre ++ [x]) W' ∧ Box2 Bs Bn W W') ∨ (e = .returned (.bool false) ∧ Jx (pre ++ [x]) W'))
    (W : World) (hBs : W.cell? ⟨Bs, 0, none⟩ = some (.string ⟨s.toArray⟩)) (hBn : W.cell? ⟨Bn, 0, none⟩ = some (.int .i64 n)) (h0 : J [] W) :
    CallsIn Fence.wide m Tryz.prog 148 #[.func (.yield l) #[] #[], .pointer (some ⟨Bs, 0, none⟩), .pointer (some ⟨Bn, 0, none⟩)] W fun e W' => (∃ v, e = .returned v) ∧
      ((∃ ys, ys = List.range (roomN s n) ∧ J ys W') ∨ (∃ pre, pre <+: List.range (roomN s n) ∧ Jx pre W')) := by
  refine callsIn_of_wp Tryz.func148 rfl trivial ?_ rfl
  simp only [Tryz.ntmps148, List.size_toArray, List.length_cons, List.length_nil, Nat.reduceAdd, Nat.reduceSub, Array.replicate_succ, Array.replicate_zero, List.push_toArray, List.append_toArray, List.nil_append, List.cons_append]
  gi_wp2_with (refine ⟨trivial, (callsIn_wide.2 (room_any s n _ hs)).mono ?_⟩; rintro e w' ⟨rfl, rfl⟩)
  have hr1 : roomN s n ≤ 1000000000 := Nat.le_trans (roomN_len s n) hs
  gi_loopw [8] (fun i wr => ∃ k : Nat, k ≤ roomN s n ∧ i = .int .i64 k ∧ J (List.range k) wr ∧ wr.cell? ⟨Bs, 0, none⟩ = some (.string ⟨s.toArray⟩) ∧ wr.cell? ⟨Bn, 0, none⟩ = some (.int .i64 n))
    (fun i _ => roomN s n - (intOf i).toNat)
  case atStart => exact ⟨0, Nat.zero_le _, rfl, h0, hBs, hBn⟩
  case round =>
    obtain ⟨k, hk, rfl, hJs, hcs, hcn⟩ := hrel
    by_cases hlt : k < roomN s n
    · have d1 : decide ((k : Int) < (roomN s n : Int)) = true := by simpa using hlt
      obtain ⟨fn, tmps, assign, body, hy, hR⟩ := hY _ k wr hJs hlt (by simpa using hlt)
      simp only [encPl] at hy
      rw [← List.range_succ] at hR
      gi_wp2_with (refine ⟨trivial, (callsIn_wide.2 (slot_yes s n k _ hs hlt)).mono ?_⟩; rintro e w' ⟨rfl, rfl⟩)
      refine hR.mono ?_
      rintro e W3 (⟨rfl, hJ3, hk3⟩ | ⟨rfl, hJx3⟩)
      · have hc3 := hk3.1.trans hcs
        have hc4 := hk3.2.trans hcn
        gi_wp2
        go_roundw
        case rel => exact ⟨k + 1, by omega, by go_num, hJ3, hc3, hc4⟩
        case measure => simp [intOf]; omega
      · gi_wp2
        refine bodyPost_ret (results_none rfl _ _ _) rfl ?_
        refine ⟨⟨_, rfl⟩, .inr ⟨_, ?_, hJx3⟩⟩
        exact ⟨(List.range (roomN s n)).drop (k + 1), by
          conv => rhs; rw [← List.take_append_drop (k + 1) (List.range (roomN s n))]
          rw [List.take_range, Nat.min_eq_left (by omega)]⟩
    · have d1 : decide ((k : Int) < (roomN s n : Int)) = false := by simp; omega
      obtain rfl : k = roomN s n := by omega
      gi_wp2
      go_end0
      exact ⟨⟨_, rfl⟩, .inl ⟨_, rfl, hJs⟩⟩

set_option maxHeartbeats 1000000 in
theorem places_in (m : Nat) (s : List UInt8) (n : Int) (w : World) :
    CallsIn Fence.wide m Tryz.prog 90 #[.string ⟨s.toArray⟩, .int .i64 n] w fun e w' => e = .returned (.func (.func 148) #[] #[.pointer (some ⟨w.heap.size, 0, none⟩), .pointer (some ⟨w.heap.size + 1, 0, none⟩)]) ∧ w' = (w.alloc (.cells #[.string ⟨s.toArray⟩] 9)).alloc (.cells #[.int .i64 n] 3) := by
  refine callsIn_of_wp Tryz.func90 rfl trivial ?_ rfl
  simp only [Tryz.ntmps90, List.size_toArray, List.length_cons, List.length_nil, Nat.reduceAdd, Nat.reduceSub, Array.replicate_succ, Array.replicate_zero, List.push_toArray, List.append_toArray, List.nil_append, List.cons_append]
  gi_wp2
  go_ret
  exact ⟨by simp, rfl⟩
theorem places_stops (m : Nat) (hm : 1 ≤ m) (Bs Bn : Nat) (s : List UInt8) (n : Int) (hs : s.length ≤ 1000000000) (w : World) (hB : Bs < w.heap.size) (hBs : w.cell? ⟨Bs, 0, none⟩ = some (.string ⟨s.toArray⟩)) (hB2 : Bn < w.heap.size) (hBn : w.cell? ⟨Bn, 0, none⟩ = some (.int .i64 n)) :
    SeqStopsK Fence.wide m Tryz.prog 148 #[.pointer (some ⟨Bs, 0, none⟩), .pointer (some ⟨Bn, 0, none⟩)] (fun x : Fin (roomN s n) => encPl s n x.val) (Box2 Bs Bn) (fun ys => ys.map Fin.val = List.range (roomN s n)) (fun _ => True) (roomN s n) w := fun l J Jx W hW _ _ hY h0 =>
  (places1_in m hm l Bs Bn s n hs (fun ns W => ∃ p : List (Fin (roomN s n)), p.map Fin.val = ns ∧ J p W) (fun ns W => ∃ p : List (Fin (roomN s n)), p.map Fin.val = ns ∧ Jx p W)
    (fun pre x W ⟨p, hp, hJ⟩ hx h2 => (hY p ⟨x, hx⟩ W hJ (by rw [← hp, List.length_map] at h2; exact h2)).mono fun e W' h => by
      rcases h with ⟨rfl, h, hk⟩ | ⟨rfl, h⟩
      · exact .inl ⟨rfl, ⟨_, by simp [hp], h⟩, hk⟩
      · exact .inr ⟨rfl, ⟨_, by simp [hp], h⟩⟩) W ((hW.cell (p := ⟨Bs, 0, none⟩) hB).trans hBs) ((hW.cell (p := ⟨Bn, 0, none⟩) hB2).trans hBn) ⟨[], rfl, h0⟩).mono fun e W' ⟨he, h⟩ => by
    refine ⟨he, ?_⟩
    rcases h with ⟨ys, rfl, p, hp, hJ⟩ | ⟨pre, _, p, hp, hJ⟩
    · exact .inl ⟨p, hp, hJ⟩
    · exact .inr ⟨p, trivial, hJ⟩
end Go.Proofs.YtpjafjnokgeifaaGreatDoor
end
section
namespace Go.Proofs.YtpjafjnokgeifaaGreatDoor
open Go.RowKit Go.Shelf
set_option linter.unusedVariables false
set_option linter.unusedSimpArgs false
attribute [local go_sem] Oper.semAt_some

/-- Behind an append to what a box holds: the row lies from n₁ on, behind the box. -/
theorem boxed_app {W w1 : World} {n₀ n₁ B : Nat} {t e : TypeId} {size : Nat} {v v' : Value} {k m : Nat} {xs ys : List Value} {tmp : Obj}
    (hv : Boxed W B t v) (hte : t ≠ e) (hrow : W.ownsRow n₁ e size v k xs) (hn₁ : n₁ ≤ W.heap.size) (hB : n₀ ≤ B) (h01 : n₀ ≤ n₁)
    (hown' : w1.ownsRow n₁ e size v' m ys) (hgrow : (W.alloc tmp).grownBy w1 v.ownBlock) :
    Boxed w1 B t v ∧ Boxed (w1.setCell ⟨B, 0, none⟩ v') B t v' ∧ (w1.setCell ⟨B, 0, none⟩ v').ownsRow n₁ e size v' m ys ∧ KeepsOthers W (w1.setCell ⟨B, 0, none⟩ v') ∧ Below n₀ W (w1.setCell ⟨B, 0, none⟩ v') ∧ (∀ b, b < n₁ → b ≠ B → (w1.setCell ⟨B, 0, none⟩ v').heap[b]? = W.heap[b]?) ∧ W.heap.size ≤ (w1.setCell ⟨B, 0, none⟩ v').heap.size := by
  have hv1 : Boxed w1 B t v := (hv.alloc tmp).kept hgrow (hv.not_row hte hrow)
  have hb : Below n₁ W w1 := ((Below.refl n₁ W).alloc hn₁ tmp).grown hgrow (by simp; omega) fun j ej => by
    rcases hrow.2 with ⟨rfl, _⟩ | ⟨g, cap, cur, rfl, hb, _, _⟩
    · simp [Value.ownBlock] at ej
    · obtain rfl : g = j := by simpa [Value.ownBlock] using ej
      exact hb
  refine ⟨hv1, hv1.set v', hown'.kept (grownBy_setCell' w1 B v') (.inr (hv1.not_row hte hown').symm), ?_, (hb.mono h01).setCell (p := ⟨B, 0, none⟩) hB v', fun b h1 h2 => (Below.heap_setCell w1 ⟨B, 0, none⟩ v' b h2).trans (hb.block b h1), by simpa using hb.size⟩
  refine ((KeepsOthers.alloc W tmp).trans (KeepsOthers.of_grownBy hgrow fun j o ej hj => ?_)).trans (KeepsOthers.setCell _ _ _)
  rcases (hrow.alloc tmp).2 with ⟨rfl, _⟩ | ⟨g, cap, cur, rfl, _, hgb, _⟩
  · simp [Value.ownBlock] at ej
  · obtain rfl : g = j := by simpa [Value.ownBlock] using ej
    rw [hgb] at hj; cases hj; rfl
theorem keepsOthers_below {W W' : World} (h : Below W.heap.size W W') : KeepsOthers W W' := ⟨h.size, fun k o hk _ => (h.block k (Array.getElem?_eq_some_iff.1 hk).1).trans hk⟩
theorem ownsRow_below {W W' : World} {n₀ : Nat} {e : TypeId} {size : Nat} {v : Value} {k : Nat} {xs : List Value} (h : W.ownsRow n₀ e size v k xs) (hb : Below W.heap.size W W') : W'.ownsRow n₀ e size v k xs := by
  obtain ⟨hl, h | ⟨g, cap, cur, hv, h1, hg, rest⟩⟩ := h
  · exact ⟨hl, .inl h⟩
  · exact ⟨hl, .inr ⟨g, cap, cur, hv, h1, (hb.block g (Array.getElem?_eq_some_iff.1 hg).1).trans hg, rest⟩⟩
theorem boxed_below {W W' : World} {B : Nat} {t : TypeId} {v : Value} (h : Boxed W B t v) (hb : Below W.heap.size W W') : Boxed W' B t v := (hb.block B (Array.getElem?_eq_some_iff.1 h).1).trans h
theorem cell_of_block {W W' : World} {b : Nat} (h : W'.heap[b]? = W.heap[b]?) : W'.cell? ⟨b, 0, none⟩ = W.cell? ⟨b, 0, none⟩ := by simp only [World.cell?, h]

def recOf (t : List UInt8) : List (List UInt8) := if readE t = 0 then [readS t] else []
def recsOf (s : List UInt8) (n : Int) (pre : List Nat) : List (List UInt8) := pre.flatMap fun i => recOf (slotL s n i)
/-- The payloads of all places that are records. -/
def recordsL (s : List UInt8) (n : Int) : List (List UInt8) := recsOf s n (List.range (roomN s n))
theorem recsOf_len (s : List UInt8) (n : Int) (pre : List Nat) : (recsOf s n pre).length ≤ pre.length := by
  unfold recsOf
  induction pre with
  | nil => simp
  | cons a l ih =>
    rw [List.flatMap_cons, List.length_append, List.length_cons]
    have : (recOf (slotL s n a)).length ≤ 1 := by unfold recOf; split <;> simp
    omega

set_option maxRecDepth 100000 in
set_option maxHeartbeats 2000000 in
theorem records_any (s : List UInt8) (n : Int) (w : World) (hs : s.length ≤ 1000000) (hz : szN n ≤ 2056 ∨ roomN s n = 0) :
    Calls Tryz.prog 40 #[.string ⟨s.toArray⟩, .int .i64 n] w fun e W' => ∃ v, e = .returned v ∧ isCells ((recordsL s n).map strC) v W' ∧ Below w.heap.size w W' := by
  refine (callsIn_wide (n := 5)).1 ?_
  obtain ⟨i0, hi, hz0, hz1, hz2⟩ := info_parts Tryz.infoStr
  refine callsIn_of_wp_marks Tryz.func40 rfl trivial ?_ rfl
  simp only [Tryz.ntmps40, List.size_toArray, List.length_cons, List.length_nil, Nat.reduceAdd, Nat.reduceSub, Array.replicate_succ, Array.replicate_zero, List.push_toArray, List.append_toArray, List.nil_append, List.cons_append]
  gi_wp2_with (refine ⟨trivial, (places_in _ s n _).mono ?_⟩; rintro e w' ⟨rfl, rfl⟩)
  have bO := Boxed.new w 22 (.slice none 0 0)
  have bS := Boxed.new (w.alloc (.cells #[.slice none 0 0] 22)) 9 (.string ⟨s.toArray⟩)
  have bN := Boxed.new ((w.alloc (.cells #[.slice none 0 0] 22)).alloc (.cells #[.string ⟨s.toArray⟩] 9)) 3 (.int .i64 n)
  have hB0 : Below w.heap.size w (((w.alloc (.cells #[.slice none 0 0] 22)).alloc (.cells #[.string ⟨s.toArray⟩] 9)).alloc (.cells #[.int .i64 n] 3)) := (((Below.refl _ w).alloc (Nat.le_refl _) _).alloc (by simp) _).alloc (by simp; omega) _
  simp only [World.size_alloc] at bS bN ⊢
  have hrl : roomN s n ≤ 1000000 := Nat.le_trans (roomN_len s n) hs
  refine wpIn_rangeFunc_ownG rfl (by decide) (gf := 148) (lb := #[.pointer (some ⟨w.heap.size + 1, 0, none⟩), .pointer (some ⟨w.heap.size + 1 + 1, 0, none⟩)]) rfl trivial (enters_of Tryz.func148 (by kernel_rfl) rfl)
    (places_stops 4 (by omega) (w.heap.size + 1) (w.heap.size + 1 + 1) s n (by omega) _ (by simp) (bS.alloc _).cell (by simp) bN.cell) (box2_t _ _) (box2_put _ _ _ (by simp) (by simp)) (Below.refl _ _) (fun _ => rfl)
    (fun (pre : List (Fin (roomN s n))) W => (∃ v, Boxed W w.heap.size 22 v ∧ W.ownsRow (w.heap.size + 3) 9 1 v (recsOf s n (pre.map Fin.val)).length ((recsOf s n (pre.map Fin.val)).map strC) ∧ True) ∧ Below w.heap.size w W ∧ w.heap.size + 3 ≤ W.heap.size)
    (fun _ _ _ => False)
    (OwnFrom.and (Own.from (holdsRow_own (w.heap.size + 3) w.heap.size 22 9 1 (fun pre : List (Fin (roomN s n)) => (recsOf s n (pre.map Fin.val)).length) (fun pre => (recsOf s n (pre.map Fin.val)).map strC) (fun pre v => True)) _) (OwnFrom.and (ownFrom_below (Nat.le_refl _) (by simp; omega)) (fun _ _ _ _ hs hg _ => Nat.le_trans hs hg.size)))
    (fun _ _ _ _ _ hs _ _ => hs)
    ⟨⟨_, (bO.alloc _).alloc _, World.ownsRow_nil _ _ _ _, trivial⟩, hB0, by simp⟩
    (fun x : Fin (roomN s n) => { tmps := #[.string ⟨s.toArray⟩, .int .i64 n, undef, undef, .slice none 0 0, .pointer (some ⟨w.heap.size, 0, none⟩), undef, .string ⟨(slotL s n x.val).toArray⟩, undef, undef, .string ⟨s.toArray⟩, .int .i64 n, .func (.func 148) #[] #[.pointer (some ⟨w.heap.size + 1, 0, none⟩), .pointer (some ⟨w.heap.size + 1 + 1, 0, none⟩)], .int .i64 (x.val : Int), .string ⟨(slotL s n x.val).toArray⟩, undef, undef, undef, undef, undef, undef, undef, undef, undef, undef, undef, undef], defers := [] }) ?assign ?body ?done ?stop
  case assign =>
    intro l x W K hK
    simp only [encPl]
    gi_wp2
    exact hK
  case body =>
    rintro l pre x W ⟨⟨v, hv, hrow, _⟩, hB, hW3⟩ hlt
    have hle : (slotL s n x.val).length ≤ 2056 := by
      rcases hz with h | h
      · exact Nat.le_trans (by simp only [slotL, List.length_take]; omega) h
      · omega
    have hpl := recsOf_len s n (pre.map Fin.val)
    rw [List.length_map] at hpl
    have HR := Lib.hid (show recsOf s n ((pre ++ [x]).map Fin.val) = recsOf s n (pre.map Fin.val) ++ recOf (slotL s n x.val) by simp [recsOf])
    generalize slotL s n x.val = t at *
    rcases readE_cases t with ⟨h0, _⟩ | ⟨h0, _⟩
    · have HE := Lib.hid h0
      have HC := Lib.hid (show recOf t = [readS t] by unfold recOf; rw [if_pos h0])
      clear h0
      gi_wp2_with (first
        | (refine ⟨trivial, ((callsIn_wide.2 (read_any t _ hle)).inRound l).mono ?_⟩; rintro e W2 ⟨rfl, hb2⟩; rw [HE.out]; have hv2 := boxed_below hv hb2; have hrow2 := ownsRow_below hrow hb2; have hc2 := hv2.cell; have hW4 : w.heap.size + 3 ≤ W2.heap.size := Nat.le_trans hW3 hb2.size)
        | (gi_at_builtin; refine wpListIn_append_own _ rfl _ _ 22 rfl (w.heap.size + 3) 9 i0 (.string ⟨#[]⟩) 1 16 Tryz.underlying22 hi hz0 hz1 hz2 rfl (by decide) _ _ _ rfl (hrow2.alloc _) ⟨W2.heap.size, 0, none⟩ 1 1 [strC (readS t)] rfl rfl (cell_one_new _ _ _) (by simp [Value.oneCell', strC]) (by unfold maxLen; omega) (by omega) (by simp; omega) ?_; intro v' w1 hown' hgrow _; obtain ⟨g', cap', rfl⟩ := ownsRow_succ hown'; obtain ⟨hv3, hv4, hr4, hk4, hb4, hbl4, hsz4⟩ := boxed_app (n₀ := w.heap.size) hv2 (by decide) hrow2 hW4 (Nat.le_refl _) (by omega) hown' hgrow; have hc1 := hv3.cell; have hf1 := hv3.frozen))
      refine ⟨((keepsOthers_below hb2).trans hk4).from _, ⟨cell_of_block ((hbl4 _ (by omega) (by omega)).trans (hb2.block _ (by omega))), cell_of_block ((hbl4 _ (by omega) (by omega)).trans (hb2.block _ (by omega)))⟩, ⟨_, hv4, ?_, trivial⟩, (hB.trans (hb2.mono hB.size)).trans hb4, by omega⟩
      rw [HR.out, HC.out]
      simpa using hr4
    · have HE := Lib.hid h0
      have HC := Lib.hid (show recOf t = [] by unfold recOf; rw [if_neg (by rw [h0]; decide)])
      clear h0
      gi_wp2_with (refine ⟨trivial, ((callsIn_wide.2 (read_any t _ hle)).inRound l).mono ?_⟩; rintro e W2 ⟨rfl, hb2⟩; rw [HE.out]; have hv2 := boxed_below hv hb2; have hrow2 := ownsRow_below hrow hb2; have hW4 : w.heap.size + 3 ≤ W2.heap.size := Nat.le_trans hW3 hb2.size)
      refine ⟨(keepsOthers_below hb2).from _, ⟨cell_of_block (hb2.block _ (by omega)), cell_of_block (hb2.block _ (by omega))⟩, ⟨_, hv2, ?_, trivial⟩, hB.trans (hb2.mono hB.size), hW4⟩
      rw [HR.out, HC.out]
      simpa using hrow2
  case done =>
    rintro D ys W hD hys ⟨⟨v, hv, hrow, _⟩, hB, hW3⟩ hK
    rw [hys] at hrow
    have hc := hv.cell
    gi_wp2
    refine ⟨by simp, .inl ⟨_, _, rfl, run_takeDeferred hK, ?_⟩⟩
    exact ⟨_, results_tmp rfl _ _ _, v, rfl, isCells_own (ownsRow_putObj hrow _ hK rfl), hB.trans (belowK_b (w := w) (Nat.le_refl _) W D _ _ (by simp at hD; omega) hK rfl rfl)⟩
  case stop =>
    rintro D c pre W _ _ h _
    exact h.elim
end Go.Proofs.YtpjafjnokgeifaaGreatDoor
end
section
namespace Go.Proofs.YtpjafjnokgeifaaGreatDoor
open Go.RowKit Go.Shelf
set_option linter.unusedVariables false
set_option linter.unusedSimpArgs false
attribute [local go_sem] Oper.semAt_some

/-- A tally. -/
def Tally (W : World) (g : Nat) (c e : Nat) : Prop := W.heap[g]? = some (.cells #[.int .i64 (c : Int), .int .i64 (e : Int)] 119 (0, 0))
set_option maxHeartbeats 1000000 in
theorem add_tally (g c e i : Nat) (w : World) (h : Tally w g c e) (hc : c ≤ 1000000000) (hi : i ≤ 1000000000) :
    Calls Tryz.prog 95 #[.pointer (some ⟨g, 0, none⟩), .int .i64 (i : Int)] w fun x w' => (∃ v, x = .returned v) ∧ Tally w' g (c + 1) (i + 1) ∧ KeepsOthers w w' ∧ (∀ b, b ≠ g → w'.heap[b]? = w.heap[b]?) ∧ Below g w w' := by
  have hlt : g < w.heap.size := (Array.getElem?_eq_some_iff.1 h).1
  have c0 : w.cell? ⟨g, 0, none⟩ = some (.int .i64 (c : Int)) := by simp [World.cell?, show w.heap[g]? = _ from h]
  have f0 : w.frozen? ⟨g, 0, none⟩ = false := by simp [World.frozen?, show w.heap[g]? = _ from h]
  have HT := Lib.hid h
  have g1 := heap_setCell_same w g 0 _ _ (.int .i64 ((c : Int) + 1)) h
  have c1 : (w.setCell ⟨g, 0, none⟩ (.int .i64 ((c : Int) + 1))).cell? ⟨g, 1, none⟩ = some (.int .i64 (e : Int)) := by simp [World.cell?, g1]
  have f1 : (w.setCell ⟨g, 0, none⟩ (.int .i64 ((c : Int) + 1))).frozen? ⟨g, 1, none⟩ = false := by simp [World.frozen?, g1]
  have g2 := heap_setCell_same _ g 1 _ _ (.int .i64 ((i : Int) + 1)) g1
  have G2 := Lib.hid g2
  clear g1 g2 h
  go_enter Tryz.func95, Tryz.ntmps95
  go_wp2
  go_end0
  refine ⟨⟨_, rfl⟩, ?_, (KeepsOthers.setCell _ _ _).trans (KeepsOthers.setCell _ _ _), fun b hb => (Below.heap_setCell _ ⟨g, 1, none⟩ _ b hb).trans (Below.heap_setCell w ⟨g, 0, none⟩ _ b hb), ((Below.refl g w).setCell (p := ⟨g, 0, none⟩) (Nat.le_refl _) _).setCell (p := ⟨g, 1, none⟩) (Nat.le_refl _) _⟩
  exact G2.out
theorem ownFrom_block {β : Type} {B b : Nat} (hb : b < B) (X : β → Obj) : OwnFrom B (fun s W => W.heap[b]? = some (X s)) := fun s W W' row hs hg hr =>
  (hg.block b (Array.getElem?_eq_some_iff.1 hs).1 (fun e => by have := (hr b e.symm).1; omega)).trans hs

def tcnt (p : Nat → Bool) (pre : List Nat) : Nat := (pre.filter p).length
def tend (p : Nat → Bool) (pre : List Nat) : Nat := pre.foldl (fun a i => if p i = true then i + 1 else a) 0
theorem tcnt_le (p : Nat → Bool) (pre : List Nat) : tcnt p pre ≤ pre.length := List.length_filter_le _ _

set_option maxRecDepth 100000 in
set_option maxHeartbeats 2000000 in
theorem mark_any (s : List UInt8) (n : Int) (fs g : Nat) (P : List UInt8 → Bool) (w : World) (hs : s.length ≤ 1000000) (hz : szN n ≤ 2056 ∨ roomN s n = 0) (hg : Tally w g 0 0) (hen : Enters Tryz.prog fs)
    (hsuch : ∀ (t : List UInt8) (W : World), t.length ≤ 2056 → Calls Tryz.prog fs #[.string ⟨t.toArray⟩] W fun e W' => e = .returned (.bool (P t)) ∧ Below W.heap.size W W') :
    Calls Tryz.prog 92 #[.string ⟨s.toArray⟩, .int .i64 n, .func (.func fs) #[] #[], .func (.func 95) #[.pointer (some ⟨g, 0, none⟩)] #[]] w fun e W' => (∃ v, e = .returned v) ∧
      Tally W' g (tcnt (fun i => P (slotL s n i)) (List.range (roomN s n))) (tend (fun i => P (slotL s n i)) (List.range (roomN s n))) ∧ Below g w W' := by
  have hgs : g < w.heap.size := (Array.getElem?_eq_some_iff.1 hg).1
  have hea : Enters Tryz.prog 95 := enters_of Tryz.func95 (by kernel_rfl) rfl
  refine (callsIn_wide (n := 5)).1 ?_
  refine callsIn_of_wp_marks Tryz.func92 rfl trivial ?_ rfl
  simp only [Tryz.ntmps92, List.size_toArray, List.length_cons, List.length_nil, Nat.reduceAdd, Nat.reduceSub, Array.replicate_succ, Array.replicate_zero, List.push_toArray, List.append_toArray, List.nil_append, List.cons_append]
  gi_wp2_with (refine ⟨trivial, (places_in _ s n _).mono ?_⟩; rintro e w' ⟨rfl, rfl⟩)
  have b1 := Boxed.new w 121 (.func (.func fs) #[] #[])
  have b2 := Boxed.new (w.alloc (.cells #[.func (.func fs) #[] #[]] 121)) 108 (.func (.func 95) #[.pointer (some ⟨g, 0, none⟩)] #[])
  have b3 := Boxed.new ((w.alloc (.cells #[.func (.func fs) #[] #[]] 121)).alloc (.cells #[.func (.func 95) #[.pointer (some ⟨g, 0, none⟩)] #[]] 108)) 9 (.string ⟨s.toArray⟩)
  have b4 := Boxed.new (((w.alloc (.cells #[.func (.func fs) #[] #[]] 121)).alloc (.cells #[.func (.func 95) #[.pointer (some ⟨g, 0, none⟩)] #[]] 108)).alloc (.cells #[.string ⟨s.toArray⟩] 9)) 3 (.int .i64 n)
  have hB0 : Below w.heap.size w ((((w.alloc (.cells #[.func (.func fs) #[] #[]] 121)).alloc (.cells #[.func (.func 95) #[.pointer (some ⟨g, 0, none⟩)] #[]] 108)).alloc (.cells #[.string ⟨s.toArray⟩] 9)).alloc (.cells #[.int .i64 n] 3)) := ((((Below.refl _ w).alloc (Nat.le_refl _) _).alloc (by simp) _).alloc (by simp; omega) _).alloc (by simp; omega) _
  simp only [World.size_alloc] at b2 b3 b4 ⊢
  have hrl : roomN s n ≤ 1000000 := Nat.le_trans (roomN_len s n) hs
  have hg4 : Tally _ g 0 0 := (hB0.block g hgs).trans hg
  refine wpIn_rangeFunc_ownG rfl (by decide) (gf := 148) (lb := #[.pointer (some ⟨w.heap.size + 1 + 1, 0, none⟩), .pointer (some ⟨w.heap.size + 1 + 1 + 1, 0, none⟩)]) rfl trivial (enters_of Tryz.func148 (by kernel_rfl) rfl)
    (places_stops 4 (by omega) (w.heap.size + 1 + 1) (w.heap.size + 1 + 1 + 1) s n (by omega) _ (by simp) (b3.alloc _).cell (by simp) b4.cell) (box2_t _ _) (box2_put _ _ _ (by simp) (by simp)) (Below.refl _ _) (fun _ => rfl)
    (fun (pre : List (Fin (roomN s n))) W => W.heap[g]? = some (.cells #[.int .i64 (tcnt (fun i => P (slotL s n i)) (pre.map Fin.val) : Int), .int .i64 (tend (fun i => P (slotL s n i)) (pre.map Fin.val) : Int)] 119 (0, 0)) ∧ W.heap[w.heap.size]? = some (.cells #[.func (.func fs) #[] #[]] 121 (0, 0)) ∧ W.heap[w.heap.size + 1]? = some (.cells #[.func (.func 95) #[.pointer (some ⟨g, 0, none⟩)] #[]] 108 (0, 0)) ∧ Below g w W ∧ w.heap.size + 4 ≤ W.heap.size)
    (fun _ _ _ => False)
    (OwnFrom.and (ownFrom_block (by simp only [World.size_alloc]; omega) _) (OwnFrom.and (ownFrom_block (by simp only [World.size_alloc]; omega) _) (OwnFrom.and (ownFrom_block (by simp only [World.size_alloc]; omega) _) (OwnFrom.and (ownFrom_below (Nat.le_of_lt hgs) (by simp; omega)) (fun _ _ _ _ hs hg _ => Nat.le_trans hs hg.size)))))
    (fun _ _ _ _ _ hs _ _ => hs)
    ⟨hg4, ((b1.alloc _).alloc _).alloc _, (b2.alloc _).alloc _, hB0.mono (Nat.le_of_lt hgs), by simp⟩
    (fun x : Fin (roomN s n) => { tmps := #[.string ⟨s.toArray⟩, .int .i64 n, .func (.func fs) #[] #[], .func (.func 95) #[.pointer (some ⟨g, 0, none⟩)] #[], undef, undef, .pointer (some ⟨w.heap.size, 0, none⟩), .pointer (some ⟨w.heap.size + 1, 0, none⟩), .int .i64 (x.val : Int), .string ⟨(slotL s n x.val).toArray⟩, .string ⟨s.toArray⟩, .int .i64 n, .func (.func 148) #[] #[.pointer (some ⟨w.heap.size + 1 + 1, 0, none⟩), .pointer (some ⟨w.heap.size + 1 + 1 + 1, 0, none⟩)], .int .i64 (x.val : Int), .string ⟨(slotL s n x.val).toArray⟩, undef, undef, undef, undef, undef, undef], defers := [] }) ?assign ?body ?done ?stop
  case assign =>
    intro l x W K hK
    simp only [encPl]
    gi_wp2
    exact hK
  case body =>
    rintro l pre x W ⟨hT, h1, h2, hB, hW3⟩ hlt
    have hle : (slotL s n x.val).length ≤ 2056 := by
      rcases hz with h | h
      · exact Nat.le_trans (by simp only [slotL, List.length_take]; omega) h
      · omega
    have hpl := tcnt_le (fun i => P (slotL s n i)) (pre.map Fin.val)
    rw [List.length_map] at hpl
    have hxl : x.val ≤ 1000000 := by have := x.isLt; omega
    have HX := Lib.hid (show tcnt (fun i => P (slotL s n i)) ((pre ++ [x]).map Fin.val) = tcnt (fun i => P (slotL s n i)) (pre.map Fin.val) + (if P (slotL s n x.val) = true then 1 else 0) by simp [tcnt, List.filter_append, List.filter_cons]; split <;> simp)
    have HY := Lib.hid (show tend (fun i => P (slotL s n i)) ((pre ++ [x]).map Fin.val) = (if P (slotL s n x.val) = true then x.val + 1 else tend (fun i => P (slotL s n i)) (pre.map Fin.val)) by simp [tend])
    generalize slotL s n x.val = t at *
    generalize tcnt (fun i => P (slotL s n i)) (pre.map Fin.val) = c at *
    generalize tend (fun i => P (slotL s n i)) (pre.map Fin.val) = d at *
    generalize x.val = xv at *
    have c1 := Boxed.cell h1
    have hcf : ∀ (args : Array Value) (w : World), (callFunc fs args).run Tryz.prog w = .ok (.enter fs args) w := hen
    cases hP : P t with
    | false =>
      rw [hP] at HX HY
      have HP := Lib.hid hP
      clear hP
      gi_wp2_with (refine ⟨trivial, ((callsIn_wide.2 (hsuch t _ hle)).inRound l).mono ?_⟩; rintro e W2 ⟨rfl, hb2⟩; rw [HP.out])
      refine ⟨(keepsOthers_below hb2).from _, ⟨cell_of_block (hb2.block _ (by omega)), cell_of_block (hb2.block _ (by omega))⟩, ?_, (hb2.block _ (by omega)).trans h1, (hb2.block _ (by omega)).trans h2, hB.trans (hb2.mono (Nat.le_of_lt (by have := hB.size; omega))), Nat.le_trans hW3 hb2.size⟩
      rw [HX.out, HY.out]
      exact (hb2.block g (by omega)).trans hT
    | true =>
      rw [hP] at HX HY
      have HP := Lib.hid hP
      clear hP
      gi_wp2_with (first
        | (refine ⟨trivial, ((callsIn_wide.2 (hsuch t _ hle)).inRound l).mono ?_⟩; rintro e W2 ⟨rfl, hb2⟩; rw [HP.out]; have hT2 : Tally W2 g c d := (hb2.block g (by omega)).trans hT; have k2 := Boxed.cell (boxed_below h2 hb2))
        | (refine ⟨trivial, ((callsIn_wide.2 (add_tally g c d xv W2 hT2 (by omega) (by omega))).inRound l).mono ?_⟩; rintro e W3 ⟨⟨v9, rfl⟩, hT3, hk3, hbl3, hb3⟩))
      have hs3 := hk3.size
      refine ⟨((keepsOthers_below hb2).trans hk3).from _, ⟨cell_of_block ((hbl3 _ (by omega)).trans (hb2.block _ (by omega))), cell_of_block ((hbl3 _ (by omega)).trans (hb2.block _ (by omega)))⟩, ?_, ((hbl3 _ (by omega)).trans (hb2.block _ (by omega))).trans h1, ((hbl3 _ (by omega)).trans (hb2.block _ (by omega))).trans h2, (hB.trans (hb2.mono (Nat.le_of_lt (by have := hB.size; omega)))).trans hb3, Nat.le_trans hW3 (Nat.le_trans hb2.size hs3)⟩
      rw [HX.out, HY.out]
      exact hT3
  case done =>
    rintro D ys W hD hys ⟨hT, h1, h2, hB, hW3⟩ hK
    rw [hys] at hT
    gi_wp2
    refine ⟨by simp, .inl ⟨_, _, rfl, run_takeDeferred hK, ?_⟩⟩
    have hDg : D ≠ g := by simp at hD; omega
    exact ⟨_, results_none rfl _ _ _, ⟨_, rfl⟩, (World.putObj_heap_other hDg.symm).trans hT, hB.trans (belowK_b (w := w) (n₀ := g) (Nat.le_of_lt hgs) W D _ _ (by simp at hD; omega) hK rfl rfl)⟩
  case stop =>
    rintro D c pre W _ _ h _
    exact h.elim
end Go.Proofs.YtpjafjnokgeifaaGreatDoor
end
section
namespace Go.Proofs.YtpjafjnokgeifaaGreatDoor
open Go.RowKit Go.Shelf
set_option linter.unusedVariables false
set_option linter.unusedSimpArgs false

theorem clear_l (t : List UInt8) (w : World) (ht : t.length ≤ 1000000000) :
    Calls Tryz.prog 94 #[.string ⟨t.toArray⟩] w fun e w' => e = .returned (.bool (clearL t)) ∧ Below w.heap.size w w' := by
  have h := clear_any ⟨t.toArray⟩ w (by rw [size_mk]; exact ht)
  simpa using h
def isRec (t : List UInt8) : Bool := decide (readE t = 0)
theorem isRecord_any (t : List UInt8) (w : World) (ht : t.length ≤ 2056) :
    Calls Tryz.prog 97 #[.string ⟨t.toArray⟩] w fun e w' => e = .returned (.bool (isRec t)) ∧ Below w.heap.size w w' := by
  rcases readE_cases t with ⟨h0, _⟩ | ⟨h0, _⟩
  all_goals
    have HE := Lib.hid h0
    have HR := Lib.hid (show isRec t = decide (readE t = 0) from rfl)
    clear h0
    go_enter Tryz.func97, Tryz.ntmps97
    go_wp2_with fail
    ((with_reducible refine (read_any t _ ht).mono ?_); rintro e w1 ⟨rfl, hb⟩)
    rw [HE.out]
    have HB := Lib.hid hb
    clear hb
    go_wp2
    go_ret
    exact ⟨by rw [HR.out, HE.out]; rfl, HB.out⟩
def badP (t : List UInt8) : Bool := !clearL t && !isRec t
def nextP (t : List UInt8) : Bool := !clearL t
theorem next1_any (t : List UInt8) (w : World) (ht : t.length ≤ 2056) :
    Calls Tryz.prog 93 #[.string ⟨t.toArray⟩] w fun e w' => e = .returned (.bool (nextP t)) ∧ Below w.heap.size w w' := by
  have HR := Lib.hid (show nextP t = !clearL t from rfl)
  go_enter Tryz.func93, Tryz.ntmps93
  go_wp2_with fail
  ((with_reducible refine (clear_l t _ (by omega)).mono ?_); rintro e w1 ⟨rfl, hb⟩)
  have HB := Lib.hid hb
  clear hb
  go_wp2
  go_ret
  exact ⟨by rw [HR.out]; rfl, HB.out⟩
theorem bad1_any (t : List UInt8) (w : World) (ht : t.length ≤ 2056) :
    Calls Tryz.prog 96 #[.string ⟨t.toArray⟩] w fun e w' => e = .returned (.bool (badP t)) ∧ Below w.heap.size w w' := by
  have HR := Lib.hid (show badP t = (!clearL t && !isRec t) from rfl)
  cases hc : clearL t with
  | true =>
    have HC := Lib.hid hc
    clear hc
    go_enter Tryz.func96, Tryz.ntmps96
    go_wp2_with fail
    ((with_reducible refine (clear_l t _ (by omega)).mono ?_); rintro e w1 ⟨rfl, hb⟩)
    rw [HC.out]
    have HB := Lib.hid hb
    clear hb
    go_wp2
    go_ret
    exact ⟨by rw [HR.out, HC.out]; rfl, HB.out⟩
  | false =>
    have HC := Lib.hid hc
    clear hc
    go_enter Tryz.func96, Tryz.ntmps96
    go_wp2_with fail
    ((with_reducible refine (clear_l t _ (by omega)).mono ?_); rintro e w1 ⟨rfl, hb⟩)
    rw [HC.out]
    have HB := Lib.hid hb
    clear hb
    go_wp2_with fail
    ((with_reducible refine (isRecord_any t _ ht).mono ?_); rintro e w2 ⟨rfl, hb⟩)
    have HB2 := Lib.hid (HB.out.trans (hb.mono HB.out.size))
    clear hb
    go_wp2
    go_ret
    exact ⟨by rw [HR.out, HC.out]; rfl, HB2.out⟩
/-- How many places are neither records nor clear; one more than the last that is not clear. -/
def badN (s : List UInt8) (n : Int) : Nat := tcnt (fun i => badP (slotL s n i)) (List.range (roomN s n))
def nextN (s : List UInt8) (n : Int) : Nat := tend (fun i => nextP (slotL s n i)) (List.range (roomN s n))
theorem tally_new (w : World) : Tally (w.alloc (.cells #[.int .i64 0, .int .i64 0] 119)) w.heap.size 0 0 := by
  show (w.heap.push _)[w.heap.size]? = _
  simp
set_option maxHeartbeats 1000000 in
theorem bad_any (s : List UInt8) (n : Int) (w : World) (hs : s.length ≤ 1000000) (hz : szN n ≤ 2056 ∨ roomN s n = 0) :
    Calls Tryz.prog 43 #[.string ⟨s.toArray⟩, .int .i64 n] w fun e w' => e = .returned (.int .i64 (badN s n : Int)) ∧ Below w.heap.size w w' := by
  have hB0 : Below w.heap.size w (w.alloc (.cells #[.int .i64 0, .int .i64 0] 119)) := (Below.refl _ _).alloc (Nat.le_refl _) _
  have HB := Lib.hid hB0
  clear hB0
  go_enter Tryz.func43, Tryz.ntmps43
  go_wp2_with fail
  ((with_reducible refine (mark_any s n 96 w.heap.size badP _ hs hz (tally_new w) (enters_of Tryz.func96 (by kernel_rfl) rfl) (fun t W ht => bad1_any t W ht)).mono ?_); rintro e W1 ⟨⟨v9, rfl⟩, hT, hb⟩)
  have HB2 := Lib.hid (HB.out.trans hb)
  have k0 : W1.cell? ⟨w.heap.size, 0, none⟩ = some (.int .i64 (badN s n : Int)) := by
    have h : W1.heap[w.heap.size]? = _ := hT
    simp only [World.cell?, h]
    rfl
  clear hT hb
  go_wp2
  go_ret
  exact ⟨rfl, HB2.out⟩
set_option maxHeartbeats 1000000 in
theorem next_any (s : List UInt8) (n : Int) (w : World) (hs : s.length ≤ 1000000) (hz : szN n ≤ 2056 ∨ roomN s n = 0) :
    Calls Tryz.prog 42 #[.string ⟨s.toArray⟩, .int .i64 n] w fun e w' => e = .returned (.int .i64 (nextN s n : Int)) ∧ Below w.heap.size w w' := by
  have hB0 : Below w.heap.size w (w.alloc (.cells #[.int .i64 0, .int .i64 0] 119)) := (Below.refl _ _).alloc (Nat.le_refl _) _
  have HB := Lib.hid hB0
  clear hB0
  go_enter Tryz.func42, Tryz.ntmps42
  go_wp2_with fail
  ((with_reducible refine (mark_any s n 93 w.heap.size nextP _ hs hz (tally_new w) (enters_of Tryz.func93 (by kernel_rfl) rfl) (fun t W ht => next1_any t W ht)).mono ?_); rintro e W1 ⟨⟨v9, rfl⟩, hT, hb⟩)
  have HB2 := Lib.hid (HB.out.trans hb)
  have k0 : W1.cell? ⟨w.heap.size, 1, none⟩ = some (.int .i64 (nextN s n : Int)) := by
    have h : W1.heap[w.heap.size]? = _ := hT
    simp only [World.cell?, h]
    rfl
  clear hT hb
  go_wp2
  go_ret
  exact ⟨rfl, HB2.out⟩
end Go.Proofs.YtpjafjnokgeifaaGreatDoor
end
section
namespace Go.Proofs.YtpjafjnokgeifaaGreatDoor
open Go.RowKit
set_option linter.unusedVariables false
set_option linter.unusedSimpArgs false
noncomputable def pcopyOps : Array Oper := regionOf Tryz.f49 1
set_option maxRecDepth 100000 in
set_option maxHeartbeats 1000000 in
theorem pcopied_region (Q : Exit → Act → World → Prop) (a0 : Act) (w0 : World) (hsz : a0.tmps.size = 12) (g : Nat) (pages : List (List UInt8)) (wear : List Int) (vp vw v2 v3 v4 : Value)
    (h1 : a0.tmps.getD 1 undef = .pointer (some ⟨g, 0, none⟩)) (hc : Cells5 w0 g vp vw v2 v3 v4) (hf : Free5 w0 g) (hp : isCells (pages.map strC) vp w0) (hw : isCells (wear.map intC) vw w0)
    (hl1 : pages.length * 16 ≤ 140737488355328) (hl2 : wear.length * 8 ≤ 140737488355328)
    (hQ : ∀ (a : Act) (w1 : World) (vp' vw' : Value), a.defers = a0.defers → a.tmps.size = a0.tmps.size → (∀ t, (pcopyOps.toList.all fun o => o.dst != some t) = true → a.tmps.getD t undef = a0.tmps.getD t undef) →
      Below w0.heap.size w0 w1 → isOwn w0.heap.size 9 (pages.map strC) vp' w1 → isOwn w0.heap.size 3 (wear.map intC) vw' w1 → Q .normal a ((w1.setCell ⟨g, 0, none⟩ vp').setCell ⟨g, 1, none⟩ vw')) :
    (Code.region 1 pcopyOps true).wp Tryz.prog Q a0 w0 := by
  refine wp_region_tail 7 mixed (by rw [hsz]; kernel_rfl) (by kernel_rfl) ?_
  rw [show pcopyOps.size - 7 = 3 by kernel_rfl]
  refine ⟨isVal (.pointer (some ⟨g, 0, none⟩)), step_field 25 (.tmp 1) 0 ⟨g, 0, none⟩ ⟨g, 0, none⟩ (by kernel_rfl) (wanted_none (by kernel_rfl)) (knows_old 1 (.pointer (some ⟨g, 0, none⟩)) (by kernel_rfl) h1) (field_fl g 0 (by omega)), ?_⟩
  refine ⟨isVal vp, step_read 22 (.tmp 3) ⟨g, 0, none⟩ vp (by kernel_rfl) (wanted_none (by kernel_rfl)) (knows_new (V := isVal (.pointer (some ⟨g, 0, none⟩))) 3 0 (by kernel_rfl) (by kernel_rfl) (by kernel_rfl)) hc.2.1 hc.1 agg_strs, ?_⟩
  refine ⟨(isOwn w0.heap.size 9 (pages.map strC)), step_call 101 #[.tmp 4] #[22] #[vp] (by kernel_rfl) (wanted_none (by kernel_rfl)) (stable_own _ _ _) (args1 (.tmp 4) vp (knows_new (V := isVal vp) 4 1 (by kernel_rfl) (by kernel_rfl) (by kernel_rfl))) (enters_of Tryz.func101 (by kernel_rfl) rfl) (by intro w hb; exact clone_s' w0.heap.size pages vp w (stable_cells _ _ _ _ hp hb) hl1 hb.size), ?_⟩
  refine ⟨isVal (.pointer (some ⟨g, 1, none⟩)), step_field 25 (.tmp 1) 1 ⟨g, 0, none⟩ ⟨g, 1, none⟩ (by kernel_rfl) (wanted_none (by kernel_rfl)) (knows_old 1 (.pointer (some ⟨g, 0, none⟩)) (by kernel_rfl) h1) (field_fl g 1 (by omega)), ?_⟩
  refine ⟨isVal vw, step_read 23 (.tmp 6) ⟨g, 1, none⟩ vw (by kernel_rfl) (wanted_none (by kernel_rfl)) (knows_new (V := isVal (.pointer (some ⟨g, 1, none⟩))) 6 3 (by kernel_rfl) (by kernel_rfl) (by kernel_rfl)) hc.2.2.1 hc.1 agg_ints, ?_⟩
  refine ⟨(isOwn w0.heap.size 3 (wear.map intC)), step_call 102 #[.tmp 7] #[23] #[vw] (by kernel_rfl) (wanted_none (by kernel_rfl)) (stable_own _ _ _) (args1 (.tmp 7) vw (knows_new (V := isVal vw) 7 4 (by kernel_rfl) (by kernel_rfl) (by kernel_rfl))) (enters_of Tryz.func102 (by kernel_rfl) rfl) (by intro w hb; exact clone_i' w0.heap.size wear vw w (stable_cells _ _ _ _ hw hb) hl2 hb.size), ?_⟩
  refine ⟨isVal (.pointer (some ⟨g, 0, none⟩)), step_field 25 (.tmp 1) 0 ⟨g, 0, none⟩ ⟨g, 0, none⟩ (by kernel_rfl) (wanted_none (by kernel_rfl)) (knows_old 1 (.pointer (some ⟨g, 0, none⟩)) (by kernel_rfl) h1) (field_fl g 0 (by omega)), ?_⟩
  intro a w hk hb hd
  have d5 := fdone_of (hd 2 (by decide)) (t := 5) (V := isOwn w0.heap.size 9 (pages.map strC)) (by kernel_rfl) (by kernel_rfl)
  have d8 := fdone_of (hd 5 (by decide)) (t := 8) (V := isOwn w0.heap.size 3 (wear.map intC)) (by kernel_rfl) (by kernel_rfl)
  have d9 := fdone_of (hd 6 (by decide)) (t := 9) (V := isVal (.pointer (some ⟨g, 0, none⟩))) (by kernel_rfl) (by kernel_rfl)
  have e1 : a.tmps.getD 1 undef = .pointer (some ⟨g, 0, none⟩) := (hk.2.2 1 (by kernel_rfl)).trans h1
  have hcw := hc.keep hb hc.1
  have hfw := hf.keep hb hc.1
  have hgw : g < w0.heap.size := hc.1
  have hs10 : 10 < a.tmps.size := by rw [hk.2.1, hsz]; decide
  refine tail_store 22 (.tmp 9) (.tmp 5) ⟨g, 0, none⟩ (a.tmps.getD 5 undef) _ (by kernel_rfl) (by kernel_rfl) d9 rfl (by kernel_rfl) d5.one.1 d5.one.2 hcw.2.1 (hfw 0) ?_
  refine tail_field 25 (.tmp 1) 1 ⟨g, 0, none⟩ ⟨g, 1, none⟩ 10 (by kernel_rfl) (by kernel_rfl) e1 (field_fl g 1 (by omega)) ?_
  refine tail_store 23 (.tmp 10) (.tmp 8) ⟨g, 1, none⟩ (a.tmps.getD 8 undef) _ (by kernel_rfl) (by kernel_rfl) (getD_put_self hs10) (getD_put (by decide)) (by kernel_rfl) d8.one.1 d8.one.2 (hcw.set0 _).2.2.1 (hfw.set _ _ 1) ?_
  refine hQ _ w _ _ ((defers_put (a := a)).trans hk.1) ((size_put (a := a)).trans hk.2.1) (fun t ht => ?_) hb d5 d8
  have hall : (pcopyOps.toList.all fun o => o.dst != some 10) = false := by kernel_rfl
  rw [getD_put (fun e => by rw [e, hall] at ht; cases ht)]
  exact hk.2.2 t ht

set_option maxRecDepth 100000 in
set_option maxHeartbeats 1000000 in
theorem pcopied_any (F : Fl) (v : Value) (w : World) (hv : isFl F v w) (h1 : F.pages.length * 16 ≤ 140737488355328) (h2 : F.wear.length * 8 ≤ 140737488355328) :
    Calls Tryz.prog 49 #[v] w fun e w' => ∃ vp vw, e = .returned (.agg #[vp, vw, .int .i64 F.fuse, strC F.torn, .bool F.dead]) ∧ isOwn w.heap.size 9 (F.pages.map strC) vp w' ∧ isOwn w.heap.size 3 (F.wear.map intC) vw w' ∧ Below w.heap.size w w' := by
  obtain ⟨vp, vw, rfl, hp, hw⟩ := hv
  have HP := Lib.hid hp
  have HW := Lib.hid hw
  clear hp hw
  go_enter Tryz.func49, Tryz.ntmps49
  go_wp2_with fail
  have hb0 : Below w.heap.size w ((w.alloc (.cells #[vp, vw, .int .i64 F.fuse, strC F.torn, .bool F.dead] 25)).alloc (.cells #[.slice none 0 0, .slice none 0 0, .int .i64 0, .string ⟨#[]⟩, .bool false] 25)) := ((Below.refl _ _).alloc (Nat.le_refl _) _).alloc (by simp <;> omega) _
  have hc1 := cells5_new w 25 vp vw (.int .i64 F.fuse) (strC F.torn) (.bool F.dead)
  have hf1 := free5_new w #[vp, vw, .int .i64 F.fuse, strC F.torn, .bool F.dead] 25
  have hc2 := cells5_at (w.alloc (.cells #[vp, vw, .int .i64 F.fuse, strC F.torn, .bool F.dead] 25)) 25 (.slice none 0 0) (.slice none 0 0) (.int .i64 0) (.string ⟨#[]⟩) (.bool false) (w.heap.size + 1) (by simp)
  have hf2 := free5_at (w.alloc (.cells #[vp, vw, .int .i64 F.fuse, strC F.torn, .bool F.dead] 25)) #[.slice none 0 0, .slice none 0 0, .int .i64 0, .string ⟨#[]⟩, .bool false] 25 (w.heap.size + 1) (by simp)
  have hbn := (Below.refl (w.alloc (.cells #[vp, vw, .int .i64 F.fuse, strC F.torn, .bool F.dead] 25)).heap.size (w.alloc (.cells #[vp, vw, .int .i64 F.fuse, strC F.torn, .bool F.dead] 25))).alloc (Nat.le_refl _) (.cells #[.slice none 0 0, .slice none 0 0, .int .i64 0, .string ⟨#[]⟩, .bool false] 25)
  refine pcopied_region _ _ _ rfl w.heap.size F.pages F.wear vp vw (.int .i64 F.fuse) (strC F.torn) (.bool F.dead) rfl (hc1.keep hbn (by simp <;> omega)) (hf1.keep hbn (by simp <;> omega)) (stable_cells _ _ _ _ HP.out hb0) (stable_cells _ _ _ _ HW.out hb0) h1 h2 ?_
  intro act w1 vp' vw' hdf hsz hkeep hb1 ho1 ho2
  have hk1 : act.tmps.getD 1 undef = .pointer (some ⟨w.heap.size, 0, none⟩) := hkeep 1 (by kernel_rfl)
  have hk2 : act.tmps.getD 2 undef = .pointer (some ⟨w.heap.size + 1, 0, none⟩) := hkeep 2 (by kernel_rfl)
  obtain ⟨tm, df⟩ := act
  obtain rfl : df = [] := hdf
  clear hkeep
  obtain ⟨f, rfl, hk1, hk2⟩ : ∃ f : Nat → Value, tm = ((List.range 12).map f).toArray ∧ f 1 = .pointer (some ⟨w.heap.size, 0, none⟩) ∧ f 2 = .pointer (some ⟨w.heap.size + 1, 0, none⟩) := ⟨fun i => tm.getD i undef, arr_eta tm hsz, hk1, hk2⟩
  rw [show ((List.range 12).map f).toArray = #[f 0, f 1, f 2, f 3, f 4, f 5, f 6, f 7, f 8, f 9, f 10, f 11] from rfl]
  rw [hk1, hk2]
  clear hsz hk1 hk2
  have q1 := (((hc1.keep hbn (by simp <;> omega)).keep hb1 (by simp <;> omega)).set0 vp').set1 vw'
  have q2 := (((hc2.keep hb1 (by simp <;> omega)).apart (b := w.heap.size) (o := 0) vp' (by simp <;> omega)).apart (b := w.heap.size) (o := 1) vw' (by simp <;> omega))
  have q3 := ((hf2.keep hb1 (by simp <;> omega)).set ⟨w.heap.size, 0, none⟩ vp').set ⟨w.heap.size, 1, none⟩ vw'
  have hB : Below w.heap.size w ((w1.setCell ⟨w.heap.size, 0, none⟩ vp').setCell ⟨w.heap.size, 1, none⟩ vw') := ((hb0.trans (hb1.mono hb0.size)).setCell (p := ⟨w.heap.size, 0, none⟩) (Nat.le_refl _) vp').setCell (p := ⟨w.heap.size, 1, none⟩) (Nat.le_refl _) vw'
  replace ho1 := (ho1.set (p := ⟨w.heap.size, 0, none⟩) (by simp <;> omega) vp').set (p := ⟨w.heap.size, 1, none⟩) (by simp <;> omega) vw'
  replace ho2 := (ho2.set (p := ⟨w.heap.size, 0, none⟩) (by simp <;> omega) vp').set (p := ⟨w.heap.size, 1, none⟩) (by simp <;> omega) vw'
  obtain ⟨oc1, oo1⟩ := ho1.one
  obtain ⟨oc2, oo2⟩ := ho2.one
  generalize (w1.setCell ⟨w.heap.size, 0, none⟩ vp').setCell ⟨w.heap.size, 1, none⟩ vw' = W at *
  have HO1 := Lib.hid ho1
  have HO2 := Lib.hid ho2
  clear ho1 ho2 hc1 hc2 hf1 hf2 hbn hb1 hb0 HP HW
  have hB5 := below_set5 hB (g := w.heap.size + 1) (by omega) vp' vw' (.int .i64 F.fuse) (strC F.torn) (.bool F.dead)
  obtain ⟨g1, k0, k1, k2, k3, k4⟩ := q1
  obtain ⟨g2, j0, j1, j2, j3, j4⟩ := q2.set5_ vp' vw' (.int .i64 F.fuse) (strC F.torn) (.bool F.dead)
  have HQ2 := Lib.hid q2
  have HQ5 := Lib.hid (q2.set5_ vp' vw' (.int .i64 F.fuse) (strC F.torn) (.bool F.dead))
  have HQ3 := Lib.hid q3
  clear q2 q3
  have HP1 := Lib.hid (show isOwn w.heap.size 9 (F.pages.map strC) vp' (set5 W (w.heap.size + 1) vp' vw' (.int .i64 F.fuse) (strC F.torn) (.bool F.dead)) from (HO1.out.set5_ (by simp <;> omega) _ _ _ _ _).low (by simp <;> omega))
  have HP2 := Lib.hid (show isOwn w.heap.size 3 (F.wear.map intC) vw' (set5 W (w.heap.size + 1) vp' vw' (.int .i64 F.fuse) (strC F.torn) (.bool F.dead)) from (HO2.out.set5_ (by simp <;> omega) _ _ _ _ _).low (by simp <;> omega))
  go_wp2_with (refine wpList_store5 rfl _ _ rfl (w.heap.size + 1) vp' vw' (.int .i64 F.fuse) (strC F.torn) (.bool F.dead) rfl rfl HQ2.out HQ3.out oo1 oo2 rfl rfl rfl ?_)
  exact bodyPost_ret (results1 rfl _ _ (w.heap.size + 1) vp' vw' (.int .i64 F.fuse) (strC F.torn) (.bool F.dead) rfl HQ5.out) rfl ⟨_, _, rfl, HP1.out, HP2.out, hB5⟩
end Go.Proofs.YtpjafjnokgeifaaGreatDoor
end
section
namespace Go.Proofs.YtpjafjnokgeifaaGreatDoor
open Go.RowKit
set_option linter.unusedVariables false
set_option linter.unusedSimpArgs false

set_option maxRecDepth 20000 in
set_option maxHeartbeats 1000000 in
theorem phas_any (F : Fl) (n : Int) (v : Value) (w : World) (hv : isFl F v w) (h1 : F.pages.length ≤ 1000000) (h2 : F.wear.length ≤ 1000000) :
    Calls Tryz.prog 48 #[v, .int .i64 n] w fun e w' => e = .returned (.bool (hasB F n)) ∧ Below w.heap.size w w' := by
  have HF := Lib.hid hv
  obtain ⟨vp, vw, rfl, hp, hw⟩ := hv
  obtain ⟨a, cap, hva⟩ := hp.len
  rw [List.length_map] at hva
  clear hp hw
  subst hva
  have HM := Lib.hid (show hasB F n = (mayB F && decide (0 ≤ n) && decide (n < F.pages.length)) from rfl)
  unfold strC at HF ⊢
  go_enter Tryz.func48, Tryz.ntmps48
  go_wp2_with fail
  have hb0 : Below w.heap.size w (w.alloc (.cells #[.slice a F.pages.length cap, vw, .int .i64 F.fuse, .string ⟨F.torn.toArray⟩, .bool F.dead] 25)) := (Below.refl _ _).alloc (Nat.le_refl _) _
  refine (check_any F _ _ (stable_fl _ _ _ _ HF.out hb0) (by omega) (by omega)).mono ?_
  rintro e w2 ⟨rfl, hb1⟩
  obtain ⟨hg, k0, k1, k2, k3, k4⟩ := (cells5_new w 25 (.slice a F.pages.length cap) vw (.int .i64 F.fuse) (.string ⟨F.torn.toArray⟩) (.bool F.dead)).keep hb1 (by simp)
  have hB := hb0.trans (hb1.mono hb0.size)
  clear hb1
  cases c1 : mayB F with
  | false =>
    have HE := Lib.hid (show checkE F = 1 by unfold checkE; rw [c1]; rfl)
    rw [HE.out]
    go_wp2
    go_ret
    exact ⟨by rw [HM.out, c1]; rfl, hB⟩
  | true =>
    have HE := Lib.hid (show checkE F = 0 by unfold checkE; rw [c1]; rfl)
    rw [HE.out]
    by_cases c2 : 0 ≤ n
    · have c2' : decide (0 ≤ n) = true := by simpa using c2
      go_wp2
      go_ret
      exact ⟨by rw [HM.out, c1, c2']; rfl, hB⟩
    · have c2' : decide (0 ≤ n) = false := by simpa using c2
      go_wp2
      go_ret
      exact ⟨by rw [HM.out, c1, c2']; rfl, hB⟩
end Go.Proofs.YtpjafjnokgeifaaGreatDoor
end
section
namespace Go.Proofs.YtpjafjnokgeifaaGreatDoor
open Go.RowKit
set_option linter.unusedVariables false
set_option linter.unusedSimpArgs false

/-- The slot of which an operation's word speaks: what it writes, or the pointer through which it stores. -/
def slotOf (o : Oper) : Option Tmp := match o.dst with
  | some t => some t
  | none => match o.op with
    | .store _ (.tmp s) _ => some s
    | _ => none
def wordOf (o : Oper) (a : Act) : Value := match slotOf o with
  | some t => a.tmps.getD t undef
  | none => undef
/-- A store waits for who wrote its pointer. -/
def linkOk (ops : Array Oper) : Bool := (List.range ops.size).all fun j => (ops[j]?).all fun o => o.dst.isSome || match slotOf o with
  | some s => (List.range ops.size).all fun m => (ops[m]?).all fun om => om.dst != some s || waits ops j m
  | none => true
theorem linkOk_spec {ops : Array Oper} (h : linkOk ops = true) {j m : Nat} {o om : Oper} {s : Tmp} (hj : ops[j]? = some o) (hd : o.dst = none) (hs : slotOf o = some s) (hm : ops[m]? = some om) (hdm : om.dst = some s) : waits ops j m = true := by
  unfold linkOk at h
  rw [List.all_eq_true] at h
  have h1 := h j (by simpa using (Array.getElem?_eq_some_iff.1 hj).1)
  rw [hj] at h1
  simp only [Option.all_some, hd, Option.isSome_none, Bool.false_or, hs, List.all_eq_true] at h1
  have h2 := h1 m (by simpa using (Array.getElem?_eq_some_iff.1 hm).1)
  rw [hm] at h2
  simpa [hdm] using h2

section
variable (R : World → World → Prop) (P : Program) (ops : Array Oper) (base : World) (a0 : Act) (Q : Exit → Act → World → Prop)
def LDone (kn : Nat → VP) (a : Act) (w : World) (j : Nat) : Prop := ∀ o, ops[j]? = some o → kn j (wordOf o a) w
def LDeps (kn : Nat → VP) (i : Nat) (a : Act) (w : World) : Prop := ∀ o, ops[i]? = some o → ∀ e ∈ o.after.toList, Region.binds .any e = true → LDone ops kn a w e.on
def LStep (kn : Nat → VP) (i : Nat) (V : VP) : Prop := StableR R V ∧ ∀ o, ops[i]? = some o → ∀ a w, FKept ops a0 a → R base w → LDeps ops kn i a w →
  wpOp P ops Q i (fun a' w' => ∃ v, a' = a.put o.dst v ∧ V (wordOf o a') w' ∧ R w w') a w
def LFlow : Nat → Nat → (Nat → VP) → Prop
  | 0, _, kn => ∀ a w, FKept ops a0 a → R base w → (∀ j, j < ops.size → LDone ops kn a w j) → Q .normal a w
  | k + 1, i, kn => ∃ V, LStep R P ops base a0 Q kn i V ∧ LFlow k (i + 1) (upd kn i V)
end

section
variable {R : World → World → Prop} {P : Program} {ops : Array Oper} {base : World} {a0 : Act} {Q : Exit → Act → World → Prop}
theorem ldone_congr {kn kn' : Nat → VP} {a : Act} {w : World} {j : Nat} (h : kn j = kn' j) (hd : LDone ops kn a w j) : LDone ops kn' a w j := by
  intro o ho
  rw [← h]
  exact hd o ho
theorem ldone_f {kn : Nat → VP} {a : Act} {w : World} {j : Nat} (h : LDone ops kn a w j) : FDone ops kn a w j := by
  intro o ho t ht
  have := h o ho
  simpa [wordOf, slotOf, ht] using this
/-- An operation that only reads, or makes memory. -/
theorem LStep.of {kn : Nat → VP} {i : Nat} {V : VP} (hR : Pre R) (hok : flowOk ops a0.tmps.size = true) (hst : StableR R V) (hd : ((ops[i]?).bind (·.dst)).isSome = true) (h : ∀ w, R base w → FStep P ops w a0 Q kn i V) : LStep R P ops base a0 Q kn i V := by
  refine ⟨hst, fun o ho a w hk hb hdp => ?_⟩
  refine wpOp_mono ?_ ((h w hb).2 o ho a w hk (Below.refl _ _) (fun o' ho' e he hbd => ldone_f (hdp o' ho' e he hbd)))
  rintro a' w' ⟨v, e, hV, hbw⟩
  refine ⟨v, e, ?_, hR.grow _ _ hbw⟩
  rw [ho] at hd
  cases hdst : o.dst with
  | none => simp [hdst] at hd
  | some t =>
    subst e
    simp only [wordOf, slotOf, hdst]
    rw [getD_put_self (by rw [hk.2.1]; exact (flowOk_spec hok).2.2 i o t ho hdst)]
    exact hV

theorem word_put {hok : flowOk ops a0.tmps.size = true} (hlk : linkOk ops = true) {i j : Nat} {o o' : Oper} {a : Act} {v : Value} (ho : ops[i]? = some o) (ho' : ops[j]? = some o') (hne : j ≠ i) (hw : waits ops j i = false) : wordOf o' (a.put o.dst v) = wordOf o' a := by
  obtain ⟨ok1, ok2, ok3⟩ := flowOk_spec hok
  unfold wordOf
  cases hs : slotOf o' with
  | none => rfl
  | some s =>
    simp only []
    cases hdst : o.dst with
    | none => rfl
    | some t =>
      refine getD_put ?_
      rintro rfl
      cases hd' : o'.dst with
      | some t' =>
        have : t' = s := by simpa [slotOf, hd'] using hs
        subst this
        exact hne (ok2 j i o' o t' ho' ho hd' hdst)
      | none =>
        rw [linkOk_spec hlk ho' hd' hs ho hdst] at hw
        cases hw

theorem wpAny_lay (hR : Pre R) (hok : flowOk ops a0.tmps.size = true) (hlk : linkOk ops = true) {kn : Nat → VP} (hs : ∀ m, m < ops.size → LStep R P ops base a0 Q kn m (kn m)) (he : LFlow R P ops base a0 Q 0 ops.size kn) :
    ∀ (u fuel : Nat) (listed : Array Bool) (a : Act) (w : World), listed.size = ops.size → ((List.range ops.size).filter fun i => !listed.getD i false).length ≤ u → u ≤ fuel → (∀ j, listed.getD j false = true → ∀ m, waits ops j m = true → listed.getD m false = true) →
      FKept ops a0 a → R base w → (∀ j, listed.getD j false = true → LDone ops kn a w j) → wpAny P .any ops Q fuel listed a w := by
  obtain ⟨ok1, ok2, ok3⟩ := flowOk_spec hok
  have fin : ∀ (listed : Array Bool) (a : Act) (w : World) (fuel : Nat), listed.size = ops.size → (∀ j, j < ops.size → listed.getD j false = true) → FKept ops a0 a → R base w → (∀ j, listed.getD j false = true → LDone ops kn a w j) → wpAny P .any ops Q fuel listed a w := by
    intro listed a w fuel hl hall hk hb hd
    have hr : Region.ready .any ops listed = [] := by
      apply List.eq_nil_iff_forall_not_mem.2
      intro j hj
      have := ready_un hl hj
      rw [hall j this.1] at this
      simp at this
    have hq : Q .normal a w := he a w hk hb (fun j hj => hd j (hall j hj))
    cases fuel with
    | zero => exact ⟨hr, hq⟩
    | succ fuel => exact ⟨fun _ => hq, fun j hj => by rw [hr] at hj; cases hj⟩
  intro u
  induction u with
  | zero =>
    intro fuel listed a w hl hu hf hcl hk hb hd
    refine fin listed a w fuel hl (fun j hj => ?_) hk hb hd
    have h0 : ((List.range ops.size).filter fun i => !listed.getD i false) = [] := List.eq_nil_of_length_eq_zero (by omega)
    rw [List.filter_eq_nil_iff] at h0
    have := h0 j (by simpa using hj)
    simpa using this
  | succ u ih =>
    intro fuel listed a w hl hu hf hcl hk hb hd
    by_cases hall : ∀ j, j < ops.size → listed.getD j false = true
    · exact fin listed a w fuel hl hall hk hb hd
    · have hex : ∃ m, m < ops.size ∧ listed.getD m false = false ∧ ∀ j, j < m → listed.getD j false = true := by
        have key : ∀ n, n ≤ ops.size → (∀ j, j < n → listed.getD j false = true) ∨ ∃ m, m < n ∧ listed.getD m false = false ∧ ∀ j, j < m → listed.getD j false = true := by
          intro n
          induction n with
          | zero => intro _; exact .inl (fun j hj => absurd hj (by omega))
          | succ n ihn =>
            intro hn
            rcases ihn (by omega) with h | ⟨m, hm, h1, h2⟩
            · cases hc : listed.getD n false with
              | true => exact .inl (fun j hj => by by_cases e : j = n; exact e ▸ hc; exact h j (by omega))
              | false => exact .inr ⟨n, by omega, hc, h⟩
            · exact .inr ⟨m, by omega, h1, h2⟩
        rcases key ops.size (Nat.le_refl _) with h | h
        · exact absurd h hall
        · exact h
      obtain ⟨m, hm, hmu, hmd⟩ := hex
      have hmem : m ∈ Region.ready .any ops listed := ready_of hok hl (by omega) hmu hmd
      cases fuel with
      | zero => omega
      | succ fuel =>
        refine ⟨fun hr => (by rw [hr] at hmem; cases hmem), fun i hi => ?_⟩
        have hiu := ready_un hl hi
        obtain ⟨o, ho⟩ : ∃ o, ops[i]? = some o := ⟨_, Array.getElem?_eq_getElem hiu.1⟩
        have hstep := (hs i hiu.1).2 o ho a w hk hb (by
          intro o' ho' e he' hbd
          rw [ho] at ho'
          cases ho'
          refine hd e.on (waits_ready hi ?_)
          unfold waits
          rw [ho]
          simp only [Option.any_some, List.any_eq_true, Bool.and_eq_true, beq_iff_eq]
          exact ⟨e, he', rfl, hbd⟩)
        refine wpOp_mono ?_ hstep
        rintro a' w' ⟨v, rfl, hV, hbw⟩
        refine ih fuel (listed.setIfInBounds i true) _ w' (by simpa using hl) ?_ (by omega) ?_ ?_ (hR.trans _ _ _ hb hbw) ?_
        · have hsub : ((List.range ops.size).filter fun j => !(listed.setIfInBounds i true).getD j false).length < ((List.range ops.size).filter fun j => !listed.getD j false).length := by
            have e1 : ((List.range ops.size).filter fun j => !(listed.setIfInBounds i true).getD j false) = ((List.range ops.size).filter fun j => !listed.getD j false).filter (fun j => j != i) := by
              rw [List.filter_filter]
              apply List.filter_congr
              intro j hj
              by_cases e : j = i
              · subst e; rw [getD_set_same (by omega)]; simp
              · rw [getD_set_ne e]; simp [e]
            rw [e1]
            refine List.length_filter_lt_length_iff_exists.2 ⟨i, ?_, by simp⟩
            simp only [List.mem_filter, List.mem_range]
            exact ⟨hiu.1, by rw [hiu.2]; rfl⟩
          omega
        · intro j hj m' hwm
          by_cases e : j = i
          · subst e
            have := waits_ready hi hwm
            by_cases e2 : m' = j
            · subst e2; exact getD_set_same (by omega)
            · rw [getD_set_ne e2]; exact this
          · rw [getD_set_ne e] at hj
            by_cases e2 : m' = i
            · subst e2; exact getD_set_same (by omega)
            · rw [getD_set_ne e2]; exact hcl j hj m' hwm
        · refine ⟨by rw [defers_put]; exact hk.1, by rw [size_put]; exact hk.2.1, fun t ht' => ?_⟩
          cases hdst : o.dst with
          | none => simp only [Act.put]; exact hk.2.2 t ht'
          | some s =>
            have : s ≠ t := by
              rintro rfl
              have := List.all_eq_true.1 ht' o (by rw [Array.mem_toList_iff]; exact Array.mem_of_getElem? ho)
              simp [hdst] at this
            rw [getD_put (fun h => this h.symm)]
            exact hk.2.2 t ht'
        · intro j hj o' ho'
          by_cases e : j = i
          · subst e
            rw [ho] at ho'
            cases ho'
            exact hV
          · rw [getD_set_ne e] at hj
            have hold := hd j hj o' ho'
            have hjk : j < ops.size := (Array.getElem?_eq_some_iff.1 ho').1
            refine (hs j hjk).1 _ _ _ ?_ hbw
            have hwf : waits ops j i = false := by
              cases hc : waits ops j i with
              | false => rfl
              | true => have := hcl j hj i hc; rw [hiu.2] at this; cases this
            rw [word_put (hok := hok) hlk ho ho' e hwf]
            exact hold

theorem lay_family {n : Nat} (hok : flowOk ops n = true) : ∀ k i kn, i + k = ops.size → (∀ m, m < i → LStep R P ops base a0 Q kn m (kn m)) → LFlow R P ops base a0 Q k i kn →
    ∃ kn', (∀ m, m < ops.size → LStep R P ops base a0 Q kn' m (kn' m)) ∧ LFlow R P ops base a0 Q 0 ops.size kn'
  | 0, i, kn, hi, hs, hf => ⟨kn, fun m hm => hs m (by omega), hf⟩
  | k + 1, i, kn, hi, hs, ⟨V, hV, hf⟩ => by
    have agree : ∀ m, m ≠ i → upd kn i V m = kn m := fun m hm => by simp [upd, hm]
    have self : upd kn i V i = V := by simp [upd]
    have shift : ∀ m W, m ≤ i → LStep R P ops base a0 Q kn m W → LStep R P ops base a0 Q (upd kn i V) m W := by
      intro m W hm h
      refine ⟨h.1, fun o ho a w hk hb hd => h.2 o ho a w hk hb ?_⟩
      intro o' ho' e he hbd
      have hlt := (flowOk_spec hok).1 m o' ho' e he hbd
      exact ldone_congr (agree e.on (by omega)) (hd o' ho' e he hbd)
    refine lay_family hok k (i + 1) (upd kn i V) (by omega) (fun m hm => ?_) hf
    by_cases hmi : m = i
    · subst hmi; rw [self]; exact shift m V (Nat.le_refl _) hV
    · rw [agree m hmi]; exact shift m _ (by omega) (hs m (by omega))

/-- THE LAW. -/
theorem wp_region_lay (hR : Pre R) {id : Nat} {a : Act} {w : World} (hm : P.follows .mixedOrders = true) (hok : flowOk ops a.tmps.size = true) (hlk : linkOk ops = true)
    (h : LFlow R P ops w a Q ops.size 0 (fun _ _ _ => False)) : (Code.region id ops true).wp P Q a w := by
  refine wp_region_any hm ?_
  obtain ⟨kn, hs, he⟩ := lay_family hok ops.size 0 _ (by omega) (fun m hm => absurd hm (by omega)) h
  refine wpAny_lay hR hok hlk hs he ops.size ops.size _ a _ (by simp) ?_ (by omega) ?_ ⟨rfl, rfl, fun _ _ => rfl⟩ (hR.drew w) ?_
  · exact Nat.le_trans (List.length_filter_le _ _) (by simp)
  · intro j hj
    simp [Array.getD_eq_getD_getElem?, Array.getElem?_replicate] at hj
    split at hj <;> simp at hj
  · intro j hj
    simp [Array.getD_eq_getD_getElem?, Array.getElem?_replicate] at hj
    split at hj <;> simp at hj
end
theorem ldone_of {ops : Array Oper} {kn : Nat → VP} {a : Act} {w : World} {j : Nat} {t : Tmp} {V : VP} (h : LDone ops kn a w j) (hd : (ops[j]?).bind slotOf = some t) (hV : kn j = V) : V (a.tmps.getD t undef) w := by
  cases ho : ops[j]? with
  | none => rw [ho] at hd; simp at hd
  | some o =>
    rw [ho] at hd
    have := h o ho
    rw [hV] at this
    simp only [Option.bind_some] at hd
    simpa [wordOf, hd] using this

/- New structs of one type (T), from block B on: what is nought may come to hold what is told (L). -/
structure Keeps (T : TypeId) (B : Nat) (w w' : World) : Prop where
  size : w.heap.size ≤ w'.heap.size
  block : ∀ b, b < w.heap.size → (b < B ∨ ∀ cs fr, w.heap[b]? ≠ some (.cells cs T fr)) → w'.heap[b]? = w.heap[b]?
theorem Keeps.refl (T : TypeId) (B : Nat) (w : World) : Keeps T B w w := ⟨Nat.le_refl _, fun _ _ _ => rfl⟩
theorem Keeps.trans {T : TypeId} {B : Nat} {a b c : World} (h1 : Keeps T B a b) (h2 : Keeps T B b c) : Keeps T B a c :=
  ⟨Nat.le_trans h1.size h2.size, fun i hi h => by
    have e := h1.block i hi h
    rw [← e]
    exact h2.block i (Nat.lt_of_lt_of_le hi h1.size) (h.imp id fun h cs fr => by rw [e]; exact h cs fr)⟩
theorem Keeps.of {T : TypeId} {B : Nat} {w w' : World} (h : Below w.heap.size w w') : Keeps T B w w' := ⟨h.size, fun b hb _ => h.block b hb⟩
theorem Keeps.cell {T : TypeId} {B : Nat} {w w' : World} (h : Keeps T B w w') {p : Addr} (hp : p.block < B) (hs : p.block < w.heap.size) : w'.cell? p = w.cell? p := by
  simp only [World.cell?, h.block p.block hs (.inl hp)]

structure Laid (T : TypeId) (B : Nat) (L : Array Value → World → Prop) (w w' : World) : Prop where
  os : w'.os = w.os
  tape : w'.tape = w.tape
  output : w'.output = w.output
  keeps : Keeps T B w w'
  typ : ∀ b cs, B ≤ b → w.heap[b]? = some (.cells cs T (0, 0)) → w'.heap[b]? = some (.cells cs T (0, 0)) ∨ ∃ cs', cs'.size = cs.size ∧ L cs' w' ∧ w'.heap[b]? = some (.cells cs' T (0, 0))
def StabK (T : TypeId) (B : Nat) (L : Array Value → World → Prop) : Prop := ∀ cs w w', L cs w → Keeps T B w w' → L cs w'
theorem laid_pre {T : TypeId} {B : Nat} {L : Array Value → World → Prop} (hL : StabK T B L) : Pre (Laid T B L) where
  refl w := ⟨rfl, rfl, rfl, Keeps.refl _ _ _, fun _ _ _ h => .inl h⟩
  trans a b c h1 h2 := ⟨h2.os.trans h1.os, h2.tape.trans h1.tape, h2.output.trans h1.output, h1.keeps.trans h2.keeps, fun i cs hi he => by
    rcases h1.typ i cs hi he with h | ⟨cs', hz, hl, hc⟩
    · exact h2.typ i cs hi h
    · rcases h2.typ i cs' hi hc with h' | ⟨cs'', hz', hl', hc'⟩
      · exact .inr ⟨cs', hz, hL _ _ _ hl h2.keeps, h'⟩
      · exact .inr ⟨cs'', hz'.trans hz, hl', hc'⟩⟩
  grow w w' h := ⟨h.os, h.tape, h.output, Keeps.of h, fun b cs hb he => .inl ((h.block b (Array.getElem?_eq_some_iff.1 he).1).trans he)⟩
  drew w := ⟨rfl, rfl, rfl, ⟨Nat.le_refl _, fun _ _ _ => rfl⟩, fun _ _ _ h => .inl h⟩
theorem Laid.below {T : TypeId} {B : Nat} {L : Array Value → World → Prop} {w w' : World} (h : Laid T B L w w') (hB : B ≤ w.heap.size) : Below B w w' where
  os := h.os
  tape := h.tape
  output := h.output
  size := h.keeps.size
  block b hb := h.keeps.block b (by omega) (.inl hb)
/-- A new block of n cells; one that holds what is told. -/
def isNewB (T : TypeId) (B n : Nat) : VP := fun v w => ∃ g cs, v = .pointer (some ⟨g, 0, none⟩) ∧ B ≤ g ∧ w.heap[g]? = some (.cells cs T (0, 0)) ∧ cs.size = n
def isLaidB (T : TypeId) (B : Nat) (L : Array Value → World → Prop) : VP := fun v w => ∃ g cs, v = .pointer (some ⟨g, 0, none⟩) ∧ B ≤ g ∧ w.heap[g]? = some (.cells cs T (0, 0)) ∧ L cs w
theorem stab_newB {T : TypeId} {B n : Nat} {L : Array Value → World → Prop} : StableR (Laid T B L) (isNewB T B n) := by
  rintro v w w' ⟨g, cs, rfl, hg, hc, h⟩ hr
  rcases hr.typ g cs hg hc with h' | ⟨cs', hz, hl, hc'⟩
  · exact ⟨g, cs, rfl, hg, h', h⟩
  · exact ⟨g, cs', rfl, hg, hc', hz.trans h⟩
theorem stab_laidB {T : TypeId} {B : Nat} {L : Array Value → World → Prop} (hL : StabK T B L) : StableR (Laid T B L) (isLaidB T B L) := by
  rintro v w w' ⟨g, cs, rfl, hg, hc, h⟩ hr
  rcases hr.typ g cs hg hc with h' | ⟨cs', _, hl, hc'⟩
  · exact ⟨g, cs, rfl, hg, h', hL _ _ _ h hr.keeps⟩
  · exact ⟨g, cs', rfl, hg, hc', hl⟩
section
variable {P : Program} {ops : Array Oper} {base : World} {a0 : Act} {Q : Exit → Act → World → Prop} {kn : Nat → VP} {i : Nat}
/-- A new struct. -/
theorem LStep.alloc {B : Nat} {L : Array Value → World → Prop} (T : TypeId) (cs : List Value) (hB : B ≤ base.heap.size) (hop : (ops[i]?).map (fun o => (o.op, o.guard)) = some (.alloc T, none)) (hok : flowOk ops a0.tmps.size = true) (hds : ((ops[i]?).bind (·.dst)).isSome = true)
    (hL : StabK T B L) (hz : ∀ w, (Instr.alloc T true (.tuple #[])).run P w = .ok (.pointer (some ⟨w.heap.size, 0, none⟩)) (w.alloc (.cells cs.toArray T))) : LStep (Laid T B L) P ops base a0 Q kn i (isNewB T B cs.length) := by
  refine ⟨stab_newB, fun o ho a w hk hb hdp => ?_⟩
  rw [ho] at hop hds
  simp only [Option.map_some, Option.some.injEq, Prod.mk.injEq] at hop
  unfold wpOp
  simp only [ho]
  rw [show Region.wanted o (yielded ops a.tmps) = true by simp [Region.wanted, hop.2]]
  refine .inl ?_
  unfold Oper.wp execOp
  rw [hop.1]
  simp only [Sem.run_bind, hz, Result.andThen_ok, Sem.run_pure, Oper.upon]
  have hbel : Below w.heap.size w (w.alloc (.cells cs.toArray T)) := (Below.refl _ _).alloc (Nat.le_refl _) _
  refine ⟨_, rfl, ?_, (laid_pre hL).grow _ _ hbel⟩
  cases hdst : o.dst with
  | none => rw [Option.bind_some, hdst] at hds; cases hds
  | some t =>
    simp only [wordOf, slotOf, hdst]
    rw [getD_put_self (by rw [hk.2.1]; exact (flowOk_spec hok).2.2 i o t ho hdst)]
    refine ⟨w.heap.size, cs.toArray, rfl, Nat.le_trans hB hb.keeps.size, ?_, by simp⟩
    show (w.heap.push _)[w.heap.size]? = _
    simp
end
end Go.Proofs.YtpjafjnokgeifaaGreatDoor
end
section
namespace Go.Proofs.YtpjafjnokgeifaaGreatDoor
open Go.RowKit
set_option linter.unusedVariables false
set_option linter.unusedSimpArgs false

abbrev zeroFl : List Value := [.slice none 0 0, .slice none 0 0, .int .i64 0, .string ⟨#[]⟩, .bool false]
theorem alloc_fl (w : World) : (Instr.alloc 25 true (.tuple #[])).run Tryz.prog w = .ok (.pointer (some ⟨w.heap.size, 0, none⟩)) (w.alloc (.cells zeroFl.toArray 25)) := by
  have hz : (Tryz.prog.info? 25).map (·.zero) = some (some (.agg zeroFl.toArray)) := by kernel_rfl
  obtain ⟨ie, hie, hz⟩ := Option.map_eq_some_iff.1 hz
  simp [Instr.alloc, zeroValue, typeInfo, hie, hz, newVar, newRow, newObj, Value.cells]
  rfl
/-- Cells that hold the device G, its rows in blocks from B on. -/
def holdsF (B : Nat) (G : Fl) (cs : Array Value) (w : World) : Prop := ∃ vp vw, cs = #[vp, vw, .int .i64 G.fuse, strC G.torn, .bool G.dead] ∧ isBtw B w.heap.size 9 (G.pages.map strC) vp w ∧ isBtw B w.heap.size 3 (G.wear.map intC) vw w
theorem isBtw.keeps {B lo hi : Nat} {T e : TypeId} {cs : List Value} {v : Value} {w w' : World} (h : isBtw lo hi e cs v w) (hk : Keeps T B w w') (hne : e ≠ T) : isBtw lo hi e cs v w' := by
  rcases h with h | ⟨g, cap, cur, hv, h1, h2, hg, rest⟩
  · exact .inl h
  · refine .inr ⟨g, cap, cur, hv, h1, h2, (hk.block g (Array.getElem?_eq_some_iff.1 hg).1 (.inr ?_)).trans hg, rest⟩
    intro cs fr he
    rw [hg] at he
    injection he with he
    injection he with _ he _
    exact hne he
theorem stab_holdsF (B : Nat) (G : Fl) : StabK 25 B (holdsF B G) := by
  rintro cs w w' ⟨vp, vw, rfl, hp, hq⟩ hk
  exact ⟨vp, vw, rfl, (hp.keeps hk (by decide)).weak (Nat.le_refl _) hk.size, (hq.keeps hk (by decide)).weak (Nat.le_refl _) hk.size⟩
/-- A device among values; a device and a number, as a call tells them. -/
def isFlB (B : Nat) (G : Fl) : VP := fun v w => isFlN B G v w
def isTupB (B : Nat) (G : Fl) (e : Int) : VP := fun v w => ∃ x, v = .tuple #[x, .int .i64 e] ∧ isFlN B G x w
theorem isFlN.keeps {B : Nat} {G : Fl} {v : Value} {w w' : World} (h : isFlN B G v w) (hk : Keeps 25 B w w') : isFlN B G v w' := by
  obtain ⟨vp, vw, rfl, hp, hq⟩ := h
  exact ⟨vp, vw, rfl, (hp.keeps hk (by decide)).weak (Nat.le_refl _) hk.size, (hq.keeps hk (by decide)).weak (Nat.le_refl _) hk.size⟩
theorem stab_flB (B : Nat) (G : Fl) (L : Array Value → World → Prop) : StableR (Laid 25 B L) (isFlB B G) := fun v w w' h hr => isFlN.keeps h hr.keeps
theorem stab_tupB (B : Nat) (G : Fl) (e : Int) (L : Array Value → World → Prop) : StableR (Laid 25 B L) (isTupB B G e) := fun v w w' ⟨x, hx, h⟩ hr => ⟨x, hx, isFlN.keeps h hr.keeps⟩
theorem stable_tupB (B : Nat) (G : Fl) (e : Int) : Stable (isTupB B G e) := fun v w w' ⟨x, hx, h⟩ hb => ⟨x, hx, isFlN.keeps h (Keeps.of hb)⟩
theorem stable_flB (B : Nat) (G : Fl) : Stable (isFlB B G) := fun v w w' h hb => isFlN.keeps h (Keeps.of hb)
theorem set5_block (w : World) (g : Nat) (c0 c1 c2 c3 c4 v0 v1 v2 v3 v4 : Value) (T : TypeId) (h : w.heap[g]? = some (.cells #[c0, c1, c2, c3, c4] T (0, 0))) : (set5 w g v0 v1 v2 v3 v4).heap[g]? = some (.cells #[v0, v1, v2, v3, v4] T (0, 0)) := by
  have h0 := heap_setCell_same w g 0 _ _ v0 h
  have h1 := heap_setCell_same _ g 1 _ _ v1 h0
  have h2 := heap_setCell_same _ g 2 _ _ v2 h1
  have h3 := heap_setCell_same _ g 3 _ _ v3 h2
  have h4 := heap_setCell_same _ g 4 _ _ v4 h3
  unfold set5
  rw [h4]
  rfl
theorem set5_other (w : World) (g b : Nat) (v0 v1 v2 v3 v4 : Value) (h : b ≠ g) : (set5 w g v0 v1 v2 v3 v4).heap[b]? = w.heap[b]? := by
  unfold set5
  rw [Below.heap_setCell _ ⟨g, 4, none⟩ v4 b h, Below.heap_setCell _ ⟨g, 3, none⟩ v3 b h, Below.heap_setCell _ ⟨g, 2, none⟩ v2 b h, Below.heap_setCell _ ⟨g, 1, none⟩ v1 b h, Below.heap_setCell _ ⟨g, 0, none⟩ v0 b h]
theorem size5 {cs : Array Value} (h : cs.size = 5) : ∃ c0 c1 c2 c3 c4, cs = #[c0, c1, c2, c3, c4] := by
  obtain ⟨l⟩ := cs
  match l, h with
  | [a, b, c, d, e], _ => exact ⟨a, b, c, d, e, rfl⟩
theorem cells5_of {w : World} {g : Nat} {c0 c1 c2 c3 c4 : Value} {T : TypeId} (h : w.heap[g]? = some (.cells #[c0, c1, c2, c3, c4] T (0, 0))) : Cells5 w g c0 c1 c2 c3 c4 ∧ Free5 w g := by
  refine ⟨⟨(Array.getElem?_eq_some_iff.1 h).1, ?_, ?_, ?_, ?_, ?_⟩, fun j => ?_⟩
  all_goals first | (simp [World.cell?, h]; done) | simp [World.frozen?, h]
theorem set5_rest (w : World) (g : Nat) (v0 v1 v2 v3 v4 : Value) : (set5 w g v0 v1 v2 v3 v4).os = w.os ∧ (set5 w g v0 v1 v2 v3 v4).tape = w.tape ∧ (set5 w g v0 v1 v2 v3 v4).output = w.output :=
  have h : Below 0 w (set5 w g v0 v1 v2 v3 v4) := below_set5 (Below.refl _ _) (Nat.zero_le _) v0 v1 v2 v3 v4
  ⟨h.os, h.tape, h.output⟩
attribute [local irreducible] set5
section
variable {ops : Array Oper} {base : World} {a0 : Act} {Q : Exit → Act → World → Prop} {kn : Nat → VP} {i : Nat}
theorem LStep.store5 {B : Nat} {G : Fl} (p : Tmp) (y : Operand) (hB : B ≤ base.heap.size) (hop : (ops[i]?).map (fun o => (o.op, o.guard, o.dst)) = some (.store 25 (.tmp p) y, none, none))
    (hx : Knows ops a0 kn i (.tmp p) (isNewB 25 B 5)) (hy : Knows ops a0 kn i y (isFlB B G)) : LStep (Laid 25 B (holdsF B G)) Tryz.prog ops base a0 Q kn i (isLaidB 25 B (holdsF B G)) := by
  refine ⟨stab_laidB (stab_holdsF B G), fun o ho a w hk hb hd => ?_⟩
  rw [ho] at hop
  simp only [Option.map_some, Option.some.injEq, Prod.mk.injEq] at hop
  obtain ⟨hop, hgd, hdst⟩ := hop
  have hfd : FDeps ops kn i a w := fun o' ho' e he hbd => ldone_f (hd o' ho' e he hbd)
  obtain ⟨g, cs, e1, hg, hc, h5⟩ := hx a w hk hfd
  obtain ⟨vp, vw, e2, hp, hq⟩ := hy a w hk hfd
  obtain ⟨c0, c1, c2, c3, c4, rfl⟩ := size5 h5
  obtain ⟨k1, k2⟩ := cells5_of hc
  unfold wpOp
  simp only [ho]
  rw [show Region.wanted o (yielded ops a.tmps) = true by simp [Region.wanted, hgd]]
  refine .inl ?_
  unfold Oper.wp execOp
  rw [hop]
  have hblk := set5_block w g c0 c1 c2 c3 c4 vp vw (.int .i64 G.fuse) (strC G.torn) (.bool G.dead) _ hc
  have hkp : Keeps 25 B w (set5 w g vp vw (.int .i64 G.fuse) (strC G.torn) (.bool G.dead)) := ⟨by rw [size_set5]; exact Nat.le_refl _, fun b hb h => set5_other _ _ _ _ _ _ _ _ (by
    rintro rfl
    rcases h with h | h
    · omega
    · exact h _ _ hc)⟩
  have hold : holdsF B G #[vp, vw, .int .i64 G.fuse, strC G.torn, .bool G.dead] (set5 w g vp vw (.int .i64 G.fuse) (strC G.torn) (.bool G.dead)) := stab_holdsF B G _ _ _ ⟨vp, vw, rfl, hp, hq⟩ hkp
  simp only [e1, e2, Sem.run_bind, Go.Proofs.YtpjafjnokgeifaaGreatDoor.store5 g w c0 c1 c2 c3 c4 vp vw (.int .i64 G.fuse) (strC G.torn) (.bool G.dead) k1 k2 hp.one hq.one rfl rfl rfl, Result.andThen_ok, Sem.run_pure, Oper.upon]
  have hr := set5_rest w g vp vw (.int .i64 G.fuse) (strC G.torn) (.bool G.dead)
  refine ⟨undef, rfl, ?_, ⟨hr.1, hr.2.1, hr.2.2, hkp, fun b cs hb' he => ?_⟩⟩
  · have : wordOf o (a.put o.dst undef) = .pointer (some ⟨g, 0, none⟩) := by
      have e1' : a.tmps.getD p undef = .pointer (some ⟨g, 0, none⟩) := e1
      simp only [wordOf, slotOf, hdst, hop, Act.put]
      exact e1'
    rw [this]
    exact ⟨g, _, rfl, hg, hblk, hold⟩
  · by_cases e : b = g
    · subst e
      rw [hc] at he
      injection he with he
      injection he with he _ _
      exact .inr ⟨_, by rw [← he]; rfl, hold, hblk⟩
    · exact .inl ((set5_other _ _ _ _ _ _ _ _ e).trans he)
/-- The same, into a block that was there: it is one of those that may be laid. -/
theorem LStep.store5_old {B : Nat} {G : Fl} (p : Tmp) (g : Nat) (y : Operand) (hB : B ≤ base.heap.size) (hop : (ops[i]?).map (fun o => (o.op, o.guard, o.dst)) = some (.store 25 (.tmp p) y, none, none))
    (hx : Knows ops a0 kn i (.tmp p) (isVal (.pointer (some ⟨g, 0, none⟩)))) (hg : isNewB 25 B 5 (.pointer (some ⟨g, 0, none⟩)) base) (hy : Knows ops a0 kn i y (isFlB B G)) : LStep (Laid 25 B (holdsF B G)) Tryz.prog ops base a0 Q kn i (isLaidB 25 B (holdsF B G)) := by
  refine ⟨stab_laidB (stab_holdsF B G), fun o ho a w hk hb hd => ?_⟩
  have hn : isNewB 25 B 5 (.pointer (some ⟨g, 0, none⟩)) w := stab_newB _ _ _ hg hb
  rw [ho] at hop
  simp only [Option.map_some, Option.some.injEq, Prod.mk.injEq] at hop
  obtain ⟨hop, hgd, hdst⟩ := hop
  have hfd : FDeps ops kn i a w := fun o' ho' e he hbd => ldone_f (hd o' ho' e he hbd)
  have e1 : a.eval (.tmp p) = .pointer (some ⟨g, 0, none⟩) := hx a w hk hfd
  obtain ⟨g', cs, e9, hg, hc, h5⟩ := hn
  injection e9 with e9
  injection e9 with e9
  injection e9 with e9 _ _
  subst e9
  obtain ⟨vp, vw, e2, hp, hq⟩ := hy a w hk hfd
  obtain ⟨c0, c1, c2, c3, c4, rfl⟩ := size5 h5
  obtain ⟨k1, k2⟩ := cells5_of hc
  unfold wpOp
  simp only [ho]
  rw [show Region.wanted o (yielded ops a.tmps) = true by simp [Region.wanted, hgd]]
  refine .inl ?_
  unfold Oper.wp execOp
  rw [hop]
  have hblk := set5_block w g c0 c1 c2 c3 c4 vp vw (.int .i64 G.fuse) (strC G.torn) (.bool G.dead) _ hc
  have hkp : Keeps 25 B w (set5 w g vp vw (.int .i64 G.fuse) (strC G.torn) (.bool G.dead)) := ⟨by rw [size_set5]; exact Nat.le_refl _, fun b hb h => set5_other _ _ _ _ _ _ _ _ (by
    rintro rfl
    rcases h with h | h
    · omega
    · exact h _ _ hc)⟩
  have hold : holdsF B G #[vp, vw, .int .i64 G.fuse, strC G.torn, .bool G.dead] (set5 w g vp vw (.int .i64 G.fuse) (strC G.torn) (.bool G.dead)) := stab_holdsF B G _ _ _ ⟨vp, vw, rfl, hp, hq⟩ hkp
  simp only [e1, e2, Sem.run_bind, Go.Proofs.YtpjafjnokgeifaaGreatDoor.store5 g w c0 c1 c2 c3 c4 vp vw (.int .i64 G.fuse) (strC G.torn) (.bool G.dead) k1 k2 hp.one hq.one rfl rfl rfl, Result.andThen_ok, Sem.run_pure, Oper.upon]
  have hr := set5_rest w g vp vw (.int .i64 G.fuse) (strC G.torn) (.bool G.dead)
  refine ⟨undef, rfl, ?_, ⟨hr.1, hr.2.1, hr.2.2, hkp, fun b cs hb' he => ?_⟩⟩
  · have : wordOf o (a.put o.dst undef) = .pointer (some ⟨g, 0, none⟩) := by
      have e1' : a.tmps.getD p undef = .pointer (some ⟨g, 0, none⟩) := e1
      simp only [wordOf, slotOf, hdst, hop, Act.put]
      exact e1'
    rw [this]
    exact ⟨g, _, rfl, hg, hblk, hold⟩
  · by_cases e : b = g
    · subst e
      rw [hc] at he
      injection he with he
      injection he with he _ _
      exact .inr ⟨_, by rw [← he]; rfl, hold, hblk⟩
    · exact .inl ((set5_other _ _ _ _ _ _ _ _ e).trans he)
theorem step_extract0 {P : Program} (B : Nat) (G : Fl) (e : Int) (x : Operand) (hop : (ops[i]?).map (·.op) = some (.extract x 0)) (hw : Wanted ops a0 kn i) (hx : Knows ops a0 kn i x (isTupB B G e)) : FStep P ops base a0 Q kn i (isFlB B G) :=
  step_mk (stable_flB B G) hw fun o ho a w hk hb hd => by
    obtain ⟨v, e1, hv⟩ := hx a w hk hd
    unfold Oper.wp execOp
    rw [op_of hop ho]
    simp only [e1]
    exact ⟨v, rfl, hv, Below.refl _ _⟩
theorem step_extract1 {P : Program} (B : Nat) (G : Fl) (e : Int) (x : Operand) (hop : (ops[i]?).map (·.op) = some (.extract x 1)) (hw : Wanted ops a0 kn i) (hx : Knows ops a0 kn i x (isTupB B G e)) : FStep P ops base a0 Q kn i (isVal (.int .i64 e)) :=
  step_mk (stable_val _) hw fun o ho a w hk hb hd => by
    obtain ⟨v, e1, hv⟩ := hx a w hk hd
    unfold Oper.wp execOp
    rw [op_of hop ho]
    simp only [e1]
    exact ⟨_, rfl, rfl, Below.refl _ _⟩
end
theorem args4 {ops : Array Oper} {a0 : Act} {kn : Nat → VP} {i : Nat} (x y z q : Operand) (v u s r : Value) (hx : Knows ops a0 kn i x (isVal v)) (hy : Knows ops a0 kn i y (isVal u)) (hz : Knows ops a0 kn i z (isVal s)) (hq : Knows ops a0 kn i q (isVal r)) : ∀ a w, FKept ops a0 a → FDeps ops kn i a w → #[x, y, z, q].map a.eval = #[v, u, s, r] := fun a w hk hd => by
  have h1 : a.eval x = v := hx a w hk hd
  have h2 : a.eval y = u := hy a w hk hd
  have h3 : a.eval z = s := hz a w hk hd
  have h4 : a.eval q = r := hq a w hk hd
  simp [h1, h2, h3, h4]
/-- Behind the region: a variable. -/
theorem Laid.var {B : Nat} {G : Fl} {v : Value} {w : World} (h : isLaidB 25 B (holdsF B G) v w) : ∃ g, v = .pointer (some ⟨g, 0, none⟩) ∧ Var w g G := by
  obtain ⟨g, cs, e, hg, hc, vp, vw, rfl, hp, hq⟩ := h
  exact ⟨g, e, vp, vw, (cells5_of hc).1, hp.cells, hq.cells⟩
end Go.Proofs.YtpjafjnokgeifaaGreatDoor
end
section
namespace Go.Proofs.YtpjafjnokgeifaaGreatDoor
open Go.RowKit
set_option linter.unusedVariables false
set_option linter.unusedSimpArgs false
attribute [local irreducible] set5
/-- What an append tells, and makes. -/
def lenI (l : List UInt8) : Int := (l.length : Int)
def pageOf (F : Fl) (page : Int) : List UInt8 := F.pages.getD page.toNat []
def appOk (F : Fl) (page : Int) (pl : List UInt8) : Bool := hasB F page && decide (szN (lenI pl) ≠ 0)
def appE (F : Fl) (page : Int) (pl : List UInt8) : Int := if appOk F page pl = false then 1 else if nextN (pageOf F page) (lenI pl) = roomN (pageOf F page) (lenI pl) then 4 else progE F page (nextN (pageOf F page) (lenI pl) * szN (lenI pl) : Nat) (recL pl)
def appF (F : Fl) (page : Int) (pl : List UInt8) : Fl := if appOk F page pl = false then F else if nextN (pageOf F page) (lenI pl) = roomN (pageOf F page) (lenI pl) then F else progF F page (nextN (pageOf F page) (lenI pl) * szN (lenI pl) : Nat) (recL pl)
theorem tend_le (p : Nat → Bool) (r : Nat) : tend p (List.range r) ≤ r := by
  induction r with
  | zero => simp [tend]
  | succ r ih =>
    rw [List.range_succ]
    unfold tend at ih ⊢
    rw [List.foldl_append]
    simp only [List.foldl_cons, List.foldl_nil]
    split <;> omega
structure AppI (w W : World) (F : Fl) (vp vw : Value) : Prop where
  below : Below w.heap.size w W
  size : w.heap.size + 2 ≤ W.heap.size
  c3 : Cells5 W w.heap.size vp vw (.int .i64 F.fuse) (strC F.torn) (.bool F.dead)
  b6 : W.heap[w.heap.size + 1]? = some (.cells #[.slice none 0 0, .slice none 0 0, .int .i64 0, .string ⟨#[]⟩, .bool false] 25 (0, 0))
  p : isCells (F.pages.map strC) vp w
  q : isCells (F.wear.map intC) vw w
theorem AppI.grow {w W W' : World} {F : Fl} {vp vw : Value} (h : AppI w W F vp vw) (hb : Below W.heap.size W W') : AppI w W' F vp vw :=
  ⟨h.below.trans (hb.mono h.below.size), Nat.le_trans h.size hb.size, h.c3.keep hb h.c3.1, (hb.block _ (by have := h.size; omega)).trans h.b6, h.p, h.q⟩
theorem AppI.fl {w W : World} {F : Fl} {vp vw : Value} (h : AppI w W F vp vw) : isFl F (.agg #[vp, vw, .int .i64 F.fuse, strC F.torn, .bool F.dead]) W := ⟨vp, vw, rfl, stable_cells _ _ _ _ h.p h.below, stable_cells _ _ _ _ h.q h.below⟩
theorem appI_start (w : World) (F : Fl) (vp vw : Value) (hp : isCells (F.pages.map strC) vp w) (hq : isCells (F.wear.map intC) vw w) : AppI w ((w.alloc (.cells #[vp, vw, .int .i64 F.fuse, strC F.torn, .bool F.dead] 25)).alloc (.cells #[.slice none 0 0, .slice none 0 0, .int .i64 0, .string ⟨#[]⟩, .bool false] 25)) F vp vw := by
  have hb1 : Below (w.alloc (.cells #[vp, vw, .int .i64 F.fuse, strC F.torn, .bool F.dead] 25)).heap.size (w.alloc (.cells #[vp, vw, .int .i64 F.fuse, strC F.torn, .bool F.dead] 25)) ((w.alloc (.cells #[vp, vw, .int .i64 F.fuse, strC F.torn, .bool F.dead] 25)).alloc (.cells #[.slice none 0 0, .slice none 0 0, .int .i64 0, .string ⟨#[]⟩, .bool false] 25)) := (Below.refl _ _).alloc (Nat.le_refl _) _
  refine ⟨((Below.refl _ _).alloc (Nat.le_refl _) _).alloc (by simp) _, by simp, (cells5_new w 25 vp vw _ _ _).keep hb1 (by simp), ?_, hp, hq⟩
  have := World.alloc_heap_new (w.alloc (.cells #[vp, vw, .int .i64 F.fuse, strC F.torn, .bool F.dead] 25)) (.cells #[.slice none 0 0, .slice none 0 0, .int .i64 0, .string ⟨#[]⟩, .bool false] 25)
  rwa [World.size_alloc] at this
/-- The result's variable, in which a copy, or what a callee told, is laid down. -/
theorem AppI.told {w W w1 : World} {F G : Fl} {vp vw vp' vw' : Value} (h : AppI w W F vp vw) (hb1 : Below W.heap.size W w1) (hp : isBtw W.heap.size w1.heap.size 9 (G.pages.map strC) vp' w1) (hq : isBtw W.heap.size w1.heap.size 3 (G.wear.map intC) vw' w1) :
    Kept (Cells5 w1 (w.heap.size + 1) (.slice none 0 0) (.slice none 0 0) (.int .i64 0) (.string ⟨#[]⟩) (.bool false)) ∧ Kept (Free5 w1 (w.heap.size + 1)) ∧ Kept (Cells5 (set5 w1 (w.heap.size + 1) vp' vw' (.int .i64 G.fuse) (strC G.torn) (.bool G.dead)) (w.heap.size + 1) vp' vw' (.int .i64 G.fuse) (strC G.torn) (.bool G.dead)) ∧
      Kept (isFlN w.heap.size G (.agg #[vp', vw', .int .i64 G.fuse, strC G.torn, .bool G.dead]) (set5 w1 (w.heap.size + 1) vp' vw' (.int .i64 G.fuse) (strC G.torn) (.bool G.dead))) ∧ Kept (Below w.heap.size w (set5 w1 (w.heap.size + 1) vp' vw' (.int .i64 G.fuse) (strC G.torn) (.bool G.dead))) :=
  Go.Proofs.YtpjafjnokgeifaaGreatDoor.told (g := w.heap.size + 1) (by have := h.size; omega) rfl h.below (by omega) (cells5_of h.b6).1 (cells5_of h.b6).2 hb1 hp hq

theorem mul_nat (a b q : Nat) (h : a * b = q) (hq : q ≤ 1000000000) (w : World) : (binOp .mul 3 (.int .i64 (a : Int)) (.int .i64 (b : Int))).run Tryz.prog w = .ok (.int .i64 (q : Int)) w := by
  have e : (a : Int) * (b : Int) = (q : Int) := by rw [← h]; push_cast; rfl
  have hw : IntKind.i64.wrap (q : Int) = (q : Int) := IntWalk.i64_in _ (by omega)
  simp [binOp, e, hw, go_sem]
noncomputable def app8 : Array Oper := regionOf Tryz.f12 8
set_option maxRecDepth 100000 in
set_option maxHeartbeats 4000000 in
theorem app_region (Q : Exit → Act → World → Prop) (a0 : Act) (w0 : World) (hsz : a0.tmps.size = 53) (B g3 g6 : Nat) (D X : Fl) (vp vw : Value) (page ex : Int) (nx z q : Nat) (pl : List UInt8) (hpl : pl.length ≤ 1024) (hq : nx * z = q) (hqb : q ≤ 1000000000) (hBB : B ≤ w0.heap.size) (hg3 : g3 < B)
    (hnew : isNewB 25 B 5 (.pointer (some ⟨g6, 0, none⟩)) w0)
    (e3 : a0.tmps.getD 3 undef = .pointer (some ⟨g3, 0, none⟩)) (e1 : a0.tmps.getD 1 undef = .int .i64 page) (e10 : a0.tmps.getD 10 undef = .int .i64 (nx : Int)) (e9 : a0.tmps.getD 9 undef = .int .i64 (z : Int)) (e2 : a0.tmps.getD 2 undef = .string ⟨pl.toArray⟩) (e6 : a0.tmps.getD 6 undef = .pointer (some ⟨g6, 0, none⟩))
    (hC : Cells5 w0 g3 vp vw (.int .i64 D.fuse) (strC D.torn) (.bool D.dead))
    (hcall : ∀ w2 : World, Below B w0 w2 → Calls Tryz.prog 50 #[.agg #[vp, vw, .int .i64 D.fuse, strC D.torn, .bool D.dead], .int .i64 page, .int .i64 (q : Int), .string ⟨(recL pl).toArray⟩] w2 fun e w' => ∃ v, e = .returned v ∧ isTupB B X ex v w' ∧ Below w2.heap.size w2 w')
    (hQ : ∀ (a : Act) (w : World), a.defers = a0.defers → a.tmps.getD 6 undef = .pointer (some ⟨g6, 0, none⟩) → a.tmps.getD 7 undef = .int .i64 ex → isLaidB 25 B (holdsF B X) (.pointer (some ⟨g6, 0, none⟩)) w → Below B w0 w → Q .normal a w) :
    (Code.region 8 app8 true).wp Tryz.prog Q a0 w0 := by
  have hok : flowOk app8 a0.tmps.size = true := by rw [hsz]; kernel_rfl
  have hR := laid_pre (stab_holdsF B X)
  have hcb : ∀ w, Laid 25 B (holdsF B X) w0 w → ∀ w2, Below w.heap.size w w2 → Below B w0 w2 := fun w hw w2 hb => (hw.below hBB).trans (hb.mono (Nat.le_trans hBB (hw.below hBB).size))
  refine wp_region_lay hR mixed hok (by kernel_rfl) ?_
  rw [show app8.size = 12 by kernel_rfl]
  refine ⟨isVal (.agg #[vp, vw, .int .i64 D.fuse, strC D.torn, .bool D.dead]), LStep.of hR hok (stabR_val _ _) (by kernel_rfl) (fun w hw => step_load5 (.tmp 3) g3 (by kernel_rfl) (wanted_none (by kernel_rfl)) (knows_old 3 (.pointer (some ⟨g3, 0, none⟩)) (by kernel_rfl) e3) (hC.keep (hw.below hBB) hg3)), ?_⟩
  refine ⟨isVal (.int .i64 page), LStep.of hR hok (stabR_val _ _) (by kernel_rfl) (fun w hw => step_move (.tmp 1) (by kernel_rfl) (wanted_none (by kernel_rfl)) (stable_val _) (knows_old 1 (.int .i64 page) (by kernel_rfl) e1)), ?_⟩
  refine ⟨isVal (.int .i64 (nx : Int)), LStep.of hR hok (stabR_val _ _) (by kernel_rfl) (fun w hw => step_move (.tmp 10) (by kernel_rfl) (wanted_none (by kernel_rfl)) (stable_val _) (knows_old 10 (.int .i64 (nx : Int)) (by kernel_rfl) e10)), ?_⟩
  refine ⟨isVal (.int .i64 (z : Int)), LStep.of hR hok (stabR_val _ _) (by kernel_rfl) (fun w hw => step_move (.tmp 9) (by kernel_rfl) (wanted_none (by kernel_rfl)) (stable_val _) (knows_old 9 (.int .i64 (z : Int)) (by kernel_rfl) e9)), ?_⟩
  refine ⟨isVal (.int .i64 (q : Int)), LStep.of hR hok (stabR_val _ _) (by kernel_rfl) (fun w hw => step_bin .mul 3 3 (.tmp 45) (.tmp 46) (.int .i64 (nx : Int)) (.int .i64 (z : Int)) (.int .i64 (q : Int)) (by kernel_rfl) (wanted_none (by kernel_rfl)) (knows_new (V := isVal (.int .i64 (nx : Int))) 45 2 (by kernel_rfl) (by kernel_rfl) (by kernel_rfl)) (knows_new (V := isVal (.int .i64 (z : Int))) 46 3 (by kernel_rfl) (by kernel_rfl) (by kernel_rfl)) (fun _ => rfl) (fun w => mul_nat nx z q hq hqb w)), ?_⟩
  refine ⟨isVal (.string ⟨pl.toArray⟩), LStep.of hR hok (stabR_val _ _) (by kernel_rfl) (fun w hw => step_move (.tmp 2) (by kernel_rfl) (wanted_none (by kernel_rfl)) (stable_val _) (knows_old 2 (.string ⟨pl.toArray⟩) (by kernel_rfl) e2)), ?_⟩
  refine ⟨isVal (.string ⟨(recL pl).toArray⟩), LStep.of hR hok (stabR_val _ _) (by kernel_rfl) (fun w hw => step_call 46 #[.tmp 48] #[9] #[.string ⟨pl.toArray⟩] (by kernel_rfl) (wanted_none (by kernel_rfl)) (stable_val _) (args1 (.tmp 48) (.string ⟨pl.toArray⟩) (knows_new (V := isVal (.string ⟨pl.toArray⟩)) 48 5 (by kernel_rfl) (by kernel_rfl) (by kernel_rfl))) (enters_of Tryz.func46 (by kernel_rfl) rfl) (by intro w2 hb; exact (make_any pl w2 hpl).mono (by rintro e w' ⟨rfl, hb'⟩; exact ⟨_, rfl, rfl, hb'⟩))), ?_⟩
  refine ⟨isTupB B X (ex), LStep.of hR hok (stab_tupB _ _ _ _) (by kernel_rfl) (fun w hw => step_call 50 #[.tmp 43, .tmp 44, .tmp 47, .tmp 49] #[25, 3, 3, 9] #[.agg #[vp, vw, .int .i64 D.fuse, strC D.torn, .bool D.dead], .int .i64 page, .int .i64 (q : Int), .string ⟨(recL pl).toArray⟩] (by kernel_rfl) (wanted_none (by kernel_rfl)) (stable_tupB _ _ _) (args4 (.tmp 43) (.tmp 44) (.tmp 47) (.tmp 49) (.agg #[vp, vw, .int .i64 D.fuse, strC D.torn, .bool D.dead]) (.int .i64 page) (.int .i64 (q : Int)) (.string ⟨(recL pl).toArray⟩) (knows_new (V := isVal (.agg #[vp, vw, .int .i64 D.fuse, strC D.torn, .bool D.dead])) 43 0 (by kernel_rfl) (by kernel_rfl) (by kernel_rfl)) (knows_new (V := isVal (.int .i64 page)) 44 1 (by kernel_rfl) (by kernel_rfl) (by kernel_rfl)) (knows_new (V := isVal (.int .i64 (q : Int))) 47 4 (by kernel_rfl) (by kernel_rfl) (by kernel_rfl)) (knows_new (V := isVal (.string ⟨(recL pl).toArray⟩)) 49 6 (by kernel_rfl) (by kernel_rfl) (by kernel_rfl))) (enters_of Tryz.func50 (by kernel_rfl) rfl) (by intro w2 hb; exact hcall w2 (hcb w hw w2 hb))), ?_⟩
  refine ⟨isFlB B X, LStep.of hR hok (stab_flB _ _ _) (by kernel_rfl) (fun w hw => step_extract0 B X (ex) (.tmp 50) (by kernel_rfl) (wanted_none (by kernel_rfl)) (knows_new (V := isTupB B X (ex)) 50 7 (by kernel_rfl) (by kernel_rfl) (by kernel_rfl))), ?_⟩
  refine ⟨isVal (.int .i64 (ex)), LStep.of hR hok (stabR_val _ _) (by kernel_rfl) (fun w hw => step_extract1 B X (ex) (.tmp 50) (by kernel_rfl) (wanted_none (by kernel_rfl)) (knows_new (V := isTupB B X (ex)) 50 7 (by kernel_rfl) (by kernel_rfl) (by kernel_rfl))), ?_⟩
  refine ⟨isLaidB 25 B (holdsF B X), LStep.store5_old 6 g6 (.tmp 51) hBB (by kernel_rfl) (knows_old 6 (.pointer (some ⟨g6, 0, none⟩)) (by kernel_rfl) e6) hnew (knows_new (V := isFlB B X) 51 8 (by kernel_rfl) (by kernel_rfl) (by kernel_rfl)), ?_⟩
  refine ⟨isVal (.int .i64 (ex)), LStep.of hR hok (stabR_val _ _) (by kernel_rfl) (fun w hw => step_assign (.tmp 52) (by kernel_rfl) (wanted_none (by kernel_rfl)) (stable_val _) (knows_new (V := isVal (.int .i64 (ex))) 52 9 (by kernel_rfl) (by kernel_rfl) (by kernel_rfl))), ?_⟩
  intro a w hkp hr hd
  have hsz2 : app8.size = 12 := by kernel_rfl
  have h6 : a.tmps.getD 6 undef = .pointer (some ⟨g6, 0, none⟩) := (hkp.2.2 6 (by kernel_rfl)).trans e6
  have hl := ldone_of (hd 10 (by rw [hsz2]; decide)) (t := 6) (V := isLaidB 25 B (holdsF B X)) (by kernel_rfl) (by kernel_rfl)
  rw [h6] at hl
  exact hQ a w hkp.1 h6 (ldone_of (hd 11 (by rw [hsz2]; decide)) (t := 7) (V := isVal (.int .i64 (ex))) (by kernel_rfl) (by kernel_rfl)) hl (hr.below hBB)
set_option maxRecDepth 100000 in
set_option maxHeartbeats 4000000 in
theorem app_no1 (F : Fl) (page : Int) (pl : List UInt8) (v : Value) (w : World) (hv : isFl F v w) (h1 : F.pages.length ≤ 1000000) (h2 : F.wear.length ≤ 1000000) (hh : hasB F page = false) :
    Calls Tryz.prog 12 #[v, .int .i64 page, .string ⟨pl.toArray⟩] w fun e w' => ∃ v', e = .returned (.tuple #[v', .int .i64 1]) ∧ isFlN w.heap.size F v' w' ∧ Below w.heap.size w w' := by
  have HH := Kept.mk hh
  clear hh
  have hsz : (⟨pl.toArray⟩ : ByteArray).size = pl.length := size_mk pl
  obtain ⟨vp, vw, rfl, hp, hq⟩ := hv
  have T := Kept.mk (appI_start w F vp vw hp hq)
  have HZ := Kept.mk (szN_eq (lenI pl))
  clear hp hq
  unfold lenI at *
  go_enter Tryz.func12, Tryz.ntmps12
  go_wp2_with fail
  ((with_reducible refine (size_any (pl.length : Int) _).mono ?_); rintro e w9 ⟨rfl, rfl⟩)
  rewrite [HZ.out]
  generalize szN (pl.length : Int) = z at *
  generalize ((w.alloc (.cells #[vp, vw, .int .i64 F.fuse, strC F.torn, .bool F.dead] 25)).alloc (.cells #[.slice none 0 0, .slice none 0 0, .int .i64 0, .string ⟨#[]⟩, .bool false] 25)) = W at *
  obtain ⟨_, k0, k1, k2, k3, k4⟩ := T.out.c3
  have flf := Kept.mk T.out.fl
  go_wp2_with fail
  ((with_reducible refine (phas_any F page _ _ flf.out h1 h2).mono ?_); rintro e W2 ⟨rfl, hb⟩)
  replace T := Kept.mk (T.out.grow hb)
  clear hb flf k0 k1 k2 k3 k4
  rewrite [HH.out]
  obtain ⟨_, k0, k1, k2, k3, k4⟩ := T.out.c3
  have flf := Kept.mk T.out.fl
  go_wp2_with fail
  ((with_reducible refine (pcopied_any F _ _ flf.out (by omega) (by omega)).mono ?_); rintro e w3 ⟨vp', vw', rfl, ho1, ho2, hb1⟩)
  have oo1 := (ho1.one).2
  have oo2 := (ho2.one).2
  obtain ⟨K1, K2, K3, K4, K5⟩ := T.out.told hb1 (isBtw_own ho1) (isBtw_own ho2)
  clear ho1 ho2 hb1 flf k0 k1 k2 k3 k4
  go_wp2_with (refine wpList_store5 rfl (.tmp 6) (.tmp 24) rfl (w.heap.size + 1) vp' vw' (.int .i64 F.fuse) (strC F.torn) (.bool F.dead) rfl rfl K1.out K2.out oo1 oo2 rfl rfl rfl ?_)
  exact bodyPost_ret (results2 rfl _ _ (w.heap.size + 1) _ _ _ _ _ (.int .i64 1) rfl rfl K3.out) rfl ⟨_, rfl, K4.out, K5.out⟩
set_option maxRecDepth 100000 in
set_option maxHeartbeats 4000000 in
theorem app_no2 (F : Fl) (page : Int) (pl : List UInt8) (v : Value) (w : World) (hv : isFl F v w) (h1 : F.pages.length ≤ 1000000) (h2 : F.wear.length ≤ 1000000) (hh : hasB F page = true) (hz : szN (lenI pl) = 0) :
    Calls Tryz.prog 12 #[v, .int .i64 page, .string ⟨pl.toArray⟩] w fun e w' => ∃ v', e = .returned (.tuple #[v', .int .i64 1]) ∧ isFlN w.heap.size F v' w' ∧ Below w.heap.size w w' := by
  have HH := Kept.mk hh
  have HZ0 := Kept.mk hz
  clear hh hz
  have hsz : (⟨pl.toArray⟩ : ByteArray).size = pl.length := size_mk pl
  obtain ⟨vp, vw, rfl, hp, hq⟩ := hv
  have T := Kept.mk (appI_start w F vp vw hp hq)
  have HZ := Kept.mk (szN_eq (lenI pl))
  clear hp hq
  unfold lenI at *
  go_enter Tryz.func12, Tryz.ntmps12
  go_wp2_with fail
  ((with_reducible refine (size_any (pl.length : Int) _).mono ?_); rintro e w9 ⟨rfl, rfl⟩)
  rewrite [HZ.out]
  generalize szN (pl.length : Int) = z at *
  generalize ((w.alloc (.cells #[vp, vw, .int .i64 F.fuse, strC F.torn, .bool F.dead] 25)).alloc (.cells #[.slice none 0 0, .slice none 0 0, .int .i64 0, .string ⟨#[]⟩, .bool false] 25)) = W at *
  obtain ⟨_, k0, k1, k2, k3, k4⟩ := T.out.c3
  have flf := Kept.mk T.out.fl
  go_wp2_with fail
  ((with_reducible refine (phas_any F page _ _ flf.out h1 h2).mono ?_); rintro e W2 ⟨rfl, hb⟩)
  replace T := Kept.mk (T.out.grow hb)
  clear hb flf k0 k1 k2 k3 k4
  rewrite [HH.out]
  have z0 : ((z : Int) == 0) = true := by rw [HZ0.out]; rfl
  obtain ⟨_, k0, k1, k2, k3, k4⟩ := T.out.c3
  have flf := Kept.mk T.out.fl
  go_wp2_with fail
  ((with_reducible refine (pcopied_any F _ _ flf.out (by omega) (by omega)).mono ?_); rintro e w3 ⟨vp', vw', rfl, ho1, ho2, hb1⟩)
  have oo1 := (ho1.one).2
  have oo2 := (ho2.one).2
  obtain ⟨K1, K2, K3, K4, K5⟩ := T.out.told hb1 (isBtw_own ho1) (isBtw_own ho2)
  clear ho1 ho2 hb1 flf k0 k1 k2 k3 k4
  go_wp2_with (refine wpList_store5 rfl (.tmp 6) (.tmp 24) rfl (w.heap.size + 1) vp' vw' (.int .i64 F.fuse) (strC F.torn) (.bool F.dead) rfl rfl K1.out K2.out oo1 oo2 rfl rfl rfl ?_)
  exact bodyPost_ret (results2 rfl _ _ (w.heap.size + 1) _ _ _ _ _ (.int .i64 1) rfl rfl K3.out) rfl ⟨_, rfl, K4.out, K5.out⟩
set_option maxRecDepth 100000 in
set_option maxHeartbeats 4000000 in
theorem app_full (F : Fl) (k : Nat) (pl : List UInt8) (v : Value) (w : World) (hv : isFl F v w) (h1 : F.pages.length ≤ 1000000) (h2 : F.wear.length ≤ 1000000) (p : List UInt8) (hh : hasB F (k : Int) = true) (hp_ : F.pages[k]? = some p) (hpl8 : p.length ≤ 8192) (hpl : pl.length ≤ 1000) (hz : szN (lenI pl) ≠ 0) (hfull : nextN p (lenI pl) = roomN p (lenI pl)) :
    Calls Tryz.prog 12 #[v, .int .i64 (k : Int), .string ⟨pl.toArray⟩] w fun e w' => ∃ v', e = .returned (.tuple #[v', .int .i64 4]) ∧ isFlN w.heap.size F v' w' ∧ Below w.heap.size w w' := by
  have HH := Kept.mk hh
  have HP := Kept.mk hp_
  have hk : k < F.pages.length := by have := (List.getElem?_eq_some_iff.1 hp_).1; exact this
  have HNX := Kept.mk (fun W : World => next_any p (pl.length : Int) W (by omega) (.inl (by unfold szN sizeN; split <;> omega)))
  have hzp : 0 < szN (lenI pl) := by omega
  have HNR := Kept.mk hfull
  clear hh hp_ hz hfull
  have hsz : (⟨pl.toArray⟩ : ByteArray).size = pl.length := size_mk pl
  obtain ⟨vp, vw, rfl, hp, hq⟩ := hv
  have T := Kept.mk (appI_start w F vp vw hp hq)
  have HZ := Kept.mk (szN_eq (lenI pl))
  clear hp hq
  unfold lenI at *
  go_enter Tryz.func12, Tryz.ntmps12
  go_wp2_with fail
  ((with_reducible refine (size_any (pl.length : Int) _).mono ?_); rintro e w9 ⟨rfl, rfl⟩)
  rewrite [HZ.out]
  generalize szN (pl.length : Int) = z at *
  generalize ((w.alloc (.cells #[vp, vw, .int .i64 F.fuse, strC F.torn, .bool F.dead] 25)).alloc (.cells #[.slice none 0 0, .slice none 0 0, .int .i64 0, .string ⟨#[]⟩, .bool false] 25)) = W at *
  obtain ⟨_, k0, k1, k2, k3, k4⟩ := T.out.c3
  have flf := Kept.mk T.out.fl
  go_wp2_with fail
  ((with_reducible refine (phas_any F (k : Int) _ _ flf.out h1 h2).mono ?_); rintro e W2 ⟨rfl, hb⟩)
  replace T := Kept.mk (T.out.grow hb)
  clear hb flf k0 k1 k2 k3 k4
  rewrite [HH.out]
  have z0 : ((z : Int) == 0) = false := by simp; omega
  obtain ⟨b, off, cap, hvp, lb, hcp⟩ := T.out.p.some_ (by rw [List.length_map]; omega)
  rw [List.length_map] at hvp
  subst hvp
  have HC := Kept.mk (show w.cell? ⟨b, off + k, none⟩ = some (.string ⟨p.toArray⟩) from hcp k _ (by rw [List.getElem?_map, HP.out]; rfl))
  clear hcp
  obtain ⟨_, k0, k1, k2, k3, k4⟩ := T.out.c3
  have kp := (T.out.below.cell (p := ⟨b, off + k, none⟩) lb).trans HC.out
  go_wp2_with fail
  ((with_reducible refine (HNX.out _).mono ?_); rintro e W3 ⟨rfl, hb⟩)
  replace T := Kept.mk (T.out.grow hb)
  clear hb k0 k1 k2 k3 k4 kp
  obtain ⟨_, k0, k1, k2, k3, k4⟩ := T.out.c3
  have kp := (T.out.below.cell (p := ⟨b, off + k, none⟩) lb).trans HC.out
  generalize nextN p (pl.length : Int) = nx at *
  go_wp2_with fail
  ((with_reducible refine (room_any p (pl.length : Int) _ (by omega)).mono ?_); rintro e w8 ⟨rfl, rfl⟩)
  generalize roomN p (pl.length : Int) = rm at *
  clear kp k0 k1 k2 k3 k4
  have e0 : ((nx : Int) == (rm : Int)) = true := by rw [HNR.out]; simp
  obtain ⟨_, k0, k1, k2, k3, k4⟩ := T.out.c3
  have flf := Kept.mk T.out.fl
  go_wp2_with fail
  ((with_reducible refine (pcopied_any F _ _ flf.out (by omega) (by omega)).mono ?_); rintro e w3 ⟨vp', vw', rfl, ho1, ho2, hb1⟩)
  have oo1 := (ho1.one).2
  have oo2 := (ho2.one).2
  obtain ⟨K1, K2, K3, K4, K5⟩ := T.out.told hb1 (isBtw_own ho1) (isBtw_own ho2)
  clear ho1 ho2 hb1 flf k0 k1 k2 k3 k4
  go_wp2_with (refine wpList_store5 rfl (.tmp 6) (.tmp 42) rfl (w.heap.size + 1) vp' vw' (.int .i64 F.fuse) (strC F.torn) (.bool F.dead) rfl rfl K1.out K2.out oo1 oo2 rfl rfl rfl ?_)
  exact bodyPost_ret (results2 rfl _ _ (w.heap.size + 1) _ _ _ _ _ (.int .i64 4) rfl rfl K3.out) rfl ⟨_, rfl, K4.out, K5.out⟩
set_option maxRecDepth 100000 in
set_option maxHeartbeats 4000000 in
theorem app_yes (F : Fl) (k : Nat) (pl : List UInt8) (v : Value) (w : World) (hv : isFl F v w) (h1 : F.pages.length ≤ 1000000) (h2 : F.wear.length ≤ 1000000) (p : List UInt8) (hh : hasB F (k : Int) = true) (hp_ : F.pages[k]? = some p) (hpl8 : p.length ≤ 8192) (hpl : pl.length ≤ 1000) (hz : szN (lenI pl) ≠ 0) (hfz : F.fuse ≤ 9223372036854775807) (hfull : nextN p (lenI pl) ≠ roomN p (lenI pl)) (q : Nat) (hq : nextN p (lenI pl) * szN (lenI pl) = q) (hqb : q ≤ 1000000000) :
    Calls Tryz.prog 12 #[v, .int .i64 (k : Int), .string ⟨pl.toArray⟩] w fun e w' => ∃ v', e = .returned (.tuple #[v', .int .i64 (progE F k q (recL pl))]) ∧ isFlN w.heap.size (progF F k q (recL pl)) v' w' ∧ Below w.heap.size w w' := by
  have HH := Kept.mk hh
  have HP := Kept.mk hp_
  have hk : k < F.pages.length := by have := (List.getElem?_eq_some_iff.1 hp_).1; exact this
  have HNX := Kept.mk (fun W : World => next_any p (pl.length : Int) W (by omega) (.inl (by unfold szN sizeN; split <;> omega)))
  have hzp : 0 < szN (lenI pl) := by omega
  have HNR := Kept.mk hfull
  have HQ := Kept.mk hq
  obtain ⟨X, hX⟩ : ∃ X, X = progF F k q (recL pl) := ⟨_, rfl⟩
  obtain ⟨E, hE⟩ : ∃ E, E = progE F k q (recL pl) := ⟨_, rfl⟩
  rw [← hX, ← hE]
  have HPR := Kept.mk (show ∀ (v : Value) (w : World), isFl F v w → Calls Tryz.prog 50 #[v, .int .i64 (k : Int), .int .i64 (q : Int), .string ⟨(recL pl).toArray⟩] w fun e w' => ∃ v', e = .returned (.tuple #[v', .int .i64 E]) ∧ isFlN w.heap.size X v' w' ∧ Below w.heap.size w w' from by
    intro v w hv
    have h := program_any F k q (recL pl) v w hv (by rw [length_recL]; omega) h1 h2 hfz
    rwa [← hX, ← hE] at h)
  clear hh hp_ hz hfull hq hX hE hfz
  have hsz : (⟨pl.toArray⟩ : ByteArray).size = pl.length := size_mk pl
  obtain ⟨vp, vw, rfl, hp, hq⟩ := hv
  have T := Kept.mk (appI_start w F vp vw hp hq)
  have HZ := Kept.mk (szN_eq (lenI pl))
  clear hp hq
  unfold lenI at *
  go_enter Tryz.func12, Tryz.ntmps12
  go_wp2_with fail
  ((with_reducible refine (size_any (pl.length : Int) _).mono ?_); rintro e w9 ⟨rfl, rfl⟩)
  rewrite [HZ.out]
  generalize szN (pl.length : Int) = z at *
  generalize ((w.alloc (.cells #[vp, vw, .int .i64 F.fuse, strC F.torn, .bool F.dead] 25)).alloc (.cells #[.slice none 0 0, .slice none 0 0, .int .i64 0, .string ⟨#[]⟩, .bool false] 25)) = W at *
  obtain ⟨_, k0, k1, k2, k3, k4⟩ := T.out.c3
  have flf := Kept.mk T.out.fl
  go_wp2_with fail
  ((with_reducible refine (phas_any F (k : Int) _ _ flf.out h1 h2).mono ?_); rintro e W2 ⟨rfl, hb⟩)
  replace T := Kept.mk (T.out.grow hb)
  clear hb flf k0 k1 k2 k3 k4
  rewrite [HH.out]
  have z0 : ((z : Int) == 0) = false := by simp; omega
  obtain ⟨b, off, cap, hvp, lb, hcp⟩ := T.out.p.some_ (by rw [List.length_map]; omega)
  rw [List.length_map] at hvp
  subst hvp
  have HC := Kept.mk (show w.cell? ⟨b, off + k, none⟩ = some (.string ⟨p.toArray⟩) from hcp k _ (by rw [List.getElem?_map, HP.out]; rfl))
  clear hcp
  obtain ⟨_, k0, k1, k2, k3, k4⟩ := T.out.c3
  have kp := (T.out.below.cell (p := ⟨b, off + k, none⟩) lb).trans HC.out
  go_wp2_with fail
  ((with_reducible refine (HNX.out _).mono ?_); rintro e W3 ⟨rfl, hb⟩)
  replace T := Kept.mk (T.out.grow hb)
  clear hb k0 k1 k2 k3 k4 kp
  obtain ⟨_, k0, k1, k2, k3, k4⟩ := T.out.c3
  have kp := (T.out.below.cell (p := ⟨b, off + k, none⟩) lb).trans HC.out
  generalize nextN p (pl.length : Int) = nx at *
  go_wp2_with fail
  ((with_reducible refine (room_any p (pl.length : Int) _ (by omega)).mono ?_); rintro e w8 ⟨rfl, rfl⟩)
  generalize roomN p (pl.length : Int) = rm at *
  clear kp k0 k1 k2 k3 k4
  have e0 : ((nx : Int) == (rm : Int)) = false := by
    have := HNR.out
    simp
    omega
  go_wp2_with fail
  refine app_region _ _ _ rfl (w.heap.size + 1) w.heap.size (w.heap.size + 1) F X (.slice (some ⟨b, off, none⟩) F.pages.length cap) vw (k : Int) E nx z q pl (by omega) HQ.out hqb (by have := T.out.size; omega) (by omega) ⟨_, _, rfl, Nat.le_refl _, T.out.b6, rfl⟩ rfl rfl rfl rfl rfl rfl T.out.c3 (fun w2 hb2 => (HPR.out _ w2 ⟨_, vw, rfl, stable_cells _ _ _ _ T.out.p (T.out.below.trans (hb2.mono (by omega))), stable_cells _ _ _ _ T.out.q (T.out.below.trans (hb2.mono (by omega)))⟩).mono (by rintro e w' ⟨v', rfl, hf, hb'⟩; exact ⟨_, rfl, ⟨v', rfl, hf.low (by have := hb2.size; have := T.out.size; omega)⟩, hb'⟩)) ?_
  intro a W8 hd h6 h7 hl hb8
  obtain ⟨g, cs, eg, hg, hc, vp', vw', rfl, hp', hq'⟩ := hl
  injection eg with eg
  injection eg with eg
  injection eg with eg _ _
  subst eg
  have hB := T.out.below.trans (hb8.mono (by omega))
  go_wp2
  exact bodyPost_ret (results2 rfl a.tmps _ (w.heap.size + 1) vp' vw' _ _ _ (.int .i64 E) h6 h7 (cells5_of hc).1) hd ⟨_, rfl, ⟨vp', vw', rfl, hp'.weak (by omega) (Nat.le_refl _), hq'.weak (by omega) (Nat.le_refl _)⟩, hB⟩

theorem append_any (F : Fl) (page : Int) (pl : List UInt8) (v : Value) (w : World) (hv : isFl F v w) (h1 : F.pages.length ≤ 1000000) (h2 : F.wear.length ≤ 1000000) (hfz : F.fuse ≤ 9223372036854775807) (hpl : pl.length ≤ 1000 ∨ 4000 < pl.length) :
    Calls Tryz.prog 12 #[v, .int .i64 page, .string ⟨pl.toArray⟩] w fun e w' => ∃ v', e = .returned (.tuple #[v', .int .i64 (appE F page pl)]) ∧ isFlN w.heap.size (appF F page pl) v' w' ∧ Below w.heap.size w w' := by
  cases hh : hasB F page with
  | false =>
    rw [show appE F page pl = 1 by simp [appE, appOk, hh], show appF F page pl = F by simp [appF, appOk, hh]]
    exact app_no1 F page pl v w hv h1 h2 hh
  | true =>
    by_cases hz : szN (lenI pl) = 0
    · rw [show appE F page pl = 1 by simp [appE, appOk, hz], show appF F page pl = F by simp [appF, appOk, hz]]
      exact app_no2 F page pl v w hv h1 h2 hh hz
    · obtain ⟨k, rfl⟩ := has_nat hh
      have hf := has_facts F k hh
      have hp : F.pages[k]? = some F.pages[k] := List.getElem?_eq_getElem hf.1
      have hpo : pageOf F (k : Int) = F.pages[k] := by simp [pageOf, List.getD_eq_getElem?_getD, hf.1]
      have hl8 := (hf.2.2.2.2.1 F.pages[k] (List.getElem_mem hf.1)).2.1
      have hpl' : pl.length ≤ 1000 := by
        rcases hpl with h | h
        · exact h
        · exfalso; apply hz; unfold szN sizeN lenI; rw [if_pos (by omega)]; rfl
      have hok : appOk F (k : Int) pl = true := by simp [appOk, hh, hz]
      unfold appE appF
      rw [hok, hpo]
      simp only [Bool.true_eq_false, if_false]
      by_cases hfull : nextN F.pages[k] (lenI pl) = roomN F.pages[k] (lenI pl)
      · rw [if_pos hfull, if_pos hfull]
        exact app_full F k pl v w hv h1 h2 _ hh hp hl8 hpl' hz hfull
      · rw [if_neg hfull, if_neg hfull]
        exact app_yes F k pl v w hv h1 h2 _ hh hp hl8 hpl' hz hfz hfull _ rfl (by
          have h1 : nextN F.pages[k] (lenI pl) ≤ roomN F.pages[k] (lenI pl) := tend_le _ _
          have h2 := roomN_le F.pages[k] (lenI pl)
          have h3 := Nat.mul_le_mul_right (szN (lenI pl)) h1
          omega)
end Go.Proofs.YtpjafjnokgeifaaGreatDoor
end
section
namespace Go.Proofs.YtpjafjnokgeifaaGreatDoor
open Go.RowKit
set_option linter.unusedVariables false

theorem putL_snoc : ∀ (k m : Nat), putL m (k + 1) = putL m k ++ [UInt8.ofNat (m / 256 ^ k)]
  | 0, m => by simp [putL]
  | k + 1, m => by
    have h := putL_snoc k (m / 256)
    rw [putL, h, putL, Nat.div_div_eq_div_mul, Nat.pow_succ, Nat.mul_comm]
    simp

set_option maxRecDepth 20000 in
set_option maxHeartbeats 400000 in
theorem refPut_bad (n width : Int) (w : World) (h : isWidthB width = false ∨ n < 0) :
    Calls Tryz.prog 69 #[.int .i64 n, .int .i64 width] w fun e w' => e = .returned (.tuple #[.string ⟨#[]⟩, .int .i64 1]) ∧ w = w' := by
  by_cases h1 : width < 1
  · go_enter Tryz.func69, Tryz.ntmps69
    go_wp2
    go_ret2
    exact ⟨rfl, rfl⟩
  · have h1' : decide (width < 1) = false := by simpa using h1
    by_cases h7 : 7 < width
    · go_enter Tryz.func69, Tryz.ntmps69
      go_wp2
      go_ret2
      exact ⟨rfl, rfl⟩
    · have h7' : decide (7 < width) = false := by simpa using h7
      have hn : n < 0 := by
        rcases h with h | h
        · simp only [isWidthB, Bool.and_eq_false_iff, decide_eq_false_iff_not] at h; omega
        · exact h
      clear h
      go_enter Tryz.func69, Tryz.ntmps69
      go_wp2
      go_ret2
      exact ⟨rfl, rfl⟩

/-- What is left of a number, byte by byte. -/
def leftN (m k : Nat) : Nat := m / 256 ^ k
theorem leftN_succ (m k : Nat) : leftN m (k + 1) = leftN m k / 256 := by
  unfold leftN; rw [Nat.pow_succ, Nat.div_div_eq_div_mul]
theorem leftN_le (m k : Nat) : leftN m k ≤ m := Nat.div_le_self _ _

set_option maxRecDepth 20000 in
set_option maxHeartbeats 400000 in
theorem refPut_run (m wd : Nat) (w : World) (h1 : 1 ≤ wd) (h7 : wd ≤ 7) (hm : (m : Int) ≤ 9223372036854775807) (z : Bool) (hz : decide (0 < leftN m wd) = z) :
    Calls Tryz.prog 69 #[.int .i64 (m : Int), .int .i64 (wd : Int)] w fun e w' => e = .returned (if z = true then .tuple #[.string ⟨#[]⟩, .int .i64 1] else .tuple #[.string ⟨(putL m wd).toArray⟩, .int .i64 0]) ∧ Below w.heap.size w w' := by
  obtain ⟨i0, hi, hz0, hz1, hz2⟩ := info_parts Tryz.infoU8
  have d1 : decide ((wd : Int) < 1) = false := by simp; omega
  have d2 : decide (7 < (wd : Int)) = false := by simp; omega
  have d3 : decide ((m : Int) < 0) = false := by simp
  have HZ := Lib.hid hz
  clear hz
  go_enter Tryz.func69, Tryz.ntmps69
  go_wp2
  go_loopw [0, 6, 7] (fun n v i wr => ∃ k : Nat, k ≤ wd ∧ i = .int .i64 k ∧ n = .int .i64 (leftN m k : Int) ∧ OwnB wr w.heap.size 5 v (putL m k) ∧ Below w.heap.size w wr) (fun _ _ i _ => wd - (intOf i).toNat)
  case atStart => exact ⟨0, Nat.zero_le _, rfl, by simp [leftN], OwnB.nil _ _ _, Below.refl _ _⟩
  case round =>
    obtain ⟨k, hk, rfl, rfl, hown, hbel⟩ := hrel
    have hle := leftN_le m k
    by_cases hlt : k < wd
    · have hlen := length_putL k m
      have hbs := hown.size_le
      have HS := Lib.hid (putL_snoc k m)
      have HN := Lib.hid (leftN_succ m k)
      have HQ := Lib.hid (show ((leftN m k : Int) % 256) = ((UInt8.ofNat (m / 256 ^ k)).toNat : Int) by unfold leftN; simp)
      generalize putL m k = l at *
      have HO := Lib.hid hown
      have HBS := Lib.hid hbs
      have hll : l.length ≤ 7 := by omega
      clear hown hbs hlen
      go_wp2_with (at_builtin; refine wpList_append_own _ rfl _ _ 82 rfl w.heap.size 5 i0 (.int .u8 0) 1 1 Tryz.underlying82 hi hz0 hz1 hz2 rfl (by decide) _ _ _ rfl (HO.out.alloc _) ⟨wr.heap.size, 0, none⟩ 1 1 [.int .u8 ((leftN m k : Int) % 256)] rfl rfl ?c1 ?c2 ?c3 ?c4 ?c5 ?_)
      case c1 => exact cell_one_new _ _ _
      case c2 => intro u hu; simp at hu; subst hu; rfl
      case c3 => unfold maxLen; omega
      case c4 => omega
      case c5 => have := hbel.size; simp; omega
      · intro v' w1 hown' hgrow _
        have hB1 : Below w.heap.size w w1 := (hbel.alloc (by have := hbel.size; omega) _).grown hgrow (by have := hbel.size; simp; omega) HBS.out
        have HO1 : Hid (OwnB w1 w.heap.size 5 v' (putL m (k + 1))) := by
          show OwnB _ _ _ _ _
          rw [HS.out]
          rw [HQ.out, encB_snoc] at hown'
          have e : l.length + 1 = (l ++ [UInt8.ofNat (m / 256 ^ k)]).length := by simp
          rw [e] at hown'
          exact hown'
        clear hown' hgrow
        go_wp2
        go_roundw
        case rel => exact ⟨k + 1, by omega, by go_num, by rw [HN.out]; go_num, HO1.out, hB1⟩
        case measure => simp [intOf]; omega
    · obtain rfl : k = wd := by omega
      have hbk := hown.back (P := Tryz.prog) 82 9 Tryz.underlying82 Tryz.underlying5 Tryz.underlying9
      have HO := Lib.hid hown
      clear hown
      have hzz := HZ.out
      cases z with
      | true =>
        have hp : 0 < leftN m k := by simpa using hzz
        go_wp2
        go_ret2
        exact ⟨rfl, hbel⟩
      | false =>
        have hp : ¬ 0 < leftN m k := by simpa using hzz
        go_wp2
        go_ret2
        exact ⟨rfl, hbel⟩

theorem refPut_any (n width : Int) (w : World) (hm : n ≤ 9223372036854775807) :
    Calls Tryz.prog 69 #[.int .i64 n, .int .i64 width] w fun e w' => e = .returned (.tuple #[.string ⟨(putS n width).toArray⟩, .int .i64 (putE n width)]) ∧ Below w.heap.size w w' := by
  by_cases h : isWidthB width = false ∨ n < 0
  · refine (refPut_bad n width w h).mono ?_
    rintro e w' ⟨rfl, rfl⟩
    have ok : okPut n width = false := by
      rcases h with h | h
      · simp [okPut, h]
      · simp [okPut]; omega
    exact ⟨by simp [putS, putE, ok], Below.refl _ _⟩
  · have hw : isWidthB width = true := by simp at h; exact h.1
    have hwd : 1 ≤ width ∧ width ≤ 7 := by simpa [isWidthB] using hw
    obtain ⟨m, rfl⟩ := Int.eq_ofNat_of_zero_le (show 0 ≤ n by simp at h; omega)
    obtain ⟨wd, rfl⟩ := Int.eq_ofNat_of_zero_le (show 0 ≤ width by omega)
    refine (refPut_run m wd w (by omega) (by omega) hm _ rfl).mono ?_
    rintro e w' ⟨rfl, hb⟩
    have hiff : okPut (m : Int) (wd : Int) = !decide (0 < leftN m wd) := by
      have e1 : ((256 : Int) ^ wd) = ((256 ^ wd : Nat) : Int) := by simp
      simp only [okPut, hw, Bool.true_and, Int.toNat_natCast, e1]
      unfold leftN
      by_cases hz : m < 256 ^ wd
      · have : m / 256 ^ wd = 0 := Nat.div_eq_of_lt hz
        simp [this]
        omega
      · have := Nat.div_pos (Nat.le_of_not_lt hz) (Nat.pow_pos (n := wd) (show 0 < 256 by omega))
        simp [this]
        omega
    refine ⟨?_, hb⟩
    cases hd : decide (0 < leftN m wd) with
    | true => rw [hd] at hiff; simp [putS, putE, hiff]
    | false => rw [hd] at hiff; simp [putS, putE, hiff]

set_option maxRecDepth 20000 in
set_option maxHeartbeats 400000 in
theorem refGet_bad1 (l : List UInt8) (at_ wd : Int) (w : World) (h : isWidthB wd = false) :
    Calls Tryz.prog 71 #[.string ⟨l.toArray⟩, .int .i64 at_, .int .i64 wd] w fun e w' => e = .returned (.tuple #[.int .i64 0, .int .i64 1]) ∧ w = w' := by
  by_cases h1 : wd < 1
  · go_enter Tryz.func71, Tryz.ntmps71
    go_wp2
    go_ret2
    exact ⟨rfl, rfl⟩
  · have h1' : decide (wd < 1) = false := by simpa using h1
    have h7 : 7 < wd := by simp only [isWidthB, Bool.and_eq_false_iff, decide_eq_false_iff_not] at h; omega
    go_enter Tryz.func71, Tryz.ntmps71
    go_wp2
    go_ret2
    exact ⟨rfl, rfl⟩
set_option maxRecDepth 20000 in
set_option maxHeartbeats 400000 in
theorem refGet_bad2 (l : List UInt8) (at_ wd : Int) (w : World) (hl : l.length ≤ 1000000000) (h1 : 1 ≤ wd) (h7 : wd ≤ 7) (h : at_ < 0 ∨ (l.length : Int) < at_ + wd) :
    Calls Tryz.prog 71 #[.string ⟨l.toArray⟩, .int .i64 at_, .int .i64 wd] w fun e w' => e = .returned (.tuple #[.int .i64 0, .int .i64 2]) ∧ w = w' := by
  have d1 : decide (wd < 1) = false := by simp; omega
  have d2 : decide (7 < wd) = false := by simp; omega
  by_cases h0 : at_ < 0
  · clear h
    go_enter Tryz.func71, Tryz.ntmps71
    go_wp2
    go_ret2
    exact ⟨rfl, rfl⟩
  · have h' : (l.length : Int) < at_ + wd := by omega
    have d0 : decide (at_ < 0) = false := by simp; omega
    clear h
    by_cases h2 : (l.length : Int) < at_
    · go_enter Tryz.func71, Tryz.ntmps71
      go_wp2
      go_ret2
      exact ⟨rfl, rfl⟩
    · have d3 : decide ((l.length : Int) < at_) = false := by simp; omega
      have d4 : decide ((l.length : Int) - at_ < wd) = true := by simp; omega
      have b1 : 0 ≤ at_ := by omega
      have b2 : at_ ≤ 1000000000 := by omega
      go_enter Tryz.func71, Tryz.ntmps71
      go_wp2
      go_ret2
      exact ⟨rfl, rfl⟩

theorem getN_drop (l : List UInt8) (i : Nat) (h : i < l.length) : getN (l.drop i) = 256 * getN (l.drop (i + 1)) + l[i].toNat := by
  rw [List.drop_eq_getElem_cons h, getN]
  omega

theorem get_step (g b : Nat) (hg : g ≤ 281474976710656) (hb : b < 2 ^ 8) : wrap64 (256 * (g : Int) + wrap64 (b : Int)) = ((256 * g + b : Nat) : Int) := by
  unfold wrap64
  omega

set_option maxRecDepth 20000 in
set_option maxHeartbeats 400000 in
theorem refGet_ok (l : List UInt8) (at_ wd : Nat) (w : World) (hl : l.length ≤ 1000000000) (h1 : 1 ≤ wd) (h7 : wd ≤ 7) (hf : at_ + wd ≤ l.length) :
    Calls Tryz.prog 71 #[.string ⟨l.toArray⟩, .int .i64 (at_ : Int), .int .i64 (wd : Int)] w fun e w' => e = .returned (.tuple #[.int .i64 (getN ((l.drop at_).take wd) : Int), .int .i64 0]) ∧ w = w' := by
  have d1 : decide ((wd : Int) < 1) = false := by simp; omega
  have d2 : decide (7 < (wd : Int)) = false := by simp; omega
  have d0 : decide ((at_ : Int) < 0) = false := by simp
  have d3 : decide (l.length < at_) = false := by simp; omega
  have d4 : decide ((l.length : Int) - (at_ : Int) < (wd : Int)) = false := by simp; omega
  have hq : ((l.drop at_).take wd).length = wd := by rw [List.length_take, List.length_drop]; omega
  have HQ := Lib.hid hq
  clear hq
  go_enter Tryz.func71, Tryz.ntmps71
  go_wp2
  go_loop [8, 9] (fun n i => ∃ k : Nat, k ≤ wd ∧ i = .int .i64 ((k : Int) - 1) ∧ n = .int .i64 (getN (((l.drop at_).take wd).drop k) : Int)) (fun _ i => (intOf i + 1).toNat)
  case atStart => exact ⟨wd, Nat.le_refl _, rfl, by rw [List.drop_eq_nil_of_le (by rw [HQ.out]; exact Nat.le_refl _)]; rfl⟩
  case round =>
    obtain ⟨k, hk, rfl, rfl⟩ := hrel
    by_cases h0 : 0 < k
    · obtain ⟨j, rfl⟩ : ∃ j, k = j + 1 := ⟨k - 1, by omega⟩
      have HD := Lib.hid (getN_drop ((l.drop at_).take wd) j (by rw [HQ.out]; omega))
      have HG := Lib.hid (show ((l.drop at_).take wd)[j]'(by rw [HQ.out]; omega) = l[at_ + j]'(by omega) by simp)
      have hgl := getN_lt (((l.drop at_).take wd).drop (j + 1))
      have hgp : 256 ^ (((l.drop at_).take wd).drop (j + 1)).length ≤ 281474976710656 := by
        rw [List.length_drop, HQ.out]
        have := Nat.pow_le_pow_right (n := 256) (show 0 < 256 by omega) (show wd - (j + 1) ≤ 6 by omega)
        simpa using this
      have hgb : getN (((l.drop at_).take wd).drop (j + 1)) ≤ 281474976710656 := by omega
      clear hgl hgp
      have hbt := UInt8.toNat_lt (l[at_ + j]'(by omega))
      go_wp2
      go_round
      case rel =>
        go_light
        refine ⟨j, by omega, rfl, ?_⟩
        rw [HD.out, HG.out]
        exact congrArg (Value.int .i64) (get_step _ _ hgb hbt)
      case measure => simp [intOf]
    · obtain rfl : k = 0 := by omega
      go_wp2
      go_ret2
      exact ⟨rfl, rfl⟩

theorem refGet_any (l : List UInt8) (at_ wd : Int) (w : World) (hl : l.length ≤ 1000000000) :
    Calls Tryz.prog 71 #[.string ⟨l.toArray⟩, .int .i64 at_, .int .i64 wd] w fun e w' => e = .returned (.tuple #[.int .i64 (getV ⟨l.toArray⟩ at_ wd), .int .i64 (getE ⟨l.toArray⟩ at_ wd)]) ∧ w = w' := by
  cases h : isWidthB wd with
  | false =>
    refine (refGet_bad1 l at_ wd w h).mono ?_
    rintro e w' ⟨rfl, rfl⟩
    exact ⟨by simp [getV, getE, h], rfl⟩
  | true =>
    have hwd : 1 ≤ wd ∧ wd ≤ 7 := by simpa [isWidthB] using h
    by_cases hb : at_ < 0 ∨ (l.length : Int) < at_ + wd
    · refine (refGet_bad2 l at_ wd w hl hwd.1 hwd.2 hb).mono ?_
      rintro e w' ⟨rfl, rfl⟩
      have ok : okGet ⟨l.toArray⟩ at_ wd = false := by simp only [okGet, size_mk, Bool.and_eq_false_iff, decide_eq_false_iff_not]; omega
      exact ⟨by simp [getV, getE, h, ok], rfl⟩
    · obtain ⟨a, rfl⟩ := Int.eq_ofNat_of_zero_le (show 0 ≤ at_ by omega)
      obtain ⟨b, rfl⟩ := Int.eq_ofNat_of_zero_le (show 0 ≤ wd by omega)
      refine (refGet_ok l a b w hl (by omega) (by omega) (by omega)).mono ?_
      rintro e w' ⟨rfl, rfl⟩
      have ok : okGet ⟨l.toArray⟩ (a : Int) (b : Int) = true := by simp only [okGet, size_mk, Bool.and_eq_true, decide_eq_true_eq]; omega
      exact ⟨by simp [getV, getE, h, ok], rfl⟩
end Go.Proofs.YtpjafjnokgeifaaGreatDoor
end
section
namespace Go.Proofs.YtpjafjnokgeifaaGreatDoor
open Go.RowKit
set_option linter.unusedVariables false

/-- The lowest bit of the byte is turned into the number, the others wait. -/
theorem stp_bit (q c : Nat) : stp (q ^^^ c) = stp (q ^^^ c % 2) ^^^ c / 2 := by
  rw [stp_xor, stp_xor, Nat.xor_assoc]
  congr 1
  unfold stp
  rcases Nat.mod_two_eq_zero_or_one c with h | h <;> simp [h]
  rw [Nat.xor_comm]

set_option maxHeartbeats 400000 in
theorem refStep_any (n b : Nat) (w : World) (hn : n < 4294967296) (hb : b < 2) :
    Calls Tryz.prog 157 #[.int .u32 (n : Int), .int .u32 (b : Int)] w fun e w' => e = .returned (.int .u32 (stp (n ^^^ b) : Int)) ∧ w = w' := by
  have hxor := u32_xor_nat (n / 2) 3988292384 (by omega) (by omega)
  have hb2 : b / 2 = 0 := by omega
  have H := Lib.hid (show stp (n ^^^ b) = if n % 2 = b then n / 2 else n / 2 ^^^ 3988292384 by
    unfold stp
    rw [xor_two, xor_half, hb2, Nat.xor_zero]
    by_cases h : n % 2 = b
    · rw [if_pos h, if_neg (by omega)]
    · rw [if_neg h, if_pos (by omega)])
  by_cases h : n % 2 = b
  · have h' : ((n : Int) % 2 != (b : Int)) = false := by simp [bne]; omega
    go_enter Tryz.func157, Tryz.ntmps157
    go_wp2
    go_ret
    exact ⟨ret_int (by rw [H.out, if_pos h]; omega), rfl⟩
  · have h' : ((n : Int) % 2 != (b : Int)) = true := by simp [bne]; omega
    go_enter Tryz.func157, Tryz.ntmps157
    go_wp2
    go_ret
    exact ⟨ret_int (by rw [H.out, if_neg h, ← hxor]; rfl), rfl⟩

set_option maxHeartbeats 1000000 in
theorem refOn_any (n : Nat) (l : List UInt8) (w : World) (hn : n < 4294967296) (hl : l.length ≤ 1000000) :
    Calls Tryz.prog 116 #[.int .u32 (n : Int), .string ⟨l.toArray⟩] w fun e w' => e = .returned (.int .u32 (onL n l : Int)) ∧ w = w' := by
  go_enter Tryz.func116, Tryz.ntmps116
  have hsz : (⟨l.toArray⟩ : ByteArray).size = l.length := size_mk l
  go_wp2
  go_loop [0, 5] (fun x i => ∃ k : Nat, k ≤ l.length ∧ i = .int .i64 k ∧ x = .int .u32 (onL n (l.take k) : Int)) (fun _ i => l.length - (intOf i).toNat)
  case atStart => exact ⟨0, Nat.zero_le _, rfl, rfl⟩
  case round =>
    obtain ⟨k, hk, rfl, rfl⟩ := hrel
    have ho := onL_lt (l.take k) hn
    by_cases hlt : k < l.length
    · have HT := Lib.hid (onL_take n l k hlt)
      have hb := byte_lt l[k]
      have hb2 := (l[k]).toNat_lt
      have hbb : (((⟨l.toArray⟩ : ByteArray)[k]'(by rw [hsz]; exact hlt)).toNat : Int) % 4294967296 = ((l[k]).toNat : Int) := by
        change (((l[k]).toNat : Nat) : Int) % 4294967296 = _; omega
      generalize onL n (l.take k) = q0 at *
      go_wp2
      go_loop [0, 6, 7] (fun x c i => ∃ j q r : Nat, j ≤ 8 ∧ q < 4294967296 ∧ r < 256 ∧ i = .int .i64 j ∧ x = .int .u32 (q : Int) ∧ c = .int .u32 (r : Int) ∧ r * 2 ^ j < 256 ∧ Hid (stps (8 - j) (q ^^^ r) = stps 8 (q0 ^^^ (l[k]).toNat))) (fun _ _ i => 8 - (intOf i).toNat)
      case atStart => exact ⟨0, q0, (l[k]).toNat, by omega, ho, hb2, rfl, rfl, by go_num, by omega, Lib.hid rfl⟩
      case round =>
        obtain ⟨j, q, r, hj, hq, hr, rfl, rfl, rfl, hrj, HR⟩ := hrel
        by_cases hj8 : j < 8
        · have hx := x32 hq (show r % 2 < 4294967296 by omega)
          have hsl := stp_lt hx
          have HS := Lib.hid (show stps (8 - j) (q ^^^ r) = stps (8 - (j + 1)) (stp (q ^^^ r % 2) ^^^ r / 2) by
            rw [show 8 - j = (8 - (j + 1)) + 1 by omega, ← stp_bit]; rfl)
          have hr2 : r / 2 * 2 ^ (j + 1) < 256 := by
            have : r / 2 * 2 ^ (j + 1) ≤ r * 2 ^ j := by
              rw [Nat.pow_succ, Nat.mul_comm (2 ^ j) 2, ← Nat.mul_assoc]
              exact Nat.mul_le_mul_right _ (Nat.div_mul_le_self r 2)
            omega
          have HR2 := Lib.hid hr2
          have HM := Lib.hid (show ((r : Int) % 2) = ((r % 2 : Nat) : Int) by omega)
          clear hr2 hrj
          go_wp2_with fail
          rw [HM.out]
          refine (refStep_any q (r % 2) _ hq (by omega)).mono ?_
          rintro e w' ⟨rfl, rfl⟩
          generalize stp (q ^^^ r % 2) = q2 at *
          go_wp2
          go_round
          case rel => exact ⟨j + 1, q2, r / 2, by omega, hsl, by omega, by go_num, by go_num, by go_num, HR2.out, Lib.hid (by rw [← HS.out]; exact HR.out)⟩
          case measure => simp [intOf]; omega
        · obtain rfl : j = 8 := by omega
          obtain rfl : r = 0 := by simp at hrj; omega
          clear hrj
          go_wp2
          go_round
          case rel => exact ⟨k + 1, by omega, by go_num, by rw [HT.out, stp8_eq, ← HR.out, Nat.xor_zero]; rfl⟩
          case measure => simp [intOf]; omega
    · go_wp2
      go_ret
      exact ⟨ret_int (by rw [List.take_of_length_le (by omega)]), rfl⟩

theorem xor_last {n : Nat} (h : n < 4294967296) : bits .xor .u32 (n : Int) 4294967295 = ((4294967295 - n : Nat) : Int) := by
  have := u32_xor_nat n 4294967295 h (by omega)
  rw [show ((4294967295 : Nat) : Int) = 4294967295 from rfl] at this
  rw [this, Nat.xor_comm, ← not_x32 h]

set_option maxHeartbeats 400000 in
theorem refSum_any (l : List UInt8) (w : World) (hl : l.length ≤ 1000000) :
    Calls Tryz.prog 59 #[.string ⟨l.toArray⟩] w fun e w' => e = .returned (.int .i64 (crcN l : Int)) ∧ w = w' := by
  have ho := onL_lt l (n := 4294967295) (by omega)
  have H := Lib.hid (show crcN l = 4294967295 - onL 4294967295 l from rfl)
  have hx := xor_last ho
  have hle : onL 4294967295 l ≤ 4294967295 := by omega
  go_enter Tryz.func59, Tryz.ntmps59
  go_wp2_with fail
  refine (refOn_any 4294967295 l _ (by omega) hl).mono ?_
  rintro e w' ⟨rfl, rfl⟩
  generalize onL 4294967295 l = q at *
  go_wp2
  go_ret
  exact ⟨ret_int (by rw [H.out]), rfl⟩

theorem refPut4 (m : Nat) (w : World) (hm : m < 4294967296) :
    Calls Tryz.prog 69 #[.int .i64 (m : Int), .int .i64 4] w fun e w' => e = .returned (.tuple #[.string ⟨(putL m 4).toArray⟩, .int .i64 0]) ∧ Below w.heap.size w w' := by
  refine (refPut_run m 4 w (by omega) (by omega) (by omega) false (by unfold leftN; rw [Nat.div_eq_of_lt (by omega)]; rfl)).mono ?_
  rintro e w' ⟨rfl, hb⟩
  exact ⟨rfl, hb⟩

set_option maxHeartbeats 400000 in
theorem refSeal_any (l : List UInt8) (w : World) (hl : l.length ≤ 1000000) :
    Calls Tryz.prog 115 #[.string ⟨l.toArray⟩] w fun e w' => e = .returned (.string ⟨(sealL l).toArray⟩) ∧ Below w.heap.size w w' := by
  have hp := length_putL 4 (crcN l)
  have hcat := fun W => run_string_add_lists (P := Tryz.prog) W l (putL (crcN l) 4) (by omega) (by omega)
  have hs := sumN_lt l
  have HS := Lib.hid (show l ++ putL (crcN l) 4 = sealL l from rfl)
  go_enter Tryz.func115, Tryz.ntmps115
  go_wp2_with fail
  refine (refSum_any l _ hl).mono ?_
  rintro e w' ⟨rfl, rfl⟩
  go_wp2_with fail
  refine (refPut4 (crcN l) _ hs).mono ?_
  rintro e w' ⟨rfl, hB⟩
  generalize putL (crcN l) 4 = p at *
  go_wp2
  go_ret
  exact ⟨ret_str HS.out, hB⟩

/-- What opens is what is sealed. -/
theorem opens_eq (l : List UInt8) (m : Nat) (hm : l.length = m + 4) : opens l = decide (sealL (l.take m) = l) := by
  rw [Bool.eq_iff_iff, decide_eq_true_iff]
  constructor
  · intro h
    have := seal_open l h
    unfold openS at this
    rwa [h, if_pos rfl, hm, Nat.add_sub_cancel] at this
  · intro h
    rw [← h]
    exact opens_seal _

end Go.Proofs.YtpjafjnokgeifaaGreatDoor
end
section
namespace Go.Proofs.YtpjafjnokgeifaaGreatDoor
open Go.RowKit
set_option linter.unusedVariables false

theorem refNot_l (a : List UInt8) (w : World) (ha : a.length ≤ 100000) :
    Calls Tryz.prog 109 #[.string ⟨a.toArray⟩] w fun e w' => e = .returned (.string ⟨(notL a).toArray⟩) ∧ Below w.heap.size w w' :=
  refNot_any _ w (by rw [size_mk]; exact ha)

set_option maxHeartbeats 400000 in
theorem refMake_any (l : List UInt8) (w : World) (hl : l.length ≤ 1024) :
    Calls Tryz.prog 56 #[.string ⟨l.toArray⟩] w fun e w' => e = .returned (.string ⟨(recL l).toArray⟩) ∧ Below w.heap.size w w' := by
  have hsl := length_sealL l
  have hnl := length_notL (sealL l)
  have hcat := fun W => run_string_add_lists (P := Tryz.prog) W (sealL l) (notL (sealL l)) (by omega) (by omega)
  have HR := Lib.hid (show sealL l ++ notL (sealL l) = recL l from rfl)
  go_enter Tryz.func56, Tryz.ntmps56
  go_wp2_with fail
  refine (refSeal_any l _ (by omega)).mono ?_
  rintro e w1 ⟨rfl, hB⟩
  go_wp2_with fail
  (with_reducible refine (refNot_l (sealL l) _ (by omega)).mono ?_); rintro e w2 ⟨rfl, hb2⟩
  replace hB := hB.trans (hb2.mono hB.size); clear hb2
  go_wp2
  go_ret
  exact ⟨ret_str HR.out, hB⟩

theorem refSize_any (n : Int) (w : World) :
    Calls Tryz.prog 52 #[.int .i64 n] w fun e w' => e = .returned (.int .i64 (sizeN n)) ∧ w = w' := by
  by_cases h1 : n < 0
  · have d1 : decide (n < 0) = true := by simpa using h1
    go_enter Tryz.func52, Tryz.ntmps52
    go_wp2
    go_ret
    exact ⟨by simp [sizeN, h1], rfl⟩
  · have d1 : decide (n < 0) = false := by simpa using h1
    by_cases h2 : 4000 < n
    · have d2 : decide (4000 < n) = true := by simpa using h2
      go_enter Tryz.func52, Tryz.ntmps52
      go_wp2
      go_ret
      exact ⟨by simp [sizeN, h2], rfl⟩
    · have d2 : decide (4000 < n) = false := by simpa using h2
      go_enter Tryz.func52, Tryz.ntmps52
      go_wp2
      go_ret
      exact ⟨ret_int (by unfold sizeN; rw [if_neg (by omega)]), rfl⟩

set_option maxHeartbeats 400000 in
theorem refClear_any (l : List UInt8) (w : World) (hl : l.length ≤ 1000) :
    Calls Tryz.prog 104 #[.string ⟨l.toArray⟩] w fun e w' => e = .returned (.bool (clearL l)) ∧ Below w.heap.size w w' := by
  have hsz : (⟨l.toArray⟩ : ByteArray).size = l.length := size_mk l
  have HC := Lib.hid (show (l == onesL (l.length : Int)) = clearL l by
    rw [clear_iff]
    have : onesL (l.length : Int) = List.replicate l.length 255 := by unfold onesL; rw [if_pos (by omega), Int.toNat_natCast]
    rw [this]
    by_cases h : l = List.replicate l.length 255
    · rw [decide_eq_true h]; exact beq_iff_eq.2 h
    · rw [decide_eq_false h]; exact beq_eq_false_iff_ne.2 h)
  go_enter Tryz.func104, Tryz.ntmps104
  go_wp2_with fail
  refine (refOnes_any _ _).mono ?_
  rintro e w1 ⟨rfl, hB⟩
  generalize onesL (l.length : Int) = o at *
  go_wp2
  go_ret
  exact ⟨by rw [← HC.out]; rfl, hB⟩

end Go.Proofs.YtpjafjnokgeifaaGreatDoor
end
section
namespace Go.Proofs.YtpjafjnokgeifaaGreatDoor
open Go.RowKit
set_option linter.unusedVariables false
set_option linter.unusedSimpArgs false

set_option maxHeartbeats 1000000 in
theorem refRoom_any (s : List UInt8) (n : Int) (w : World) (hs : s.length ≤ 1000000000) :
    Calls Tryz.prog 54 #[.string ⟨s.toArray⟩, .int .i64 n] w fun e w' => e = .returned (.int .i64 (roomN s n : Int)) ∧ w = w' := by
  have hsz : (⟨s.toArray⟩ : ByteArray).size = s.length := size_mk s
  have HE := Lib.hid (szN_eq n)
  have HZ := Lib.hid (roomN_zero s n)
  have HR := Lib.hid (show (roomN s n : Int) = (s.length : Int) / (szN n : Int) by unfold roomN; simp)
  have hle := szN_le n
  have hrl := roomN_len s n
  generalize szN n = z at *
  generalize roomN s n = r at *
  by_cases h0 : z = 0
  · have d0 : ((z : Int) == 0) = true := by simp [h0]
    go_enter Tryz.func54, Tryz.ntmps54
    go_wp2_with fail
    ((with_reducible refine (refSize_any n _).mono ?_); rintro e w' ⟨rfl, rfl⟩)
    rw [HE.out]
    go_wp2
    go_ret
    exact ⟨by rw [HZ.out h0]; rfl, rfl⟩
  · have d0 : ((z : Int) == 0) = false := by simp; omega
    have hz1 : 0 < z := by omega
    have hq0 : 0 ≤ (s.length : Int) / (z : Int) := by rw [← HR.out]; omega
    have hq1 : (s.length : Int) / (z : Int) ≤ 1000000000 := by rw [← HR.out]; omega
    go_enter Tryz.func54, Tryz.ntmps54
    go_wp2_with fail
    ((with_reducible refine (refSize_any n _).mono ?_); rintro e w' ⟨rfl, rfl⟩)
    rw [HE.out]
    go_wp2
    go_ret
    exact ⟨by rw [HR.out]; rfl, rfl⟩
set_option maxHeartbeats 1000000 in
theorem refSlot_no (s : List UInt8) (n i : Int) (w : World) (hs : s.length ≤ 1000000000) (h : i < 0 ∨ (roomN s n : Int) ≤ i) :
    Calls Tryz.prog 105 #[.string ⟨s.toArray⟩, .int .i64 n, .int .i64 i] w fun e w' => e = .returned (.string ⟨#[]⟩) ∧ w = w' := by
  by_cases h0 : i < 0
  · have d0 : decide (i < 0) = true := by simpa using h0
    go_enter Tryz.func105, Tryz.ntmps105
    go_wp2
    go_ret
    exact ⟨rfl, rfl⟩
  · have d0 : decide (i < 0) = false := by simpa using h0
    have d1 : decide ((roomN s n : Int) ≤ i) = true := by simp; omega
    go_enter Tryz.func105, Tryz.ntmps105
    go_wp2_with fail
    ((with_reducible refine (refRoom_any s n _ hs).mono ?_); rintro e w' ⟨rfl, rfl⟩)
    go_wp2
    go_ret
    exact ⟨rfl, rfl⟩
set_option maxHeartbeats 1000000 in
theorem refSlot_yes (s : List UInt8) (n : Int) (i : Nat) (w : World) (hs : s.length ≤ 1000000000) (h : i < roomN s n) :
    Calls Tryz.prog 105 #[.string ⟨s.toArray⟩, .int .i64 n, .int .i64 (i : Int)] w fun e w' => e = .returned (.string ⟨(slotL s n i).toArray⟩) ∧ w = w' := by
  have hsz : (⟨s.toArray⟩ : ByteArray).size = s.length := size_mk s
  have d0 : decide ((i : Int) < 0) = false := by simp
  have d1 : decide ((roomN s n : Int) ≤ (i : Int)) = false := by simp; omega
  have d1' : decide (roomN s n ≤ i) = false := by simp; omega
  have h1 := roomN_le s n
  have h2 : (i + 1) * szN n ≤ roomN s n * szN n := Nat.mul_le_mul_right _ h
  have h3 : (i + 1) * szN n = i * szN n + szN n := by rw [Nat.add_mul, Nat.one_mul]
  rw [h3] at h2
  have HE := Lib.hid (szN_eq n)
  have hz := szN_le n
  have HS := Lib.hid (show slotL s n i = (s.drop (i * szN n)).take (szN n) from rfl)
  have HM := Lib.hid (show (i : Int) * (szN n : Int) = ((i * szN n : Nat) : Int) by simp)
  have HX := Lib.hid (ext_mid s (i * szN n) (i * szN n + szN n))
  have hil : i ≤ 1000000000 := Nat.le_trans (Nat.le_of_lt h) (Nat.le_trans (roomN_len s n) hs)
  generalize szN n = z at *
  generalize i * z = q at *
  clear h3
  have hm0 : 0 ≤ (i : Int) * (z : Int) := by rw [HM.out]; omega
  have hm1 : (i : Int) * (z : Int) ≤ 1000000000 := by rw [HM.out]; omega
  have hm4 : (i : Int) * (z : Int) + (z : Int) ≤ (s.length : Int) := by rw [HM.out]; omega
  have HR := Lib.hid (show (⟨s.toArray⟩ : ByteArray).extract ((i : Int) * (z : Int)).toNat ((i : Int) * (z : Int) + (z : Int)).toNat = ⟨(slotL s n i).toArray⟩ by
    rw [HM.out, show ((q : Int) + (z : Int)).toNat = q + z by omega, Int.toNat_natCast, HX.out, HS.out, Nat.add_sub_cancel_left])
  clear HS HX HM h1 h2
  go_enter Tryz.func105, Tryz.ntmps105
  go_wp2_with fail
  ((with_reducible refine (refRoom_any s n _ hs).mono ?_); rintro e w' ⟨rfl, rfl⟩)
  go_wp2_with fail
  ((with_reducible refine (refSize_any n _).mono ?_); rintro e w' ⟨rfl, rfl⟩)
  rw [HE.out]
  go_wp2
  go_ret
  exact ⟨by rw [← HR.out]; rfl, rfl⟩
theorem refSlot_any (s : List UInt8) (n i : Int) (w : World) (hs : s.length ≤ 1000000000) :
    Calls Tryz.prog 105 #[.string ⟨s.toArray⟩, .int .i64 n, .int .i64 i] w fun e w' => e = .returned (.string ⟨(slotI s n i).toArray⟩) ∧ w = w' := by
  by_cases h : 0 ≤ i ∧ i < (roomN s n : Int)
  · obtain ⟨k, rfl⟩ := Int.eq_ofNat_of_zero_le h.1
    have := refSlot_yes s n k w hs (by omega)
    rwa [show slotI s n (k : Int) = slotL s n k by unfold slotI; rw [if_pos h]; rfl]
  · have := refSlot_no s n i w hs (by omega)
    rwa [show slotI s n i = [] by unfold slotI; rw [if_neg h]]
end Go.Proofs.YtpjafjnokgeifaaGreatDoor
end
section
namespace Go.Proofs.YtpjafjnokgeifaaGreatDoor
set_option linter.unusedVariables false
set_option linter.unusedSimpArgs false

theorem tcnt_succ (p : Nat → Bool) (r : Nat) : tcnt p (List.range (r + 1)) = tcnt p (List.range r) + (if p r = true then 1 else 0) := by
  simp only [tcnt, List.range_succ, List.filter_append, List.length_append, List.filter_cons, List.filter_nil]
  split <;> simp
theorem tend_succ (p : Nat → Bool) (r : Nat) : tend p (List.range (r + 1)) = if p r = true then r + 1 else tend p (List.range r) := by
  simp [tend, List.range_succ]
/-- From there on none is such; the one ahead of it is. -/
theorem tend_spec (p : Nat → Bool) : ∀ r, (∀ j, tend p (List.range r) ≤ j → j < r → p j = false) ∧ (0 < tend p (List.range r) → p (tend p (List.range r) - 1) = true)
  | 0 => ⟨fun j _ h => by omega, fun h => by simp [tend] at h⟩
  | r + 1 => by
    obtain ⟨h1, h2⟩ := tend_spec p r
    rw [tend_succ]
    cases hp : p r with
    | true => exact ⟨fun j a b => by simp at a; omega, fun _ => by simpa using hp⟩
    | false =>
      simp only [Bool.false_eq_true, if_false]
      refine ⟨fun j a b => ?_, h2⟩
      by_cases e : j = r
      · subst e; exact hp
      · exact h1 j a (by omega)
theorem rec_not_clear {t : List UInt8} (h : isRec t = true) : clearL t = false := by
  rcases readE_cases t with ⟨h0, h1⟩ | ⟨h0, _⟩
  · rw [← h1]; exact clearL_rec _
  · simp [isRec, h0] at h
theorem recOf_len (t : List UInt8) : (recOf t).length = if isRec t = true then 1 else 0 := by
  unfold recOf isRec
  by_cases h : readE t = 0 <;> simp [h]
theorem recsOf_succ (s : List UInt8) (n : Int) (r : Nat) : recsOf s n (List.range (r + 1)) = recsOf s n (List.range r) ++ recOf (slotL s n r) := by simp [recsOf, List.range_succ]
/-- Each place is one of three. -/
theorem three_kinds (s : List UInt8) (n : Int) : ∀ r, tcnt (fun i => clearL (slotL s n i)) (List.range r) + tcnt (fun i => badP (slotL s n i)) (List.range r) + (recsOf s n (List.range r)).length = r
  | 0 => by simp [tcnt, recsOf]
  | r + 1 => by
    have ih := three_kinds s n r
    rw [tcnt_succ, tcnt_succ, recsOf_succ, List.length_append, recOf_len]
    cases hr : isRec (slotL s n r) with
    | true =>
      have hc := rec_not_clear hr
      have hb : badP (slotL s n r) = false := by simp [badP, hr]
      rw [hc, hb]
      simp only [Bool.false_eq_true, if_false, if_true]
      omega
    | false =>
      cases hc : clearL (slotL s n r) with
      | true =>
        have hb : badP (slotL s n r) = false := by simp [badP, hc]
        rw [hb]
        simp only [Bool.false_eq_true, if_false, if_true]
        omega
      | false =>
        have hb : badP (slotL s n r) = true := by simp [badP, hc, hr]
        rw [hb]
        simp only [Bool.false_eq_true, if_false, if_true]
        omega
theorem nextN_le (s : List UInt8) (n : Int) : nextN s n ≤ roomN s n := tend_le _ _
theorem next_clear (s : List UInt8) (n : Int) {j : Nat} (h1 : nextN s n ≤ j) (h2 : j < roomN s n) : clearL (slotL s n j) = true := by
  have := (tend_spec (fun i => nextP (slotL s n i)) (roomN s n)).1 j h1 h2
  simpa [nextP] using this
theorem next_before (s : List UInt8) (n : Int) (h : 0 < nextN s n) : clearL (slotL s n (nextN s n - 1)) = false := by
  have := (tend_spec (fun i => nextP (slotL s n i)) (roomN s n)).2 h
  have h2 : nextP (slotL s n (nextN s n - 1)) = true := this
  unfold nextP at h2
  simpa using h2
end Go.Proofs.YtpjafjnokgeifaaGreatDoor
end
section
namespace Go.Proofs.YtpjafjnokgeifaaGreatDoor
open Go.RowKit
set_option linter.unusedVariables false
set_option linter.unusedSimpArgs false

theorem slot_le (s : List UInt8) (n : Int) (j : Nat) : (slotL s n j).length ≤ s.length := by simp only [slotL, List.length_take, List.length_drop]; omega
set_option maxRecDepth 20000 in
set_option maxHeartbeats 1000000 in
theorem refNext_any (s : List UInt8) (n : Int) (w : World) (hs : s.length ≤ 1000) :
    Calls Tryz.prog 53 #[.string ⟨s.toArray⟩, .int .i64 n] w fun e w' => e = .returned (.int .i64 (nextN s n : Int)) ∧ Below w.heap.size w w' := by
  have hrl := roomN_len s n
  have HROOM := Kept.mk (fun W : World => refRoom_any s n W (by omega))
  have HSL := Kept.mk (fun (j : Nat) (hj : j < roomN s n) (W : World) => refSlot_yes s n j W (by omega) hj)
  have HTS := Kept.mk (fun r => tend_succ (fun i => nextP (slotL s n i)) r)
  have HN := Kept.mk (show nextN s n = tend (fun i => nextP (slotL s n i)) (List.range (roomN s n)) from rfl)
  have HCL := Kept.mk (fun (j : Nat) (W : World) => refClear_any (slotL s n j) W (Nat.le_trans (slot_le s n j) hs))
  generalize hr : roomN s n = r at *
  clear hr
  have hB : Below w.heap.size w w := Below.refl _ _
  go_enter Tryz.func53, Tryz.ntmps53
  go_wp2
  go_loopw [5, 6] (fun c i wr => ∃ j : Nat, j ≤ r ∧ i = .int .i64 (j : Int) ∧ c = .int .i64 (tend (fun i => nextP (slotL s n i)) (List.range j) : Int) ∧ Below w.heap.size w wr) (fun _ i _ => r - (intOf i).toNat)
  case atStart => exact ⟨0, Nat.zero_le _, rfl, rfl, hB⟩
  case round =>
    clear hB
    obtain ⟨j, hj, rfl, rfl, hB⟩ := hrel
    by_cases hlt : j < r
    · have e1 : decide ((j : Int) < (r : Int)) = true := by simpa using hlt
      have HS1 := Kept.mk (HSL.out j hlt)
      have HC1 := Kept.mk (HCL.out j)
      have HT := Kept.mk (HTS.out j)
      cases hcv : clearL (slotL s n j) with
      | true =>
        have HCV := Kept.mk hcv
        have HN1 := Kept.mk (show tend (fun i => nextP (slotL s n i)) (List.range (j + 1)) = tend (fun i => nextP (slotL s n i)) (List.range j) by rw [HT.out]; simp [nextP, hcv])
        clear hcv
        generalize tend (fun i => nextP (slotL s n i)) (List.range j) = c at *
        go_wp2_with fail
        ((with_reducible refine (HROOM.out _).mono ?_); rintro e w' ⟨rfl, rfl⟩)
        go_wp2_with fail
        ((with_reducible refine (HS1.out _).mono ?_); rintro e w' ⟨rfl, rfl⟩)
        go_wp2_with fail
        ((with_reducible refine (HC1.out _).mono ?_); rintro e W9 ⟨rfl, hb⟩)
        rewrite [HCV.out]
        replace hB := hB.trans (hb.mono hB.size)
        clear hb
        go_wp2
        go_roundw
        case rel => exact ⟨j + 1, by omega, by go_num, by rw [HN1.out], hB⟩
        case measure => simp [intOf]; omega
      | false =>
        have HCV := Kept.mk hcv
        have HN1 := Kept.mk (show tend (fun i => nextP (slotL s n i)) (List.range (j + 1)) = j + 1 by rw [HT.out]; simp [nextP, hcv])
        clear hcv
        generalize tend (fun i => nextP (slotL s n i)) (List.range j) = c at *
        go_wp2_with fail
        ((with_reducible refine (HROOM.out _).mono ?_); rintro e w' ⟨rfl, rfl⟩)
        go_wp2_with fail
        ((with_reducible refine (HS1.out _).mono ?_); rintro e w' ⟨rfl, rfl⟩)
        go_wp2_with fail
        ((with_reducible refine (HC1.out _).mono ?_); rintro e W9 ⟨rfl, hb⟩)
        rewrite [HCV.out]
        replace hB := hB.trans (hb.mono hB.size)
        clear hb
        go_wp2
        go_roundw
        case rel => exact ⟨j + 1, by omega, by go_num, by rw [HN1.out]; go_num, hB⟩
        case measure => simp [intOf]; omega
    · have e1 : decide ((j : Int) < (r : Int)) = false := by simp; omega
      obtain rfl : j = r := by omega
      go_wp2_with fail
      ((with_reducible refine (HROOM.out _).mono ?_); rintro e w' ⟨rfl, rfl⟩)
      go_wp2
      go_ret
      exact ⟨by rw [HN.out]; rfl, hB⟩
end Go.Proofs.YtpjafjnokgeifaaGreatDoor
end
