/- Contracts of package record: halves, Make, Read, Size. -/
import Derived.Test.YtipiioggdalkoaaGreatDoorRecMath
import Derived.Test.YtipiioggdalkoaaGreatDoorFlowMem
import Derived.Laws.AppendOwn
namespace Go.Proofs.YtipiioggdalkoaaGreatDoor
open Go.RowKit
set_option linter.unusedVariables false

/-- A slice of bytes that is read as this text, now and later. -/
def isTxt (l : List UInt8) : VP := fun v w => ∀ W, Below w.heap.size w W → (convert 65 9 v).run Tryz.prog W = .ok (.string ⟨l.toArray⟩) W
theorem stable_txt (l : List UInt8) : Stable (isTxt l) := fun v w w' h hb W hW => h W (hb.trans (hW.mono hb.size))
theorem isTxt_at {w : World} {g off cap : Nat} {l : List UInt8} (hg : g < w.heap.size) (hc : ∀ j (hj : j < l.length), w.cell? ⟨g, off + j, none⟩ = some (.int .u8 (l[j].toNat : Int))) : isTxt l (.slice (some ⟨g, off, none⟩) l.length cap) w := by
  intro W hb
  refine run_convert_bytes_back W 65 9 5 ⟨g, off, none⟩ cap l Tryz.underlying65 Tryz.underlying5 Tryz.underlying9 (fun j hj => ?_)
  have e : (⟨g, off, none⟩ : Addr).add j = ⟨g, off + j, none⟩ := by
    by_cases e0 : j = 0
    · subst e0; simp [Addr.add]
    · simp [Addr.add, e0]
  rw [e, hb.cell (p := ⟨g, off + j, none⟩) hg]
  exact hc j hj
set_option maxRecDepth 100000 in
set_option maxHeartbeats 400000 in
theorem halves_any (l : List UInt8) (w : World) (hl : l.length ≤ 1000000) :
    Calls Tryz.prog 55 #[.string ⟨l.toArray⟩] w fun e w' => ∃ v0 v1, e = .returned (.tuple #[v0, v1]) ∧ isTxt (l.take (l.length / 2)) v0 w' ∧ isTxt (l.drop (l.length / 2)) v1 w' ∧ Below w.heap.size w w' := by
  have hsz : (⟨l.toArray⟩ : ByteArray).size = l.length := size_mk l
  have hcv := fun W => Lib.run_convert_string_bytes (P := Tryz.prog) W 9 65 5 ⟨l.toArray⟩ Tryz.underlying9 Tryz.underlying65 Tryz.underlying5
  have hcap := grownCap_ge w l.length 0 5
  have hq : Int.tdiv (l.length : Int) 2 = ((l.length / 2 : Nat) : Int) := by rw [Int.tdiv_eq_ediv_of_nonneg (by omega)]; rfl
  go_enter Tryz.func55, Tryz.ntmps55
  go_wp2_with fail
  go_region
  have hrow : BRow (Lib.bytesWorld w 5 ⟨l.toArray⟩) w.heap.size l := by simpa using bytesWorld_row w 5 ⟨l.toArray⟩
  have hbw := bytesWorld_below w 5 ⟨l.toArray⟩
  have hg : w.heap.size < (Lib.bytesWorld w 5 ⟨l.toArray⟩).drew.heap.size := by show _ < (Lib.bytesWorld w 5 ⟨l.toArray⟩).heap.size; rw [Lib.bytesWorld_size]; omega
  have t0 := isTxt_at (w := (Lib.bytesWorld w 5 ⟨l.toArray⟩).drew) (off := 0) (cap := l.length / 2) (l := l.take (l.length / 2)) hg (fun j hj => by
    rw [List.length_take] at hj
    rw [Nat.zero_add]
    simpa using (hrow j (by omega)).1)
  have t1 := isTxt_at (w := (Lib.bytesWorld w 5 ⟨l.toArray⟩).drew) (off := l.length / 2) (cap := l.length - l.length / 2) (l := l.drop (l.length / 2)) hg (fun j hj => by
    rw [List.length_drop] at hj
    simpa using (hrow (l.length / 2 + j) (by omega)).1)
  rw [List.length_take, Nat.min_eq_left (by omega)] at t0
  rw [List.length_drop] at t1
  have T0 := Lib.hid t0
  have T1 := Lib.hid t1
  have HB := Lib.hid hbw.drew
  clear t0 t1 hbw hrow hg hcv
  generalize (Lib.bytesWorld w 5 ⟨l.toArray⟩).drew = W at *
  clear hq hsz hcap
  generalize grownCap w l.length 0 5 = cp at *
  generalize hcc : (if l.length = l.length / 2 then some (⟨w.heap.size, 0, none⟩ : Addr) else some ⟨w.heap.size, l.length / 2, none⟩) = ad at *
  have HC := Lib.hid hcc
  clear hcc
  have hmm : l.length / 2 ≤ l.length ∧ (l.length = l.length / 2 → l.length = 0) := ⟨by omega, by omega⟩
  have HM := Lib.hid hmm
  clear hmm
  obtain ⟨m, hm⟩ : ∃ m, m = l.length / 2 := ⟨_, rfl⟩
  rw [← hm] at T0 T1 HC HM ⊢
  have HE := Lib.hid hm
  clear hm
  go_wp2
  go_ret2
  rw [← HE.out]
  refine ⟨_, _, rfl, T0.out, ?_, HB.out⟩
  have hc := HC.out
  show isTxt (l.drop m) (.slice ad (l.length - m) (l.length - m)) W
  rw [← hc]
  by_cases h0 : l.length = m
  · have h2 := HM.out.2 h0
    have h3 : m = 0 := by omega
    rw [if_pos h0]
    have T1' := T1.out
    rw [h3] at T1' ⊢
    exact T1'
  · rw [if_neg h0]
    exact T1.out

theorem step_convTxt {ops : Array Oper} {base : World} {a0 : Act} {Q : Exit → Act → World → Prop} {kn : Nat → VP} {i : Nat} (x : Operand) (v : Value) (l : List UInt8) (hop : (ops[i]?).map (·.op) = some (.convert 65 9 x)) (hw : Wanted ops a0 kn i)
    (hx : Knows ops a0 kn i x (isVal v)) (ht : isTxt l v base) : FStep Tryz.prog ops base a0 Q kn i (isVal (.string ⟨l.toArray⟩)) :=
  step_mk (stable_val _) hw fun o ho a w hk hb hd => by
    have e1 : a.eval x = v := hx a w hk hd
    unfold Oper.wp execOp
    rw [op_of hop ho]
    simp only [e1, Sem.run_bind, ht w hb, Result.andThen_ok, Sem.run_pure]
    exact ⟨_, rfl, rfl, Below.refl _ _⟩
theorem call_not (t : List UInt8) (ht : t.length ≤ 1000000000) (w : World) :
    Calls Tryz.prog 56 #[.string ⟨t.toArray⟩] w fun e w' => ∃ v, e = .returned v ∧ isVal (.string ⟨(notL t).toArray⟩) v w' ∧ Below w.heap.size w w' :=
  (not_l t w ht).mono (by rintro e w' ⟨rfl, hb⟩; exact ⟨_, rfl, rfl, hb⟩)
noncomputable def readOps : Array Oper := regionOf Tryz.f30 3
set_option maxRecDepth 100000 in
set_option maxHeartbeats 1000000 in
theorem read_region (Q : Exit → Act → World → Prop) (a0 : Act) (w0 : World) (hsz : a0.tmps.size = 23) (t b : List UInt8) (v : Value) (z : Bool) (ht : t.length ≤ 1000000) (hz : (notL t != b) = z)
    (h6 : a0.tmps.getD 6 undef = .string ⟨t.toArray⟩) (h5 : a0.tmps.getD 5 undef = v) (hv : isTxt b v w0)
    (hQ : ∀ (a : Act) (w : World), a.defers = a0.defers → a.tmps.size = a0.tmps.size → (∀ t, (readOps.toList.all fun o => o.dst != some t) = true → a.tmps.getD t undef = a0.tmps.getD t undef) →
      a.tmps.getD 18 undef = .bool z → Below w0.heap.size w0 w → Q .normal a w) :
    (Code.region 3 readOps true).wp Tryz.prog Q a0 w0 := by
  refine wp_region_flow mixed (by rw [hsz]; kernel_rfl) ?_
  rw [show readOps.size = 5 by kernel_rfl]
  refine ⟨isVal (.string ⟨t.toArray⟩), step_move (.tmp 6) (by kernel_rfl) (wanted_none (by kernel_rfl)) (stable_val _) (knows_old 6 (.string ⟨t.toArray⟩) (by kernel_rfl) h6), ?_⟩
  refine ⟨isVal (.string ⟨(notL t).toArray⟩), step_call 56 #[.tmp 14] #[9] #[.string ⟨t.toArray⟩] (by kernel_rfl) (wanted_none (by kernel_rfl)) (stable_val _) (args1 (.tmp 14) (.string ⟨t.toArray⟩) (knows_new (V := isVal (.string ⟨t.toArray⟩)) 14 0 (by kernel_rfl) (by kernel_rfl) (by kernel_rfl))) (enters_of Tryz.func56 (by kernel_rfl) rfl) (by intro w hb; exact call_not t (by omega) w), ?_⟩
  refine ⟨isVal v, step_move (.tmp 5) (by kernel_rfl) (wanted_none (by kernel_rfl)) (stable_val _) (knows_old 5 v (by kernel_rfl) h5), ?_⟩
  refine ⟨isVal (.string ⟨b.toArray⟩), step_convTxt (.tmp 16) v b (by kernel_rfl) (wanted_none (by kernel_rfl)) (knows_new (V := isVal v) 16 2 (by kernel_rfl) (by kernel_rfl) (by kernel_rfl)) hv, ?_⟩
  refine ⟨isVal (.bool z), step_bin .neq 9 9 (.tmp 15) (.tmp 17) (.string ⟨(notL t).toArray⟩) (.string ⟨b.toArray⟩) (.bool z) (by kernel_rfl) (wanted_none (by kernel_rfl)) (knows_new (V := isVal (.string ⟨(notL t).toArray⟩)) 15 1 (by kernel_rfl) (by kernel_rfl) (by kernel_rfl)) (knows_new (V := isVal (.string ⟨b.toArray⟩)) 17 3 (by kernel_rfl) (by kernel_rfl) (by kernel_rfl)) (fun _ => rfl) (neq_str _ _ _ _ hz), ?_⟩
  intro a w hkp hb hd
  exact hQ a w hkp.1 hkp.2.1 hkp.2.2 (by
    obtain ⟨o, ho⟩ : ∃ o, readOps[4]? = some o := ⟨_, Array.getElem?_eq_getElem (by rw [show readOps.size = 5 by kernel_rfl]; decide)⟩
    have hdst : (readOps[4]?).bind (·.dst) = some 18 := by kernel_rfl
    exact hd 4 (by rw [show readOps.size = 5 by kernel_rfl]; decide) o ho 18 (by rw [ho] at hdst; simpa using hdst)) hb
theorem arr_eta (a : Array Value) {n : Nat} (h : a.size = n) : a = ((List.range n).map fun i => a.getD i undef).toArray := by
  subst h
  apply Array.ext
  · simp
  · intro i h1 h2
    simp [Array.getD, h1]

set_option maxRecDepth 100000 in
set_option maxHeartbeats 1000000 in
theorem read_any (l : List UInt8) (w : World) (hl : l.length ≤ 2056) :
    Calls Tryz.prog 30 #[.string ⟨l.toArray⟩] w fun e w' => e = .returned (.tuple #[.string ⟨(readS l).toArray⟩, .int .i64 (readE l)]) ∧ Below w.heap.size w w' := by
  have hlen : (l.take (l.length / 2)).length ≤ 1028 := by rw [List.length_take]; omega
  have HS := Lib.hid (show readS l = if halfB l = true then openS (l.take (l.length / 2)) else [] from rfl)
  have HE := Lib.hid (show readE l = if halfB l = true then openE (l.take (l.length / 2)) else 2 from rfl)
  have HH := Lib.hid (show (notL (l.take (l.length / 2)) != l.drop (l.length / 2)) = !halfB l by unfold halfB; by_cases h : notL (l.take (l.length / 2)) = l.drop (l.length / 2) <;> simp [h])
  obtain ⟨hb, ehb⟩ : ∃ hb, hb = halfB l := ⟨_, rfl⟩
  rw [← ehb] at HS HE HH
  clear ehb
  go_enter Tryz.func30, Tryz.ntmps30
  go_wp2_with fail
  refine (halves_any l _ (by omega)).mono ?_
  rintro e w1 ⟨v0, v1, rfl, t0, t1, hB⟩
  have hc0 := t0 w1 (Below.refl _ _)
  clear t0
  have T1 := Lib.hid t1
  clear t1
  generalize l.take (l.length / 2) = fr at *
  generalize l.drop (l.length / 2) = bk at *
  go_wp2_with fail
  refine read_region _ _ _ rfl fr bk v1 (!hb) (by omega) HH.out rfl rfl T1.out ?_
  intro act w3 hdf hsz hkeep hn18 hb3
  have hk0 : act.tmps.getD 0 undef = (.string ⟨l.toArray⟩) := (hkeep 0 (by kernel_rfl)).trans rfl
  have hk2 : act.tmps.getD 2 undef = (.string ⟨#[]⟩) := (hkeep 2 (by kernel_rfl)).trans rfl
  have hk3 : act.tmps.getD 3 undef = (.int .i64 0) := (hkeep 3 (by kernel_rfl)).trans rfl
  have hk6 : act.tmps.getD 6 undef = (.string ⟨fr.toArray⟩) := (hkeep 6 (by kernel_rfl)).trans rfl
  obtain ⟨tm, df⟩ := act
  obtain rfl : df = [] := hdf
  clear hkeep
  obtain ⟨f, rfl, hk0, hk2, hk3, hk6, hn18⟩ : ∃ f : Nat → Value, tm = ((List.range 23).map f).toArray ∧ f 0 = (.string ⟨l.toArray⟩) ∧ f 2 = (.string ⟨#[]⟩) ∧ f 3 = (.int .i64 0) ∧ f 6 = (.string ⟨fr.toArray⟩) ∧ f 18 = (.bool (!hb)) := ⟨fun i => tm.getD i undef, arr_eta tm hsz, hk0, hk2, hk3, hk6, hn18⟩
  rewrite [show ((List.range 23).map f).toArray = #[f 0, f 1, f 2, f 3, f 4, f 5, f 6, f 7, f 8, f 9, f 10, f 11, f 12, f 13, f 14, f 15, f 16, f 17, f 18, f 19, f 20, f 21, f 22] from rfl]
  rewrite [hk0, hk2, hk3, hk6, hn18]
  clear hsz hk0 hk2 hk3 hk6 hn18
  have hB2 := hB.trans (hb3.mono hB.size)
  clear hB hb3
  cases hb with
  | false =>
    go_wp2
    go_ret2
    exact ⟨by rw [HS.out, HE.out]; rfl, hB2⟩
  | true =>
    have hS := HS.out
    have hE := HE.out
    rw [if_pos rfl] at hS hE
    have HS2 := Lib.hid hS
    have HE2 := Lib.hid hE
    clear hS hE HS HE HH
    go_wp2_with fail
    (with_reducible refine (open_any fr _ hlen).mono ?_); rintro e w4 ⟨rfl, hb4⟩
    replace hB2 := hB2.trans (hb4.mono hB2.size); clear hb4
    go_wp2
    go_ret2
    exact ⟨by rw [HS2.out, HE2.out]; rfl, hB2⟩

theorem make_any (l : List UInt8) (w : World) (hl : l.length ≤ 1024) :
    Calls Tryz.prog 32 #[.string ⟨l.toArray⟩] w fun e w' => e = .returned (.string ⟨(recL l).toArray⟩) ∧ Below w.heap.size w w' := by
  have hsl := length_sealL l
  have hnl := length_notL (sealL l)
  have hcat := fun W => run_string_add_lists (P := Tryz.prog) W (sealL l) (notL (sealL l)) (by omega) (by omega)
  have HR := Lib.hid (show sealL l ++ notL (sealL l) = recL l from rfl)
  go_enter Tryz.func32, Tryz.ntmps32
  go_wp2_with fail
  refine (seal_any l _ hl).mono ?_
  rintro e w1 ⟨rfl, hB⟩
  go_wp2_with fail
  (with_reducible refine (not_l (sealL l) _ (by omega)).mono ?_); rintro e w2 ⟨rfl, hb2⟩
  replace hB := hB.trans (hb2.mono hB.size); clear hb2
  go_wp2
  go_ret
  exact ⟨ret_str HR.out, hB⟩

theorem size_any (n : Int) (w : World) :
    Calls Tryz.prog 27 #[.int .i64 n] w fun e w' => e = .returned (.int .i64 (sizeN n)) ∧ w = w' := by
  by_cases h1 : n < 0
  · have d1 : decide (n < 0) = true := by simpa using h1
    go_enter Tryz.func27, Tryz.ntmps27
    go_wp2
    go_ret
    exact ⟨by simp [sizeN, h1], rfl⟩
  · have d1 : decide (n < 0) = false := by simpa using h1
    by_cases h2 : 4000 < n
    · have d2 : decide (4000 < n) = true := by simpa using h2
      go_enter Tryz.func27, Tryz.ntmps27
      go_wp2
      go_ret
      exact ⟨by simp [sizeN, h2], rfl⟩
    · have d2 : decide (4000 < n) = false := by simpa using h2
      go_enter Tryz.func27, Tryz.ntmps27
      go_wp2
      go_ret
      exact ⟨ret_int (by unfold sizeN; rw [if_neg (by omega)]), rfl⟩
end Go.Proofs.YtipiioggdalkoaaGreatDoor
