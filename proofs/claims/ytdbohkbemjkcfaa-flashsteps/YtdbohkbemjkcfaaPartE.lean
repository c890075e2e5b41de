/- Joined texts: contracts of the program's functions, and the mathematics that they lean on. -/
import Derived.Test.YtdbohkbemjkcfaaPartD
import Derived.SizedLaws
import Derived.SliceStrings
import Derived.Carry
section
namespace Go.Proofs.Ytdbohkbemjkcfaa
open Go.RowKit
set_option linter.unusedVariables false
set_option linter.unusedSimpArgs false
attribute [local irreducible] setN

/-- A row that does not lie in block g. -/
def Off (g : Nat) (cs : List Value) (v : Value) : Prop := ∀ b off cap, v = .slice (some ⟨b, off, none⟩) cs.length cap → cs ≠ [] → b ≠ g
theorem off_old {g : Nat} {cs : List Value} {v : Value} {w : World} (h : isCells cs v w) (hg : w.heap.size ≤ g) : Off g cs v := by
  rintro b off cap rfl hne rfl
  rcases h with ⟨h, e⟩ | ⟨a, c, h, e⟩ | ⟨b', off', cap', e, hlt, hc⟩
  · exact hne e
  · exact hne e
  · injection e with e; injection e with e; injection e with e; omega
theorem off_new {g B : Nat} {cs : List Value} {v : Value} (h : NewB B v) (hg : g < B) : Off g cs v := by
  rintro b off cap rfl hne rfl
  have := h b rfl
  omega
/-- A device whose rows lie outside block g. -/
def isW (g : Nat) (P Q : List Value) (fu : Int) (tn : List UInt8) (de : Bool) : VP := fun v w => ∃ p q, v = .agg #[p, q, .int .i64 fu, .string ⟨tn.toArray⟩, .bool de] ∧ isCells P p w ∧ isCells Q q w ∧ Off g P p ∧ Off g Q q
theorem stable_W (g : Nat) (P Q : List Value) (fu : Int) (tn : List UInt8) (de : Bool) : Stable (isW g P Q fu tn de) := by
  rintro v w w' ⟨p, q, e, h1, h2, h3, h4⟩ hb
  exact ⟨p, q, e, stable_cells _ _ _ _ h1 hb, stable_cells _ _ _ _ h2 hb, h3, h4⟩
theorem rmask_any (F : Fl) (v : Value) (w : World) (hv : isFl F v w) (h1 : 1 ≤ F.pages.length) (hp1 : F.pages.length ≤ 1000000) (n : Nat) (hn : n = F.pages[0].length) (hl : n ≤ 100000) (ht : F.torn.length ≤ 1000) :
    Calls Try.prog 28 #[v] w fun e w' => e = .returned (.string ⟨(maskL F.torn n).toArray⟩) ∧ Below w.heap.size w w' := by
  subst hn
  cases h : F.torn with
  | nil => have := rmask_none F v w hv h1 hp1 _ rfl hl ht h; rw [h] at this; exact this
  | cons c r => have := rmask_some F v w hv h1 hp1 _ rfl hl ht (by rw [h]; simp); rw [h] at this; exact this
/-- with, where the block r is older than what it makes. -/
theorem cwith (F : Fl) (k r : Nat) (s : List UInt8) (vp vw : Value) (w : World) (hp : isCells (F.pages.map strC) vp w) (hq : isCells (F.wear.map intC) vw w) (hk : k < F.pages.length) (h1 : F.pages.length ≤ 6) (ho : Off r (F.wear.map intC) vw) (hr : r < w.heap.size) :
    Calls Try.prog 26 #[.agg #[vp, vw, .int .i64 F.fuse, .string ⟨F.torn.toArray⟩, .bool F.dead], .int .i64 (k : Int), .string ⟨s.toArray⟩] w fun e w' => ∃ v, e = .returned v ∧ isW r ((F.pages.set k s).map strC) (F.wear.map intC) F.fuse F.torn F.dead v w' ∧ Below w.heap.size w w' :=
  (rwith_any F k s vp vw w hp hq hk (by omega)).mono (by
    rintro e w' ⟨p', rfl, hc, hn, hb⟩
    exact ⟨_, rfl, ⟨p', vw, rfl, hc, stable_cells _ _ _ _ hq hb, off_new hn hr, ho⟩, hb⟩)
theorem cdead (F : Fl) (r : Nat) (P Q : List Value) (vs : Array Value) (w : World) (h : ∃ u, vs = #[u] ∧ isW r P Q F.fuse F.torn F.dead u w) :
    Calls Try.prog 25 vs w fun e w' => ∃ v, e = .returned v ∧ isW r P Q F.fuse F.torn true v w' ∧ Below w.heap.size w w' := by
  obtain ⟨u, rfl, p, q, rfl, h1, h2, h3, h4⟩ := h
  refine (rdead_any F p q w h1.one h2.one).mono ?_
  rintro e w' ⟨rfl, hb⟩
  exact ⟨_, rfl, ⟨p, q, rfl, stable_cells _ _ _ _ h1 hb, stable_cells _ _ _ _ h2 hb, h3, h4⟩, hb⟩
def lessN (x : Int) : Int := if 0 < x then x - 1 else x
theorem cburnt (F : Fl) (r : Nat) (P Q : List Value) (hf : F.fuse ≤ 9223372036854775807) (vs : Array Value) (w : World) (h : ∃ u, vs = #[u] ∧ isW r P Q F.fuse F.torn F.dead u w) :
    Calls Try.prog 29 vs w fun e w' => ∃ v, e = .returned v ∧ isW r P Q (lessN F.fuse) F.torn F.dead v w' ∧ Below w.heap.size w w' := by
  obtain ⟨u, rfl, p, q, rfl, h1, h2, h3, h4⟩ := h
  unfold lessN
  by_cases h0 : 0 < F.fuse
  · rw [if_pos h0]
    refine (rburnt_yes F p q w h1.one h2.one h0 hf).mono ?_
    rintro e w' ⟨rfl, hb⟩
    exact ⟨_, rfl, ⟨p, q, rfl, stable_cells _ _ _ _ h1 hb, stable_cells _ _ _ _ h2 hb, h3, h4⟩, hb⟩
  · rw [if_neg h0]
    refine (rburnt_no F p q w h1.one h2.one h0).mono ?_
    rintro e w' ⟨rfl, hb⟩
    exact ⟨_, rfl, ⟨p, q, rfl, stable_cells _ _ _ _ h1 hb, stable_cells _ _ _ _ h2 hb, h3, h4⟩, hb⟩
theorem cworn (F : Fl) (k r : Nat) (s : List UInt8) (hk : k < F.wear.length) (hl : F.wear.length ≤ 6) (hw : ∀ x ∈ F.wear, 0 ≤ x ∧ x ≤ 2147483647) (vs : Array Value) (w : World) (hr : r < w.heap.size) (h : ∃ u v, vs = #[u, v] ∧ isW r ((F.pages.set k s).map strC) (F.wear.map intC) F.fuse F.torn F.dead u w ∧ isVal (.int .i64 (k : Int)) v w) :
    Calls Try.prog 30 vs w fun e w' => ∃ v, e = .returned v ∧ isW r ((F.pages.set k s).map strC) ((F.wear.set k (wornN (F.wear.getD k 0))).map intC) F.fuse F.torn F.dead v w' ∧ Below w.heap.size w w' := by
  obtain ⟨u, v, rfl, ⟨p, q, rfl, h1, h2, h3, h4⟩, rfl⟩ := h
  have hx := hw F.wear[k] (List.getElem_mem hk)
  refine (rworn_any { F with pages := F.pages.set k s } k p q w h1 h2 hk (by show F.wear.length ≤ 1000; omega) hx.1 hx.2).mono ?_
  rintro e w' ⟨q', rfl, hc, hn, hb⟩
  exact ⟨_, rfl, ⟨p, q', rfl, stable_cells _ _ _ _ h1 hb, hc, h3, off_new hn hr⟩, hb⟩
theorem cor (s t : List UInt8) (w : World) (hs : s.length ≤ 1000000) (ht : t.length ≤ 1000000) : Calls Try.prog 27 #[.string ⟨s.toArray⟩, .string ⟨t.toArray⟩] w fun e w' => ∃ v, e = .returned v ∧ isVal (.string ⟨(pairL (· ||| ·) s t).toArray⟩) v w' ∧ Below w.heap.size w w' :=
  (refOr_any ⟨s.toArray⟩ ⟨t.toArray⟩ w (by rw [size_mk]; exact hs) (by rw [size_mk]; exact ht)).mono (by
    rintro e w' ⟨rfl, hb⟩
    exact ⟨_, rfl, rfl, hb⟩)
theorem cones (n : Nat) (hn : n ≤ 100000) (w : World) : Calls Try.prog 31 #[.int .i64 (n : Int)] w fun e w' => ∃ v, e = .returned v ∧ isVal (.string ⟨(List.replicate n 255).toArray⟩) v w' ∧ Below w.heap.size w w' :=
  (refOnes_any n w).mono (by
    rintro e w' ⟨rfl, hb⟩
    refine ⟨_, rfl, ?_, hb⟩
    unfold onesL
    by_cases h : 0 < n
    · rw [if_pos (by omega), Int.toNat_natCast]; rfl
    · have : n = 0 := by omega
      subst this; rfl)
noncomputable def re6Ops : Array Oper := regionOf Try.f8 6
set_option maxRecDepth 100000 in
set_option maxHeartbeats 4000000 in
theorem re6_region (Qq : Exit → Act → World → Prop) (a0 : Act) (w0 : World) (hsz : a0.tmps.size = 42) (F : Fl) (k : Nat) (was : List UInt8) (b off np cap b2 r : Nat) (vw : Value) (HX : Blk w0 b2 [.slice (some ⟨b, off, none⟩) np cap, vw, .int .i64 F.fuse, .string ⟨F.torn.toArray⟩, .bool F.dead]) (HR : Blk w0 r [.slice none 0 0, .slice none 0 0, .int .i64 0, .string ⟨#[]⟩, .bool false]) (hp : isCells (F.pages.map strC) (.slice (some ⟨b, off, none⟩) np cap) w0) (hq : isCells (F.wear.map intC) vw w0) (hoq : Off r (F.wear.map intC) vw) (hk : k < F.pages.length) (hpl : F.pages.length ≤ 6) (hcell : w0.cell? ⟨b, off + k, none⟩ = some (.string ⟨was.toArray⟩)) (hblt : b < w0.heap.size) (hkn : k < np) (hwl : was.length ≤ 8192) (e1 : a0.tmps.getD 1 undef = .int .i64 (k : Int)) (e2 : a0.tmps.getD 2 undef = .pointer (some ⟨b2, 0, none⟩)) (er : a0.tmps.getD 4 undef = .pointer (some ⟨r, 0, none⟩)) (hw0 : was.length = (F.pages[0]'(by omega)).length) (htl : F.torn.length ≤ 64)
    (hQ : ∀ (y : Nat → Value) (p q : Value) (w : World), isCells ((F.pages.set k (pairL (· ||| ·) was (maskL F.torn was.length))).map strC) p w → isCells (F.wear.map intC) q w → Off r ((F.pages.set k (pairL (· ||| ·) was (maskL F.torn was.length))).map strC) p → Off r (F.wear.map intC) q → Below w0.heap.size w0 w → Qq .normal { tmps := ([17, 18, 19, 20, 21, 22, 23, 24, 25, 26, 27, 28, 5].foldl (fun t s => t.setIfInBounds s (y s)) a0.tmps).setIfInBounds 5 (.int .i64 8), defers := a0.defers } (setN w r 0 [p, q, .int .i64 (F.fuse), .string ⟨F.torn.toArray⟩, .bool true])) :
    (Code.region 6 re6Ops true).wp Try.prog Qq a0 w0 := by
  refine wp_region_cov 12 mixed (by rw [hsz]; kernel_rfl) (by kernel_rfl) ?_
  rw [show re6Ops.size - 12 = 2 by kernel_rfl]
  refine ⟨isVal (.agg #[.slice (some ⟨b, off, none⟩) np cap, vw, .int .i64 F.fuse, .string ⟨F.torn.toArray⟩, .bool F.dead]), step_loadN 25 (.tmp 2) (b2) [.slice (some ⟨b, off, none⟩) np cap, vw, .int .i64 F.fuse, .string ⟨F.torn.toArray⟩, .bool F.dead] (by kernel_rfl) (wanted_none (by kernel_rfl)) (knows_old 2 (.pointer (some ⟨b2, 0, none⟩)) (by kernel_rfl) e2) size_fl agg_fl HX.cells, ?_⟩
  refine ⟨isVal (.int .i64 (k : Int)), step_move (.tmp 1) (by kernel_rfl) (wanted_none (by kernel_rfl)) (stable_val _) (knows_old 1 (.int .i64 (k : Int)) (by kernel_rfl) e1), ?_⟩
  refine ⟨isVal (.pointer (some ⟨b2, 0, none⟩)), step_field 25 (.tmp 2) 0 ⟨b2, 0, none⟩ ⟨b2, 0, none⟩ (by kernel_rfl) (wanted_none (by kernel_rfl)) (knows_old 2 (.pointer (some ⟨b2, 0, none⟩)) (by kernel_rfl) e2) (field_fl b2 0 (by omega)), ?_⟩
  refine ⟨isVal (.slice (some ⟨b, off, none⟩) np cap), step_read 22 (.tmp 19) ⟨b2, 0, none⟩ (.slice (some ⟨b, off, none⟩) np cap) (by kernel_rfl) (wanted_none (by kernel_rfl)) (knows_new (V := isVal (.pointer (some ⟨b2, 0, none⟩))) 19 2 (by kernel_rfl) (by kernel_rfl) (by kernel_rfl)) (HX.cells.2 0 _ rfl) HX.lt agg_strs, ?_⟩
  refine ⟨isVal (.int .i64 (k : Int)), step_move (.tmp 1) (by kernel_rfl) (wanted_none (by kernel_rfl)) (stable_val _) (knows_old 1 (.int .i64 (k : Int)) (by kernel_rfl) e1), ?_⟩
  refine ⟨isVal (.pointer (some ⟨b, off + k, none⟩)), step_place 22 9 (.tmp 20) (.tmp 21) b off np cap k (by kernel_rfl) (wanted_none (by kernel_rfl)) (knows_new (V := isVal (.slice (some ⟨b, off, none⟩) np cap)) 20 3 (by kernel_rfl) (by kernel_rfl) (by kernel_rfl)) (knows_new (V := isVal (.int .i64 (k : Int))) 21 4 (by kernel_rfl) (by kernel_rfl) (by kernel_rfl)) Try.underlying22 (by kernel_rfl) hkn, ?_⟩
  refine ⟨isVal (.string ⟨was.toArray⟩), step_read 9 (.tmp 22) ⟨b, off + k, none⟩ (.string ⟨was.toArray⟩) (by kernel_rfl) (wanted_none (by kernel_rfl)) (knows_new (V := isVal (.pointer (some ⟨b, off + k, none⟩))) 22 5 (by kernel_rfl) (by kernel_rfl) (by kernel_rfl)) hcell hblt agg_str, ?_⟩
  refine ⟨isVal (.agg #[.slice (some ⟨b, off, none⟩) np cap, vw, .int .i64 F.fuse, .string ⟨F.torn.toArray⟩, .bool F.dead]), step_loadN 25 (.tmp 2) (b2) [.slice (some ⟨b, off, none⟩) np cap, vw, .int .i64 F.fuse, .string ⟨F.torn.toArray⟩, .bool F.dead] (by kernel_rfl) (wanted_none (by kernel_rfl)) (knows_old 2 (.pointer (some ⟨b2, 0, none⟩)) (by kernel_rfl) e2) size_fl agg_fl HX.cells, ?_⟩
  refine ⟨isVal (.string ⟨(maskL F.torn was.length).toArray⟩), step_call 28 #[.tmp 24] #[25] #[.agg #[.slice (some ⟨b, off, none⟩) np cap, vw, .int .i64 F.fuse, .string ⟨F.torn.toArray⟩, .bool F.dead]] (by kernel_rfl) (wanted_none (by kernel_rfl)) (stable_val _) (args1 (.tmp 24) (.agg #[.slice (some ⟨b, off, none⟩) np cap, vw, .int .i64 F.fuse, .string ⟨F.torn.toArray⟩, .bool F.dead]) (knows_new (V := isVal (.agg #[.slice (some ⟨b, off, none⟩) np cap, vw, .int .i64 F.fuse, .string ⟨F.torn.toArray⟩, .bool F.dead])) 24 7 (by kernel_rfl) (by kernel_rfl) (by kernel_rfl))) (enters_of Try.func28 (by kernel_rfl) rfl) (by intro w hb; refine (rmask_any F _ w ⟨(.slice (some ⟨b, off, none⟩) np cap), vw, rfl, stable_cells _ _ _ _ hp hb, stable_cells _ _ _ _ hq hb⟩ (by omega) (by omega) was.length hw0 (by omega) (by omega)).mono ?_; rintro e w' ⟨rfl, hb⟩; exact ⟨_, rfl, rfl, hb⟩), ?_⟩
  refine ⟨isVal (.string ⟨(pairL (· ||| ·) was (maskL F.torn was.length)).toArray⟩), step_call 27 #[.tmp 23, .tmp 25] #[9, 9] #[.string ⟨was.toArray⟩, .string ⟨(maskL F.torn was.length).toArray⟩] (by kernel_rfl) (wanted_none (by kernel_rfl)) (stable_val _) (args2 (.tmp 23) (.tmp 25) (.string ⟨was.toArray⟩) (.string ⟨(maskL F.torn was.length).toArray⟩) (knows_new (V := isVal (.string ⟨was.toArray⟩)) 23 6 (by kernel_rfl) (by kernel_rfl) (by kernel_rfl)) (knows_new (V := isVal (.string ⟨(maskL F.torn was.length).toArray⟩)) 25 8 (by kernel_rfl) (by kernel_rfl) (by kernel_rfl))) (enters_of Try.func27 (by kernel_rfl) rfl) (by intro w hb; exact cor was (maskL F.torn was.length) w (by omega) (by rw [length_maskL]; omega)), ?_⟩
  refine ⟨(isW r ((F.pages.set k (pairL (· ||| ·) was (maskL F.torn was.length))).map strC) (F.wear.map intC) (F.fuse) F.torn F.dead), step_call 26 #[.tmp 17, .tmp 18, .tmp 26] #[25, 3, 9] #[.agg #[.slice (some ⟨b, off, none⟩) np cap, vw, .int .i64 F.fuse, .string ⟨F.torn.toArray⟩, .bool F.dead], .int .i64 (k : Int), .string ⟨(pairL (· ||| ·) was (maskL F.torn was.length)).toArray⟩] (by kernel_rfl) (wanted_none (by kernel_rfl)) (stable_W _ _ _ _ _ _) (args3 (.tmp 17) (.tmp 18) (.tmp 26) (.agg #[.slice (some ⟨b, off, none⟩) np cap, vw, .int .i64 F.fuse, .string ⟨F.torn.toArray⟩, .bool F.dead]) (.int .i64 (k : Int)) (.string ⟨(pairL (· ||| ·) was (maskL F.torn was.length)).toArray⟩) (knows_new (V := isVal (.agg #[.slice (some ⟨b, off, none⟩) np cap, vw, .int .i64 F.fuse, .string ⟨F.torn.toArray⟩, .bool F.dead])) 17 0 (by kernel_rfl) (by kernel_rfl) (by kernel_rfl)) (knows_new (V := isVal (.int .i64 (k : Int))) 18 1 (by kernel_rfl) (by kernel_rfl) (by kernel_rfl)) (knows_new (V := isVal (.string ⟨(pairL (· ||| ·) was (maskL F.torn was.length)).toArray⟩)) 26 9 (by kernel_rfl) (by kernel_rfl) (by kernel_rfl))) (enters_of Try.func26 (by kernel_rfl) rfl) (by intro w hb; exact cwith F k r (pairL (· ||| ·) was (maskL F.torn was.length)) (.slice (some ⟨b, off, none⟩) np cap) vw w (stable_cells _ _ _ _ hp hb) (stable_cells _ _ _ _ hq hb) hk hpl hoq (Nat.lt_of_lt_of_le HR.lt hb.size)), ?_⟩
  refine ⟨(isW r ((F.pages.set k (pairL (· ||| ·) was (maskL F.torn was.length))).map strC) (F.wear.map intC) (F.fuse) F.torn true), step_callP 25 #[.tmp 27] #[25] (by kernel_rfl) (wanted_none (by kernel_rfl)) (stable_W _ _ _ _ _ _) (enters_of Try.func25 (by kernel_rfl) rfl) (_) (pre1 (knows_new (V := (isW r ((F.pages.set k (pairL (· ||| ·) was (maskL F.torn was.length))).map strC) (F.wear.map intC) (F.fuse) F.torn F.dead)) 27 10 (by kernel_rfl) (by kernel_rfl) (by kernel_rfl))) (fun vs w hb h => cdead F r _ _ vs w h), ?_⟩
  intro x w hkp hb hd
  obtain ⟨p, q, dv, hcp, hcq, ho1, ho2⟩ := fdone_of (hd 11 (by decide)) (t := 28) (V := (isW r ((F.pages.set k (pairL (· ||| ·) was (maskL F.torn was.length))).map strC) (F.wear.map intC) (F.fuse) F.torn true)) (by kernel_rfl) (by kernel_rfl)
  replace dv : x.eval (.tmp 28) = _ := dv
  have dr : x.eval (.tmp 4) = .pointer (some ⟨r, 0, none⟩) := (hkp.2.2 4 (by kernel_rfl)).trans er
  have hr2 := HR.keep hb
  refine tail_storeN 25 (.tmp 4) (.tmp 28) r [p, q, .int .i64 (F.fuse), .string ⟨F.torn.toArray⟩, .bool true] _ (by kernel_rfl) (by kernel_rfl) size_fl dr dv hr2.cells rfl hr2.free ⟨hcp.one, hcq.one, rfl, rfl, rfl, trivial⟩ ?_
  refine tail_assign (.const (.int .i64 8)) 5 _ (by kernel_rfl) (by kernel_rfl) rfl ?_
  obtain ⟨y, ey⟩ := kept_ex hkp [some 17, some 18, some 19, some 20, some 21, some 22, some 23, some 24, some 25, some 26, some 27, some 28, none, some 5] [17, 18, 19, 20, 21, 22, 23, 24, 25, 26, 27, 28, 5] (by kernel_rfl) (by decide)
  exact put_kept ey (hQ y p q w hcp hcq ho1 ho2 hb)
noncomputable def re7Ops : Array Oper := regionOf Try.f8 7
set_option maxRecDepth 100000 in
set_option maxHeartbeats 4000000 in
theorem re7_region (Qq : Exit → Act → World → Prop) (a0 : Act) (w0 : World) (hsz : a0.tmps.size = 42) (F : Fl) (k : Nat) (was : List UInt8) (b off np cap b2 r : Nat) (vw : Value) (HX : Blk w0 b2 [.slice (some ⟨b, off, none⟩) np cap, vw, .int .i64 F.fuse, .string ⟨F.torn.toArray⟩, .bool F.dead]) (HR : Blk w0 r [.slice none 0 0, .slice none 0 0, .int .i64 0, .string ⟨#[]⟩, .bool false]) (hp : isCells (F.pages.map strC) (.slice (some ⟨b, off, none⟩) np cap) w0) (hq : isCells (F.wear.map intC) vw w0) (hoq : Off r (F.wear.map intC) vw) (hk : k < F.pages.length) (hpl : F.pages.length ≤ 6) (hcell : w0.cell? ⟨b, off + k, none⟩ = some (.string ⟨was.toArray⟩)) (hblt : b < w0.heap.size) (hkn : k < np) (hwl : was.length ≤ 8192) (e1 : a0.tmps.getD 1 undef = .int .i64 (k : Int)) (e2 : a0.tmps.getD 2 undef = .pointer (some ⟨b2, 0, none⟩)) (er : a0.tmps.getD 4 undef = .pointer (some ⟨r, 0, none⟩)) (hkw : k < F.wear.length) (hlw : F.wear.length ≤ 6) (hww : ∀ x ∈ F.wear, 0 ≤ x ∧ x ≤ 2147483647) (hfz : F.fuse ≤ 9223372036854775807)
    (hQ : ∀ (y : Nat → Value) (p q : Value) (w : World), isCells ((F.pages.set k (List.replicate was.length 255)).map strC) p w → isCells ((F.wear.set k (wornN (F.wear.getD k 0))).map intC) q w → Off r ((F.pages.set k (List.replicate was.length 255)).map strC) p → Off r ((F.wear.set k (wornN (F.wear.getD k 0))).map intC) q → Below w0.heap.size w0 w → Qq .normal { tmps := ([29, 30, 31, 32, 33, 34, 35, 36, 37, 38, 39, 40, 41, 5].foldl (fun t s => t.setIfInBounds s (y s)) a0.tmps).setIfInBounds 5 (.int .i64 0), defers := a0.defers } (setN w r 0 [p, q, .int .i64 (lessN F.fuse), .string ⟨F.torn.toArray⟩, .bool F.dead])) :
    (Code.region 7 re7Ops true).wp Try.prog Qq a0 w0 := by
  refine wp_region_cov 13 mixed (by rw [hsz]; kernel_rfl) (by kernel_rfl) ?_
  rw [show re7Ops.size - 13 = 2 by kernel_rfl]
  refine ⟨isVal (.agg #[.slice (some ⟨b, off, none⟩) np cap, vw, .int .i64 F.fuse, .string ⟨F.torn.toArray⟩, .bool F.dead]), step_loadN 25 (.tmp 2) (b2) [.slice (some ⟨b, off, none⟩) np cap, vw, .int .i64 F.fuse, .string ⟨F.torn.toArray⟩, .bool F.dead] (by kernel_rfl) (wanted_none (by kernel_rfl)) (knows_old 2 (.pointer (some ⟨b2, 0, none⟩)) (by kernel_rfl) e2) size_fl agg_fl HX.cells, ?_⟩
  refine ⟨isVal (.int .i64 (k : Int)), step_move (.tmp 1) (by kernel_rfl) (wanted_none (by kernel_rfl)) (stable_val _) (knows_old 1 (.int .i64 (k : Int)) (by kernel_rfl) e1), ?_⟩
  refine ⟨isVal (.pointer (some ⟨b2, 0, none⟩)), step_field 25 (.tmp 2) 0 ⟨b2, 0, none⟩ ⟨b2, 0, none⟩ (by kernel_rfl) (wanted_none (by kernel_rfl)) (knows_old 2 (.pointer (some ⟨b2, 0, none⟩)) (by kernel_rfl) e2) (field_fl b2 0 (by omega)), ?_⟩
  refine ⟨isVal (.slice (some ⟨b, off, none⟩) np cap), step_read 22 (.tmp 31) ⟨b2, 0, none⟩ (.slice (some ⟨b, off, none⟩) np cap) (by kernel_rfl) (wanted_none (by kernel_rfl)) (knows_new (V := isVal (.pointer (some ⟨b2, 0, none⟩))) 31 2 (by kernel_rfl) (by kernel_rfl) (by kernel_rfl)) (HX.cells.2 0 _ rfl) HX.lt agg_strs, ?_⟩
  refine ⟨isVal (.int .i64 (k : Int)), step_move (.tmp 1) (by kernel_rfl) (wanted_none (by kernel_rfl)) (stable_val _) (knows_old 1 (.int .i64 (k : Int)) (by kernel_rfl) e1), ?_⟩
  refine ⟨isVal (.pointer (some ⟨b, off + k, none⟩)), step_place 22 9 (.tmp 32) (.tmp 33) b off np cap k (by kernel_rfl) (wanted_none (by kernel_rfl)) (knows_new (V := isVal (.slice (some ⟨b, off, none⟩) np cap)) 32 3 (by kernel_rfl) (by kernel_rfl) (by kernel_rfl)) (knows_new (V := isVal (.int .i64 (k : Int))) 33 4 (by kernel_rfl) (by kernel_rfl) (by kernel_rfl)) Try.underlying22 (by kernel_rfl) hkn, ?_⟩
  refine ⟨isVal (.string ⟨was.toArray⟩), step_read 9 (.tmp 34) ⟨b, off + k, none⟩ (.string ⟨was.toArray⟩) (by kernel_rfl) (wanted_none (by kernel_rfl)) (knows_new (V := isVal (.pointer (some ⟨b, off + k, none⟩))) 34 5 (by kernel_rfl) (by kernel_rfl) (by kernel_rfl)) hcell hblt agg_str, ?_⟩
  refine ⟨isVal (.int .i64 (was.length : Int)), step_len 9 (.tmp 35) (.string ⟨was.toArray⟩) (.int .i64 (was.length : Int)) (by kernel_rfl) (wanted_none (by kernel_rfl)) (knows_new (V := isVal (.string ⟨was.toArray⟩)) 35 6 (by kernel_rfl) (by kernel_rfl) (by kernel_rfl)) (len_str was), ?_⟩
  refine ⟨isVal (.string ⟨(List.replicate was.length 255).toArray⟩), step_call 31 #[.tmp 36] #[3] #[.int .i64 (was.length : Int)] (by kernel_rfl) (wanted_none (by kernel_rfl)) (stable_val _) (args1 (.tmp 36) (.int .i64 (was.length : Int)) (knows_new (V := isVal (.int .i64 (was.length : Int))) 36 7 (by kernel_rfl) (by kernel_rfl) (by kernel_rfl))) (enters_of Try.func31 (by kernel_rfl) rfl) (by intro w hb; exact cones was.length (by omega) w), ?_⟩
  refine ⟨(isW r ((F.pages.set k (List.replicate was.length 255)).map strC) (F.wear.map intC) (F.fuse) F.torn F.dead), step_call 26 #[.tmp 29, .tmp 30, .tmp 37] #[25, 3, 9] #[.agg #[.slice (some ⟨b, off, none⟩) np cap, vw, .int .i64 F.fuse, .string ⟨F.torn.toArray⟩, .bool F.dead], .int .i64 (k : Int), .string ⟨(List.replicate was.length 255).toArray⟩] (by kernel_rfl) (wanted_none (by kernel_rfl)) (stable_W _ _ _ _ _ _) (args3 (.tmp 29) (.tmp 30) (.tmp 37) (.agg #[.slice (some ⟨b, off, none⟩) np cap, vw, .int .i64 F.fuse, .string ⟨F.torn.toArray⟩, .bool F.dead]) (.int .i64 (k : Int)) (.string ⟨(List.replicate was.length 255).toArray⟩) (knows_new (V := isVal (.agg #[.slice (some ⟨b, off, none⟩) np cap, vw, .int .i64 F.fuse, .string ⟨F.torn.toArray⟩, .bool F.dead])) 29 0 (by kernel_rfl) (by kernel_rfl) (by kernel_rfl)) (knows_new (V := isVal (.int .i64 (k : Int))) 30 1 (by kernel_rfl) (by kernel_rfl) (by kernel_rfl)) (knows_new (V := isVal (.string ⟨(List.replicate was.length 255).toArray⟩)) 37 8 (by kernel_rfl) (by kernel_rfl) (by kernel_rfl))) (enters_of Try.func26 (by kernel_rfl) rfl) (by intro w hb; exact cwith F k r (List.replicate was.length 255) (.slice (some ⟨b, off, none⟩) np cap) vw w (stable_cells _ _ _ _ hp hb) (stable_cells _ _ _ _ hq hb) hk hpl hoq (Nat.lt_of_lt_of_le HR.lt hb.size)), ?_⟩
  refine ⟨isVal (.int .i64 (k : Int)), step_move (.tmp 1) (by kernel_rfl) (wanted_none (by kernel_rfl)) (stable_val _) (knows_old 1 (.int .i64 (k : Int)) (by kernel_rfl) e1), ?_⟩
  refine ⟨(isW r ((F.pages.set k (List.replicate was.length 255)).map strC) ((F.wear.set k (wornN (F.wear.getD k 0))).map intC) (F.fuse) F.torn F.dead), step_callP 30 #[.tmp 38, .tmp 39] #[25, 3] (by kernel_rfl) (wanted_none (by kernel_rfl)) (stable_W _ _ _ _ _ _) (enters_of Try.func30 (by kernel_rfl) rfl) (_) (pre2 (knows_new (V := (isW r ((F.pages.set k (List.replicate was.length 255)).map strC) (F.wear.map intC) (F.fuse) F.torn F.dead)) 38 9 (by kernel_rfl) (by kernel_rfl) (by kernel_rfl)) (knows_new (V := isVal (.int .i64 (k : Int))) 39 10 (by kernel_rfl) (by kernel_rfl) (by kernel_rfl))) (fun vs w hb h => cworn F k r (List.replicate was.length 255) hkw hlw hww vs w (Nat.lt_of_lt_of_le HR.lt hb.size) h), ?_⟩
  refine ⟨(isW r ((F.pages.set k (List.replicate was.length 255)).map strC) ((F.wear.set k (wornN (F.wear.getD k 0))).map intC) (lessN F.fuse) F.torn F.dead), step_callP 29 #[.tmp 40] #[25] (by kernel_rfl) (wanted_none (by kernel_rfl)) (stable_W _ _ _ _ _ _) (enters_of Try.func29 (by kernel_rfl) rfl) (_) (pre1 (knows_new (V := (isW r ((F.pages.set k (List.replicate was.length 255)).map strC) ((F.wear.set k (wornN (F.wear.getD k 0))).map intC) (F.fuse) F.torn F.dead)) 40 11 (by kernel_rfl) (by kernel_rfl) (by kernel_rfl))) (fun vs w hb h => cburnt F r _ _ hfz vs w h), ?_⟩
  intro x w hkp hb hd
  obtain ⟨p, q, dv, hcp, hcq, ho1, ho2⟩ := fdone_of (hd 12 (by decide)) (t := 41) (V := (isW r ((F.pages.set k (List.replicate was.length 255)).map strC) ((F.wear.set k (wornN (F.wear.getD k 0))).map intC) (lessN F.fuse) F.torn F.dead)) (by kernel_rfl) (by kernel_rfl)
  replace dv : x.eval (.tmp 41) = _ := dv
  have dr : x.eval (.tmp 4) = .pointer (some ⟨r, 0, none⟩) := (hkp.2.2 4 (by kernel_rfl)).trans er
  have hr2 := HR.keep hb
  refine tail_storeN 25 (.tmp 4) (.tmp 41) r [p, q, .int .i64 (lessN F.fuse), .string ⟨F.torn.toArray⟩, .bool F.dead] _ (by kernel_rfl) (by kernel_rfl) size_fl dr dv hr2.cells rfl hr2.free ⟨hcp.one, hcq.one, rfl, rfl, rfl, trivial⟩ ?_
  refine tail_assign (.const (.int .i64 0)) 5 _ (by kernel_rfl) (by kernel_rfl) rfl ?_
  obtain ⟨y, ey⟩ := kept_ex hkp [some 29, some 30, some 31, some 32, some 33, some 34, some 35, some 36, some 37, some 38, some 39, some 40, some 41, none, some 5] [29, 30, 31, 32, 33, 34, 35, 36, 37, 38, 39, 40, 41, 5] (by kernel_rfl) (by decide)
  exact put_kept ey (hQ y p q w hcp hcq ho1 ho2 hb)
end Go.Proofs.Ytdbohkbemjkcfaa
end
section
namespace Go.Proofs.Ytdbohkbemjkcfaa
open Go.RowKit
set_option linter.unusedVariables false
set_option linter.unusedSimpArgs false
attribute [local irreducible] setN
set_option maxRecDepth 100000 in
set_option maxHeartbeats 4000000 in
theorem rerase_no1 (F : Fl) (n : Int) (v : Value) (w : World) (hv : isFl F v w) (hf : FewF F) (hm : hasB F n = false) :
    Calls Try.prog 8 #[v, .int .i64 n] w fun e w' => ∃ v', e = .returned (.tuple #[v', .int .i64 1]) ∧ isFl F v' w' ∧ Below w.heap.size w w' := by
  obtain ⟨vp, vw, rfl, hpp, hqq⟩ := hv
  have o1 := hpp.one
  have o2 := hqq.one
  have HP := Kept.mk hpp
  have HQ := Kept.mk hqq
  have hb0 := (lit_below w (.cells #[vp, vw, .int .i64 F.fuse, .string ⟨F.torn.toArray⟩, .bool F.dead] 25)).trans ((lit_below (w.alloc (.cells #[vp, vw, .int .i64 F.fuse, .string ⟨F.torn.toArray⟩, .bool F.dead] 25)) (.cells #[.slice none 0 0, .slice none 0 0, .int .i64 0, .string ⟨#[]⟩, .bool false] 25)).mono (lit_below w (.cells #[vp, vw, .int .i64 F.fuse, .string ⟨F.torn.toArray⟩, .bool F.dead] 25)).size)
  have HB := Kept.mk hb0
  have HX := Kept.mk ((Blk.new w 25 [vp, vw, .int .i64 F.fuse, .string ⟨F.torn.toArray⟩, .bool F.dead] w.heap.size rfl).alloc (.cells #[.slice none 0 0, .slice none 0 0, .int .i64 0, .string ⟨#[]⟩, .bool false] 25))
  have HR := Kept.mk (Blk.new (w.alloc (.cells #[vp, vw, .int .i64 F.fuse, .string ⟨F.torn.toArray⟩, .bool F.dead] 25)) 25 [.slice none 0 0, .slice none 0 0, .int .i64 0, .string ⟨#[]⟩, .bool false] (w.heap.size + 1) (by simp))
  have HV := Kept.mk (show isFl F (.agg #[vp, vw, .int .i64 F.fuse, .string ⟨F.torn.toArray⟩, .bool F.dead]) ((w.alloc (.cells #[vp, vw, .int .i64 F.fuse, .string ⟨F.torn.toArray⟩, .bool F.dead] 25)).alloc (.cells #[.slice none 0 0, .slice none 0 0, .int .i64 0, .string ⟨#[]⟩, .bool false] 25)) from ⟨vp, vw, rfl, stable_cells _ _ _ _ hpp hb0, stable_cells _ _ _ _ hqq hb0⟩)
  have hs0 : ((w.alloc (.cells #[vp, vw, .int .i64 F.fuse, .string ⟨F.torn.toArray⟩, .bool F.dead] 25)).alloc (.cells #[.slice none 0 0, .slice none 0 0, .int .i64 0, .string ⟨#[]⟩, .bool false] 25)).heap.size = w.heap.size + 2 := by simp
  clear hb0 hpp hqq
  show Calls Try.prog 8 #[.agg #[vp, vw, .int .i64 F.fuse, .string ⟨F.torn.toArray⟩, .bool F.dead], .int .i64 n] w _
  have HM := Kept.mk hm
  clear hm
  go_enter Try.func8, Try.ntmps8
  go_wp2_with fail
  generalize ((w.alloc (.cells #[vp, vw, .int .i64 F.fuse, .string ⟨F.torn.toArray⟩, .bool F.dead] 25)).alloc (.cells #[.slice none 0 0, .slice none 0 0, .int .i64 0, .string ⟨#[]⟩, .bool false] 25)) = W at *
  refine (rpage_any F n _ W HV.out hf).mono ?_
  rintro e W1 ⟨rfl, hb⟩
  rewrite [HM.out]
  have hs1 := hb.size
  replace HX := Kept.mk (HX.out.keep hb)
  replace HR := Kept.mk (HR.out.keep hb)
  replace HB := Kept.mk (HB.out.trans (hb.mono HB.out.size))
  clear hb
  have kx0 := HX.out.cells.2 0 _ rfl
  have kx1 := HX.out.cells.2 1 _ rfl
  have kx2 := HX.out.cells.2 2 _ rfl
  have kx3 := HX.out.cells.2 3 _ rfl
  have kx4 := HX.out.cells.2 4 _ rfl
  have fx0 := HX.out.free 0
  have fx1 := HX.out.free 1
  have fx2 := HX.out.free 2
  have fx3 := HX.out.free 3
  have fx4 := HX.out.free 4
  have HR2 := HR
  have HB2 := HB
  have K5 : Kept (Ones [vp, vw, .int .i64 F.fuse, .string ⟨F.torn.toArray⟩, .bool F.dead]) := ⟨⟨o1, o2, rfl, rfl, rfl, trivial⟩⟩
  go_wp2_with (have hz1 := K5; refine wpList_storeN 25 rfl (.tmp 4) (.tmp 10) rfl (w.heap.size + 1) [vp, vw, .int .i64 F.fuse, .string ⟨F.torn.toArray⟩, .bool F.dead] size_fl rfl rfl HR2.out.cells rfl HR2.out.free K5.out ?_; clear hz1 K5)
  have B := below_setN (show w.heap.size ≤ w.heap.size + 1 by omega) [vp, vw, .int .i64 F.fuse, .string ⟨F.torn.toArray⟩, .bool F.dead] 0 _ HB2.out
  exact bodyPost_ret (resultsN2 rfl _ _ (w.heap.size + 1) _ (.int .i64 1) size_fl agg_fl rfl rfl (HR2.out.all_ (l := [vp, vw, .int .i64 F.fuse, .string ⟨F.torn.toArray⟩, .bool F.dead]) rfl).cells) rfl ⟨_, rfl, ⟨vp, vw, rfl, stable_cells _ _ _ _ HP.out B, stable_cells _ _ _ _ HQ.out B⟩, B⟩
set_option maxRecDepth 100000 in
set_option maxHeartbeats 4000000 in
theorem rerase_no2 (F : Fl) (n : Int) (v : Value) (w : World) (hv : isFl F v w) (hf : FewF F) (hm : hasB F n = true) (hd : F.dead = true) :
    Calls Try.prog 8 #[v, .int .i64 n] w fun e w' => ∃ v', e = .returned (.tuple #[v', .int .i64 8]) ∧ isFl F v' w' ∧ Below w.heap.size w w' := by
  obtain ⟨vp, vw, rfl, hpp, hqq⟩ := hv
  have o1 := hpp.one
  have o2 := hqq.one
  have HP := Kept.mk hpp
  have HQ := Kept.mk hqq
  have hb0 := (lit_below w (.cells #[vp, vw, .int .i64 F.fuse, .string ⟨F.torn.toArray⟩, .bool F.dead] 25)).trans ((lit_below (w.alloc (.cells #[vp, vw, .int .i64 F.fuse, .string ⟨F.torn.toArray⟩, .bool F.dead] 25)) (.cells #[.slice none 0 0, .slice none 0 0, .int .i64 0, .string ⟨#[]⟩, .bool false] 25)).mono (lit_below w (.cells #[vp, vw, .int .i64 F.fuse, .string ⟨F.torn.toArray⟩, .bool F.dead] 25)).size)
  have HB := Kept.mk hb0
  have HX := Kept.mk ((Blk.new w 25 [vp, vw, .int .i64 F.fuse, .string ⟨F.torn.toArray⟩, .bool F.dead] w.heap.size rfl).alloc (.cells #[.slice none 0 0, .slice none 0 0, .int .i64 0, .string ⟨#[]⟩, .bool false] 25))
  have HR := Kept.mk (Blk.new (w.alloc (.cells #[vp, vw, .int .i64 F.fuse, .string ⟨F.torn.toArray⟩, .bool F.dead] 25)) 25 [.slice none 0 0, .slice none 0 0, .int .i64 0, .string ⟨#[]⟩, .bool false] (w.heap.size + 1) (by simp))
  have HV := Kept.mk (show isFl F (.agg #[vp, vw, .int .i64 F.fuse, .string ⟨F.torn.toArray⟩, .bool F.dead]) ((w.alloc (.cells #[vp, vw, .int .i64 F.fuse, .string ⟨F.torn.toArray⟩, .bool F.dead] 25)).alloc (.cells #[.slice none 0 0, .slice none 0 0, .int .i64 0, .string ⟨#[]⟩, .bool false] 25)) from ⟨vp, vw, rfl, stable_cells _ _ _ _ hpp hb0, stable_cells _ _ _ _ hqq hb0⟩)
  have hs0 : ((w.alloc (.cells #[vp, vw, .int .i64 F.fuse, .string ⟨F.torn.toArray⟩, .bool F.dead] 25)).alloc (.cells #[.slice none 0 0, .slice none 0 0, .int .i64 0, .string ⟨#[]⟩, .bool false] 25)).heap.size = w.heap.size + 2 := by simp
  clear hb0 hpp hqq
  show Calls Try.prog 8 #[.agg #[vp, vw, .int .i64 F.fuse, .string ⟨F.torn.toArray⟩, .bool F.dead], .int .i64 n] w _
  have HM := Kept.mk hm
  clear hm
  have HD := Kept.mk hd
  clear hd
  go_enter Try.func8, Try.ntmps8
  go_wp2_with fail
  generalize ((w.alloc (.cells #[vp, vw, .int .i64 F.fuse, .string ⟨F.torn.toArray⟩, .bool F.dead] 25)).alloc (.cells #[.slice none 0 0, .slice none 0 0, .int .i64 0, .string ⟨#[]⟩, .bool false] 25)) = W at *
  refine (rpage_any F n _ W HV.out hf).mono ?_
  rintro e W1 ⟨rfl, hb⟩
  rewrite [HM.out]
  have hs1 := hb.size
  replace HX := Kept.mk (HX.out.keep hb)
  replace HR := Kept.mk (HR.out.keep hb)
  replace HB := Kept.mk (HB.out.trans (hb.mono HB.out.size))
  clear hb
  have kx0 := HX.out.cells.2 0 _ rfl
  have kx1 := HX.out.cells.2 1 _ rfl
  have kx2 := HX.out.cells.2 2 _ rfl
  have kx3 := HX.out.cells.2 3 _ rfl
  have kx4 := HX.out.cells.2 4 _ rfl
  have fx0 := HX.out.free 0
  have fx1 := HX.out.free 1
  have fx2 := HX.out.free 2
  have fx3 := HX.out.free 3
  have fx4 := HX.out.free 4
  rw [HD.out] at kx4
  have HR2 := HR
  have HB2 := HB
  have K5 : Kept (Ones [vp, vw, .int .i64 F.fuse, .string ⟨F.torn.toArray⟩, .bool true]) := ⟨⟨o1, o2, rfl, rfl, rfl, trivial⟩⟩
  go_wp2_with (have hz1 := K5; refine wpList_storeN 25 rfl (.tmp 4) (.tmp 13) rfl (w.heap.size + 1) [vp, vw, .int .i64 F.fuse, .string ⟨F.torn.toArray⟩, .bool true] size_fl rfl rfl HR2.out.cells rfl HR2.out.free K5.out ?_; clear hz1 K5)
  have B := below_setN (show w.heap.size ≤ w.heap.size + 1 by omega) [vp, vw, .int .i64 F.fuse, .string ⟨F.torn.toArray⟩, .bool true] 0 _ HB2.out
  exact bodyPost_ret (resultsN2 rfl _ _ (w.heap.size + 1) _ (.int .i64 8) size_fl agg_fl rfl rfl (HR2.out.all_ (l := [vp, vw, .int .i64 F.fuse, .string ⟨F.torn.toArray⟩, .bool true]) rfl).cells) rfl ⟨_, rfl, ⟨vp, vw, by rw [HD.out]; rfl, stable_cells _ _ _ _ HP.out B, stable_cells _ _ _ _ HQ.out B⟩, B⟩
set_option maxRecDepth 100000 in
set_option maxHeartbeats 4000000 in
theorem rerase_torn (F : Fl) (k : Nat) (v : Value) (w : World) (hv : isFl F v w) (hf : FewF F) (hm : hasB F (k : Int) = true) (hd : F.dead = false) (hz : F.fuse = 0) :
    Calls Try.prog 8 #[v, .int .i64 (k : Int)] w fun e w' => ∃ v', e = .returned (.tuple #[v', .int .i64 8]) ∧ isFl { F with pages := F.pages.set k (pairL (· ||| ·) (F.pages.getD k []) (maskL F.torn (F.pages.getD k []).length)), dead := true } v' w' ∧ Below w.heap.size w w' := by
  have HHF := Kept.mk (has_facts F k hm)
  obtain ⟨hk, h6, hwl, htl, hpg, hwr⟩ := HHF.out
  obtain ⟨was, hwas⟩ : ∃ was, F.pages[k]? = some was := ⟨_, List.getElem?_eq_getElem hk⟩
  have hwm : was.length ≤ 8192 := (hpg _ (List.mem_of_getElem? hwas)).2.1
  have hget1 : F.pages.getD k [] = was := by simp [List.getD_eq_getElem?_getD, hwas]
  have HW0 := Kept.mk (show was.length = (F.pages[0]'(by omega)).length by
    rw [(hpg _ (List.mem_of_getElem? hwas)).2.2, (hpg _ (List.getElem_mem (show 0 < F.pages.length by omega))).2.2])
  have HWAS := Kept.mk hwas
  rw [hget1]
  have HWR := Kept.mk hwr
  have HM := Kept.mk hm
  clear hpg hwr hwas hget1 hm
  obtain ⟨vp, vw, rfl, hpp, hqq⟩ := hv
  have o1 := hpp.one
  have o2 := hqq.one
  have HP := Kept.mk hpp
  have HQ := Kept.mk hqq
  have hb0 := (lit_below w (.cells #[vp, vw, .int .i64 F.fuse, .string ⟨F.torn.toArray⟩, .bool F.dead] 25)).trans ((lit_below (w.alloc (.cells #[vp, vw, .int .i64 F.fuse, .string ⟨F.torn.toArray⟩, .bool F.dead] 25)) (.cells #[.slice none 0 0, .slice none 0 0, .int .i64 0, .string ⟨#[]⟩, .bool false] 25)).mono (lit_below w (.cells #[vp, vw, .int .i64 F.fuse, .string ⟨F.torn.toArray⟩, .bool F.dead] 25)).size)
  have HB := Kept.mk hb0
  have HX := Kept.mk ((Blk.new w 25 [vp, vw, .int .i64 F.fuse, .string ⟨F.torn.toArray⟩, .bool F.dead] w.heap.size rfl).alloc (.cells #[.slice none 0 0, .slice none 0 0, .int .i64 0, .string ⟨#[]⟩, .bool false] 25))
  have HR := Kept.mk (Blk.new (w.alloc (.cells #[vp, vw, .int .i64 F.fuse, .string ⟨F.torn.toArray⟩, .bool F.dead] 25)) 25 [.slice none 0 0, .slice none 0 0, .int .i64 0, .string ⟨#[]⟩, .bool false] (w.heap.size + 1) (by simp))
  have HV := Kept.mk (show isFl F (.agg #[vp, vw, .int .i64 F.fuse, .string ⟨F.torn.toArray⟩, .bool F.dead]) ((w.alloc (.cells #[vp, vw, .int .i64 F.fuse, .string ⟨F.torn.toArray⟩, .bool F.dead] 25)).alloc (.cells #[.slice none 0 0, .slice none 0 0, .int .i64 0, .string ⟨#[]⟩, .bool false] 25)) from ⟨vp, vw, rfl, stable_cells _ _ _ _ hpp hb0, stable_cells _ _ _ _ hqq hb0⟩)
  have hs0 : ((w.alloc (.cells #[vp, vw, .int .i64 F.fuse, .string ⟨F.torn.toArray⟩, .bool F.dead] 25)).alloc (.cells #[.slice none 0 0, .slice none 0 0, .int .i64 0, .string ⟨#[]⟩, .bool false] 25)).heap.size = w.heap.size + 2 := by simp
  clear hb0 hpp hqq
  show Calls Try.prog 8 #[.agg #[vp, vw, .int .i64 F.fuse, .string ⟨F.torn.toArray⟩, .bool F.dead], .int .i64 (k : Int)] w _
  have HD := Kept.mk hd
  clear hd
  have HZ := Kept.mk hz
  clear hz
  go_enter Try.func8, Try.ntmps8
  go_wp2_with fail
  generalize ((w.alloc (.cells #[vp, vw, .int .i64 F.fuse, .string ⟨F.torn.toArray⟩, .bool F.dead] 25)).alloc (.cells #[.slice none 0 0, .slice none 0 0, .int .i64 0, .string ⟨#[]⟩, .bool false] 25)) = W at *
  refine (rpage_any F k _ W HV.out hf).mono ?_
  rintro e W1 ⟨rfl, hb⟩
  rewrite [HM.out]
  have hs1 := hb.size
  replace HX := Kept.mk (HX.out.keep hb)
  replace HR := Kept.mk (HR.out.keep hb)
  replace HB := Kept.mk (HB.out.trans (hb.mono HB.out.size))
  clear hb
  have kx0 := HX.out.cells.2 0 _ rfl
  have kx1 := HX.out.cells.2 1 _ rfl
  have kx2 := HX.out.cells.2 2 _ rfl
  have kx3 := HX.out.cells.2 3 _ rfl
  have kx4 := HX.out.cells.2 4 _ rfl
  have fx0 := HX.out.free 0
  have fx1 := HX.out.free 1
  have fx2 := HX.out.free 2
  have fx3 := HX.out.free 3
  have fx4 := HX.out.free 4
  rw [HD.out] at kx4
  rw [HZ.out] at kx2
  go_wp2_with fail
  clear kx0 kx1 kx2 kx3 kx4 fx0 fx1 fx2 fx3 fx4
  obtain ⟨b, off, cap, hvp, hb, hc⟩ := HP.out.some_ (by rw [List.length_map]; omega)
  have HC := Kept.mk (show W1.cell? ⟨b, off + k, none⟩ = some (.string ⟨was.toArray⟩) from (HB.out.cell (p := ⟨b, off + k, none⟩) hb).trans (hc k _ (by simp [HWAS.out, strC])))
  have hbl : b < W1.heap.size := by have := HB.out.size; omega
  have HP1 := Kept.mk (stable_cells _ _ _ _ HP.out HB.out)
  have HQ1 := Kept.mk (stable_cells _ _ _ _ HQ.out HB.out)
  rw [List.length_map] at hvp
  subst hvp
  clear hc
  refine re6_region _ _ _ rfl F k was b off F.pages.length cap w.heap.size (w.heap.size + 1) vw HX.out HR.out HP1.out HQ1.out (off_old HQ.out (by omega)) hk h6 HC.out hbl hk hwm rfl rfl rfl HW0.out htl ?_
  intro y9 p q W9 hcp hcq hop hoq hb9
  have HE := Kept.mk (below_setN (show w.heap.size ≤ w.heap.size + 1 by omega) [p, q, .int .i64 (F.fuse), .string ⟨F.torn.toArray⟩, .bool true] 0 _ (HB.out.trans (hb9.mono HB.out.size)))
  have HF := Kept.mk ((HR.out.keep hb9).all_ (l := [p, q, .int .i64 (F.fuse), .string ⟨F.torn.toArray⟩, .bool true]) rfl).cells
  have EP := Kept.mk (cells_apart hcp hop 0 [p, q, .int .i64 (F.fuse), .string ⟨F.torn.toArray⟩, .bool true])
  have EQ := Kept.mk (cells_apart hcq hoq 0 [p, q, .int .i64 (F.fuse), .string ⟨F.torn.toArray⟩, .bool true])
  clear hb9 hcp hcq hop hoq HC HP1 HQ1
  simp only [List.foldl_cons, List.foldl_nil]
  generalize y9 17 = z17
  generalize y9 18 = z18
  generalize y9 19 = z19
  generalize y9 20 = z20
  generalize y9 21 = z21
  generalize y9 22 = z22
  generalize y9 23 = z23
  generalize y9 24 = z24
  generalize y9 25 = z25
  generalize y9 26 = z26
  generalize y9 27 = z27
  generalize y9 28 = z28
  generalize y9 5 = z5
  simp only [List.setIfInBounds_toArray, List.set_cons_succ, List.set_cons_zero]
  clear y9
  go_wp2
  exact bodyPost_ret (resultsN2 rfl _ _ (w.heap.size + 1) _ (.int .i64 8) size_fl agg_fl rfl rfl HF.out) rfl ⟨_, rfl, ⟨p, q, rfl, EP.out, EQ.out⟩, HE.out⟩
set_option maxRecDepth 100000 in
set_option maxHeartbeats 4000000 in
theorem rerase_yes (F : Fl) (k : Nat) (v : Value) (w : World) (hv : isFl F v w) (hf : FewF F) (hm : hasB F (k : Int) = true) (hd : F.dead = false) (hz : ¬ F.fuse = 0) (hfz : F.fuse ≤ 9223372036854775807) :
    Calls Try.prog 8 #[v, .int .i64 (k : Int)] w fun e w' => ∃ v', e = .returned (.tuple #[v', .int .i64 0]) ∧ isFl { F with pages := F.pages.set k (List.replicate (F.pages.getD k []).length 255), wear := F.wear.set k (wornN (F.wear.getD k 0)), fuse := lessN F.fuse } v' w' ∧ Below w.heap.size w w' := by
  have HHF := Kept.mk (has_facts F k hm)
  obtain ⟨hk, h6, hwl, htl, hpg, hwr⟩ := HHF.out
  obtain ⟨was, hwas⟩ : ∃ was, F.pages[k]? = some was := ⟨_, List.getElem?_eq_getElem hk⟩
  have hwm : was.length ≤ 8192 := (hpg _ (List.mem_of_getElem? hwas)).2.1
  have hget1 : F.pages.getD k [] = was := by simp [List.getD_eq_getElem?_getD, hwas]
  have HW0 := Kept.mk (show was.length = (F.pages[0]'(by omega)).length by
    rw [(hpg _ (List.mem_of_getElem? hwas)).2.2, (hpg _ (List.getElem_mem (show 0 < F.pages.length by omega))).2.2])
  have HWAS := Kept.mk hwas
  rw [hget1]
  have HWR := Kept.mk hwr
  have HM := Kept.mk hm
  clear hpg hwr hwas hget1 hm
  obtain ⟨vp, vw, rfl, hpp, hqq⟩ := hv
  have o1 := hpp.one
  have o2 := hqq.one
  have HP := Kept.mk hpp
  have HQ := Kept.mk hqq
  have hb0 := (lit_below w (.cells #[vp, vw, .int .i64 F.fuse, .string ⟨F.torn.toArray⟩, .bool F.dead] 25)).trans ((lit_below (w.alloc (.cells #[vp, vw, .int .i64 F.fuse, .string ⟨F.torn.toArray⟩, .bool F.dead] 25)) (.cells #[.slice none 0 0, .slice none 0 0, .int .i64 0, .string ⟨#[]⟩, .bool false] 25)).mono (lit_below w (.cells #[vp, vw, .int .i64 F.fuse, .string ⟨F.torn.toArray⟩, .bool F.dead] 25)).size)
  have HB := Kept.mk hb0
  have HX := Kept.mk ((Blk.new w 25 [vp, vw, .int .i64 F.fuse, .string ⟨F.torn.toArray⟩, .bool F.dead] w.heap.size rfl).alloc (.cells #[.slice none 0 0, .slice none 0 0, .int .i64 0, .string ⟨#[]⟩, .bool false] 25))
  have HR := Kept.mk (Blk.new (w.alloc (.cells #[vp, vw, .int .i64 F.fuse, .string ⟨F.torn.toArray⟩, .bool F.dead] 25)) 25 [.slice none 0 0, .slice none 0 0, .int .i64 0, .string ⟨#[]⟩, .bool false] (w.heap.size + 1) (by simp))
  have HV := Kept.mk (show isFl F (.agg #[vp, vw, .int .i64 F.fuse, .string ⟨F.torn.toArray⟩, .bool F.dead]) ((w.alloc (.cells #[vp, vw, .int .i64 F.fuse, .string ⟨F.torn.toArray⟩, .bool F.dead] 25)).alloc (.cells #[.slice none 0 0, .slice none 0 0, .int .i64 0, .string ⟨#[]⟩, .bool false] 25)) from ⟨vp, vw, rfl, stable_cells _ _ _ _ hpp hb0, stable_cells _ _ _ _ hqq hb0⟩)
  have hs0 : ((w.alloc (.cells #[vp, vw, .int .i64 F.fuse, .string ⟨F.torn.toArray⟩, .bool F.dead] 25)).alloc (.cells #[.slice none 0 0, .slice none 0 0, .int .i64 0, .string ⟨#[]⟩, .bool false] 25)).heap.size = w.heap.size + 2 := by simp
  clear hb0 hpp hqq
  show Calls Try.prog 8 #[.agg #[vp, vw, .int .i64 F.fuse, .string ⟨F.torn.toArray⟩, .bool F.dead], .int .i64 (k : Int)] w _
  have HD := Kept.mk hd
  clear hd
  go_enter Try.func8, Try.ntmps8
  go_wp2_with fail
  generalize ((w.alloc (.cells #[vp, vw, .int .i64 F.fuse, .string ⟨F.torn.toArray⟩, .bool F.dead] 25)).alloc (.cells #[.slice none 0 0, .slice none 0 0, .int .i64 0, .string ⟨#[]⟩, .bool false] 25)) = W at *
  refine (rpage_any F k _ W HV.out hf).mono ?_
  rintro e W1 ⟨rfl, hb⟩
  rewrite [HM.out]
  have hs1 := hb.size
  replace HX := Kept.mk (HX.out.keep hb)
  replace HR := Kept.mk (HR.out.keep hb)
  replace HB := Kept.mk (HB.out.trans (hb.mono HB.out.size))
  clear hb
  have kx0 := HX.out.cells.2 0 _ rfl
  have kx1 := HX.out.cells.2 1 _ rfl
  have kx2 := HX.out.cells.2 2 _ rfl
  have kx3 := HX.out.cells.2 3 _ rfl
  have kx4 := HX.out.cells.2 4 _ rfl
  have fx0 := HX.out.free 0
  have fx1 := HX.out.free 1
  have fx2 := HX.out.free 2
  have fx3 := HX.out.free 3
  have fx4 := HX.out.free 4
  rw [HD.out] at kx4
  go_wp2_with fail
  clear kx0 kx1 kx2 kx3 kx4 fx0 fx1 fx2 fx3 fx4
  obtain ⟨b, off, cap, hvp, hb, hc⟩ := HP.out.some_ (by rw [List.length_map]; omega)
  have HC := Kept.mk (show W1.cell? ⟨b, off + k, none⟩ = some (.string ⟨was.toArray⟩) from (HB.out.cell (p := ⟨b, off + k, none⟩) hb).trans (hc k _ (by simp [HWAS.out, strC])))
  have hbl : b < W1.heap.size := by have := HB.out.size; omega
  have HP1 := Kept.mk (stable_cells _ _ _ _ HP.out HB.out)
  have HQ1 := Kept.mk (stable_cells _ _ _ _ HQ.out HB.out)
  rw [List.length_map] at hvp
  subst hvp
  clear hc
  refine re7_region _ _ _ rfl F k was b off F.pages.length cap w.heap.size (w.heap.size + 1) vw HX.out HR.out HP1.out HQ1.out (off_old HQ.out (by omega)) hk h6 HC.out hbl hk hwm rfl rfl rfl (by omega) (by omega) HWR.out hfz ?_
  intro y9 p q W9 hcp hcq hop hoq hb9
  have HE := Kept.mk (below_setN (show w.heap.size ≤ w.heap.size + 1 by omega) [p, q, .int .i64 (lessN F.fuse), .string ⟨F.torn.toArray⟩, .bool F.dead] 0 _ (HB.out.trans (hb9.mono HB.out.size)))
  have HF := Kept.mk ((HR.out.keep hb9).all_ (l := [p, q, .int .i64 (lessN F.fuse), .string ⟨F.torn.toArray⟩, .bool F.dead]) rfl).cells
  have EP := Kept.mk (cells_apart hcp hop 0 [p, q, .int .i64 (lessN F.fuse), .string ⟨F.torn.toArray⟩, .bool F.dead])
  have EQ := Kept.mk (cells_apart hcq hoq 0 [p, q, .int .i64 (lessN F.fuse), .string ⟨F.torn.toArray⟩, .bool F.dead])
  clear hb9 hcp hcq hop hoq HC HP1 HQ1
  simp only [List.foldl_cons, List.foldl_nil]
  generalize y9 29 = z29
  generalize y9 30 = z30
  generalize y9 31 = z31
  generalize y9 32 = z32
  generalize y9 33 = z33
  generalize y9 34 = z34
  generalize y9 35 = z35
  generalize y9 36 = z36
  generalize y9 37 = z37
  generalize y9 38 = z38
  generalize y9 39 = z39
  generalize y9 40 = z40
  generalize y9 41 = z41
  generalize y9 5 = z5
  simp only [List.setIfInBounds_toArray, List.set_cons_succ, List.set_cons_zero]
  clear y9
  go_wp2
  exact bodyPost_ret (resultsN2 rfl _ _ (w.heap.size + 1) _ (.int .i64 0) size_fl agg_fl rfl rfl HF.out) rfl ⟨_, rfl, ⟨p, q, rfl, EP.out, EQ.out⟩, HE.out⟩
theorem rerase_any (F : Fl) (n : Int) (v : Value) (w : World) (hv : isFl F v w) (hf : FewF F) (hfz : F.fuse ≤ 9223372036854775807) :
    Calls Try.prog 8 #[v, .int .i64 n] w fun e w' => ∃ v', e = .returned (.tuple #[v', .int .i64 (eraseE F n)]) ∧ isFl (eraseF F n) v' w' ∧ Below w.heap.size w w' := by
  cases hm : hasB F n with
  | false =>
    rw [show eraseE F n = 1 by simp [eraseE, hm], show eraseF F n = F by simp [eraseF, hm]]
    exact rerase_no1 F n v w hv hf hm
  | true =>
    obtain ⟨k, rfl⟩ := has_nat hm
    cases hd : F.dead with
    | true =>
      rw [show eraseE F k = 8 by simp [eraseE, hm, hd], show eraseF F k = F by simp [eraseF, hm, hd]]
      exact rerase_no2 F k v w hv hf hm hd
    | false =>
      by_cases hz : F.fuse = 0
      · rw [show eraseE F k = 8 by simp [eraseE, hm, hd, hz]]
        have h := rerase_torn F k v w hv hf hm hd hz
        rw [← between_ones] at h
        have e : eraseF F k = { F with pages := F.pages.set k (betweenL (F.pages.getD k []) (List.replicate (F.pages.getD k []).length 255) F.torn), dead := true } := by
          unfold eraseF
          rw [if_neg (by rw [hm]; decide), if_neg (by rw [hd]; decide), if_pos hz, Int.toNat_natCast]
        rw [e]
        exact h
      · rw [show eraseE F k = 0 by simp [eraseE, hm, hd, hz]]
        have h := rerase_yes F k v w hv hf hm hd hz hfz
        have e : eraseF F k = { F with pages := F.pages.set k (List.replicate (F.pages.getD k []).length 255), wear := F.wear.set k (wornN (F.wear.getD k 0)), fuse := lessN F.fuse } := by
          unfold eraseF
          rw [if_neg (by rw [hm]; decide), if_neg (by rw [hd]; decide), if_neg hz, Int.toNat_natCast]
          rfl
        rw [e]
        exact h
end Go.Proofs.Ytdbohkbemjkcfaa
end
section
namespace Go.Proofs.Ytdbohkbemjkcfaa
open Go.RowKit
set_option linter.unusedVariables false
set_option linter.unusedSimpArgs false
attribute [local irreducible] setN
theorem cand (s t : List UInt8) (w : World) (hs : s.length ≤ 1000000) (ht : t.length ≤ 1000000) : Calls Try.prog 33 #[.string ⟨s.toArray⟩, .string ⟨t.toArray⟩] w fun e w' => ∃ v, e = .returned v ∧ isVal (.string ⟨(pairL (· &&& ·) s t).toArray⟩) v w' ∧ Below w.heap.size w w' :=
  (refAnd_any ⟨s.toArray⟩ ⟨t.toArray⟩ w (by rw [size_mk]; exact hs) (by rw [size_mk]; exact ht)).mono (by
    rintro e w' ⟨rfl, hb⟩
    exact ⟨_, rfl, rfl, hb⟩)
noncomputable def rp9Ops : Array Oper := regionOf Try.f10 9
set_option maxRecDepth 100000 in
set_option maxHeartbeats 4000000 in
theorem rp9_region (Qq : Exit → Act → World → Prop) (a0 : Act) (w0 : World) (hsz : a0.tmps.size = 96) (F : Fl) (k : Nat) (was : List UInt8) (b off np cap b2 r : Nat) (vw : Value) (HX : Blk w0 b2 [.slice (some ⟨b, off, none⟩) np cap, vw, .int .i64 F.fuse, .string ⟨F.torn.toArray⟩, .bool F.dead]) (HR : Blk w0 r [.slice none 0 0, .slice none 0 0, .int .i64 0, .string ⟨#[]⟩, .bool false]) (hp : isCells (F.pages.map strC) (.slice (some ⟨b, off, none⟩) np cap) w0) (hq : isCells (F.wear.map intC) vw w0) (hoq : Off r (F.wear.map intC) vw) (hk : k < F.pages.length) (hpl : F.pages.length ≤ 6) (hcell : w0.cell? ⟨b, off + k, none⟩ = some (.string ⟨was.toArray⟩)) (hblt : b < w0.heap.size) (hkn : k < np) (hwl : was.length ≤ 8192) (e1 : a0.tmps.getD 1 undef = .int .i64 (k : Int)) (e2 : a0.tmps.getD 4 undef = .pointer (some ⟨b2, 0, none⟩)) (er : a0.tmps.getD 8 undef = .pointer (some ⟨r, 0, none⟩)) (d : List UInt8) (ed : a0.tmps.getD 12 undef = .string ⟨d.toArray⟩) (hdl : d.length ≤ 1000000)
    (hQ : ∀ (y : Nat → Value) (p q : Value) (w : World), isCells ((F.pages.set k (pairL (· &&& ·) was d)).map strC) p w → isCells (F.wear.map intC) q w → Off r ((F.pages.set k (pairL (· &&& ·) was d)).map strC) p → Off r (F.wear.map intC) q → Below w0.heap.size w0 w → Qq .normal { tmps := ([74, 75, 76, 77, 78, 79, 80, 81, 82, 83, 84, 9].foldl (fun t s => t.setIfInBounds s (y s)) a0.tmps).setIfInBounds 9 (.int .i64 8), defers := a0.defers } (setN w r 0 [p, q, .int .i64 (F.fuse), .string ⟨F.torn.toArray⟩, .bool true])) :
    (Code.region 9 rp9Ops true).wp Try.prog Qq a0 w0 := by
  refine wp_region_cov 11 mixed (by rw [hsz]; kernel_rfl) (by kernel_rfl) ?_
  rw [show rp9Ops.size - 11 = 2 by kernel_rfl]
  refine ⟨isVal (.agg #[.slice (some ⟨b, off, none⟩) np cap, vw, .int .i64 F.fuse, .string ⟨F.torn.toArray⟩, .bool F.dead]), step_loadN 25 (.tmp 4) (b2) [.slice (some ⟨b, off, none⟩) np cap, vw, .int .i64 F.fuse, .string ⟨F.torn.toArray⟩, .bool F.dead] (by kernel_rfl) (wanted_none (by kernel_rfl)) (knows_old 4 (.pointer (some ⟨b2, 0, none⟩)) (by kernel_rfl) e2) size_fl agg_fl HX.cells, ?_⟩
  refine ⟨isVal (.int .i64 (k : Int)), step_move (.tmp 1) (by kernel_rfl) (wanted_none (by kernel_rfl)) (stable_val _) (knows_old 1 (.int .i64 (k : Int)) (by kernel_rfl) e1), ?_⟩
  refine ⟨isVal (.pointer (some ⟨b2, 0, none⟩)), step_field 25 (.tmp 4) 0 ⟨b2, 0, none⟩ ⟨b2, 0, none⟩ (by kernel_rfl) (wanted_none (by kernel_rfl)) (knows_old 4 (.pointer (some ⟨b2, 0, none⟩)) (by kernel_rfl) e2) (field_fl b2 0 (by omega)), ?_⟩
  refine ⟨isVal (.slice (some ⟨b, off, none⟩) np cap), step_read 22 (.tmp 76) ⟨b2, 0, none⟩ (.slice (some ⟨b, off, none⟩) np cap) (by kernel_rfl) (wanted_none (by kernel_rfl)) (knows_new (V := isVal (.pointer (some ⟨b2, 0, none⟩))) 76 2 (by kernel_rfl) (by kernel_rfl) (by kernel_rfl)) (HX.cells.2 0 _ rfl) HX.lt agg_strs, ?_⟩
  refine ⟨isVal (.int .i64 (k : Int)), step_move (.tmp 1) (by kernel_rfl) (wanted_none (by kernel_rfl)) (stable_val _) (knows_old 1 (.int .i64 (k : Int)) (by kernel_rfl) e1), ?_⟩
  refine ⟨isVal (.pointer (some ⟨b, off + k, none⟩)), step_place 22 9 (.tmp 77) (.tmp 78) b off np cap k (by kernel_rfl) (wanted_none (by kernel_rfl)) (knows_new (V := isVal (.slice (some ⟨b, off, none⟩) np cap)) 77 3 (by kernel_rfl) (by kernel_rfl) (by kernel_rfl)) (knows_new (V := isVal (.int .i64 (k : Int))) 78 4 (by kernel_rfl) (by kernel_rfl) (by kernel_rfl)) Try.underlying22 (by kernel_rfl) hkn, ?_⟩
  refine ⟨isVal (.string ⟨was.toArray⟩), step_read 9 (.tmp 79) ⟨b, off + k, none⟩ (.string ⟨was.toArray⟩) (by kernel_rfl) (wanted_none (by kernel_rfl)) (knows_new (V := isVal (.pointer (some ⟨b, off + k, none⟩))) 79 5 (by kernel_rfl) (by kernel_rfl) (by kernel_rfl)) hcell hblt agg_str, ?_⟩
  refine ⟨isVal (.string ⟨d.toArray⟩), step_move (.tmp 12) (by kernel_rfl) (wanted_none (by kernel_rfl)) (stable_val _) (knows_old 12 (.string ⟨d.toArray⟩) (by kernel_rfl) ed), ?_⟩
  refine ⟨isVal (.string ⟨(pairL (· &&& ·) was d).toArray⟩), step_call 33 #[.tmp 80, .tmp 81] #[9, 9] #[.string ⟨was.toArray⟩, .string ⟨d.toArray⟩] (by kernel_rfl) (wanted_none (by kernel_rfl)) (stable_val _) (args2 (.tmp 80) (.tmp 81) (.string ⟨was.toArray⟩) (.string ⟨d.toArray⟩) (knows_new (V := isVal (.string ⟨was.toArray⟩)) 80 6 (by kernel_rfl) (by kernel_rfl) (by kernel_rfl)) (knows_new (V := isVal (.string ⟨d.toArray⟩)) 81 7 (by kernel_rfl) (by kernel_rfl) (by kernel_rfl))) (enters_of Try.func33 (by kernel_rfl) rfl) (by intro w hb; exact cand was d w (by omega) (by omega)), ?_⟩
  refine ⟨(isW r ((F.pages.set k (pairL (· &&& ·) was d)).map strC) (F.wear.map intC) (F.fuse) F.torn F.dead), step_call 26 #[.tmp 74, .tmp 75, .tmp 82] #[25, 3, 9] #[.agg #[.slice (some ⟨b, off, none⟩) np cap, vw, .int .i64 F.fuse, .string ⟨F.torn.toArray⟩, .bool F.dead], .int .i64 (k : Int), .string ⟨(pairL (· &&& ·) was d).toArray⟩] (by kernel_rfl) (wanted_none (by kernel_rfl)) (stable_W _ _ _ _ _ _) (args3 (.tmp 74) (.tmp 75) (.tmp 82) (.agg #[.slice (some ⟨b, off, none⟩) np cap, vw, .int .i64 F.fuse, .string ⟨F.torn.toArray⟩, .bool F.dead]) (.int .i64 (k : Int)) (.string ⟨(pairL (· &&& ·) was d).toArray⟩) (knows_new (V := isVal (.agg #[.slice (some ⟨b, off, none⟩) np cap, vw, .int .i64 F.fuse, .string ⟨F.torn.toArray⟩, .bool F.dead])) 74 0 (by kernel_rfl) (by kernel_rfl) (by kernel_rfl)) (knows_new (V := isVal (.int .i64 (k : Int))) 75 1 (by kernel_rfl) (by kernel_rfl) (by kernel_rfl)) (knows_new (V := isVal (.string ⟨(pairL (· &&& ·) was d).toArray⟩)) 82 8 (by kernel_rfl) (by kernel_rfl) (by kernel_rfl))) (enters_of Try.func26 (by kernel_rfl) rfl) (by intro w hb; exact cwith F k r (pairL (· &&& ·) was d) (.slice (some ⟨b, off, none⟩) np cap) vw w (stable_cells _ _ _ _ hp hb) (stable_cells _ _ _ _ hq hb) hk hpl hoq (Nat.lt_of_lt_of_le HR.lt hb.size)), ?_⟩
  refine ⟨(isW r ((F.pages.set k (pairL (· &&& ·) was d)).map strC) (F.wear.map intC) (F.fuse) F.torn true), step_callP 25 #[.tmp 83] #[25] (by kernel_rfl) (wanted_none (by kernel_rfl)) (stable_W _ _ _ _ _ _) (enters_of Try.func25 (by kernel_rfl) rfl) (_) (pre1 (knows_new (V := (isW r ((F.pages.set k (pairL (· &&& ·) was d)).map strC) (F.wear.map intC) (F.fuse) F.torn F.dead)) 83 9 (by kernel_rfl) (by kernel_rfl) (by kernel_rfl))) (fun vs w hb h => cdead F r _ _ vs w h), ?_⟩
  intro x w hkp hb hd
  obtain ⟨p, q, dv, hcp, hcq, ho1, ho2⟩ := fdone_of (hd 10 (by decide)) (t := 84) (V := (isW r ((F.pages.set k (pairL (· &&& ·) was d)).map strC) (F.wear.map intC) (F.fuse) F.torn true)) (by kernel_rfl) (by kernel_rfl)
  replace dv : x.eval (.tmp 84) = _ := dv
  have dr : x.eval (.tmp 8) = .pointer (some ⟨r, 0, none⟩) := (hkp.2.2 8 (by kernel_rfl)).trans er
  have hr2 := HR.keep hb
  refine tail_storeN 25 (.tmp 8) (.tmp 84) r [p, q, .int .i64 (F.fuse), .string ⟨F.torn.toArray⟩, .bool true] _ (by kernel_rfl) (by kernel_rfl) size_fl dr dv hr2.cells rfl hr2.free ⟨hcp.one, hcq.one, rfl, rfl, rfl, trivial⟩ ?_
  refine tail_assign (.const (.int .i64 8)) 9 _ (by kernel_rfl) (by kernel_rfl) rfl ?_
  obtain ⟨y, ey⟩ := kept_ex hkp [some 74, some 75, some 76, some 77, some 78, some 79, some 80, some 81, some 82, some 83, some 84, none, some 9] [74, 75, 76, 77, 78, 79, 80, 81, 82, 83, 84, 9] (by kernel_rfl) (by decide)
  exact put_kept ey (hQ y p q w hcp hcq ho1 ho2 hb)
noncomputable def rp10Ops : Array Oper := regionOf Try.f10 10
set_option maxRecDepth 100000 in
set_option maxHeartbeats 4000000 in
theorem rp10_region (Qq : Exit → Act → World → Prop) (a0 : Act) (w0 : World) (hsz : a0.tmps.size = 96) (F : Fl) (k : Nat) (was : List UInt8) (b off np cap b2 r : Nat) (vw : Value) (HX : Blk w0 b2 [.slice (some ⟨b, off, none⟩) np cap, vw, .int .i64 F.fuse, .string ⟨F.torn.toArray⟩, .bool F.dead]) (HR : Blk w0 r [.slice none 0 0, .slice none 0 0, .int .i64 0, .string ⟨#[]⟩, .bool false]) (hp : isCells (F.pages.map strC) (.slice (some ⟨b, off, none⟩) np cap) w0) (hq : isCells (F.wear.map intC) vw w0) (hoq : Off r (F.wear.map intC) vw) (hk : k < F.pages.length) (hpl : F.pages.length ≤ 6) (hcell : w0.cell? ⟨b, off + k, none⟩ = some (.string ⟨was.toArray⟩)) (hblt : b < w0.heap.size) (hkn : k < np) (hwl : was.length ≤ 8192) (e1 : a0.tmps.getD 1 undef = .int .i64 (k : Int)) (e2 : a0.tmps.getD 4 undef = .pointer (some ⟨b2, 0, none⟩)) (er : a0.tmps.getD 8 undef = .pointer (some ⟨r, 0, none⟩)) (d : List UInt8) (ed : a0.tmps.getD 11 undef = .string ⟨d.toArray⟩) (hdl : d.length ≤ 1000000) (hfz : F.fuse ≤ 9223372036854775807)
    (hQ : ∀ (y : Nat → Value) (p q : Value) (w : World), isCells ((F.pages.set k (pairL (· &&& ·) was d)).map strC) p w → isCells (F.wear.map intC) q w → Off r ((F.pages.set k (pairL (· &&& ·) was d)).map strC) p → Off r (F.wear.map intC) q → Below w0.heap.size w0 w → Qq .normal { tmps := ([85, 86, 87, 88, 89, 90, 91, 92, 93, 94, 95, 9].foldl (fun t s => t.setIfInBounds s (y s)) a0.tmps).setIfInBounds 9 (.int .i64 0), defers := a0.defers } (setN w r 0 [p, q, .int .i64 (lessN F.fuse), .string ⟨F.torn.toArray⟩, .bool F.dead])) :
    (Code.region 10 rp10Ops true).wp Try.prog Qq a0 w0 := by
  refine wp_region_cov 11 mixed (by rw [hsz]; kernel_rfl) (by kernel_rfl) ?_
  rw [show rp10Ops.size - 11 = 2 by kernel_rfl]
  refine ⟨isVal (.agg #[.slice (some ⟨b, off, none⟩) np cap, vw, .int .i64 F.fuse, .string ⟨F.torn.toArray⟩, .bool F.dead]), step_loadN 25 (.tmp 4) (b2) [.slice (some ⟨b, off, none⟩) np cap, vw, .int .i64 F.fuse, .string ⟨F.torn.toArray⟩, .bool F.dead] (by kernel_rfl) (wanted_none (by kernel_rfl)) (knows_old 4 (.pointer (some ⟨b2, 0, none⟩)) (by kernel_rfl) e2) size_fl agg_fl HX.cells, ?_⟩
  refine ⟨isVal (.int .i64 (k : Int)), step_move (.tmp 1) (by kernel_rfl) (wanted_none (by kernel_rfl)) (stable_val _) (knows_old 1 (.int .i64 (k : Int)) (by kernel_rfl) e1), ?_⟩
  refine ⟨isVal (.pointer (some ⟨b2, 0, none⟩)), step_field 25 (.tmp 4) 0 ⟨b2, 0, none⟩ ⟨b2, 0, none⟩ (by kernel_rfl) (wanted_none (by kernel_rfl)) (knows_old 4 (.pointer (some ⟨b2, 0, none⟩)) (by kernel_rfl) e2) (field_fl b2 0 (by omega)), ?_⟩
  refine ⟨isVal (.slice (some ⟨b, off, none⟩) np cap), step_read 22 (.tmp 87) ⟨b2, 0, none⟩ (.slice (some ⟨b, off, none⟩) np cap) (by kernel_rfl) (wanted_none (by kernel_rfl)) (knows_new (V := isVal (.pointer (some ⟨b2, 0, none⟩))) 87 2 (by kernel_rfl) (by kernel_rfl) (by kernel_rfl)) (HX.cells.2 0 _ rfl) HX.lt agg_strs, ?_⟩
  refine ⟨isVal (.int .i64 (k : Int)), step_move (.tmp 1) (by kernel_rfl) (wanted_none (by kernel_rfl)) (stable_val _) (knows_old 1 (.int .i64 (k : Int)) (by kernel_rfl) e1), ?_⟩
  refine ⟨isVal (.pointer (some ⟨b, off + k, none⟩)), step_place 22 9 (.tmp 88) (.tmp 89) b off np cap k (by kernel_rfl) (wanted_none (by kernel_rfl)) (knows_new (V := isVal (.slice (some ⟨b, off, none⟩) np cap)) 88 3 (by kernel_rfl) (by kernel_rfl) (by kernel_rfl)) (knows_new (V := isVal (.int .i64 (k : Int))) 89 4 (by kernel_rfl) (by kernel_rfl) (by kernel_rfl)) Try.underlying22 (by kernel_rfl) hkn, ?_⟩
  refine ⟨isVal (.string ⟨was.toArray⟩), step_read 9 (.tmp 90) ⟨b, off + k, none⟩ (.string ⟨was.toArray⟩) (by kernel_rfl) (wanted_none (by kernel_rfl)) (knows_new (V := isVal (.pointer (some ⟨b, off + k, none⟩))) 90 5 (by kernel_rfl) (by kernel_rfl) (by kernel_rfl)) hcell hblt agg_str, ?_⟩
  refine ⟨isVal (.string ⟨d.toArray⟩), step_move (.tmp 11) (by kernel_rfl) (wanted_none (by kernel_rfl)) (stable_val _) (knows_old 11 (.string ⟨d.toArray⟩) (by kernel_rfl) ed), ?_⟩
  refine ⟨isVal (.string ⟨(pairL (· &&& ·) was d).toArray⟩), step_call 33 #[.tmp 91, .tmp 92] #[9, 9] #[.string ⟨was.toArray⟩, .string ⟨d.toArray⟩] (by kernel_rfl) (wanted_none (by kernel_rfl)) (stable_val _) (args2 (.tmp 91) (.tmp 92) (.string ⟨was.toArray⟩) (.string ⟨d.toArray⟩) (knows_new (V := isVal (.string ⟨was.toArray⟩)) 91 6 (by kernel_rfl) (by kernel_rfl) (by kernel_rfl)) (knows_new (V := isVal (.string ⟨d.toArray⟩)) 92 7 (by kernel_rfl) (by kernel_rfl) (by kernel_rfl))) (enters_of Try.func33 (by kernel_rfl) rfl) (by intro w hb; exact cand was d w (by omega) (by omega)), ?_⟩
  refine ⟨(isW r ((F.pages.set k (pairL (· &&& ·) was d)).map strC) (F.wear.map intC) (F.fuse) F.torn F.dead), step_call 26 #[.tmp 85, .tmp 86, .tmp 93] #[25, 3, 9] #[.agg #[.slice (some ⟨b, off, none⟩) np cap, vw, .int .i64 F.fuse, .string ⟨F.torn.toArray⟩, .bool F.dead], .int .i64 (k : Int), .string ⟨(pairL (· &&& ·) was d).toArray⟩] (by kernel_rfl) (wanted_none (by kernel_rfl)) (stable_W _ _ _ _ _ _) (args3 (.tmp 85) (.tmp 86) (.tmp 93) (.agg #[.slice (some ⟨b, off, none⟩) np cap, vw, .int .i64 F.fuse, .string ⟨F.torn.toArray⟩, .bool F.dead]) (.int .i64 (k : Int)) (.string ⟨(pairL (· &&& ·) was d).toArray⟩) (knows_new (V := isVal (.agg #[.slice (some ⟨b, off, none⟩) np cap, vw, .int .i64 F.fuse, .string ⟨F.torn.toArray⟩, .bool F.dead])) 85 0 (by kernel_rfl) (by kernel_rfl) (by kernel_rfl)) (knows_new (V := isVal (.int .i64 (k : Int))) 86 1 (by kernel_rfl) (by kernel_rfl) (by kernel_rfl)) (knows_new (V := isVal (.string ⟨(pairL (· &&& ·) was d).toArray⟩)) 93 8 (by kernel_rfl) (by kernel_rfl) (by kernel_rfl))) (enters_of Try.func26 (by kernel_rfl) rfl) (by intro w hb; exact cwith F k r (pairL (· &&& ·) was d) (.slice (some ⟨b, off, none⟩) np cap) vw w (stable_cells _ _ _ _ hp hb) (stable_cells _ _ _ _ hq hb) hk hpl hoq (Nat.lt_of_lt_of_le HR.lt hb.size)), ?_⟩
  refine ⟨(isW r ((F.pages.set k (pairL (· &&& ·) was d)).map strC) (F.wear.map intC) (lessN F.fuse) F.torn F.dead), step_callP 29 #[.tmp 94] #[25] (by kernel_rfl) (wanted_none (by kernel_rfl)) (stable_W _ _ _ _ _ _) (enters_of Try.func29 (by kernel_rfl) rfl) (_) (pre1 (knows_new (V := (isW r ((F.pages.set k (pairL (· &&& ·) was d)).map strC) (F.wear.map intC) (F.fuse) F.torn F.dead)) 94 9 (by kernel_rfl) (by kernel_rfl) (by kernel_rfl))) (fun vs w hb h => cburnt F r _ _ hfz vs w h), ?_⟩
  intro x w hkp hb hd
  obtain ⟨p, q, dv, hcp, hcq, ho1, ho2⟩ := fdone_of (hd 10 (by decide)) (t := 95) (V := (isW r ((F.pages.set k (pairL (· &&& ·) was d)).map strC) (F.wear.map intC) (lessN F.fuse) F.torn F.dead)) (by kernel_rfl) (by kernel_rfl)
  replace dv : x.eval (.tmp 95) = _ := dv
  have dr : x.eval (.tmp 8) = .pointer (some ⟨r, 0, none⟩) := (hkp.2.2 8 (by kernel_rfl)).trans er
  have hr2 := HR.keep hb
  refine tail_storeN 25 (.tmp 8) (.tmp 95) r [p, q, .int .i64 (lessN F.fuse), .string ⟨F.torn.toArray⟩, .bool F.dead] _ (by kernel_rfl) (by kernel_rfl) size_fl dr dv hr2.cells rfl hr2.free ⟨hcp.one, hcq.one, rfl, rfl, rfl, trivial⟩ ?_
  refine tail_assign (.const (.int .i64 0)) 9 _ (by kernel_rfl) (by kernel_rfl) rfl ?_
  obtain ⟨y, ey⟩ := kept_ex hkp [some 85, some 86, some 87, some 88, some 89, some 90, some 91, some 92, some 93, some 94, some 95, none, some 9] [85, 86, 87, 88, 89, 90, 91, 92, 93, 94, 95, 9] (by kernel_rfl) (by decide)
  exact put_kept ey (hQ y p q w hcp hcq ho1 ho2 hb)
set_option maxRecDepth 100000 in
set_option maxHeartbeats 4000000 in
theorem rprog_no1 (F : Fl) (n : Int) (at_ : Int) (s : List UInt8) (v : Value) (w : World) (hv : isFl F v w) (hf : FewF F) (hs : s.length ≤ 1000000) (hm : hasB F n = false) :
    Calls Try.prog 10 #[v, .int .i64 n, .int .i64 at_, .string ⟨s.toArray⟩] w fun e w' => ∃ v', e = .returned (.tuple #[v', .int .i64 1]) ∧ isFl F v' w' ∧ Below w.heap.size w w' := by
  obtain ⟨vp, vw, rfl, hpp, hqq⟩ := hv
  have o1 := hpp.one
  have o2 := hqq.one
  have HP := Kept.mk hpp
  have HQ := Kept.mk hqq
  have hb0 := (lit_below w (.cells #[vp, vw, .int .i64 F.fuse, .string ⟨F.torn.toArray⟩, .bool F.dead] 25)).trans ((lit_below (w.alloc (.cells #[vp, vw, .int .i64 F.fuse, .string ⟨F.torn.toArray⟩, .bool F.dead] 25)) (.cells #[.slice none 0 0, .slice none 0 0, .int .i64 0, .string ⟨#[]⟩, .bool false] 25)).mono (lit_below w (.cells #[vp, vw, .int .i64 F.fuse, .string ⟨F.torn.toArray⟩, .bool F.dead] 25)).size)
  have HB := Kept.mk hb0
  have HX := Kept.mk ((Blk.new w 25 [vp, vw, .int .i64 F.fuse, .string ⟨F.torn.toArray⟩, .bool F.dead] w.heap.size rfl).alloc (.cells #[.slice none 0 0, .slice none 0 0, .int .i64 0, .string ⟨#[]⟩, .bool false] 25))
  have HR := Kept.mk (Blk.new (w.alloc (.cells #[vp, vw, .int .i64 F.fuse, .string ⟨F.torn.toArray⟩, .bool F.dead] 25)) 25 [.slice none 0 0, .slice none 0 0, .int .i64 0, .string ⟨#[]⟩, .bool false] (w.heap.size + 1) (by simp))
  have HV := Kept.mk (show isFl F (.agg #[vp, vw, .int .i64 F.fuse, .string ⟨F.torn.toArray⟩, .bool F.dead]) ((w.alloc (.cells #[vp, vw, .int .i64 F.fuse, .string ⟨F.torn.toArray⟩, .bool F.dead] 25)).alloc (.cells #[.slice none 0 0, .slice none 0 0, .int .i64 0, .string ⟨#[]⟩, .bool false] 25)) from ⟨vp, vw, rfl, stable_cells _ _ _ _ hpp hb0, stable_cells _ _ _ _ hqq hb0⟩)
  have hs0 : ((w.alloc (.cells #[vp, vw, .int .i64 F.fuse, .string ⟨F.torn.toArray⟩, .bool F.dead] 25)).alloc (.cells #[.slice none 0 0, .slice none 0 0, .int .i64 0, .string ⟨#[]⟩, .bool false] 25)).heap.size = w.heap.size + 2 := by simp
  clear hb0 hpp hqq
  show Calls Try.prog 10 #[.agg #[vp, vw, .int .i64 F.fuse, .string ⟨F.torn.toArray⟩, .bool F.dead], .int .i64 n, .int .i64 at_, .string ⟨s.toArray⟩] w _
  have HM := Kept.mk hm
  clear hm
  go_enter Try.func10, Try.ntmps10
  go_wp2_with fail
  generalize ((w.alloc (.cells #[vp, vw, .int .i64 F.fuse, .string ⟨F.torn.toArray⟩, .bool F.dead] 25)).alloc (.cells #[.slice none 0 0, .slice none 0 0, .int .i64 0, .string ⟨#[]⟩, .bool false] 25)) = W at *
  refine (rpage_any F n _ W HV.out hf).mono ?_
  rintro e W1 ⟨rfl, hb⟩
  rewrite [HM.out]
  have hs1 := hb.size
  replace HX := Kept.mk (HX.out.keep hb)
  replace HR := Kept.mk (HR.out.keep hb)
  replace HB := Kept.mk (HB.out.trans (hb.mono HB.out.size))
  clear hb
  have kx0 := HX.out.cells.2 0 _ rfl
  have kx1 := HX.out.cells.2 1 _ rfl
  have kx2 := HX.out.cells.2 2 _ rfl
  have kx3 := HX.out.cells.2 3 _ rfl
  have kx4 := HX.out.cells.2 4 _ rfl
  have fx0 := HX.out.free 0
  have fx1 := HX.out.free 1
  have fx2 := HX.out.free 2
  have fx3 := HX.out.free 3
  have fx4 := HX.out.free 4
  have HR2 := HR
  have HB2 := HB
  have K5 : Kept (Ones [vp, vw, .int .i64 F.fuse, .string ⟨F.torn.toArray⟩, .bool F.dead]) := ⟨⟨o1, o2, rfl, rfl, rfl, trivial⟩⟩
  go_wp2_with (have hz1 := K5; refine wpList_storeN 25 rfl (.tmp 8) (.tmp 44) rfl (w.heap.size + 1) [vp, vw, .int .i64 F.fuse, .string ⟨F.torn.toArray⟩, .bool F.dead] size_fl rfl rfl HR2.out.cells rfl HR2.out.free K5.out ?_; clear hz1 K5)
  have B := below_setN (show w.heap.size ≤ w.heap.size + 1 by omega) [vp, vw, .int .i64 F.fuse, .string ⟨F.torn.toArray⟩, .bool F.dead] 0 _ HB2.out
  exact bodyPost_ret (resultsN2 rfl _ _ (w.heap.size + 1) _ (.int .i64 1) size_fl agg_fl rfl rfl (HR2.out.all_ (l := [vp, vw, .int .i64 F.fuse, .string ⟨F.torn.toArray⟩, .bool F.dead]) rfl).cells) rfl ⟨_, rfl, ⟨vp, vw, rfl, stable_cells _ _ _ _ HP.out B, stable_cells _ _ _ _ HQ.out B⟩, B⟩
set_option maxRecDepth 100000 in
set_option maxHeartbeats 4000000 in
theorem rprog_no2 (F : Fl) (k : Nat) (at_ : Int) (s : List UInt8) (v : Value) (w : World) (hv : isFl F v w) (hf : FewF F) (hs : s.length ≤ 1000000) (hm : hasB F (k : Int) = true) (h0 : at_ < 0) :
    Calls Try.prog 10 #[v, .int .i64 (k : Int), .int .i64 at_, .string ⟨s.toArray⟩] w fun e w' => ∃ v', e = .returned (.tuple #[v', .int .i64 1]) ∧ isFl F v' w' ∧ Below w.heap.size w w' := by
  obtain ⟨vp, vw, rfl, hpp, hqq⟩ := hv
  have o1 := hpp.one
  have o2 := hqq.one
  have HP := Kept.mk hpp
  have HQ := Kept.mk hqq
  have hb0 := (lit_below w (.cells #[vp, vw, .int .i64 F.fuse, .string ⟨F.torn.toArray⟩, .bool F.dead] 25)).trans ((lit_below (w.alloc (.cells #[vp, vw, .int .i64 F.fuse, .string ⟨F.torn.toArray⟩, .bool F.dead] 25)) (.cells #[.slice none 0 0, .slice none 0 0, .int .i64 0, .string ⟨#[]⟩, .bool false] 25)).mono (lit_below w (.cells #[vp, vw, .int .i64 F.fuse, .string ⟨F.torn.toArray⟩, .bool F.dead] 25)).size)
  have HB := Kept.mk hb0
  have HX := Kept.mk ((Blk.new w 25 [vp, vw, .int .i64 F.fuse, .string ⟨F.torn.toArray⟩, .bool F.dead] w.heap.size rfl).alloc (.cells #[.slice none 0 0, .slice none 0 0, .int .i64 0, .string ⟨#[]⟩, .bool false] 25))
  have HR := Kept.mk (Blk.new (w.alloc (.cells #[vp, vw, .int .i64 F.fuse, .string ⟨F.torn.toArray⟩, .bool F.dead] 25)) 25 [.slice none 0 0, .slice none 0 0, .int .i64 0, .string ⟨#[]⟩, .bool false] (w.heap.size + 1) (by simp))
  have HV := Kept.mk (show isFl F (.agg #[vp, vw, .int .i64 F.fuse, .string ⟨F.torn.toArray⟩, .bool F.dead]) ((w.alloc (.cells #[vp, vw, .int .i64 F.fuse, .string ⟨F.torn.toArray⟩, .bool F.dead] 25)).alloc (.cells #[.slice none 0 0, .slice none 0 0, .int .i64 0, .string ⟨#[]⟩, .bool false] 25)) from ⟨vp, vw, rfl, stable_cells _ _ _ _ hpp hb0, stable_cells _ _ _ _ hqq hb0⟩)
  have hs0 : ((w.alloc (.cells #[vp, vw, .int .i64 F.fuse, .string ⟨F.torn.toArray⟩, .bool F.dead] 25)).alloc (.cells #[.slice none 0 0, .slice none 0 0, .int .i64 0, .string ⟨#[]⟩, .bool false] 25)).heap.size = w.heap.size + 2 := by simp
  clear hb0 hpp hqq
  show Calls Try.prog 10 #[.agg #[vp, vw, .int .i64 F.fuse, .string ⟨F.torn.toArray⟩, .bool F.dead], .int .i64 (k : Int), .int .i64 at_, .string ⟨s.toArray⟩] w _
  have HM := Kept.mk hm
  clear hm
  have d1 : decide (at_ < 0) = true := decide_eq_true h0
  go_enter Try.func10, Try.ntmps10
  go_wp2_with fail
  generalize ((w.alloc (.cells #[vp, vw, .int .i64 F.fuse, .string ⟨F.torn.toArray⟩, .bool F.dead] 25)).alloc (.cells #[.slice none 0 0, .slice none 0 0, .int .i64 0, .string ⟨#[]⟩, .bool false] 25)) = W at *
  refine (rpage_any F k _ W HV.out hf).mono ?_
  rintro e W1 ⟨rfl, hb⟩
  rewrite [HM.out]
  have hs1 := hb.size
  replace HX := Kept.mk (HX.out.keep hb)
  replace HR := Kept.mk (HR.out.keep hb)
  replace HB := Kept.mk (HB.out.trans (hb.mono HB.out.size))
  clear hb
  have kx0 := HX.out.cells.2 0 _ rfl
  have kx1 := HX.out.cells.2 1 _ rfl
  have kx2 := HX.out.cells.2 2 _ rfl
  have kx3 := HX.out.cells.2 3 _ rfl
  have kx4 := HX.out.cells.2 4 _ rfl
  have fx0 := HX.out.free 0
  have fx1 := HX.out.free 1
  have fx2 := HX.out.free 2
  have fx3 := HX.out.free 3
  have fx4 := HX.out.free 4
  have HR2 := HR
  have HB2 := HB
  have K5 : Kept (Ones [vp, vw, .int .i64 F.fuse, .string ⟨F.torn.toArray⟩, .bool F.dead]) := ⟨⟨o1, o2, rfl, rfl, rfl, trivial⟩⟩
  go_wp2_with (have hz1 := K5; refine wpList_storeN 25 rfl (.tmp 8) (.tmp 44) rfl (w.heap.size + 1) [vp, vw, .int .i64 F.fuse, .string ⟨F.torn.toArray⟩, .bool F.dead] size_fl rfl rfl HR2.out.cells rfl HR2.out.free K5.out ?_; clear hz1 K5)
  have B := below_setN (show w.heap.size ≤ w.heap.size + 1 by omega) [vp, vw, .int .i64 F.fuse, .string ⟨F.torn.toArray⟩, .bool F.dead] 0 _ HB2.out
  exact bodyPost_ret (resultsN2 rfl _ _ (w.heap.size + 1) _ (.int .i64 1) size_fl agg_fl rfl rfl (HR2.out.all_ (l := [vp, vw, .int .i64 F.fuse, .string ⟨F.torn.toArray⟩, .bool F.dead]) rfl).cells) rfl ⟨_, rfl, ⟨vp, vw, rfl, stable_cells _ _ _ _ HP.out B, stable_cells _ _ _ _ HQ.out B⟩, B⟩
set_option maxRecDepth 100000 in
set_option maxHeartbeats 4000000 in
theorem rprog_no3 (F : Fl) (k : Nat) (at_ : Int) (s : List UInt8) (v : Value) (w : World) (hv : isFl F v w) (hf : FewF F) (hs : s.length ≤ 1000000) (hm : hasB F (k : Int) = true) (h0 : ¬ at_ < 0) (h1 : ((F.pages.getD k []).length : Int) < at_) :
    Calls Try.prog 10 #[v, .int .i64 (k : Int), .int .i64 at_, .string ⟨s.toArray⟩] w fun e w' => ∃ v', e = .returned (.tuple #[v', .int .i64 1]) ∧ isFl F v' w' ∧ Below w.heap.size w w' := by
  have HHF := Kept.mk (has_facts F k hm)
  obtain ⟨hk, h6, hwl, htl, hpg, hwr⟩ := HHF.out
  obtain ⟨was, hwas⟩ : ∃ was, F.pages[k]? = some was := ⟨_, List.getElem?_eq_getElem hk⟩
  have hwm : was.length ≤ 8192 := (hpg _ (List.mem_of_getElem? hwas)).2.1
  have hget1 : F.pages.getD k [] = was := by simp [List.getD_eq_getElem?_getD, hwas]
  have HW0 := Kept.mk (show was.length = (F.pages[0]'(by omega)).length by
    rw [(hpg _ (List.mem_of_getElem? hwas)).2.2, (hpg _ (List.getElem_mem (show 0 < F.pages.length by omega))).2.2])
  have HWAS := Kept.mk hwas
  rw [hget1] at h1
  have HWR := Kept.mk hwr
  have HM := Kept.mk hm
  clear hpg hwr hwas hget1 hm
  obtain ⟨vp, vw, rfl, hpp, hqq⟩ := hv
  have o1 := hpp.one
  have o2 := hqq.one
  obtain ⟨b, off, cap, hvp, hb, hc⟩ := hpp.some_ (by rw [List.length_map]; omega)
  rw [List.length_map] at hvp
  subst hvp
  have HC := Kept.mk (show w.cell? ⟨b, off + k, none⟩ = some (.string ⟨was.toArray⟩) from hc k _ (by simp [HWAS.out, strC]))
  clear hc
  have HP := Kept.mk hpp
  have HQ := Kept.mk hqq
  have hb0 := (lit_below w (.cells #[.slice (some ⟨b, off, none⟩) F.pages.length cap, vw, .int .i64 F.fuse, .string ⟨F.torn.toArray⟩, .bool F.dead] 25)).trans ((lit_below (w.alloc (.cells #[.slice (some ⟨b, off, none⟩) F.pages.length cap, vw, .int .i64 F.fuse, .string ⟨F.torn.toArray⟩, .bool F.dead] 25)) (.cells #[.slice none 0 0, .slice none 0 0, .int .i64 0, .string ⟨#[]⟩, .bool false] 25)).mono (lit_below w (.cells #[.slice (some ⟨b, off, none⟩) F.pages.length cap, vw, .int .i64 F.fuse, .string ⟨F.torn.toArray⟩, .bool F.dead] 25)).size)
  have HB := Kept.mk hb0
  have HX := Kept.mk ((Blk.new w 25 [.slice (some ⟨b, off, none⟩) F.pages.length cap, vw, .int .i64 F.fuse, .string ⟨F.torn.toArray⟩, .bool F.dead] w.heap.size rfl).alloc (.cells #[.slice none 0 0, .slice none 0 0, .int .i64 0, .string ⟨#[]⟩, .bool false] 25))
  have HR := Kept.mk (Blk.new (w.alloc (.cells #[.slice (some ⟨b, off, none⟩) F.pages.length cap, vw, .int .i64 F.fuse, .string ⟨F.torn.toArray⟩, .bool F.dead] 25)) 25 [.slice none 0 0, .slice none 0 0, .int .i64 0, .string ⟨#[]⟩, .bool false] (w.heap.size + 1) (by simp))
  have HV := Kept.mk (show isFl F (.agg #[.slice (some ⟨b, off, none⟩) F.pages.length cap, vw, .int .i64 F.fuse, .string ⟨F.torn.toArray⟩, .bool F.dead]) ((w.alloc (.cells #[.slice (some ⟨b, off, none⟩) F.pages.length cap, vw, .int .i64 F.fuse, .string ⟨F.torn.toArray⟩, .bool F.dead] 25)).alloc (.cells #[.slice none 0 0, .slice none 0 0, .int .i64 0, .string ⟨#[]⟩, .bool false] 25)) from ⟨.slice (some ⟨b, off, none⟩) F.pages.length cap, vw, rfl, stable_cells _ _ _ _ hpp hb0, stable_cells _ _ _ _ hqq hb0⟩)
  have hs0 : ((w.alloc (.cells #[.slice (some ⟨b, off, none⟩) F.pages.length cap, vw, .int .i64 F.fuse, .string ⟨F.torn.toArray⟩, .bool F.dead] 25)).alloc (.cells #[.slice none 0 0, .slice none 0 0, .int .i64 0, .string ⟨#[]⟩, .bool false] 25)).heap.size = w.heap.size + 2 := by simp
  clear hb0 hpp hqq
  show Calls Try.prog 10 #[.agg #[.slice (some ⟨b, off, none⟩) F.pages.length cap, vw, .int .i64 F.fuse, .string ⟨F.torn.toArray⟩, .bool F.dead], .int .i64 (k : Int), .int .i64 at_, .string ⟨s.toArray⟩] w _
  have hsz : (⟨was.toArray⟩ : ByteArray).size = was.length := size_mk was
  have hss : (⟨s.toArray⟩ : ByteArray).size = s.length := size_mk s
  have d1 : decide (at_ < 0) = false := decide_eq_false h0
  have d2 : decide ((was.length : Int) < at_) = true := decide_eq_true h1
  go_enter Try.func10, Try.ntmps10
  go_wp2_with fail
  generalize ((w.alloc (.cells #[.slice (some ⟨b, off, none⟩) F.pages.length cap, vw, .int .i64 F.fuse, .string ⟨F.torn.toArray⟩, .bool F.dead] 25)).alloc (.cells #[.slice none 0 0, .slice none 0 0, .int .i64 0, .string ⟨#[]⟩, .bool false] 25)) = W at *
  refine (rpage_any F k _ W HV.out hf).mono ?_
  rintro e W1 ⟨rfl, hb⟩
  rewrite [HM.out]
  have hs1 := hb.size
  replace HX := Kept.mk (HX.out.keep hb)
  replace HR := Kept.mk (HR.out.keep hb)
  replace HB := Kept.mk (HB.out.trans (hb.mono HB.out.size))
  clear hb
  have kx0 := HX.out.cells.2 0 _ rfl
  have kx1 := HX.out.cells.2 1 _ rfl
  have kx2 := HX.out.cells.2 2 _ rfl
  have kx3 := HX.out.cells.2 3 _ rfl
  have kx4 := HX.out.cells.2 4 _ rfl
  have fx0 := HX.out.free 0
  have fx1 := HX.out.free 1
  have fx2 := HX.out.free 2
  have fx3 := HX.out.free 3
  have fx4 := HX.out.free 4
  have kc := (HB.out.cell (p := ⟨b, off + k, none⟩) hb).trans HC.out
  have HR2 := HR
  have HB2 := HB
  have K5 : Kept (Ones [.slice (some ⟨b, off, none⟩) F.pages.length cap, vw, .int .i64 F.fuse, .string ⟨F.torn.toArray⟩, .bool F.dead]) := ⟨⟨o1, o2, rfl, rfl, rfl, trivial⟩⟩
  go_wp2_with (have hz1 := K5; refine wpList_storeN 25 rfl (.tmp 8) (.tmp 44) rfl (w.heap.size + 1) [.slice (some ⟨b, off, none⟩) F.pages.length cap, vw, .int .i64 F.fuse, .string ⟨F.torn.toArray⟩, .bool F.dead] size_fl rfl rfl HR2.out.cells rfl HR2.out.free K5.out ?_; clear hz1 K5)
  have B := below_setN (show w.heap.size ≤ w.heap.size + 1 by omega) [.slice (some ⟨b, off, none⟩) F.pages.length cap, vw, .int .i64 F.fuse, .string ⟨F.torn.toArray⟩, .bool F.dead] 0 _ HB2.out
  exact bodyPost_ret (resultsN2 rfl _ _ (w.heap.size + 1) _ (.int .i64 1) size_fl agg_fl rfl rfl (HR2.out.all_ (l := [.slice (some ⟨b, off, none⟩) F.pages.length cap, vw, .int .i64 F.fuse, .string ⟨F.torn.toArray⟩, .bool F.dead]) rfl).cells) rfl ⟨_, rfl, ⟨.slice (some ⟨b, off, none⟩) F.pages.length cap, vw, rfl, stable_cells _ _ _ _ HP.out B, stable_cells _ _ _ _ HQ.out B⟩, B⟩
set_option maxRecDepth 100000 in
set_option maxHeartbeats 4000000 in
theorem rprog_no4 (F : Fl) (k : Nat) (at_ : Int) (s : List UInt8) (v : Value) (w : World) (hv : isFl F v w) (hf : FewF F) (hs : s.length ≤ 1000000) (hm : hasB F (k : Int) = true) (h0 : ¬ at_ < 0) (h1 : at_ ≤ ((F.pages.getD k []).length : Int)) (h2 : ((F.pages.getD k []).length : Int) - at_ < (s.length : Int)) :
    Calls Try.prog 10 #[v, .int .i64 (k : Int), .int .i64 at_, .string ⟨s.toArray⟩] w fun e w' => ∃ v', e = .returned (.tuple #[v', .int .i64 1]) ∧ isFl F v' w' ∧ Below w.heap.size w w' := by
  have HHF := Kept.mk (has_facts F k hm)
  obtain ⟨hk, h6, hwl, htl, hpg, hwr⟩ := HHF.out
  obtain ⟨was, hwas⟩ : ∃ was, F.pages[k]? = some was := ⟨_, List.getElem?_eq_getElem hk⟩
  have hwm : was.length ≤ 8192 := (hpg _ (List.mem_of_getElem? hwas)).2.1
  have hget1 : F.pages.getD k [] = was := by simp [List.getD_eq_getElem?_getD, hwas]
  have HW0 := Kept.mk (show was.length = (F.pages[0]'(by omega)).length by
    rw [(hpg _ (List.mem_of_getElem? hwas)).2.2, (hpg _ (List.getElem_mem (show 0 < F.pages.length by omega))).2.2])
  have HWAS := Kept.mk hwas
  rw [hget1] at h1 h2
  have HWR := Kept.mk hwr
  have HM := Kept.mk hm
  clear hpg hwr hwas hget1 hm
  obtain ⟨vp, vw, rfl, hpp, hqq⟩ := hv
  have o1 := hpp.one
  have o2 := hqq.one
  obtain ⟨b, off, cap, hvp, hb, hc⟩ := hpp.some_ (by rw [List.length_map]; omega)
  rw [List.length_map] at hvp
  subst hvp
  have HC := Kept.mk (show w.cell? ⟨b, off + k, none⟩ = some (.string ⟨was.toArray⟩) from hc k _ (by simp [HWAS.out, strC]))
  clear hc
  have HP := Kept.mk hpp
  have HQ := Kept.mk hqq
  have hb0 := (lit_below w (.cells #[.slice (some ⟨b, off, none⟩) F.pages.length cap, vw, .int .i64 F.fuse, .string ⟨F.torn.toArray⟩, .bool F.dead] 25)).trans ((lit_below (w.alloc (.cells #[.slice (some ⟨b, off, none⟩) F.pages.length cap, vw, .int .i64 F.fuse, .string ⟨F.torn.toArray⟩, .bool F.dead] 25)) (.cells #[.slice none 0 0, .slice none 0 0, .int .i64 0, .string ⟨#[]⟩, .bool false] 25)).mono (lit_below w (.cells #[.slice (some ⟨b, off, none⟩) F.pages.length cap, vw, .int .i64 F.fuse, .string ⟨F.torn.toArray⟩, .bool F.dead] 25)).size)
  have HB := Kept.mk hb0
  have HX := Kept.mk ((Blk.new w 25 [.slice (some ⟨b, off, none⟩) F.pages.length cap, vw, .int .i64 F.fuse, .string ⟨F.torn.toArray⟩, .bool F.dead] w.heap.size rfl).alloc (.cells #[.slice none 0 0, .slice none 0 0, .int .i64 0, .string ⟨#[]⟩, .bool false] 25))
  have HR := Kept.mk (Blk.new (w.alloc (.cells #[.slice (some ⟨b, off, none⟩) F.pages.length cap, vw, .int .i64 F.fuse, .string ⟨F.torn.toArray⟩, .bool F.dead] 25)) 25 [.slice none 0 0, .slice none 0 0, .int .i64 0, .string ⟨#[]⟩, .bool false] (w.heap.size + 1) (by simp))
  have HV := Kept.mk (show isFl F (.agg #[.slice (some ⟨b, off, none⟩) F.pages.length cap, vw, .int .i64 F.fuse, .string ⟨F.torn.toArray⟩, .bool F.dead]) ((w.alloc (.cells #[.slice (some ⟨b, off, none⟩) F.pages.length cap, vw, .int .i64 F.fuse, .string ⟨F.torn.toArray⟩, .bool F.dead] 25)).alloc (.cells #[.slice none 0 0, .slice none 0 0, .int .i64 0, .string ⟨#[]⟩, .bool false] 25)) from ⟨.slice (some ⟨b, off, none⟩) F.pages.length cap, vw, rfl, stable_cells _ _ _ _ hpp hb0, stable_cells _ _ _ _ hqq hb0⟩)
  have hs0 : ((w.alloc (.cells #[.slice (some ⟨b, off, none⟩) F.pages.length cap, vw, .int .i64 F.fuse, .string ⟨F.torn.toArray⟩, .bool F.dead] 25)).alloc (.cells #[.slice none 0 0, .slice none 0 0, .int .i64 0, .string ⟨#[]⟩, .bool false] 25)).heap.size = w.heap.size + 2 := by simp
  clear hb0 hpp hqq
  show Calls Try.prog 10 #[.agg #[.slice (some ⟨b, off, none⟩) F.pages.length cap, vw, .int .i64 F.fuse, .string ⟨F.torn.toArray⟩, .bool F.dead], .int .i64 (k : Int), .int .i64 at_, .string ⟨s.toArray⟩] w _
  have hsz : (⟨was.toArray⟩ : ByteArray).size = was.length := size_mk was
  have hss : (⟨s.toArray⟩ : ByteArray).size = s.length := size_mk s
  have d1 : decide (at_ < 0) = false := decide_eq_false h0
  have d2 : decide ((was.length : Int) < at_) = false := decide_eq_false (by omega)
  have d3 : decide ((was.length : Int) - at_ < (s.length : Int)) = true := decide_eq_true h2
  go_enter Try.func10, Try.ntmps10
  go_wp2_with fail
  generalize ((w.alloc (.cells #[.slice (some ⟨b, off, none⟩) F.pages.length cap, vw, .int .i64 F.fuse, .string ⟨F.torn.toArray⟩, .bool F.dead] 25)).alloc (.cells #[.slice none 0 0, .slice none 0 0, .int .i64 0, .string ⟨#[]⟩, .bool false] 25)) = W at *
  refine (rpage_any F k _ W HV.out hf).mono ?_
  rintro e W1 ⟨rfl, hb⟩
  rewrite [HM.out]
  have hs1 := hb.size
  replace HX := Kept.mk (HX.out.keep hb)
  replace HR := Kept.mk (HR.out.keep hb)
  replace HB := Kept.mk (HB.out.trans (hb.mono HB.out.size))
  clear hb
  have kx0 := HX.out.cells.2 0 _ rfl
  have kx1 := HX.out.cells.2 1 _ rfl
  have kx2 := HX.out.cells.2 2 _ rfl
  have kx3 := HX.out.cells.2 3 _ rfl
  have kx4 := HX.out.cells.2 4 _ rfl
  have fx0 := HX.out.free 0
  have fx1 := HX.out.free 1
  have fx2 := HX.out.free 2
  have fx3 := HX.out.free 3
  have fx4 := HX.out.free 4
  have kc := (HB.out.cell (p := ⟨b, off + k, none⟩) hb).trans HC.out
  have HR2 := HR
  have HB2 := HB
  have K5 : Kept (Ones [.slice (some ⟨b, off, none⟩) F.pages.length cap, vw, .int .i64 F.fuse, .string ⟨F.torn.toArray⟩, .bool F.dead]) := ⟨⟨o1, o2, rfl, rfl, rfl, trivial⟩⟩
  go_wp2_with (have hz1 := K5; refine wpList_storeN 25 rfl (.tmp 8) (.tmp 44) rfl (w.heap.size + 1) [.slice (some ⟨b, off, none⟩) F.pages.length cap, vw, .int .i64 F.fuse, .string ⟨F.torn.toArray⟩, .bool F.dead] size_fl rfl rfl HR2.out.cells rfl HR2.out.free K5.out ?_; clear hz1 K5)
  have B := below_setN (show w.heap.size ≤ w.heap.size + 1 by omega) [.slice (some ⟨b, off, none⟩) F.pages.length cap, vw, .int .i64 F.fuse, .string ⟨F.torn.toArray⟩, .bool F.dead] 0 _ HB2.out
  exact bodyPost_ret (resultsN2 rfl _ _ (w.heap.size + 1) _ (.int .i64 1) size_fl agg_fl rfl rfl (HR2.out.all_ (l := [.slice (some ⟨b, off, none⟩) F.pages.length cap, vw, .int .i64 F.fuse, .string ⟨F.torn.toArray⟩, .bool F.dead]) rfl).cells) rfl ⟨_, rfl, ⟨.slice (some ⟨b, off, none⟩) F.pages.length cap, vw, rfl, stable_cells _ _ _ _ HP.out B, stable_cells _ _ _ _ HQ.out B⟩, B⟩
set_option maxRecDepth 100000 in
set_option maxHeartbeats 4000000 in
theorem rprog_no5 (F : Fl) (k : Nat) (m : Nat) (s : List UInt8) (v : Value) (w : World) (hv : isFl F v w) (hf : FewF F) (hs : s.length ≤ 1000000) (hm : hasB F (k : Int) = true) (h2 : m + s.length ≤ (F.pages.getD k []).length) (hd : F.dead = true) :
    Calls Try.prog 10 #[v, .int .i64 (k : Int), .int .i64 (m : Int), .string ⟨s.toArray⟩] w fun e w' => ∃ v', e = .returned (.tuple #[v', .int .i64 8]) ∧ isFl F v' w' ∧ Below w.heap.size w w' := by
  have HHF := Kept.mk (has_facts F k hm)
  obtain ⟨hk, h6, hwl, htl, hpg, hwr⟩ := HHF.out
  obtain ⟨was, hwas⟩ : ∃ was, F.pages[k]? = some was := ⟨_, List.getElem?_eq_getElem hk⟩
  have hwm : was.length ≤ 8192 := (hpg _ (List.mem_of_getElem? hwas)).2.1
  have hget1 : F.pages.getD k [] = was := by simp [List.getD_eq_getElem?_getD, hwas]
  have HW0 := Kept.mk (show was.length = (F.pages[0]'(by omega)).length by
    rw [(hpg _ (List.mem_of_getElem? hwas)).2.2, (hpg _ (List.getElem_mem (show 0 < F.pages.length by omega))).2.2])
  have HWAS := Kept.mk hwas
  rw [hget1] at h2
  have HWR := Kept.mk hwr
  have HM := Kept.mk hm
  clear hpg hwr hwas hget1 hm
  obtain ⟨vp, vw, rfl, hpp, hqq⟩ := hv
  have o1 := hpp.one
  have o2 := hqq.one
  obtain ⟨b, off, cap, hvp, hb, hc⟩ := hpp.some_ (by rw [List.length_map]; omega)
  rw [List.length_map] at hvp
  subst hvp
  have HC := Kept.mk (show w.cell? ⟨b, off + k, none⟩ = some (.string ⟨was.toArray⟩) from hc k _ (by simp [HWAS.out, strC]))
  clear hc
  have HP := Kept.mk hpp
  have HQ := Kept.mk hqq
  have hb0 := (lit_below w (.cells #[.slice (some ⟨b, off, none⟩) F.pages.length cap, vw, .int .i64 F.fuse, .string ⟨F.torn.toArray⟩, .bool F.dead] 25)).trans ((lit_below (w.alloc (.cells #[.slice (some ⟨b, off, none⟩) F.pages.length cap, vw, .int .i64 F.fuse, .string ⟨F.torn.toArray⟩, .bool F.dead] 25)) (.cells #[.slice none 0 0, .slice none 0 0, .int .i64 0, .string ⟨#[]⟩, .bool false] 25)).mono (lit_below w (.cells #[.slice (some ⟨b, off, none⟩) F.pages.length cap, vw, .int .i64 F.fuse, .string ⟨F.torn.toArray⟩, .bool F.dead] 25)).size)
  have HB := Kept.mk hb0
  have HX := Kept.mk ((Blk.new w 25 [.slice (some ⟨b, off, none⟩) F.pages.length cap, vw, .int .i64 F.fuse, .string ⟨F.torn.toArray⟩, .bool F.dead] w.heap.size rfl).alloc (.cells #[.slice none 0 0, .slice none 0 0, .int .i64 0, .string ⟨#[]⟩, .bool false] 25))
  have HR := Kept.mk (Blk.new (w.alloc (.cells #[.slice (some ⟨b, off, none⟩) F.pages.length cap, vw, .int .i64 F.fuse, .string ⟨F.torn.toArray⟩, .bool F.dead] 25)) 25 [.slice none 0 0, .slice none 0 0, .int .i64 0, .string ⟨#[]⟩, .bool false] (w.heap.size + 1) (by simp))
  have HV := Kept.mk (show isFl F (.agg #[.slice (some ⟨b, off, none⟩) F.pages.length cap, vw, .int .i64 F.fuse, .string ⟨F.torn.toArray⟩, .bool F.dead]) ((w.alloc (.cells #[.slice (some ⟨b, off, none⟩) F.pages.length cap, vw, .int .i64 F.fuse, .string ⟨F.torn.toArray⟩, .bool F.dead] 25)).alloc (.cells #[.slice none 0 0, .slice none 0 0, .int .i64 0, .string ⟨#[]⟩, .bool false] 25)) from ⟨.slice (some ⟨b, off, none⟩) F.pages.length cap, vw, rfl, stable_cells _ _ _ _ hpp hb0, stable_cells _ _ _ _ hqq hb0⟩)
  have hs0 : ((w.alloc (.cells #[.slice (some ⟨b, off, none⟩) F.pages.length cap, vw, .int .i64 F.fuse, .string ⟨F.torn.toArray⟩, .bool F.dead] 25)).alloc (.cells #[.slice none 0 0, .slice none 0 0, .int .i64 0, .string ⟨#[]⟩, .bool false] 25)).heap.size = w.heap.size + 2 := by simp
  clear hb0 hpp hqq
  show Calls Try.prog 10 #[.agg #[.slice (some ⟨b, off, none⟩) F.pages.length cap, vw, .int .i64 F.fuse, .string ⟨F.torn.toArray⟩, .bool F.dead], .int .i64 (k : Int), .int .i64 (m : Int), .string ⟨s.toArray⟩] w _
  have hsz : (⟨was.toArray⟩ : ByteArray).size = was.length := size_mk was
  have hss : (⟨s.toArray⟩ : ByteArray).size = s.length := size_mk s
  have d1 : decide ((m : Int) < 0) = false := decide_eq_false (by omega)
  have d2 : decide ((was.length : Int) < (m : Int)) = false := decide_eq_false (by omega)
  have d3 : decide ((was.length : Int) - (m : Int) < (s.length : Int)) = false := decide_eq_false (by omega)
  have HD := Kept.mk hd
  clear hd
  go_enter Try.func10, Try.ntmps10
  go_wp2_with fail
  generalize ((w.alloc (.cells #[.slice (some ⟨b, off, none⟩) F.pages.length cap, vw, .int .i64 F.fuse, .string ⟨F.torn.toArray⟩, .bool F.dead] 25)).alloc (.cells #[.slice none 0 0, .slice none 0 0, .int .i64 0, .string ⟨#[]⟩, .bool false] 25)) = W at *
  refine (rpage_any F k _ W HV.out hf).mono ?_
  rintro e W1 ⟨rfl, hb⟩
  rewrite [HM.out]
  have hs1 := hb.size
  replace HX := Kept.mk (HX.out.keep hb)
  replace HR := Kept.mk (HR.out.keep hb)
  replace HB := Kept.mk (HB.out.trans (hb.mono HB.out.size))
  clear hb
  have kx0 := HX.out.cells.2 0 _ rfl
  have kx1 := HX.out.cells.2 1 _ rfl
  have kx2 := HX.out.cells.2 2 _ rfl
  have kx3 := HX.out.cells.2 3 _ rfl
  have kx4 := HX.out.cells.2 4 _ rfl
  have fx0 := HX.out.free 0
  have fx1 := HX.out.free 1
  have fx2 := HX.out.free 2
  have fx3 := HX.out.free 3
  have fx4 := HX.out.free 4
  have kc := (HB.out.cell (p := ⟨b, off + k, none⟩) hb).trans HC.out
  rw [HD.out] at kx4
  have HR2 := HR
  have HB2 := HB
  have K5 : Kept (Ones [.slice (some ⟨b, off, none⟩) F.pages.length cap, vw, .int .i64 F.fuse, .string ⟨F.torn.toArray⟩, .bool true]) := ⟨⟨o1, o2, rfl, rfl, rfl, trivial⟩⟩
  go_wp2_with (have hz1 := K5; refine wpList_storeN 25 rfl (.tmp 8) (.tmp 47) rfl (w.heap.size + 1) [.slice (some ⟨b, off, none⟩) F.pages.length cap, vw, .int .i64 F.fuse, .string ⟨F.torn.toArray⟩, .bool true] size_fl rfl rfl HR2.out.cells rfl HR2.out.free K5.out ?_; clear hz1 K5)
  have B := below_setN (show w.heap.size ≤ w.heap.size + 1 by omega) [.slice (some ⟨b, off, none⟩) F.pages.length cap, vw, .int .i64 F.fuse, .string ⟨F.torn.toArray⟩, .bool true] 0 _ HB2.out
  exact bodyPost_ret (resultsN2 rfl _ _ (w.heap.size + 1) _ (.int .i64 8) size_fl agg_fl rfl rfl (HR2.out.all_ (l := [.slice (some ⟨b, off, none⟩) F.pages.length cap, vw, .int .i64 F.fuse, .string ⟨F.torn.toArray⟩, .bool true]) rfl).cells) rfl ⟨_, rfl, ⟨.slice (some ⟨b, off, none⟩) F.pages.length cap, vw, by rw [HD.out]; rfl, stable_cells _ _ _ _ HP.out B, stable_cells _ _ _ _ HQ.out B⟩, B⟩
end Go.Proofs.Ytdbohkbemjkcfaa
end
section
namespace Go.Proofs.Ytdbohkbemjkcfaa
open Go.RowKit
set_option linter.unusedVariables false
set_option linter.unusedSimpArgs false
attribute [local irreducible] setN
theorem cnot (s : List UInt8) (w : World) (hs : s.length ≤ 100000) : Calls Try.prog 32 #[.string ⟨s.toArray⟩] w fun e w' => ∃ v, e = .returned v ∧ isVal (.string ⟨(notL s).toArray⟩) v w' ∧ Below w.heap.size w w' :=
  (refNot_any ⟨s.toArray⟩ w (by rw [size_mk]; exact hs)).mono (by
    rintro e w' ⟨rfl, hb⟩
    exact ⟨_, rfl, rfl, hb⟩)
theorem ones_nat (n : Nat) (hn : n ≤ 100000) : onesL (n : Int) = List.replicate n 255 := by
  unfold onesL
  by_cases h : 0 < n
  · rw [if_pos (by omega), Int.toNat_natCast]
  · have : n = 0 := by omega
    subst this; rfl
theorem not_xor (l : List UInt8) : notL l = l.map fun b => b ^^^ 255 := by
  unfold notL
  apply List.map_congr_left
  intro b _
  apply byte8
  intro i hi
  simp only [UInt8.toBitVec_not, UInt8.toBitVec_xor, BitVec.getLsbD_not, BitVec.getLsbD_xor, full8 i hi]
  simp [hi]
set_option maxRecDepth 100000 in
set_option maxHeartbeats 4000000 in
theorem rprog_yes (F : Fl) (k : Nat) (m : Nat) (s : List UInt8) (v : Value) (w : World) (hv : isFl F v w) (hf : FewF F) (hs : s.length ≤ 1000000) (hm : hasB F (k : Int) = true) (h2 : m + s.length ≤ (F.pages.getD k []).length) (hd : F.dead = false) (hz : ¬ F.fuse = 0) (hfz : F.fuse ≤ 9223372036854775807) :
    Calls Try.prog 10 #[v, .int .i64 (k : Int), .int .i64 (m : Int), .string ⟨s.toArray⟩] w fun e w' => ∃ v', e = .returned (.tuple #[v', .int .i64 0]) ∧ isFl { F with pages := F.pages.set k (pairL (· &&& ·) (F.pages.getD k []) (List.replicate m 255 ++ s ++ List.replicate ((F.pages.getD k []).length - m - s.length) 255)), fuse := lessN F.fuse } v' w' ∧ Below w.heap.size w w' := by
  have HHF := Kept.mk (has_facts F k hm)
  obtain ⟨hk, h6, hwl, htl, hpg, hwr⟩ := HHF.out
  obtain ⟨was, hwas⟩ : ∃ was, F.pages[k]? = some was := ⟨_, List.getElem?_eq_getElem hk⟩
  have hwm : was.length ≤ 8192 := (hpg _ (List.mem_of_getElem? hwas)).2.1
  have hget1 : F.pages.getD k [] = was := by simp [List.getD_eq_getElem?_getD, hwas]
  have HW0 := Kept.mk (show was.length = (F.pages[0]'(by omega)).length by
    rw [(hpg _ (List.mem_of_getElem? hwas)).2.2, (hpg _ (List.getElem_mem (show 0 < F.pages.length by omega))).2.2])
  have HWAS := Kept.mk hwas
  rw [hget1] at h2 ⊢
  have HWR := Kept.mk hwr
  have HM := Kept.mk hm
  clear hpg hwr hwas hget1 hm
  obtain ⟨vp, vw, rfl, hpp, hqq⟩ := hv
  have o1 := hpp.one
  have o2 := hqq.one
  obtain ⟨b, off, cap, hvp, hb, hc⟩ := hpp.some_ (by rw [List.length_map]; omega)
  rw [List.length_map] at hvp
  subst hvp
  have HC := Kept.mk (show w.cell? ⟨b, off + k, none⟩ = some (.string ⟨was.toArray⟩) from hc k _ (by simp [HWAS.out, strC]))
  clear hc
  have HP := Kept.mk hpp
  have HQ := Kept.mk hqq
  have hb0 := (lit_below w (.cells #[.slice (some ⟨b, off, none⟩) F.pages.length cap, vw, .int .i64 F.fuse, .string ⟨F.torn.toArray⟩, .bool F.dead] 25)).trans ((lit_below (w.alloc (.cells #[.slice (some ⟨b, off, none⟩) F.pages.length cap, vw, .int .i64 F.fuse, .string ⟨F.torn.toArray⟩, .bool F.dead] 25)) (.cells #[.slice none 0 0, .slice none 0 0, .int .i64 0, .string ⟨#[]⟩, .bool false] 25)).mono (lit_below w (.cells #[.slice (some ⟨b, off, none⟩) F.pages.length cap, vw, .int .i64 F.fuse, .string ⟨F.torn.toArray⟩, .bool F.dead] 25)).size)
  have HB := Kept.mk hb0
  have HX := Kept.mk ((Blk.new w 25 [.slice (some ⟨b, off, none⟩) F.pages.length cap, vw, .int .i64 F.fuse, .string ⟨F.torn.toArray⟩, .bool F.dead] w.heap.size rfl).alloc (.cells #[.slice none 0 0, .slice none 0 0, .int .i64 0, .string ⟨#[]⟩, .bool false] 25))
  have HR := Kept.mk (Blk.new (w.alloc (.cells #[.slice (some ⟨b, off, none⟩) F.pages.length cap, vw, .int .i64 F.fuse, .string ⟨F.torn.toArray⟩, .bool F.dead] 25)) 25 [.slice none 0 0, .slice none 0 0, .int .i64 0, .string ⟨#[]⟩, .bool false] (w.heap.size + 1) (by simp))
  have HV := Kept.mk (show isFl F (.agg #[.slice (some ⟨b, off, none⟩) F.pages.length cap, vw, .int .i64 F.fuse, .string ⟨F.torn.toArray⟩, .bool F.dead]) ((w.alloc (.cells #[.slice (some ⟨b, off, none⟩) F.pages.length cap, vw, .int .i64 F.fuse, .string ⟨F.torn.toArray⟩, .bool F.dead] 25)).alloc (.cells #[.slice none 0 0, .slice none 0 0, .int .i64 0, .string ⟨#[]⟩, .bool false] 25)) from ⟨.slice (some ⟨b, off, none⟩) F.pages.length cap, vw, rfl, stable_cells _ _ _ _ hpp hb0, stable_cells _ _ _ _ hqq hb0⟩)
  have hs0 : ((w.alloc (.cells #[.slice (some ⟨b, off, none⟩) F.pages.length cap, vw, .int .i64 F.fuse, .string ⟨F.torn.toArray⟩, .bool F.dead] 25)).alloc (.cells #[.slice none 0 0, .slice none 0 0, .int .i64 0, .string ⟨#[]⟩, .bool false] 25)).heap.size = w.heap.size + 2 := by simp
  clear hb0 hpp hqq
  show Calls Try.prog 10 #[.agg #[.slice (some ⟨b, off, none⟩) F.pages.length cap, vw, .int .i64 F.fuse, .string ⟨F.torn.toArray⟩, .bool F.dead], .int .i64 (k : Int), .int .i64 (m : Int), .string ⟨s.toArray⟩] w _
  have hsz : (⟨was.toArray⟩ : ByteArray).size = was.length := size_mk was
  have hss : (⟨s.toArray⟩ : ByteArray).size = s.length := size_mk s
  have d1 : decide ((m : Int) < 0) = false := decide_eq_false (by omega)
  have d2 : decide ((was.length : Int) < (m : Int)) = false := decide_eq_false (by omega)
  have d3 : decide ((was.length : Int) - (m : Int) < (s.length : Int)) = false := decide_eq_false (by omega)
  obtain ⟨l1, hl1⟩ : ∃ l : List UInt8, l = List.replicate m 255 := ⟨_, rfl⟩
  obtain ⟨l2, hl2⟩ : ∃ l : List UInt8, l = List.replicate (was.length - m - s.length) 255 := ⟨_, rfl⟩
  rw [← hl1, ← hl2]
  obtain ⟨l3, hl3⟩ : ∃ l : List UInt8, l = l1 ++ s := ⟨_, rfl⟩
  obtain ⟨d, hd0⟩ : ∃ l : List UInt8, l = l3 ++ l2 := ⟨_, rfl⟩
  rw [← hl3, ← hd0]
  have HO1 := Kept.mk (show onesL (m : Int) = l1 by rw [hl1]; exact ones_nat m (by omega))
  have HO2 := Kept.mk (show onesL ((was.length : Int) - (m : Int) - (s.length : Int)) = l2 by
    rw [hl2, show (was.length : Int) - (m : Int) - (s.length : Int) = ((was.length - m - s.length : Nat) : Int) by omega]
    exact ones_nat _ (by omega))
  have n1 : l1.length = m := by rw [hl1, List.length_replicate]
  have n2 : l2.length = was.length - m - s.length := by rw [hl2, List.length_replicate]
  have n3 : l3.length = m + s.length := by rw [hl3, List.length_append, n1]
  have nd : d.length = was.length := by rw [hd0, List.length_append, n3, n2]; omega
  have hA1 : ∀ W, (Op.stringOp .add ⟨l1.toArray⟩ ⟨s.toArray⟩).run Try.prog W = .ok (.string ⟨l3.toArray⟩) W := fun W => by rw [hl3]; exact run_string_add_lists W l1 s (by omega) (by omega)
  have hA2 : ∀ W, (Op.stringOp .add ⟨l3.toArray⟩ ⟨l2.toArray⟩).run Try.prog W = .ok (.string ⟨d.toArray⟩) W := fun W => by rw [hd0]; exact run_string_add_lists W l3 l2 (by omega) (by omega)
  clear hl1 hl2 hl3 hd0
  have HD := Kept.mk hd
  clear hd
  go_enter Try.func10, Try.ntmps10
  go_wp2_with fail
  generalize ((w.alloc (.cells #[.slice (some ⟨b, off, none⟩) F.pages.length cap, vw, .int .i64 F.fuse, .string ⟨F.torn.toArray⟩, .bool F.dead] 25)).alloc (.cells #[.slice none 0 0, .slice none 0 0, .int .i64 0, .string ⟨#[]⟩, .bool false] 25)) = W at *
  refine (rpage_any F k _ W HV.out hf).mono ?_
  rintro e W1 ⟨rfl, hb⟩
  rewrite [HM.out]
  have hs1 := hb.size
  replace HX := Kept.mk (HX.out.keep hb)
  replace HR := Kept.mk (HR.out.keep hb)
  replace HB := Kept.mk (HB.out.trans (hb.mono HB.out.size))
  clear hb
  have kx0 := HX.out.cells.2 0 _ rfl
  have kx1 := HX.out.cells.2 1 _ rfl
  have kx2 := HX.out.cells.2 2 _ rfl
  have kx3 := HX.out.cells.2 3 _ rfl
  have kx4 := HX.out.cells.2 4 _ rfl
  have fx0 := HX.out.free 0
  have fx1 := HX.out.free 1
  have fx2 := HX.out.free 2
  have fx3 := HX.out.free 3
  have fx4 := HX.out.free 4
  have kc := (HB.out.cell (p := ⟨b, off + k, none⟩) hb).trans HC.out
  rw [HD.out] at kx4
  go_wp2_with fail
  clear kx0 kx1 kx2 kx3 kx4 fx0 fx1 fx2 fx3 fx4 kc
  refine (refOnes_any _ _).mono ?_
  rintro e W2 ⟨rfl, hbb⟩
  have hsW2 := hbb.size
  replace HX := Kept.mk (HX.out.keep hbb)
  replace HR := Kept.mk (HR.out.keep hbb)
  replace HB := Kept.mk (HB.out.trans (hbb.mono HB.out.size))
  clear hbb
  rewrite [HO1.out]
  go_wp2_with fail
  refine (refOnes_any _ _).mono ?_
  rintro e W3 ⟨rfl, hbb⟩
  have hsW3 := hbb.size
  replace HX := Kept.mk (HX.out.keep hbb)
  replace HR := Kept.mk (HR.out.keep hbb)
  replace HB := Kept.mk (HB.out.trans (hbb.mono HB.out.size))
  clear hbb
  rewrite [HO2.out]
  have kx0 := HX.out.cells.2 0 _ rfl
  have kx1 := HX.out.cells.2 1 _ rfl
  have kx2 := HX.out.cells.2 2 _ rfl
  have kx3 := HX.out.cells.2 3 _ rfl
  have kx4 := HX.out.cells.2 4 _ rfl
  go_wp2_with fail
  clear kx0 kx1 kx2 kx3 kx4
  have hbl : b < W3.heap.size := by have := HB.out.size; omega
  have HP1 := Kept.mk (stable_cells _ _ _ _ HP.out HB.out)
  have HQ1 := Kept.mk (stable_cells _ _ _ _ HQ.out HB.out)
  have HC1 := Kept.mk ((HB.out.cell (p := ⟨b, off + k, none⟩) hb).trans HC.out)
  refine rp10_region _ _ _ rfl F k was b off F.pages.length cap w.heap.size (w.heap.size + 1) vw HX.out HR.out HP1.out HQ1.out (off_old HQ.out (by omega)) hk h6 HC1.out hbl hk hwm rfl rfl rfl d rfl (by omega) hfz ?_
  intro y9 p q W9 hcp hcq hop hoq hb9
  have HE := Kept.mk (below_setN (show w.heap.size ≤ w.heap.size + 1 by omega) [p, q, .int .i64 (lessN F.fuse), .string ⟨F.torn.toArray⟩, .bool F.dead] 0 _ (HB.out.trans (hb9.mono HB.out.size)))
  have HF := Kept.mk ((HR.out.keep hb9).all_ (l := [p, q, .int .i64 (lessN F.fuse), .string ⟨F.torn.toArray⟩, .bool F.dead]) rfl).cells
  have EP := Kept.mk (cells_apart hcp hop 0 [p, q, .int .i64 (lessN F.fuse), .string ⟨F.torn.toArray⟩, .bool F.dead])
  have EQ := Kept.mk (cells_apart hcq hoq 0 [p, q, .int .i64 (lessN F.fuse), .string ⟨F.torn.toArray⟩, .bool F.dead])
  clear hb9 hcp hcq hop hoq HC1 HP1 HQ1
  simp only [List.foldl_cons, List.foldl_nil]
  generalize y9 85 = z85
  generalize y9 86 = z86
  generalize y9 87 = z87
  generalize y9 88 = z88
  generalize y9 89 = z89
  generalize y9 90 = z90
  generalize y9 91 = z91
  generalize y9 92 = z92
  generalize y9 93 = z93
  generalize y9 94 = z94
  generalize y9 95 = z95
  generalize y9 9 = z9
  simp only [List.setIfInBounds_toArray, List.set_cons_succ, List.set_cons_zero]
  clear y9
  go_wp2
  exact bodyPost_ret (resultsN2 rfl _ _ (w.heap.size + 1) _ (.int .i64 0) size_fl agg_fl rfl rfl HF.out) rfl ⟨_, rfl, ⟨p, q, rfl, EP.out, EQ.out⟩, HE.out⟩
set_option maxRecDepth 100000 in
set_option maxHeartbeats 4000000 in
theorem rprog_torn (F : Fl) (k : Nat) (m : Nat) (s : List UInt8) (v : Value) (w : World) (hv : isFl F v w) (hf : FewF F) (hs : s.length ≤ 1000000) (hm : hasB F (k : Int) = true) (h2 : m + s.length ≤ (F.pages.getD k []).length) (hd : F.dead = false) (hz : F.fuse = 0) :
    Calls Try.prog 10 #[v, .int .i64 (k : Int), .int .i64 (m : Int), .string ⟨s.toArray⟩] w fun e w' => ∃ v', e = .returned (.tuple #[v', .int .i64 8]) ∧ isFl { F with pages := F.pages.set k (pairL (· &&& ·) (F.pages.getD k []) (pairL (· ||| ·) (List.replicate m 255 ++ s ++ List.replicate ((F.pages.getD k []).length - m - s.length) 255) (notL (maskL F.torn (F.pages.getD k []).length)))), dead := true } v' w' ∧ Below w.heap.size w w' := by
  have HHF := Kept.mk (has_facts F k hm)
  obtain ⟨hk, h6, hwl, htl, hpg, hwr⟩ := HHF.out
  obtain ⟨was, hwas⟩ : ∃ was, F.pages[k]? = some was := ⟨_, List.getElem?_eq_getElem hk⟩
  have hwm : was.length ≤ 8192 := (hpg _ (List.mem_of_getElem? hwas)).2.1
  have hget1 : F.pages.getD k [] = was := by simp [List.getD_eq_getElem?_getD, hwas]
  have HW0 := Kept.mk (show was.length = (F.pages[0]'(by omega)).length by
    rw [(hpg _ (List.mem_of_getElem? hwas)).2.2, (hpg _ (List.getElem_mem (show 0 < F.pages.length by omega))).2.2])
  have HWAS := Kept.mk hwas
  rw [hget1] at h2 ⊢
  have HWR := Kept.mk hwr
  have HM := Kept.mk hm
  clear hpg hwr hwas hget1 hm
  obtain ⟨vp, vw, rfl, hpp, hqq⟩ := hv
  have o1 := hpp.one
  have o2 := hqq.one
  obtain ⟨b, off, cap, hvp, hb, hc⟩ := hpp.some_ (by rw [List.length_map]; omega)
  rw [List.length_map] at hvp
  subst hvp
  have HC := Kept.mk (show w.cell? ⟨b, off + k, none⟩ = some (.string ⟨was.toArray⟩) from hc k _ (by simp [HWAS.out, strC]))
  clear hc
  have HP := Kept.mk hpp
  have HQ := Kept.mk hqq
  have hb0 := (lit_below w (.cells #[.slice (some ⟨b, off, none⟩) F.pages.length cap, vw, .int .i64 F.fuse, .string ⟨F.torn.toArray⟩, .bool F.dead] 25)).trans ((lit_below (w.alloc (.cells #[.slice (some ⟨b, off, none⟩) F.pages.length cap, vw, .int .i64 F.fuse, .string ⟨F.torn.toArray⟩, .bool F.dead] 25)) (.cells #[.slice none 0 0, .slice none 0 0, .int .i64 0, .string ⟨#[]⟩, .bool false] 25)).mono (lit_below w (.cells #[.slice (some ⟨b, off, none⟩) F.pages.length cap, vw, .int .i64 F.fuse, .string ⟨F.torn.toArray⟩, .bool F.dead] 25)).size)
  have HB := Kept.mk hb0
  have HX := Kept.mk ((Blk.new w 25 [.slice (some ⟨b, off, none⟩) F.pages.length cap, vw, .int .i64 F.fuse, .string ⟨F.torn.toArray⟩, .bool F.dead] w.heap.size rfl).alloc (.cells #[.slice none 0 0, .slice none 0 0, .int .i64 0, .string ⟨#[]⟩, .bool false] 25))
  have HR := Kept.mk (Blk.new (w.alloc (.cells #[.slice (some ⟨b, off, none⟩) F.pages.length cap, vw, .int .i64 F.fuse, .string ⟨F.torn.toArray⟩, .bool F.dead] 25)) 25 [.slice none 0 0, .slice none 0 0, .int .i64 0, .string ⟨#[]⟩, .bool false] (w.heap.size + 1) (by simp))
  have HV := Kept.mk (show isFl F (.agg #[.slice (some ⟨b, off, none⟩) F.pages.length cap, vw, .int .i64 F.fuse, .string ⟨F.torn.toArray⟩, .bool F.dead]) ((w.alloc (.cells #[.slice (some ⟨b, off, none⟩) F.pages.length cap, vw, .int .i64 F.fuse, .string ⟨F.torn.toArray⟩, .bool F.dead] 25)).alloc (.cells #[.slice none 0 0, .slice none 0 0, .int .i64 0, .string ⟨#[]⟩, .bool false] 25)) from ⟨.slice (some ⟨b, off, none⟩) F.pages.length cap, vw, rfl, stable_cells _ _ _ _ hpp hb0, stable_cells _ _ _ _ hqq hb0⟩)
  have hs0 : ((w.alloc (.cells #[.slice (some ⟨b, off, none⟩) F.pages.length cap, vw, .int .i64 F.fuse, .string ⟨F.torn.toArray⟩, .bool F.dead] 25)).alloc (.cells #[.slice none 0 0, .slice none 0 0, .int .i64 0, .string ⟨#[]⟩, .bool false] 25)).heap.size = w.heap.size + 2 := by simp
  clear hb0 hpp hqq
  show Calls Try.prog 10 #[.agg #[.slice (some ⟨b, off, none⟩) F.pages.length cap, vw, .int .i64 F.fuse, .string ⟨F.torn.toArray⟩, .bool F.dead], .int .i64 (k : Int), .int .i64 (m : Int), .string ⟨s.toArray⟩] w _
  have hsz : (⟨was.toArray⟩ : ByteArray).size = was.length := size_mk was
  have hss : (⟨s.toArray⟩ : ByteArray).size = s.length := size_mk s
  have d1 : decide ((m : Int) < 0) = false := decide_eq_false (by omega)
  have d2 : decide ((was.length : Int) < (m : Int)) = false := decide_eq_false (by omega)
  have d3 : decide ((was.length : Int) - (m : Int) < (s.length : Int)) = false := decide_eq_false (by omega)
  obtain ⟨l1, hl1⟩ : ∃ l : List UInt8, l = List.replicate m 255 := ⟨_, rfl⟩
  obtain ⟨l2, hl2⟩ : ∃ l : List UInt8, l = List.replicate (was.length - m - s.length) 255 := ⟨_, rfl⟩
  rw [← hl1, ← hl2]
  obtain ⟨l3, hl3⟩ : ∃ l : List UInt8, l = l1 ++ s := ⟨_, rfl⟩
  obtain ⟨d, hd0⟩ : ∃ l : List UInt8, l = l3 ++ l2 := ⟨_, rfl⟩
  rw [← hl3, ← hd0]
  have HO1 := Kept.mk (show onesL (m : Int) = l1 by rw [hl1]; exact ones_nat m (by omega))
  have HO2 := Kept.mk (show onesL ((was.length : Int) - (m : Int) - (s.length : Int)) = l2 by
    rw [hl2, show (was.length : Int) - (m : Int) - (s.length : Int) = ((was.length - m - s.length : Nat) : Int) by omega]
    exact ones_nat _ (by omega))
  have n1 : l1.length = m := by rw [hl1, List.length_replicate]
  have n2 : l2.length = was.length - m - s.length := by rw [hl2, List.length_replicate]
  have n3 : l3.length = m + s.length := by rw [hl3, List.length_append, n1]
  have nd : d.length = was.length := by rw [hd0, List.length_append, n3, n2]; omega
  have hA1 : ∀ W, (Op.stringOp .add ⟨l1.toArray⟩ ⟨s.toArray⟩).run Try.prog W = .ok (.string ⟨l3.toArray⟩) W := fun W => by rw [hl3]; exact run_string_add_lists W l1 s (by omega) (by omega)
  have hA2 : ∀ W, (Op.stringOp .add ⟨l3.toArray⟩ ⟨l2.toArray⟩).run Try.prog W = .ok (.string ⟨d.toArray⟩) W := fun W => by rw [hd0]; exact run_string_add_lists W l3 l2 (by omega) (by omega)
  clear hl1 hl2 hl3 hd0
  have HD := Kept.mk hd
  clear hd
  obtain ⟨mk, hmk⟩ : ∃ l : List UInt8, l = maskL F.torn was.length := ⟨_, rfl⟩
  obtain ⟨nt, hnt⟩ : ∃ l : List UInt8, l = notL mk := ⟨_, rfl⟩
  obtain ⟨ot, hot⟩ : ∃ l : List UInt8, l = pairL (· ||| ·) d nt := ⟨_, rfl⟩
  rw [← hmk, ← hnt, ← hot]
  have nm : mk.length = was.length := by rw [hmk, length_maskL]
  have nn : nt.length = was.length := by rw [hnt, length_notL, nm]
  have no : ot.length = was.length := by rw [hot, length_pairL, nd]
  have HK1 := Kept.mk hmk
  have HK2 := Kept.mk hnt
  have HK3 := Kept.mk hot
  clear hmk hnt hot
  have HZ := Kept.mk hz
  clear hz
  go_enter Try.func10, Try.ntmps10
  go_wp2_with fail
  generalize ((w.alloc (.cells #[.slice (some ⟨b, off, none⟩) F.pages.length cap, vw, .int .i64 F.fuse, .string ⟨F.torn.toArray⟩, .bool F.dead] 25)).alloc (.cells #[.slice none 0 0, .slice none 0 0, .int .i64 0, .string ⟨#[]⟩, .bool false] 25)) = W at *
  refine (rpage_any F k _ W HV.out hf).mono ?_
  rintro e W1 ⟨rfl, hb⟩
  rewrite [HM.out]
  have hs1 := hb.size
  replace HX := Kept.mk (HX.out.keep hb)
  replace HR := Kept.mk (HR.out.keep hb)
  replace HB := Kept.mk (HB.out.trans (hb.mono HB.out.size))
  clear hb
  have kx0 := HX.out.cells.2 0 _ rfl
  have kx1 := HX.out.cells.2 1 _ rfl
  have kx2 := HX.out.cells.2 2 _ rfl
  have kx3 := HX.out.cells.2 3 _ rfl
  have kx4 := HX.out.cells.2 4 _ rfl
  have fx0 := HX.out.free 0
  have fx1 := HX.out.free 1
  have fx2 := HX.out.free 2
  have fx3 := HX.out.free 3
  have fx4 := HX.out.free 4
  have kc := (HB.out.cell (p := ⟨b, off + k, none⟩) hb).trans HC.out
  rw [HD.out] at kx4
  go_wp2_with fail
  clear kx0 kx1 kx2 kx3 kx4 fx0 fx1 fx2 fx3 fx4 kc
  refine (refOnes_any _ _).mono ?_
  rintro e W2 ⟨rfl, hbb⟩
  have hsW2 := hbb.size
  replace HX := Kept.mk (HX.out.keep hbb)
  replace HR := Kept.mk (HR.out.keep hbb)
  replace HB := Kept.mk (HB.out.trans (hbb.mono HB.out.size))
  clear hbb
  rewrite [HO1.out]
  go_wp2_with fail
  refine (refOnes_any _ _).mono ?_
  rintro e W3 ⟨rfl, hbb⟩
  have hsW3 := hbb.size
  replace HX := Kept.mk (HX.out.keep hbb)
  replace HR := Kept.mk (HR.out.keep hbb)
  replace HB := Kept.mk (HB.out.trans (hbb.mono HB.out.size))
  clear hbb
  rewrite [HO2.out]
  have kx0 := HX.out.cells.2 0 _ rfl
  have kx1 := HX.out.cells.2 1 _ rfl
  have kx2 := HX.out.cells.2 2 _ rfl
  have kx3 := HX.out.cells.2 3 _ rfl
  have kx4 := HX.out.cells.2 4 _ rfl
  rw [HZ.out] at kx2
  go_wp2_with fail
  clear kx0 kx1 kx2 kx3 kx4
  refine (rmask_any F (.agg #[.slice (some ⟨b, off, none⟩) F.pages.length cap, vw, .int .i64 0, .string ⟨F.torn.toArray⟩, .bool F.dead]) _ ⟨.slice (some ⟨b, off, none⟩) F.pages.length cap, vw, by rw [HZ.out]; rfl, stable_cells _ _ _ _ HP.out HB.out, stable_cells _ _ _ _ HQ.out HB.out⟩ (by omega) (by omega) was.length HW0.out (by omega) (by omega)).mono ?_
  rintro e W4 ⟨rfl, hbb⟩
  have hsW4 := hbb.size
  replace HX := Kept.mk (HX.out.keep hbb)
  replace HR := Kept.mk (HR.out.keep hbb)
  replace HB := Kept.mk (HB.out.trans (hbb.mono HB.out.size))
  clear hbb
  rewrite [← HK1.out]
  go_wp2_with fail
  refine (cnot mk _ (by omega)).mono ?_
  rintro e W5 ⟨v', rfl, rfl, hbb⟩
  have hsW5 := hbb.size
  replace HX := Kept.mk (HX.out.keep hbb)
  replace HR := Kept.mk (HR.out.keep hbb)
  replace HB := Kept.mk (HB.out.trans (hbb.mono HB.out.size))
  clear hbb
  rewrite [← HK2.out]
  go_wp2_with fail
  refine (cor d nt _ (by omega) (by omega)).mono ?_
  rintro e W6 ⟨v'', rfl, rfl, hbb⟩
  have hsW6 := hbb.size
  replace HX := Kept.mk (HX.out.keep hbb)
  replace HR := Kept.mk (HR.out.keep hbb)
  replace HB := Kept.mk (HB.out.trans (hbb.mono HB.out.size))
  clear hbb
  rewrite [← HK3.out]
  go_wp2_with fail
  have hbl : b < W6.heap.size := by have := HB.out.size; omega
  have HP1 := Kept.mk (stable_cells _ _ _ _ HP.out HB.out)
  have HQ1 := Kept.mk (stable_cells _ _ _ _ HQ.out HB.out)
  have HC1 := Kept.mk ((HB.out.cell (p := ⟨b, off + k, none⟩) hb).trans HC.out)
  refine rp9_region _ _ _ rfl F k was b off F.pages.length cap w.heap.size (w.heap.size + 1) vw HX.out HR.out HP1.out HQ1.out (off_old HQ.out (by omega)) hk h6 HC1.out hbl hk hwm rfl rfl rfl ot rfl (by omega) ?_
  intro y9 p q W9 hcp hcq hop hoq hb9
  have HE := Kept.mk (below_setN (show w.heap.size ≤ w.heap.size + 1 by omega) [p, q, .int .i64 (F.fuse), .string ⟨F.torn.toArray⟩, .bool true] 0 _ (HB.out.trans (hb9.mono HB.out.size)))
  have HF := Kept.mk ((HR.out.keep hb9).all_ (l := [p, q, .int .i64 (F.fuse), .string ⟨F.torn.toArray⟩, .bool true]) rfl).cells
  have EP := Kept.mk (cells_apart hcp hop 0 [p, q, .int .i64 (F.fuse), .string ⟨F.torn.toArray⟩, .bool true])
  have EQ := Kept.mk (cells_apart hcq hoq 0 [p, q, .int .i64 (F.fuse), .string ⟨F.torn.toArray⟩, .bool true])
  clear hb9 hcp hcq hop hoq HC1 HP1 HQ1
  simp only [List.foldl_cons, List.foldl_nil]
  generalize y9 74 = z74
  generalize y9 75 = z75
  generalize y9 76 = z76
  generalize y9 77 = z77
  generalize y9 78 = z78
  generalize y9 79 = z79
  generalize y9 80 = z80
  generalize y9 81 = z81
  generalize y9 82 = z82
  generalize y9 83 = z83
  generalize y9 84 = z84
  generalize y9 9 = z9
  simp only [List.setIfInBounds_toArray, List.set_cons_succ, List.set_cons_zero]
  clear y9
  go_wp2
  exact bodyPost_ret (resultsN2 rfl _ _ (w.heap.size + 1) _ (.int .i64 8) size_fl agg_fl rfl rfl HF.out) rfl ⟨_, rfl, ⟨p, q, rfl, EP.out, EQ.out⟩, HE.out⟩
theorem rprog_any (F : Fl) (n at_ : Int) (s : List UInt8) (v : Value) (w : World) (hv : isFl F v w) (hf : FewF F) (hs : s.length ≤ 1000000) (hfz : F.fuse ≤ 9223372036854775807) :
    Calls Try.prog 10 #[v, .int .i64 n, .int .i64 at_, .string ⟨s.toArray⟩] w fun e w' => ∃ v', e = .returned (.tuple #[v', .int .i64 (progE F n at_ s)]) ∧ isFl (progF F n at_ s) v' w' ∧ Below w.heap.size w w' := by
  cases hm : hasB F n with
  | false =>
    rw [show progE F n at_ s = 1 by simp [progE, hm], show progF F n at_ s = F by simp [progF, hm]]
    exact rprog_no1 F n at_ s v w hv hf hs hm
  | true =>
    obtain ⟨k, rfl⟩ := has_nat hm
    cases hb : fitsB F k at_ s with
    | false =>
      rw [show progE F k at_ s = 1 by simp [progE, hm, hb], show progF F k at_ s = F by simp [progF, hm, hb]]
      unfold fitsB at hb
      rw [Int.toNat_natCast] at hb
      by_cases h0 : at_ < 0
      · exact rprog_no2 F k at_ s v w hv hf hs hm h0
      · by_cases h1 : ((F.pages.getD k []).length : Int) < at_
        · exact rprog_no3 F k at_ s v w hv hf hs hm h0 h1
        · refine rprog_no4 F k at_ s v w hv hf hs hm h0 (by omega) ?_
          rw [decide_eq_true (show 0 ≤ at_ by omega), Bool.true_and] at hb
          have := of_decide_eq_false hb
          omega
    | true =>
      have hb' := hb
      unfold fitsB at hb'
      rw [Int.toNat_natCast] at hb'
      simp only [Bool.and_eq_true, decide_eq_true_eq] at hb'
      obtain ⟨m, rfl⟩ := Int.eq_ofNat_of_zero_le hb'.1
      have h2 : m + s.length ≤ (F.pages.getD k []).length := by omega
      clear hb'
      cases hd : F.dead with
      | true =>
        rw [show progE F k m s = 8 by simp [progE, hm, hb, hd], show progF F k m s = F by simp [progF, hm, hb, hd]]
        exact rprog_no5 F k m s v w hv hf hs hm h2 hd
      | false =>
        have ed := and_data m (F.pages.getD k []) s h2
        by_cases hz : F.fuse = 0
        · rw [show progE F k m s = 8 by simp [progE, hm, hb, hd, hz]]
          have h := rprog_torn F k m s v w hv hf hs hm h2 hd hz
          have e : progF F k m s = { F with pages := F.pages.set k (betweenL (F.pages.getD k []) (progL (F.pages.getD k []) m s) F.torn), dead := true } := by
            unfold progF
            rw [if_neg (by rw [hm]; decide), if_neg (by rw [hb]; decide), if_neg (by rw [hd]; decide), if_pos hz, Int.toNat_natCast, Int.toNat_natCast]
          rw [not_xor, ← torn_and _ _ _ (by rw [List.length_append, List.length_append, List.length_replicate, List.length_replicate]; omega) (length_maskL _ _), ed] at h
          rw [e]
          exact h
        · rw [show progE F k m s = 0 by simp [progE, hm, hb, hd, hz]]
          have h := rprog_yes F k m s v w hv hf hs hm h2 hd hz hfz
          rw [ed] at h
          have e : progF F k m s = { F with pages := F.pages.set k (progL (F.pages.getD k []) m s), fuse := lessN F.fuse } := by
            unfold progF
            rw [if_neg (by rw [hm]; decide), if_neg (by rw [hb]; decide), if_neg (by rw [hd]; decide), if_neg hz, Int.toNat_natCast, Int.toNat_natCast]
            have hw : F.wear.set k (F.wear.getD k 0) = F.wear := by
              by_cases hk : k < F.wear.length
              · rw [List.getD_eq_getElem?_getD, List.getElem?_eq_getElem hk, Option.getD_some]; exact List.set_getElem_self hk
              · exact List.set_eq_of_length_le (by omega)
            rw [hw]
            rfl
          rw [e]
          exact h
end Go.Proofs.Ytdbohkbemjkcfaa
end
section
namespace Go.Proofs.Ytdbohkbemjkcfaa
open Go.RowKit
set_option linter.unusedVariables false
set_option linter.unusedSimpArgs false

set_option maxRecDepth 20000 in
set_option maxHeartbeats 1000000 in
theorem rfsame_any (F G : Fl) (v u : Value) (w : World) (hv : isFl F v w) (hu : isFl G u w) (h1 : F.pages.length ≤ 1000000) (h2 : F.wear.length ≤ 1000000) (h3 : G.pages.length ≤ 1000000) (h4 : G.wear.length ≤ 1000000) :
    Calls Try.prog 11 #[v, u] w fun e w' => e = .returned (.bool (sameB F G)) ∧ Below w.heap.size w w' := by
  obtain ⟨vp, vw, rfl, hp, hq⟩ := hv
  obtain ⟨up, uw, rfl, gp, gq⟩ := hu
  have hb0 : Below w.heap.size w ((w.alloc (.cells #[vp, vw, .int .i64 F.fuse, strC F.torn, .bool F.dead] 25)).alloc (.cells #[up, uw, .int .i64 G.fuse, strC G.torn, .bool G.dead] 25)) := ((Below.refl _ _).alloc (Nat.le_refl _) _).alloc (by simp) _
  have hbn := (Below.refl (w.alloc (.cells #[vp, vw, .int .i64 F.fuse, strC F.torn, .bool F.dead] 25)).heap.size (w.alloc (.cells #[vp, vw, .int .i64 F.fuse, strC F.torn, .bool F.dead] 25))).alloc (Nat.le_refl _) (.cells #[up, uw, .int .i64 G.fuse, strC G.torn, .bool G.dead] 25)
  have c1 := (cells5_new w 25 vp vw (.int .i64 F.fuse) (strC F.torn) (.bool F.dead)).keep hbn (by simp)
  have c2 := cells5_at (w.alloc (.cells #[vp, vw, .int .i64 F.fuse, strC F.torn, .bool F.dead] 25)) 25 up uw (.int .i64 G.fuse) (strC G.torn) (.bool G.dead) (w.heap.size + 1) (by simp)
  have HB0 := Kept.mk hb0
  have C1 := Kept.mk c1
  have C2 := Kept.mk c2
  have HP := Kept.mk hp
  have HQ := Kept.mk hq
  have GP := Kept.mk gp
  have GQ := Kept.mk gq
  have HS := Kept.mk (show sameB F G = (decide (F.pages = G.pages) && decide (F.wear = G.wear) && (F.fuse == G.fuse) && (F.torn == G.torn) && (F.dead == G.dead)) from rfl)
  clear hp hq gp gq c1 c2 hb0 hbn
  unfold strC
  go_enter Try.func11, Try.ntmps11
  go_wp2_with fail
  refine (refTexts_any F.pages G.pages _ _ _ (stable_cells _ _ _ _ HP.out HB0.out) (stable_cells _ _ _ _ GP.out HB0.out) (by omega) (by omega)).mono ?_
  rintro e w1 ⟨rfl, hb1⟩
  obtain ⟨_, k0, k1, k2, k3, k4⟩ := C1.out.keep hb1 (by simp <;> omega)
  obtain ⟨_, j0, j1, j2, j3, j4⟩ := C2.out.keep hb1 (by simp <;> omega)
  unfold strC at k3 j3
  have hB := Kept.mk (HB0.out.trans (hb1.mono HB0.out.size))
  have hs1 := hb1.size
  have HB1 := Kept.mk hb1
  clear hb1
  cases d1 : decide (F.pages = G.pages) with
  | false =>
    go_wp2
    go_ret
    exact ⟨by rw [HS.out, d1]; rfl, hB.out⟩
  | true =>
    go_wp2_with fail
    refine (refInts_any F.wear G.wear _ _ _ (stable_cells _ _ _ _ HQ.out hB.out) (stable_cells _ _ _ _ GQ.out hB.out) (by omega) (by omega)).mono ?_
    rintro e w2 ⟨rfl, hb2⟩
    clear k0 k1 k2 k3 k4 j0 j1 j2 j3 j4
    obtain ⟨_, k0, k1, k2, k3, k4⟩ := (C1.out.keep HB1.out (by simp <;> omega)).keep hb2 (by simp at hs1 <;> omega)
    obtain ⟨_, j0, j1, j2, j3, j4⟩ := (C2.out.keep HB1.out (by simp <;> omega)).keep hb2 (by simp at hs1 <;> omega)
    unfold strC at k3 j3
    have hB2 := Kept.mk (hB.out.trans (hb2.mono hB.out.size))
    clear hb2
    cases d2 : decide (F.wear = G.wear) with
    | false =>
      go_wp2
      go_ret
      exact ⟨by rw [HS.out, d1, d2]; rfl, hB2.out⟩
    | true =>
      cases d3 : F.fuse == G.fuse with
      | false =>
        go_wp2
        go_ret
        exact ⟨by rw [HS.out, d1, d2, d3]; rfl, hB2.out⟩
      | true =>
        cases d4 : F.torn == G.torn with
        | false =>
          go_wp2
          go_ret
          exact ⟨by rw [HS.out, d1, d2, d3, d4]; rfl, hB2.out⟩
        | true =>
          go_wp2
          go_ret
          exact ⟨by rw [HS.out, d1, d2, d3, d4]; rfl, hB2.out⟩
end Go.Proofs.Ytdbohkbemjkcfaa
end
section
namespace Go.Proofs.Ytdbohkbemjkcfaa
open Go.RowKit Go.ChangeShapes Go.WideShapes
set_option linter.unusedVariables false
set_option linter.unusedSimpArgs false

theorem spot_none {w : World} {a : Addr} {v : Value} (h : w.cell? a = some v) : a = ⟨a.block, a.off, none⟩ := by
  obtain ⟨b, o, s⟩ := a
  cases s with
  | none => rfl
  | some s =>
    simp only [World.cell?] at h
    split at h <;> simp at h
theorem add_plain (b o i : Nat) : (⟨b, o, none⟩ : Addr).add i = ⟨b, o + i, none⟩ := by
  by_cases e : i = 0
  · subst e; simp [Addr.add]
  · simp [Addr.add, e]
/-- A row that came in. -/
theorem cells_came {w : World} {a : Addr} {len cap : Nat} (cs : List Value) (hl : cs.length = len) (hc : ∀ (i : Nat) (x : Value), cs[i]? = some x → w.cell? (a.add i) = some x) : isCells cs (.slice (some a) len cap) w := by
  cases cs with
  | nil => subst hl; exact .inr (.inl ⟨a, cap, rfl, rfl⟩)
  | cons x cs =>
    have h0 := hc 0 x rfl
    have e0 : a.add 0 = a := by simp [Addr.add]
    rw [e0] at h0
    have ha := spot_none h0
    rw [ha] at hc ⊢
    subst hl
    refine .inr (.inr ⟨a.block, a.off, cap, rfl, ?_, fun j y hy => ?_⟩)
    · simp only [World.cell?] at h0
      split at h0
      · rename_i h; exact (Array.getElem?_eq_some_iff.1 h).1
      · simp at h0
    · have := hc j y hy
      rwa [add_plain] at this

section
variable {W : World} {H : Type} {enc : TypeId × Value → H} {base : Nat} {spare : Nat → Bool} {held : Bool} {n : Nat}
theorem open_pages {v : Value} {y : DataW H × List MemPlace} (g : DataW.trod enc Try.prog W base spare held n 22 [v] = some y) :
    ∃ l : List (List UInt8), isCells (l.map strC) v W ∧ l.length ≤ maxLen ∧ (∀ s ∈ l, s.length ≤ maxLen) ∧ ((∀ m ∈ y.1.weights Try.prog 22, m ≤ reachBytes) → l.length * 16 ≤ reachBytes) := by
  have hby : Try.prog.bytesOf 9 = 16 := by kernel_rfl
  rcases open_strings Try.underlying22 Try.underlying9 (by kernel_rfl) g with ⟨hc, _⟩ | ⟨a, len, cap, ss, hc, _, hl, hm, hz, hx0, hcell, hs⟩
  · injection hc with hc _
    subst hc
    exact ⟨[], .inl ⟨rfl, rfl⟩, Nat.zero_le _, (fun s hs => by simp at hs), fun _ => Nat.zero_le _⟩
  · injection hc with hc _
    subst hc
    have hle : len ≤ ss.length := by rw [hz]; split <;> omega
    refine ⟨(ss.take len).map fun s => s.data.toList, cells_came _ (by simp; omega) (fun i x hx => ?_), by simp; omega, fun s h => ?_, fun hw => ?_⟩
    · have hi : i < len := by have := (List.getElem?_eq_some_iff.1 hx).1; simp at this; omega
      rw [hcell i (by omega)]
      rw [List.getElem?_map, List.getElem?_map, List.getElem?_take, if_pos hi, List.getElem?_eq_getElem (by omega : i < ss.length)] at hx
      simp only [Option.map_some, Option.some.injEq] at hx
      rw [← hx]
      have e : ss.getD i ByteArray.empty = ss[i]'(by omega) := by simp [List.getD_eq_getElem?_getD, show i < ss.length by omega]
      rw [e]
      show some (Value.string (ss[i]'(by omega))) = some (.string ⟨(ss[i]'(by omega)).data.toList.toArray⟩)
      rw [← str_eta]
    · obtain ⟨b, hb, rfl⟩ := List.mem_map.1 h
      have := hs b (List.mem_of_mem_take hb)
      simpa using this
    · subst hx0
      have := hw ((ss.take len).length * 16 + (ss.drop len).length * 16) (by simp only [DataW.weights, Try.underlying22, hby, strs, List.length_map]; rw [← Nat.add_mul]; exact List.mem_cons_self ..)
      simp only [List.length_map, List.length_take, List.length_drop] at this ⊢
      omega
theorem open_wear {v : Value} {y : DataW H × List MemPlace} (g : DataW.trod enc Try.prog W base spare held n 23 [v] = some y) :
    ∃ l : List Int, isCells (l.map intC) v W ∧ l.length ≤ maxLen ∧ (∀ x ∈ l, (Lit.int .i64 x).wf = true) ∧ ((∀ m ∈ y.1.weights Try.prog 23, m ≤ reachBytes) → l.length * 8 ≤ reachBytes) := by
  have hby : Try.prog.bytesOf 3 = 8 := by kernel_rfl
  rcases open_ints Try.underlying23 Try.underlying3 (by kernel_rfl) g with ⟨hc, _⟩ | ⟨a, len, cap, zs, hc, _, hl, hm, hz, hx0, hcell, hs⟩
  · injection hc with hc _
    subst hc
    exact ⟨[], .inl ⟨rfl, rfl⟩, Nat.zero_le _, (fun s hs => by simp at hs), fun _ => Nat.zero_le _⟩
  · injection hc with hc _
    subst hc
    have hle : len ≤ zs.length := by rw [hz]; split <;> omega
    refine ⟨zs.take len, cells_came _ (by simp; omega) (fun i x hx => ?_), by simp; omega, (fun s h => hs s (List.mem_of_mem_take h)), fun hw => ?_⟩
    case refine_2 =>
      subst hx0
      have := hw ((zs.take len).length * 8 + (zs.drop len).length * 8) (by simp only [DataW.weights, Try.underlying23, hby, lits, List.length_map]; rw [← Nat.add_mul]; exact List.mem_cons_self ..)
      simp only [List.length_take, List.length_drop] at this ⊢
      omega
    have hi : i < len := by have := (List.getElem?_eq_some_iff.1 hx).1; simp at this; omega
    rw [hcell i (by omega)]
    rw [List.getElem?_map, List.getElem?_take, if_pos hi, List.getElem?_eq_getElem (by omega : i < zs.length)] at hx
    simp only [Option.map_some, Option.some.injEq] at hx
    rw [← hx]
    simp [List.getD_eq_getElem?_getD, show i < zs.length by omega, intC]
end
theorem wf_i64 {x : Int} (h : (Lit.int .i64 x).wf = true) : -9223372036854775808 ≤ x ∧ x ≤ 9223372036854775807 := by
  unfold Lit.wf at h
  rw [Bool.and_eq_true] at h
  exact ⟨of_decide_eq_true h.1, of_decide_eq_true h.2⟩
/-- What a device that came in is. -/
structure Came (F : Fl) : Prop where
  fuse : (Lit.int .i64 F.fuse).wf = true
  torn : F.torn.length ≤ maxLen
  wear : ∀ x ∈ F.wear, (Lit.int .i64 x).wf = true
  pages : ∀ s ∈ F.pages, s.length ≤ maxLen
  nw : F.wear.length ≤ maxLen
  np : F.pages.length ≤ maxLen
set_option maxRecDepth 100000 in
theorem open_flash {W : World} {H : Type} {enc : TypeId × Value → H} {base b0 : Nat} {spare : Nat → Bool} {held : Bool} {v : Value} {d : DataW H} {p : List MemPlace} (hv : Value.okWide Try.prog W .any b0 25 v)
    (h : DataW.Trod enc Try.prog W base spare held 25 v d p) : ∃ F : Fl, isFl F v W ∧ Came F ∧ ((∀ m ∈ d.weights Try.prog 25, m ≤ reachBytes) → F.pages.length * 16 ≤ reachBytes ∧ F.wear.length * 8 ≤ reachBytes) := by
  obtain ⟨⟨l⟩, rfl, hsz⟩ := okWide_struct Try.underlying25 hv
  have hl : l.length = 5 := hsz.trans (by kernel_rfl)
  match l, hl with
  | [v0, v1, v2, v3, v4], _ =>
    obtain ⟨fuel, hf⟩ := h
    obtain ⟨xs, n, _, hxe, _, hxl, hg⟩ := DataW.trod_struct Try.underlying25 hf
    have at_ : ∀ i, i < 5 → ∃ y, xs[i]? = some y := fun i hi => ⟨_, List.getElem?_eq_getElem (by rw [hxl]; exact hi)⟩
    have c1 : Try.prog.cellsOf 22 = 1 := by kernel_rfl
    have c2 : Try.prog.cellsOf 23 = 1 := by kernel_rfl
    have c3 : Try.prog.cellsOf 3 = 1 := by kernel_rfl
    have c4 : Try.prog.cellsOf 9 = 1 := by kernel_rfl
    have c5 : Try.prog.cellsOf 4 = 1 := by kernel_rfl
    obtain ⟨y0, e0⟩ := at_ 0 (by decide)
    obtain ⟨y1, e1⟩ := at_ 1 (by decide)
    obtain ⟨y2, e2⟩ := at_ 2 (by decide)
    obtain ⟨y3, e3⟩ := at_ 3 (by decide)
    obtain ⟨y4, e4⟩ := at_ 4 (by decide)
    have g0 := hg 0 _ rfl
    have g1 := hg 1 _ rfl
    have g2 := hg 2 _ rfl
    have g3 := hg 3 _ rfl
    have g4 := hg 4 _ rfl
    simp only [Value.cells, c1, c2, c3, c4, c5, List.drop_zero, List.drop_succ_cons, List.take_succ_cons, List.take_zero] at g0 g1 g2 g3 g4
    rw [e0] at g0
    rw [e1] at g1
    rw [e2] at g2
    rw [e3] at g3
    rw [e4] at g4
    obtain ⟨pages, hp, hpn, hps, hpw⟩ := open_pages g0
    obtain ⟨wear, hw, hwn, hws, hww⟩ := open_wear g1
    obtain ⟨fuse, h2, _, hfu⟩ := DataW.trod_int Try.underlying3 g2
    obtain ⟨torn, h3, _, hto⟩ := DataW.trod_string Try.underlying9 g3
    obtain ⟨dead, h4, _⟩ := DataW.trod_bool Try.underlying4 g4
    injection h2 with h2 _
    injection h3 with h3 _
    injection h4 with h4 _
    subst h2 h3 h4
    refine ⟨⟨pages, wear, fuse, torn.data.toList, dead⟩, ⟨v0, v1, ?_, hp, hw⟩, ⟨hfu, by simpa using hto, hws, hps, hwn, hpn⟩, fun hall => ?_⟩
    case refine_2 =>
      injection hxe with hd _
      subst hd
      refine ⟨hpw fun m hm => hall m ?_, hww fun m hm => hall m ?_⟩
      · simp only [DataW.weights, Try.underlying25]
        exact DataW.weights_mem_each (j := 0) rfl (by rw [List.getElem?_map, e0]; rfl) m hm
      · simp only [DataW.weights, Try.underlying25]
        exact DataW.weights_mem_each (j := 1) rfl (by rw [List.getElem?_map, e1]; rfl) m hm
    show Value.agg #[v0, v1, .int .i64 fuse, .string torn, .bool dead] = .agg #[v0, v1, .int .i64 fuse, .string ⟨torn.data.toList.toArray⟩, .bool dead]
    rw [← str_eta]
end Go.Proofs.Ytdbohkbemjkcfaa
end
