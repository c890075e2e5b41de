/- Joined texts: contracts of the program's functions, and the mathematics that they lean on. -/
import Derived.Test.YtpjafjnokgeifaaGreatDoorPartC
section
namespace Go.Proofs.YtpjafjnokgeifaaGreatDoor
open Go.RowKit
set_option linter.unusedVariables false
set_option linter.unusedSimpArgs false
attribute [local irreducible] setN
theorem cand (s t : List UInt8) (w : World) (hs : s.length ≤ 1000000) (ht : t.length ≤ 1000000) : Calls Tryz.prog 113 #[.string ⟨s.toArray⟩, .string ⟨t.toArray⟩] w fun e w' => ∃ v, e = .returned v ∧ isVal (.string ⟨(pairL (· &&& ·) s t).toArray⟩) v w' ∧ Below w.heap.size w w' :=
  (refAnd_any ⟨s.toArray⟩ ⟨t.toArray⟩ w (by rw [size_mk]; exact hs) (by rw [size_mk]; exact ht)).mono (by
    rintro e w' ⟨rfl, hb⟩
    exact ⟨_, rfl, rfl, hb⟩)
noncomputable def rp9Ops : Array Oper := regionOf Tryz.f55 9
set_option maxRecDepth 100000 in
set_option maxHeartbeats 4000000 in
theorem rp9_region (Qq : Exit → Act → World → Prop) (a0 : Act) (w0 : World) (hsz : a0.tmps.size = 96) (F : Fl) (k : Nat) (was : List UInt8) (b off np cap b2 r : Nat) (vw : Value) (HX : Blk w0 b2 [.slice (some ⟨b, off, none⟩) np cap, vw, .int .i64 F.fuse, .string ⟨F.torn.toArray⟩, .bool F.dead]) (HR : Blk w0 r [.slice none 0 0, .slice none 0 0, .int .i64 0, .string ⟨#[]⟩, .bool false]) (hp : isCells (F.pages.map strC) (.slice (some ⟨b, off, none⟩) np cap) w0) (hq : isCells (F.wear.map intC) vw w0) (hoq : Off r (F.wear.map intC) vw) (hk : k < F.pages.length) (hpl : F.pages.length ≤ 6) (hcell : w0.cell? ⟨b, off + k, none⟩ = some (.string ⟨was.toArray⟩)) (hblt : b < w0.heap.size) (hkn : k < np) (hwl : was.length ≤ 8192) (e1 : a0.tmps.getD 1 undef = .int .i64 (k : Int)) (e2 : a0.tmps.getD 4 undef = .pointer (some ⟨b2, 0, none⟩)) (er : a0.tmps.getD 8 undef = .pointer (some ⟨r, 0, none⟩)) (d : List UInt8) (ed : a0.tmps.getD 12 undef = .string ⟨d.toArray⟩) (hdl : d.length ≤ 1000000)
    (hQ : ∀ (y : Nat → Value) (p q : Value) (w : World), isCells ((F.pages.set k (pairL (· &&& ·) was d)).map strC) p w → isCells (F.wear.map intC) q w → Off r ((F.pages.set k (pairL (· &&& ·) was d)).map strC) p → Off r (F.wear.map intC) q → Below w0.heap.size w0 w → Qq .normal { tmps := ([74, 75, 76, 77, 78, 79, 80, 81, 82, 83, 84, 9].foldl (fun t s => t.setIfInBounds s (y s)) a0.tmps).setIfInBounds 9 (.int .i64 8), defers := a0.defers } (setN w r 0 [p, q, .int .i64 (F.fuse), .string ⟨F.torn.toArray⟩, .bool true])) :
    (Code.region 9 rp9Ops true).wp Tryz.prog Qq a0 w0 := by
  refine wp_region_cov 11 mixed (by rw [hsz]; kernel_rfl) (by kernel_rfl) ?_
  rw [show rp9Ops.size - 11 = 2 by kernel_rfl]
  refine ⟨isVal (.agg #[.slice (some ⟨b, off, none⟩) np cap, vw, .int .i64 F.fuse, .string ⟨F.torn.toArray⟩, .bool F.dead]), step_loadN 25 (.tmp 4) (b2) [.slice (some ⟨b, off, none⟩) np cap, vw, .int .i64 F.fuse, .string ⟨F.torn.toArray⟩, .bool F.dead] (by kernel_rfl) (wanted_none (by kernel_rfl)) (knows_old 4 (.pointer (some ⟨b2, 0, none⟩)) (by kernel_rfl) e2) size_fl agg_fl HX.cells, ?_⟩
  refine ⟨isVal (.int .i64 (k : Int)), step_move (.tmp 1) (by kernel_rfl) (wanted_none (by kernel_rfl)) (stable_val _) (knows_old 1 (.int .i64 (k : Int)) (by kernel_rfl) e1), ?_⟩
  refine ⟨isVal (.pointer (some ⟨b2, 0, none⟩)), step_field 25 (.tmp 4) 0 ⟨b2, 0, none⟩ ⟨b2, 0, none⟩ (by kernel_rfl) (wanted_none (by kernel_rfl)) (knows_old 4 (.pointer (some ⟨b2, 0, none⟩)) (by kernel_rfl) e2) (field_fl b2 0 (by omega)), ?_⟩
  refine ⟨isVal (.slice (some ⟨b, off, none⟩) np cap), step_read 22 (.tmp 76) ⟨b2, 0, none⟩ (.slice (some ⟨b, off, none⟩) np cap) (by kernel_rfl) (wanted_none (by kernel_rfl)) (knows_new (V := isVal (.pointer (some ⟨b2, 0, none⟩))) 76 2 (by kernel_rfl) (by kernel_rfl) (by kernel_rfl)) (HX.cells.2 0 _ rfl) HX.lt agg_strs, ?_⟩
  refine ⟨isVal (.int .i64 (k : Int)), step_move (.tmp 1) (by kernel_rfl) (wanted_none (by kernel_rfl)) (stable_val _) (knows_old 1 (.int .i64 (k : Int)) (by kernel_rfl) e1), ?_⟩
  refine ⟨isVal (.pointer (some ⟨b, off + k, none⟩)), step_place 22 9 (.tmp 77) (.tmp 78) b off np cap k (by kernel_rfl) (wanted_none (by kernel_rfl)) (knows_new (V := isVal (.slice (some ⟨b, off, none⟩) np cap)) 77 3 (by kernel_rfl) (by kernel_rfl) (by kernel_rfl)) (knows_new (V := isVal (.int .i64 (k : Int))) 78 4 (by kernel_rfl) (by kernel_rfl) (by kernel_rfl)) Tryz.underlying22 (by kernel_rfl) hkn, ?_⟩
  refine ⟨isVal (.string ⟨was.toArray⟩), step_read 9 (.tmp 79) ⟨b, off + k, none⟩ (.string ⟨was.toArray⟩) (by kernel_rfl) (wanted_none (by kernel_rfl)) (knows_new (V := isVal (.pointer (some ⟨b, off + k, none⟩))) 79 5 (by kernel_rfl) (by kernel_rfl) (by kernel_rfl)) hcell hblt agg_str, ?_⟩
  refine ⟨isVal (.string ⟨d.toArray⟩), step_move (.tmp 12) (by kernel_rfl) (wanted_none (by kernel_rfl)) (stable_val _) (knows_old 12 (.string ⟨d.toArray⟩) (by kernel_rfl) ed), ?_⟩
  refine ⟨isVal (.string ⟨(pairL (· &&& ·) was d).toArray⟩), step_call 113 #[.tmp 80, .tmp 81] #[9, 9] #[.string ⟨was.toArray⟩, .string ⟨d.toArray⟩] (by kernel_rfl) (wanted_none (by kernel_rfl)) (stable_val _) (args2 (.tmp 80) (.tmp 81) (.string ⟨was.toArray⟩) (.string ⟨d.toArray⟩) (knows_new (V := isVal (.string ⟨was.toArray⟩)) 80 6 (by kernel_rfl) (by kernel_rfl) (by kernel_rfl)) (knows_new (V := isVal (.string ⟨d.toArray⟩)) 81 7 (by kernel_rfl) (by kernel_rfl) (by kernel_rfl))) (enters_of Tryz.func113 (by kernel_rfl) rfl) (by intro w hb; exact cand was d w (by omega) (by omega)), ?_⟩
  refine ⟨(isW r ((F.pages.set k (pairL (· &&& ·) was d)).map strC) (F.wear.map intC) (F.fuse) F.torn F.dead), step_call 112 #[.tmp 74, .tmp 75, .tmp 82] #[25, 3, 9] #[.agg #[.slice (some ⟨b, off, none⟩) np cap, vw, .int .i64 F.fuse, .string ⟨F.torn.toArray⟩, .bool F.dead], .int .i64 (k : Int), .string ⟨(pairL (· &&& ·) was d).toArray⟩] (by kernel_rfl) (wanted_none (by kernel_rfl)) (stable_W _ _ _ _ _ _) (args3 (.tmp 74) (.tmp 75) (.tmp 82) (.agg #[.slice (some ⟨b, off, none⟩) np cap, vw, .int .i64 F.fuse, .string ⟨F.torn.toArray⟩, .bool F.dead]) (.int .i64 (k : Int)) (.string ⟨(pairL (· &&& ·) was d).toArray⟩) (knows_new (V := isVal (.agg #[.slice (some ⟨b, off, none⟩) np cap, vw, .int .i64 F.fuse, .string ⟨F.torn.toArray⟩, .bool F.dead])) 74 0 (by kernel_rfl) (by kernel_rfl) (by kernel_rfl)) (knows_new (V := isVal (.int .i64 (k : Int))) 75 1 (by kernel_rfl) (by kernel_rfl) (by kernel_rfl)) (knows_new (V := isVal (.string ⟨(pairL (· &&& ·) was d).toArray⟩)) 82 8 (by kernel_rfl) (by kernel_rfl) (by kernel_rfl))) (enters_of Tryz.func112 (by kernel_rfl) rfl) (by intro w hb; exact cwith F k r (pairL (· &&& ·) was d) (.slice (some ⟨b, off, none⟩) np cap) vw w (stable_cells _ _ _ _ hp hb) (stable_cells _ _ _ _ hq hb) hk hpl hoq (Nat.lt_of_lt_of_le HR.lt hb.size)), ?_⟩
  refine ⟨(isW r ((F.pages.set k (pairL (· &&& ·) was d)).map strC) (F.wear.map intC) (F.fuse) F.torn true), step_callP 111 #[.tmp 83] #[25] (by kernel_rfl) (wanted_none (by kernel_rfl)) (stable_W _ _ _ _ _ _) (enters_of Tryz.func111 (by kernel_rfl) rfl) (_) (pre1 (knows_new (V := (isW r ((F.pages.set k (pairL (· &&& ·) was d)).map strC) (F.wear.map intC) (F.fuse) F.torn F.dead)) 83 9 (by kernel_rfl) (by kernel_rfl) (by kernel_rfl))) (fun vs w hb h => cdead F r _ _ vs w h), ?_⟩
  intro x w hkp hb hd
  obtain ⟨p, q, dv, hcp, hcq, ho1, ho2⟩ := fdone_of (hd 10 (by decide)) (t := 84) (V := (isW r ((F.pages.set k (pairL (· &&& ·) was d)).map strC) (F.wear.map intC) (F.fuse) F.torn true)) (by kernel_rfl) (by kernel_rfl)
  replace dv : x.eval (.tmp 84) = _ := dv
  have dr : x.eval (.tmp 8) = .pointer (some ⟨r, 0, none⟩) := (hkp.2.2 8 (by kernel_rfl)).trans er
  have hr2 := HR.keep hb
  refine tail_storeN 25 (.tmp 8) (.tmp 84) r [p, q, .int .i64 (F.fuse), .string ⟨F.torn.toArray⟩, .bool true] _ (by kernel_rfl) (by kernel_rfl) size_fl dr dv hr2.cells rfl hr2.free ⟨hcp.one, hcq.one, rfl, rfl, rfl, trivial⟩ ?_
  refine tail_assign (.const (.int .i64 8)) 9 _ (by kernel_rfl) (by kernel_rfl) rfl ?_
  obtain ⟨y, ey⟩ := kept_ex hkp [some 74, some 75, some 76, some 77, some 78, some 79, some 80, some 81, some 82, some 83, some 84, none, some 9] [74, 75, 76, 77, 78, 79, 80, 81, 82, 83, 84, 9] (by kernel_rfl) (by decide)
  exact put_kept ey (hQ y p q w hcp hcq ho1 ho2 hb)
noncomputable def rp10Ops : Array Oper := regionOf Tryz.f55 10
set_option maxRecDepth 100000 in
set_option maxHeartbeats 4000000 in
theorem rp10_region (Qq : Exit → Act → World → Prop) (a0 : Act) (w0 : World) (hsz : a0.tmps.size = 96) (F : Fl) (k : Nat) (was : List UInt8) (b off np cap b2 r : Nat) (vw : Value) (HX : Blk w0 b2 [.slice (some ⟨b, off, none⟩) np cap, vw, .int .i64 F.fuse, .string ⟨F.torn.toArray⟩, .bool F.dead]) (HR : Blk w0 r [.slice none 0 0, .slice none 0 0, .int .i64 0, .string ⟨#[]⟩, .bool false]) (hp : isCells (F.pages.map strC) (.slice (some ⟨b, off, none⟩) np cap) w0) (hq : isCells (F.wear.map intC) vw w0) (hoq : Off r (F.wear.map intC) vw) (hk : k < F.pages.length) (hpl : F.pages.length ≤ 6) (hcell : w0.cell? ⟨b, off + k, none⟩ = some (.string ⟨was.toArray⟩)) (hblt : b < w0.heap.size) (hkn : k < np) (hwl : was.length ≤ 8192) (e1 : a0.tmps.getD 1 undef = .int .i64 (k : Int)) (e2 : a0.tmps.getD 4 undef = .pointer (some ⟨b2, 0, none⟩)) (er : a0.tmps.getD 8 undef = .pointer (some ⟨r, 0, none⟩)) (d : List UInt8) (ed : a0.tmps.getD 11 undef = .string ⟨d.toArray⟩) (hdl : d.length ≤ 1000000) (hfz : F.fuse ≤ 9223372036854775807)
    (hQ : ∀ (y : Nat → Value) (p q : Value) (w : World), isCells ((F.pages.set k (pairL (· &&& ·) was d)).map strC) p w → isCells (F.wear.map intC) q w → Off r ((F.pages.set k (pairL (· &&& ·) was d)).map strC) p → Off r (F.wear.map intC) q → Below w0.heap.size w0 w → Qq .normal { tmps := ([85, 86, 87, 88, 89, 90, 91, 92, 93, 94, 95, 9].foldl (fun t s => t.setIfInBounds s (y s)) a0.tmps).setIfInBounds 9 (.int .i64 0), defers := a0.defers } (setN w r 0 [p, q, .int .i64 (lessN F.fuse), .string ⟨F.torn.toArray⟩, .bool F.dead])) :
    (Code.region 10 rp10Ops true).wp Tryz.prog Qq a0 w0 := by
  refine wp_region_cov 11 mixed (by rw [hsz]; kernel_rfl) (by kernel_rfl) ?_
  rw [show rp10Ops.size - 11 = 2 by kernel_rfl]
  refine ⟨isVal (.agg #[.slice (some ⟨b, off, none⟩) np cap, vw, .int .i64 F.fuse, .string ⟨F.torn.toArray⟩, .bool F.dead]), step_loadN 25 (.tmp 4) (b2) [.slice (some ⟨b, off, none⟩) np cap, vw, .int .i64 F.fuse, .string ⟨F.torn.toArray⟩, .bool F.dead] (by kernel_rfl) (wanted_none (by kernel_rfl)) (knows_old 4 (.pointer (some ⟨b2, 0, none⟩)) (by kernel_rfl) e2) size_fl agg_fl HX.cells, ?_⟩
  refine ⟨isVal (.int .i64 (k : Int)), step_move (.tmp 1) (by kernel_rfl) (wanted_none (by kernel_rfl)) (stable_val _) (knows_old 1 (.int .i64 (k : Int)) (by kernel_rfl) e1), ?_⟩
  refine ⟨isVal (.pointer (some ⟨b2, 0, none⟩)), step_field 25 (.tmp 4) 0 ⟨b2, 0, none⟩ ⟨b2, 0, none⟩ (by kernel_rfl) (wanted_none (by kernel_rfl)) (knows_old 4 (.pointer (some ⟨b2, 0, none⟩)) (by kernel_rfl) e2) (field_fl b2 0 (by omega)), ?_⟩
  refine ⟨isVal (.slice (some ⟨b, off, none⟩) np cap), step_read 22 (.tmp 87) ⟨b2, 0, none⟩ (.slice (some ⟨b, off, none⟩) np cap) (by kernel_rfl) (wanted_none (by kernel_rfl)) (knows_new (V := isVal (.pointer (some ⟨b2, 0, none⟩))) 87 2 (by kernel_rfl) (by kernel_rfl) (by kernel_rfl)) (HX.cells.2 0 _ rfl) HX.lt agg_strs, ?_⟩
  refine ⟨isVal (.int .i64 (k : Int)), step_move (.tmp 1) (by kernel_rfl) (wanted_none (by kernel_rfl)) (stable_val _) (knows_old 1 (.int .i64 (k : Int)) (by kernel_rfl) e1), ?_⟩
  refine ⟨isVal (.pointer (some ⟨b, off + k, none⟩)), step_place 22 9 (.tmp 88) (.tmp 89) b off np cap k (by kernel_rfl) (wanted_none (by kernel_rfl)) (knows_new (V := isVal (.slice (some ⟨b, off, none⟩) np cap)) 88 3 (by kernel_rfl) (by kernel_rfl) (by kernel_rfl)) (knows_new (V := isVal (.int .i64 (k : Int))) 89 4 (by kernel_rfl) (by kernel_rfl) (by kernel_rfl)) Tryz.underlying22 (by kernel_rfl) hkn, ?_⟩
  refine ⟨isVal (.string ⟨was.toArray⟩), step_read 9 (.tmp 90) ⟨b, off + k, none⟩ (.string ⟨was.toArray⟩) (by kernel_rfl) (wanted_none (by kernel_rfl)) (knows_new (V := isVal (.pointer (some ⟨b, off + k, none⟩))) 90 5 (by kernel_rfl) (by kernel_rfl) (by kernel_rfl)) hcell hblt agg_str, ?_⟩
  refine ⟨isVal (.string ⟨d.toArray⟩), step_move (.tmp 11) (by kernel_rfl) (wanted_none (by kernel_rfl)) (stable_val _) (knows_old 11 (.string ⟨d.toArray⟩) (by kernel_rfl) ed), ?_⟩
  refine ⟨isVal (.string ⟨(pairL (· &&& ·) was d).toArray⟩), step_call 113 #[.tmp 91, .tmp 92] #[9, 9] #[.string ⟨was.toArray⟩, .string ⟨d.toArray⟩] (by kernel_rfl) (wanted_none (by kernel_rfl)) (stable_val _) (args2 (.tmp 91) (.tmp 92) (.string ⟨was.toArray⟩) (.string ⟨d.toArray⟩) (knows_new (V := isVal (.string ⟨was.toArray⟩)) 91 6 (by kernel_rfl) (by kernel_rfl) (by kernel_rfl)) (knows_new (V := isVal (.string ⟨d.toArray⟩)) 92 7 (by kernel_rfl) (by kernel_rfl) (by kernel_rfl))) (enters_of Tryz.func113 (by kernel_rfl) rfl) (by intro w hb; exact cand was d w (by omega) (by omega)), ?_⟩
  refine ⟨(isW r ((F.pages.set k (pairL (· &&& ·) was d)).map strC) (F.wear.map intC) (F.fuse) F.torn F.dead), step_call 112 #[.tmp 85, .tmp 86, .tmp 93] #[25, 3, 9] #[.agg #[.slice (some ⟨b, off, none⟩) np cap, vw, .int .i64 F.fuse, .string ⟨F.torn.toArray⟩, .bool F.dead], .int .i64 (k : Int), .string ⟨(pairL (· &&& ·) was d).toArray⟩] (by kernel_rfl) (wanted_none (by kernel_rfl)) (stable_W _ _ _ _ _ _) (args3 (.tmp 85) (.tmp 86) (.tmp 93) (.agg #[.slice (some ⟨b, off, none⟩) np cap, vw, .int .i64 F.fuse, .string ⟨F.torn.toArray⟩, .bool F.dead]) (.int .i64 (k : Int)) (.string ⟨(pairL (· &&& ·) was d).toArray⟩) (knows_new (V := isVal (.agg #[.slice (some ⟨b, off, none⟩) np cap, vw, .int .i64 F.fuse, .string ⟨F.torn.toArray⟩, .bool F.dead])) 85 0 (by kernel_rfl) (by kernel_rfl) (by kernel_rfl)) (knows_new (V := isVal (.int .i64 (k : Int))) 86 1 (by kernel_rfl) (by kernel_rfl) (by kernel_rfl)) (knows_new (V := isVal (.string ⟨(pairL (· &&& ·) was d).toArray⟩)) 93 8 (by kernel_rfl) (by kernel_rfl) (by kernel_rfl))) (enters_of Tryz.func112 (by kernel_rfl) rfl) (by intro w hb; exact cwith F k r (pairL (· &&& ·) was d) (.slice (some ⟨b, off, none⟩) np cap) vw w (stable_cells _ _ _ _ hp hb) (stable_cells _ _ _ _ hq hb) hk hpl hoq (Nat.lt_of_lt_of_le HR.lt hb.size)), ?_⟩
  refine ⟨(isW r ((F.pages.set k (pairL (· &&& ·) was d)).map strC) (F.wear.map intC) (lessN F.fuse) F.torn F.dead), step_callP 114 #[.tmp 94] #[25] (by kernel_rfl) (wanted_none (by kernel_rfl)) (stable_W _ _ _ _ _ _) (enters_of Tryz.func114 (by kernel_rfl) rfl) (_) (pre1 (knows_new (V := (isW r ((F.pages.set k (pairL (· &&& ·) was d)).map strC) (F.wear.map intC) (F.fuse) F.torn F.dead)) 94 9 (by kernel_rfl) (by kernel_rfl) (by kernel_rfl))) (fun vs w hb h => cburnt F r _ _ hfz vs w h), ?_⟩
  intro x w hkp hb hd
  obtain ⟨p, q, dv, hcp, hcq, ho1, ho2⟩ := fdone_of (hd 10 (by decide)) (t := 95) (V := (isW r ((F.pages.set k (pairL (· &&& ·) was d)).map strC) (F.wear.map intC) (lessN F.fuse) F.torn F.dead)) (by kernel_rfl) (by kernel_rfl)
  replace dv : x.eval (.tmp 95) = _ := dv
  have dr : x.eval (.tmp 8) = .pointer (some ⟨r, 0, none⟩) := (hkp.2.2 8 (by kernel_rfl)).trans er
  have hr2 := HR.keep hb
  refine tail_storeN 25 (.tmp 8) (.tmp 95) r [p, q, .int .i64 (lessN F.fuse), .string ⟨F.torn.toArray⟩, .bool F.dead] _ (by kernel_rfl) (by kernel_rfl) size_fl dr dv hr2.cells rfl hr2.free ⟨hcp.one, hcq.one, rfl, rfl, rfl, trivial⟩ ?_
  refine tail_assign (.const (.int .i64 0)) 9 _ (by kernel_rfl) (by kernel_rfl) rfl ?_
  obtain ⟨y, ey⟩ := kept_ex hkp [some 85, some 86, some 87, some 88, some 89, some 90, some 91, some 92, some 93, some 94, some 95, none, some 9] [85, 86, 87, 88, 89, 90, 91, 92, 93, 94, 95, 9] (by kernel_rfl) (by decide)
  exact put_kept ey (hQ y p q w hcp hcq ho1 ho2 hb)
set_option maxRecDepth 100000 in
set_option maxHeartbeats 4000000 in
theorem rprog_no1 (F : Fl) (n : Int) (at_ : Int) (s : List UInt8) (v : Value) (w : World) (hv : isFl F v w) (hf : FewF F) (hs : s.length ≤ 1000000) (hm : hasB F n = false) :
    Calls Tryz.prog 55 #[v, .int .i64 n, .int .i64 at_, .string ⟨s.toArray⟩] w fun e w' => ∃ v', e = .returned (.tuple #[v', .int .i64 1]) ∧ isFl F v' w' ∧ Below w.heap.size w w' := by
  obtain ⟨vp, vw, rfl, hpp, hqq⟩ := hv
  have o1 := hpp.one
  have o2 := hqq.one
  have HP := Kept.mk hpp
  have HQ := Kept.mk hqq
  have hb0 := (lit_below w (.cells #[vp, vw, .int .i64 F.fuse, .string ⟨F.torn.toArray⟩, .bool F.dead] 25)).trans ((lit_below (w.alloc (.cells #[vp, vw, .int .i64 F.fuse, .string ⟨F.torn.toArray⟩, .bool F.dead] 25)) (.cells #[.slice none 0 0, .slice none 0 0, .int .i64 0, .string ⟨#[]⟩, .bool false] 25)).mono (lit_below w (.cells #[vp, vw, .int .i64 F.fuse, .string ⟨F.torn.toArray⟩, .bool F.dead] 25)).size)
  have HB := Kept.mk hb0
  have HX := Kept.mk ((Blk.new w 25 [vp, vw, .int .i64 F.fuse, .string ⟨F.torn.toArray⟩, .bool F.dead] w.heap.size rfl).alloc (.cells #[.slice none 0 0, .slice none 0 0, .int .i64 0, .string ⟨#[]⟩, .bool false] 25))
  have HR := Kept.mk (Blk.new (w.alloc (.cells #[vp, vw, .int .i64 F.fuse, .string ⟨F.torn.toArray⟩, .bool F.dead] 25)) 25 [.slice none 0 0, .slice none 0 0, .int .i64 0, .string ⟨#[]⟩, .bool false] (w.heap.size + 1) (by simp))
  have HV := Kept.mk (show isFl F (.agg #[vp, vw, .int .i64 F.fuse, .string ⟨F.torn.toArray⟩, .bool F.dead]) ((w.alloc (.cells #[vp, vw, .int .i64 F.fuse, .string ⟨F.torn.toArray⟩, .bool F.dead] 25)).alloc (.cells #[.slice none 0 0, .slice none 0 0, .int .i64 0, .string ⟨#[]⟩, .bool false] 25)) from ⟨vp, vw, rfl, stable_cells _ _ _ _ hpp hb0, stable_cells _ _ _ _ hqq hb0⟩)
  have hs0 : ((w.alloc (.cells #[vp, vw, .int .i64 F.fuse, .string ⟨F.torn.toArray⟩, .bool F.dead] 25)).alloc (.cells #[.slice none 0 0, .slice none 0 0, .int .i64 0, .string ⟨#[]⟩, .bool false] 25)).heap.size = w.heap.size + 2 := by simp
  clear hb0 hpp hqq
  show Calls Tryz.prog 55 #[.agg #[vp, vw, .int .i64 F.fuse, .string ⟨F.torn.toArray⟩, .bool F.dead], .int .i64 n, .int .i64 at_, .string ⟨s.toArray⟩] w _
  have HM := Kept.mk hm
  clear hm
  go_enter Tryz.func55, Tryz.ntmps55
  go_wp2_with fail
  generalize ((w.alloc (.cells #[vp, vw, .int .i64 F.fuse, .string ⟨F.torn.toArray⟩, .bool F.dead] 25)).alloc (.cells #[.slice none 0 0, .slice none 0 0, .int .i64 0, .string ⟨#[]⟩, .bool false] 25)) = W at *
  refine (rpage_any F n _ W HV.out hf).mono ?_
  rintro e W1 ⟨rfl, hb⟩
  rewrite [HM.out]
  have hs1 := hb.size
  replace HX := Kept.mk (HX.out.keep hb)
  replace HR := Kept.mk (HR.out.keep hb)
  replace HB := Kept.mk (HB.out.trans (hb.mono HB.out.size))
  clear hb
  have kx0 := HX.out.cells.2 0 _ rfl
  have kx1 := HX.out.cells.2 1 _ rfl
  have kx2 := HX.out.cells.2 2 _ rfl
  have kx3 := HX.out.cells.2 3 _ rfl
  have kx4 := HX.out.cells.2 4 _ rfl
  have fx0 := HX.out.free 0
  have fx1 := HX.out.free 1
  have fx2 := HX.out.free 2
  have fx3 := HX.out.free 3
  have fx4 := HX.out.free 4
  have HR2 := HR
  have HB2 := HB
  have K5 : Kept (Ones [vp, vw, .int .i64 F.fuse, .string ⟨F.torn.toArray⟩, .bool F.dead]) := ⟨⟨o1, o2, rfl, rfl, rfl, trivial⟩⟩
  go_wp2_with (have hz1 := K5; refine wpList_storeN 25 rfl (.tmp 8) (.tmp 44) rfl (w.heap.size + 1) [vp, vw, .int .i64 F.fuse, .string ⟨F.torn.toArray⟩, .bool F.dead] size_fl rfl rfl HR2.out.cells rfl HR2.out.free K5.out ?_; clear hz1 K5)
  have B := below_setN (show w.heap.size ≤ w.heap.size + 1 by omega) [vp, vw, .int .i64 F.fuse, .string ⟨F.torn.toArray⟩, .bool F.dead] 0 _ HB2.out
  exact bodyPost_ret (resultsN2 rfl _ _ (w.heap.size + 1) _ (.int .i64 1) size_fl agg_fl rfl rfl (HR2.out.all_ (l := [vp, vw, .int .i64 F.fuse, .string ⟨F.torn.toArray⟩, .bool F.dead]) rfl).cells) rfl ⟨_, rfl, ⟨vp, vw, rfl, stable_cells _ _ _ _ HP.out B, stable_cells _ _ _ _ HQ.out B⟩, B⟩
set_option maxRecDepth 100000 in
set_option maxHeartbeats 4000000 in
theorem rprog_no2 (F : Fl) (k : Nat) (at_ : Int) (s : List UInt8) (v : Value) (w : World) (hv : isFl F v w) (hf : FewF F) (hs : s.length ≤ 1000000) (hm : hasB F (k : Int) = true) (h0 : at_ < 0) :
    Calls Tryz.prog 55 #[v, .int .i64 (k : Int), .int .i64 at_, .string ⟨s.toArray⟩] w fun e w' => ∃ v', e = .returned (.tuple #[v', .int .i64 1]) ∧ isFl F v' w' ∧ Below w.heap.size w w' := by
  obtain ⟨vp, vw, rfl, hpp, hqq⟩ := hv
  have o1 := hpp.one
  have o2 := hqq.one
  have HP := Kept.mk hpp
  have HQ := Kept.mk hqq
  have hb0 := (lit_below w (.cells #[vp, vw, .int .i64 F.fuse, .string ⟨F.torn.toArray⟩, .bool F.dead] 25)).trans ((lit_below (w.alloc (.cells #[vp, vw, .int .i64 F.fuse, .string ⟨F.torn.toArray⟩, .bool F.dead] 25)) (.cells #[.slice none 0 0, .slice none 0 0, .int .i64 0, .string ⟨#[]⟩, .bool false] 25)).mono (lit_below w (.cells #[vp, vw, .int .i64 F.fuse, .string ⟨F.torn.toArray⟩, .bool F.dead] 25)).size)
  have HB := Kept.mk hb0
  have HX := Kept.mk ((Blk.new w 25 [vp, vw, .int .i64 F.fuse, .string ⟨F.torn.toArray⟩, .bool F.dead] w.heap.size rfl).alloc (.cells #[.slice none 0 0, .slice none 0 0, .int .i64 0, .string ⟨#[]⟩, .bool false] 25))
  have HR := Kept.mk (Blk.new (w.alloc (.cells #[vp, vw, .int .i64 F.fuse, .string ⟨F.torn.toArray⟩, .bool F.dead] 25)) 25 [.slice none 0 0, .slice none 0 0, .int .i64 0, .string ⟨#[]⟩, .bool false] (w.heap.size + 1) (by simp))
  have HV := Kept.mk (show isFl F (.agg #[vp, vw, .int .i64 F.fuse, .string ⟨F.torn.toArray⟩, .bool F.dead]) ((w.alloc (.cells #[vp, vw, .int .i64 F.fuse, .string ⟨F.torn.toArray⟩, .bool F.dead] 25)).alloc (.cells #[.slice none 0 0, .slice none 0 0, .int .i64 0, .string ⟨#[]⟩, .bool false] 25)) from ⟨vp, vw, rfl, stable_cells _ _ _ _ hpp hb0, stable_cells _ _ _ _ hqq hb0⟩)
  have hs0 : ((w.alloc (.cells #[vp, vw, .int .i64 F.fuse, .string ⟨F.torn.toArray⟩, .bool F.dead] 25)).alloc (.cells #[.slice none 0 0, .slice none 0 0, .int .i64 0, .string ⟨#[]⟩, .bool false] 25)).heap.size = w.heap.size + 2 := by simp
  clear hb0 hpp hqq
  show Calls Tryz.prog 55 #[.agg #[vp, vw, .int .i64 F.fuse, .string ⟨F.torn.toArray⟩, .bool F.dead], .int .i64 (k : Int), .int .i64 at_, .string ⟨s.toArray⟩] w _
  have HM := Kept.mk hm
  clear hm
  have d1 : decide (at_ < 0) = true := decide_eq_true h0
  go_enter Tryz.func55, Tryz.ntmps55
  go_wp2_with fail
  generalize ((w.alloc (.cells #[vp, vw, .int .i64 F.fuse, .string ⟨F.torn.toArray⟩, .bool F.dead] 25)).alloc (.cells #[.slice none 0 0, .slice none 0 0, .int .i64 0, .string ⟨#[]⟩, .bool false] 25)) = W at *
  refine (rpage_any F k _ W HV.out hf).mono ?_
  rintro e W1 ⟨rfl, hb⟩
  rewrite [HM.out]
  have hs1 := hb.size
  replace HX := Kept.mk (HX.out.keep hb)
  replace HR := Kept.mk (HR.out.keep hb)
  replace HB := Kept.mk (HB.out.trans (hb.mono HB.out.size))
  clear hb
  have kx0 := HX.out.cells.2 0 _ rfl
  have kx1 := HX.out.cells.2 1 _ rfl
  have kx2 := HX.out.cells.2 2 _ rfl
  have kx3 := HX.out.cells.2 3 _ rfl
  have kx4 := HX.out.cells.2 4 _ rfl
  have fx0 := HX.out.free 0
  have fx1 := HX.out.free 1
  have fx2 := HX.out.free 2
  have fx3 := HX.out.free 3
  have fx4 := HX.out.free 4
  have HR2 := HR
  have HB2 := HB
  have K5 : Kept (Ones [vp, vw, .int .i64 F.fuse, .string ⟨F.torn.toArray⟩, .bool F.dead]) := ⟨⟨o1, o2, rfl, rfl, rfl, trivial⟩⟩
  go_wp2_with (have hz1 := K5; refine wpList_storeN 25 rfl (.tmp 8) (.tmp 44) rfl (w.heap.size + 1) [vp, vw, .int .i64 F.fuse, .string ⟨F.torn.toArray⟩, .bool F.dead] size_fl rfl rfl HR2.out.cells rfl HR2.out.free K5.out ?_; clear hz1 K5)
  have B := below_setN (show w.heap.size ≤ w.heap.size + 1 by omega) [vp, vw, .int .i64 F.fuse, .string ⟨F.torn.toArray⟩, .bool F.dead] 0 _ HB2.out
  exact bodyPost_ret (resultsN2 rfl _ _ (w.heap.size + 1) _ (.int .i64 1) size_fl agg_fl rfl rfl (HR2.out.all_ (l := [vp, vw, .int .i64 F.fuse, .string ⟨F.torn.toArray⟩, .bool F.dead]) rfl).cells) rfl ⟨_, rfl, ⟨vp, vw, rfl, stable_cells _ _ _ _ HP.out B, stable_cells _ _ _ _ HQ.out B⟩, B⟩
set_option maxRecDepth 100000 in
set_option maxHeartbeats 4000000 in
theorem rprog_no3 (F : Fl) (k : Nat) (at_ : Int) (s : List UInt8) (v : Value) (w : World) (hv : isFl F v w) (hf : FewF F) (hs : s.length ≤ 1000000) (hm : hasB F (k : Int) = true) (h0 : ¬ at_ < 0) (h1 : ((F.pages.getD k []).length : Int) < at_) :
    Calls Tryz.prog 55 #[v, .int .i64 (k : Int), .int .i64 at_, .string ⟨s.toArray⟩] w fun e w' => ∃ v', e = .returned (.tuple #[v', .int .i64 1]) ∧ isFl F v' w' ∧ Below w.heap.size w w' := by
  have HHF := Kept.mk (has_facts F k hm)
  obtain ⟨hk, h6, hwl, htl, hpg, hwr⟩ := HHF.out
  obtain ⟨was, hwas⟩ : ∃ was, F.pages[k]? = some was := ⟨_, List.getElem?_eq_getElem hk⟩
  have hwm : was.length ≤ 8192 := (hpg _ (List.mem_of_getElem? hwas)).2.1
  have hget1 : F.pages.getD k [] = was := by simp [List.getD_eq_getElem?_getD, hwas]
  have HW0 := Kept.mk (show was.length = (F.pages[0]'(by omega)).length by
    rw [(hpg _ (List.mem_of_getElem? hwas)).2.2, (hpg _ (List.getElem_mem (show 0 < F.pages.length by omega))).2.2])
  have HWAS := Kept.mk hwas
  rw [hget1] at h1
  have HWR := Kept.mk hwr
  have HM := Kept.mk hm
  clear hpg hwr hwas hget1 hm
  obtain ⟨vp, vw, rfl, hpp, hqq⟩ := hv
  have o1 := hpp.one
  have o2 := hqq.one
  obtain ⟨b, off, cap, hvp, hb, hc⟩ := hpp.some_ (by rw [List.length_map]; omega)
  rw [List.length_map] at hvp
  subst hvp
  have HC := Kept.mk (show w.cell? ⟨b, off + k, none⟩ = some (.string ⟨was.toArray⟩) from hc k _ (by simp [HWAS.out, strC]))
  clear hc
  have HP := Kept.mk hpp
  have HQ := Kept.mk hqq
  have hb0 := (lit_below w (.cells #[.slice (some ⟨b, off, none⟩) F.pages.length cap, vw, .int .i64 F.fuse, .string ⟨F.torn.toArray⟩, .bool F.dead] 25)).trans ((lit_below (w.alloc (.cells #[.slice (some ⟨b, off, none⟩) F.pages.length cap, vw, .int .i64 F.fuse, .string ⟨F.torn.toArray⟩, .bool F.dead] 25)) (.cells #[.slice none 0 0, .slice none 0 0, .int .i64 0, .string ⟨#[]⟩, .bool false] 25)).mono (lit_below w (.cells #[.slice (some ⟨b, off, none⟩) F.pages.length cap, vw, .int .i64 F.fuse, .string ⟨F.torn.toArray⟩, .bool F.dead] 25)).size)
  have HB := Kept.mk hb0
  have HX := Kept.mk ((Blk.new w 25 [.slice (some ⟨b, off, none⟩) F.pages.length cap, vw, .int .i64 F.fuse, .string ⟨F.torn.toArray⟩, .bool F.dead] w.heap.size rfl).alloc (.cells #[.slice none 0 0, .slice none 0 0, .int .i64 0, .string ⟨#[]⟩, .bool false] 25))
  have HR := Kept.mk (Blk.new (w.alloc (.cells #[.slice (some ⟨b, off, none⟩) F.pages.length cap, vw, .int .i64 F.fuse, .string ⟨F.torn.toArray⟩, .bool F.dead] 25)) 25 [.slice none 0 0, .slice none 0 0, .int .i64 0, .string ⟨#[]⟩, .bool false] (w.heap.size + 1) (by simp))
  have HV := Kept.mk (show isFl F (.agg #[.slice (some ⟨b, off, none⟩) F.pages.length cap, vw, .int .i64 F.fuse, .string ⟨F.torn.toArray⟩, .bool F.dead]) ((w.alloc (.cells #[.slice (some ⟨b, off, none⟩) F.pages.length cap, vw, .int .i64 F.fuse, .string ⟨F.torn.toArray⟩, .bool F.dead] 25)).alloc (.cells #[.slice none 0 0, .slice none 0 0, .int .i64 0, .string ⟨#[]⟩, .bool false] 25)) from ⟨.slice (some ⟨b, off, none⟩) F.pages.length cap, vw, rfl, stable_cells _ _ _ _ hpp hb0, stable_cells _ _ _ _ hqq hb0⟩)
  have hs0 : ((w.alloc (.cells #[.slice (some ⟨b, off, none⟩) F.pages.length cap, vw, .int .i64 F.fuse, .string ⟨F.torn.toArray⟩, .bool F.dead] 25)).alloc (.cells #[.slice none 0 0, .slice none 0 0, .int .i64 0, .string ⟨#[]⟩, .bool false] 25)).heap.size = w.heap.size + 2 := by simp
  clear hb0 hpp hqq
  show Calls Tryz.prog 55 #[.agg #[.slice (some ⟨b, off, none⟩) F.pages.length cap, vw, .int .i64 F.fuse, .string ⟨F.torn.toArray⟩, .bool F.dead], .int .i64 (k : Int), .int .i64 at_, .string ⟨s.toArray⟩] w _
  have hsz : (⟨was.toArray⟩ : ByteArray).size = was.length := size_mk was
  have hss : (⟨s.toArray⟩ : ByteArray).size = s.length := size_mk s
  have d1 : decide (at_ < 0) = false := decide_eq_false h0
  have d2 : decide ((was.length : Int) < at_) = true := decide_eq_true h1
  go_enter Tryz.func55, Tryz.ntmps55
  go_wp2_with fail
  generalize ((w.alloc (.cells #[.slice (some ⟨b, off, none⟩) F.pages.length cap, vw, .int .i64 F.fuse, .string ⟨F.torn.toArray⟩, .bool F.dead] 25)).alloc (.cells #[.slice none 0 0, .slice none 0 0, .int .i64 0, .string ⟨#[]⟩, .bool false] 25)) = W at *
  refine (rpage_any F k _ W HV.out hf).mono ?_
  rintro e W1 ⟨rfl, hb⟩
  rewrite [HM.out]
  have hs1 := hb.size
  replace HX := Kept.mk (HX.out.keep hb)
  replace HR := Kept.mk (HR.out.keep hb)
  replace HB := Kept.mk (HB.out.trans (hb.mono HB.out.size))
  clear hb
  have kx0 := HX.out.cells.2 0 _ rfl
  have kx1 := HX.out.cells.2 1 _ rfl
  have kx2 := HX.out.cells.2 2 _ rfl
  have kx3 := HX.out.cells.2 3 _ rfl
  have kx4 := HX.out.cells.2 4 _ rfl
  have fx0 := HX.out.free 0
  have fx1 := HX.out.free 1
  have fx2 := HX.out.free 2
  have fx3 := HX.out.free 3
  have fx4 := HX.out.free 4
  have kc := (HB.out.cell (p := ⟨b, off + k, none⟩) hb).trans HC.out
  have HR2 := HR
  have HB2 := HB
  have K5 : Kept (Ones [.slice (some ⟨b, off, none⟩) F.pages.length cap, vw, .int .i64 F.fuse, .string ⟨F.torn.toArray⟩, .bool F.dead]) := ⟨⟨o1, o2, rfl, rfl, rfl, trivial⟩⟩
  go_wp2_with (have hz1 := K5; refine wpList_storeN 25 rfl (.tmp 8) (.tmp 44) rfl (w.heap.size + 1) [.slice (some ⟨b, off, none⟩) F.pages.length cap, vw, .int .i64 F.fuse, .string ⟨F.torn.toArray⟩, .bool F.dead] size_fl rfl rfl HR2.out.cells rfl HR2.out.free K5.out ?_; clear hz1 K5)
  have B := below_setN (show w.heap.size ≤ w.heap.size + 1 by omega) [.slice (some ⟨b, off, none⟩) F.pages.length cap, vw, .int .i64 F.fuse, .string ⟨F.torn.toArray⟩, .bool F.dead] 0 _ HB2.out
  exact bodyPost_ret (resultsN2 rfl _ _ (w.heap.size + 1) _ (.int .i64 1) size_fl agg_fl rfl rfl (HR2.out.all_ (l := [.slice (some ⟨b, off, none⟩) F.pages.length cap, vw, .int .i64 F.fuse, .string ⟨F.torn.toArray⟩, .bool F.dead]) rfl).cells) rfl ⟨_, rfl, ⟨.slice (some ⟨b, off, none⟩) F.pages.length cap, vw, rfl, stable_cells _ _ _ _ HP.out B, stable_cells _ _ _ _ HQ.out B⟩, B⟩
set_option maxRecDepth 100000 in
set_option maxHeartbeats 4000000 in
theorem rprog_no4 (F : Fl) (k : Nat) (at_ : Int) (s : List UInt8) (v : Value) (w : World) (hv : isFl F v w) (hf : FewF F) (hs : s.length ≤ 1000000) (hm : hasB F (k : Int) = true) (h0 : ¬ at_ < 0) (h1 : at_ ≤ ((F.pages.getD k []).length : Int)) (h2 : ((F.pages.getD k []).length : Int) - at_ < (s.length : Int)) :
    Calls Tryz.prog 55 #[v, .int .i64 (k : Int), .int .i64 at_, .string ⟨s.toArray⟩] w fun e w' => ∃ v', e = .returned (.tuple #[v', .int .i64 1]) ∧ isFl F v' w' ∧ Below w.heap.size w w' := by
  have HHF := Kept.mk (has_facts F k hm)
  obtain ⟨hk, h6, hwl, htl, hpg, hwr⟩ := HHF.out
  obtain ⟨was, hwas⟩ : ∃ was, F.pages[k]? = some was := ⟨_, List.getElem?_eq_getElem hk⟩
  have hwm : was.length ≤ 8192 := (hpg _ (List.mem_of_getElem? hwas)).2.1
  have hget1 : F.pages.getD k [] = was := by simp [List.getD_eq_getElem?_getD, hwas]
  have HW0 := Kept.mk (show was.length = (F.pages[0]'(by omega)).length by
    rw [(hpg _ (List.mem_of_getElem? hwas)).2.2, (hpg _ (List.getElem_mem (show 0 < F.pages.length by omega))).2.2])
  have HWAS := Kept.mk hwas
  rw [hget1] at h1 h2
  have HWR := Kept.mk hwr
  have HM := Kept.mk hm
  clear hpg hwr hwas hget1 hm
  obtain ⟨vp, vw, rfl, hpp, hqq⟩ := hv
  have o1 := hpp.one
  have o2 := hqq.one
  obtain ⟨b, off, cap, hvp, hb, hc⟩ := hpp.some_ (by rw [List.length_map]; omega)
  rw [List.length_map] at hvp
  subst hvp
  have HC := Kept.mk (show w.cell? ⟨b, off + k, none⟩ = some (.string ⟨was.toArray⟩) from hc k _ (by simp [HWAS.out, strC]))
  clear hc
  have HP := Kept.mk hpp
  have HQ := Kept.mk hqq
  have hb0 := (lit_below w (.cells #[.slice (some ⟨b, off, none⟩) F.pages.length cap, vw, .int .i64 F.fuse, .string ⟨F.torn.toArray⟩, .bool F.dead] 25)).trans ((lit_below (w.alloc (.cells #[.slice (some ⟨b, off, none⟩) F.pages.length cap, vw, .int .i64 F.fuse, .string ⟨F.torn.toArray⟩, .bool F.dead] 25)) (.cells #[.slice none 0 0, .slice none 0 0, .int .i64 0, .string ⟨#[]⟩, .bool false] 25)).mono (lit_below w (.cells #[.slice (some ⟨b, off, none⟩) F.pages.length cap, vw, .int .i64 F.fuse, .string ⟨F.torn.toArray⟩, .bool F.dead] 25)).size)
  have HB := Kept.mk hb0
  have HX := Kept.mk ((Blk.new w 25 [.slice (some ⟨b, off, none⟩) F.pages.length cap, vw, .int .i64 F.fuse, .string ⟨F.torn.toArray⟩, .bool F.dead] w.heap.size rfl).alloc (.cells #[.slice none 0 0, .slice none 0 0, .int .i64 0, .string ⟨#[]⟩, .bool false] 25))
  have HR := Kept.mk (Blk.new (w.alloc (.cells #[.slice (some ⟨b, off, none⟩) F.pages.length cap, vw, .int .i64 F.fuse, .string ⟨F.torn.toArray⟩, .bool F.dead] 25)) 25 [.slice none 0 0, .slice none 0 0, .int .i64 0, .string ⟨#[]⟩, .bool false] (w.heap.size + 1) (by simp))
  have HV := Kept.mk (show isFl F (.agg #[.slice (some ⟨b, off, none⟩) F.pages.length cap, vw, .int .i64 F.fuse, .string ⟨F.torn.toArray⟩, .bool F.dead]) ((w.alloc (.cells #[.slice (some ⟨b, off, none⟩) F.pages.length cap, vw, .int .i64 F.fuse, .string ⟨F.torn.toArray⟩, .bool F.dead] 25)).alloc (.cells #[.slice none 0 0, .slice none 0 0, .int .i64 0, .string ⟨#[]⟩, .bool false] 25)) from ⟨.slice (some ⟨b, off, none⟩) F.pages.length cap, vw, rfl, stable_cells _ _ _ _ hpp hb0, stable_cells _ _ _ _ hqq hb0⟩)
  have hs0 : ((w.alloc (.cells #[.slice (some ⟨b, off, none⟩) F.pages.length cap, vw, .int .i64 F.fuse, .string ⟨F.torn.toArray⟩, .bool F.dead] 25)).alloc (.cells #[.slice none 0 0, .slice none 0 0, .int .i64 0, .string ⟨#[]⟩, .bool false] 25)).heap.size = w.heap.size + 2 := by simp
  clear hb0 hpp hqq
  show Calls Tryz.prog 55 #[.agg #[.slice (some ⟨b, off, none⟩) F.pages.length cap, vw, .int .i64 F.fuse, .string ⟨F.torn.toArray⟩, .bool F.dead], .int .i64 (k : Int), .int .i64 at_, .string ⟨s.toArray⟩] w _
  have hsz : (⟨was.toArray⟩ : ByteArray).size = was.length := size_mk was
  have hss : (⟨s.toArray⟩ : ByteArray).size = s.length := size_mk s
  have d1 : decide (at_ < 0) = false := decide_eq_false h0
  have d2 : decide ((was.length : Int) < at_) = false := decide_eq_false (by omega)
  have d3 : decide ((was.length : Int) - at_ < (s.length : Int)) = true := decide_eq_true h2
  go_enter Tryz.func55, Tryz.ntmps55
  go_wp2_with fail
  generalize ((w.alloc (.cells #[.slice (some ⟨b, off, none⟩) F.pages.length cap, vw, .int .i64 F.fuse, .string ⟨F.torn.toArray⟩, .bool F.dead] 25)).alloc (.cells #[.slice none 0 0, .slice none 0 0, .int .i64 0, .string ⟨#[]⟩, .bool false] 25)) = W at *
  refine (rpage_any F k _ W HV.out hf).mono ?_
  rintro e W1 ⟨rfl, hb⟩
  rewrite [HM.out]
  have hs1 := hb.size
  replace HX := Kept.mk (HX.out.keep hb)
  replace HR := Kept.mk (HR.out.keep hb)
  replace HB := Kept.mk (HB.out.trans (hb.mono HB.out.size))
  clear hb
  have kx0 := HX.out.cells.2 0 _ rfl
  have kx1 := HX.out.cells.2 1 _ rfl
  have kx2 := HX.out.cells.2 2 _ rfl
  have kx3 := HX.out.cells.2 3 _ rfl
  have kx4 := HX.out.cells.2 4 _ rfl
  have fx0 := HX.out.free 0
  have fx1 := HX.out.free 1
  have fx2 := HX.out.free 2
  have fx3 := HX.out.free 3
  have fx4 := HX.out.free 4
  have kc := (HB.out.cell (p := ⟨b, off + k, none⟩) hb).trans HC.out
  have HR2 := HR
  have HB2 := HB
  have K5 : Kept (Ones [.slice (some ⟨b, off, none⟩) F.pages.length cap, vw, .int .i64 F.fuse, .string ⟨F.torn.toArray⟩, .bool F.dead]) := ⟨⟨o1, o2, rfl, rfl, rfl, trivial⟩⟩
  go_wp2_with (have hz1 := K5; refine wpList_storeN 25 rfl (.tmp 8) (.tmp 44) rfl (w.heap.size + 1) [.slice (some ⟨b, off, none⟩) F.pages.length cap, vw, .int .i64 F.fuse, .string ⟨F.torn.toArray⟩, .bool F.dead] size_fl rfl rfl HR2.out.cells rfl HR2.out.free K5.out ?_; clear hz1 K5)
  have B := below_setN (show w.heap.size ≤ w.heap.size + 1 by omega) [.slice (some ⟨b, off, none⟩) F.pages.length cap, vw, .int .i64 F.fuse, .string ⟨F.torn.toArray⟩, .bool F.dead] 0 _ HB2.out
  exact bodyPost_ret (resultsN2 rfl _ _ (w.heap.size + 1) _ (.int .i64 1) size_fl agg_fl rfl rfl (HR2.out.all_ (l := [.slice (some ⟨b, off, none⟩) F.pages.length cap, vw, .int .i64 F.fuse, .string ⟨F.torn.toArray⟩, .bool F.dead]) rfl).cells) rfl ⟨_, rfl, ⟨.slice (some ⟨b, off, none⟩) F.pages.length cap, vw, rfl, stable_cells _ _ _ _ HP.out B, stable_cells _ _ _ _ HQ.out B⟩, B⟩
set_option maxRecDepth 100000 in
set_option maxHeartbeats 4000000 in
theorem rprog_no5 (F : Fl) (k : Nat) (m : Nat) (s : List UInt8) (v : Value) (w : World) (hv : isFl F v w) (hf : FewF F) (hs : s.length ≤ 1000000) (hm : hasB F (k : Int) = true) (h2 : m + s.length ≤ (F.pages.getD k []).length) (hd : F.dead = true) :
    Calls Tryz.prog 55 #[v, .int .i64 (k : Int), .int .i64 (m : Int), .string ⟨s.toArray⟩] w fun e w' => ∃ v', e = .returned (.tuple #[v', .int .i64 8]) ∧ isFl F v' w' ∧ Below w.heap.size w w' := by
  have HHF := Kept.mk (has_facts F k hm)
  obtain ⟨hk, h6, hwl, htl, hpg, hwr⟩ := HHF.out
  obtain ⟨was, hwas⟩ : ∃ was, F.pages[k]? = some was := ⟨_, List.getElem?_eq_getElem hk⟩
  have hwm : was.length ≤ 8192 := (hpg _ (List.mem_of_getElem? hwas)).2.1
  have hget1 : F.pages.getD k [] = was := by simp [List.getD_eq_getElem?_getD, hwas]
  have HW0 := Kept.mk (show was.length = (F.pages[0]'(by omega)).length by
    rw [(hpg _ (List.mem_of_getElem? hwas)).2.2, (hpg _ (List.getElem_mem (show 0 < F.pages.length by omega))).2.2])
  have HWAS := Kept.mk hwas
  rw [hget1] at h2
  have HWR := Kept.mk hwr
  have HM := Kept.mk hm
  clear hpg hwr hwas hget1 hm
  obtain ⟨vp, vw, rfl, hpp, hqq⟩ := hv
  have o1 := hpp.one
  have o2 := hqq.one
  obtain ⟨b, off, cap, hvp, hb, hc⟩ := hpp.some_ (by rw [List.length_map]; omega)
  rw [List.length_map] at hvp
  subst hvp
  have HC := Kept.mk (show w.cell? ⟨b, off + k, none⟩ = some (.string ⟨was.toArray⟩) from hc k _ (by simp [HWAS.out, strC]))
  clear hc
  have HP := Kept.mk hpp
  have HQ := Kept.mk hqq
  have hb0 := (lit_below w (.cells #[.slice (some ⟨b, off, none⟩) F.pages.length cap, vw, .int .i64 F.fuse, .string ⟨F.torn.toArray⟩, .bool F.dead] 25)).trans ((lit_below (w.alloc (.cells #[.slice (some ⟨b, off, none⟩) F.pages.length cap, vw, .int .i64 F.fuse, .string ⟨F.torn.toArray⟩, .bool F.dead] 25)) (.cells #[.slice none 0 0, .slice none 0 0, .int .i64 0, .string ⟨#[]⟩, .bool false] 25)).mono (lit_below w (.cells #[.slice (some ⟨b, off, none⟩) F.pages.length cap, vw, .int .i64 F.fuse, .string ⟨F.torn.toArray⟩, .bool F.dead] 25)).size)
  have HB := Kept.mk hb0
  have HX := Kept.mk ((Blk.new w 25 [.slice (some ⟨b, off, none⟩) F.pages.length cap, vw, .int .i64 F.fuse, .string ⟨F.torn.toArray⟩, .bool F.dead] w.heap.size rfl).alloc (.cells #[.slice none 0 0, .slice none 0 0, .int .i64 0, .string ⟨#[]⟩, .bool false] 25))
  have HR := Kept.mk (Blk.new (w.alloc (.cells #[.slice (some ⟨b, off, none⟩) F.pages.length cap, vw, .int .i64 F.fuse, .string ⟨F.torn.toArray⟩, .bool F.dead] 25)) 25 [.slice none 0 0, .slice none 0 0, .int .i64 0, .string ⟨#[]⟩, .bool false] (w.heap.size + 1) (by simp))
  have HV := Kept.mk (show isFl F (.agg #[.slice (some ⟨b, off, none⟩) F.pages.length cap, vw, .int .i64 F.fuse, .string ⟨F.torn.toArray⟩, .bool F.dead]) ((w.alloc (.cells #[.slice (some ⟨b, off, none⟩) F.pages.length cap, vw, .int .i64 F.fuse, .string ⟨F.torn.toArray⟩, .bool F.dead] 25)).alloc (.cells #[.slice none 0 0, .slice none 0 0, .int .i64 0, .string ⟨#[]⟩, .bool false] 25)) from ⟨.slice (some ⟨b, off, none⟩) F.pages.length cap, vw, rfl, stable_cells _ _ _ _ hpp hb0, stable_cells _ _ _ _ hqq hb0⟩)
  have hs0 : ((w.alloc (.cells #[.slice (some ⟨b, off, none⟩) F.pages.length cap, vw, .int .i64 F.fuse, .string ⟨F.torn.toArray⟩, .bool F.dead] 25)).alloc (.cells #[.slice none 0 0, .slice none 0 0, .int .i64 0, .string ⟨#[]⟩, .bool false] 25)).heap.size = w.heap.size + 2 := by simp
  clear hb0 hpp hqq
  show Calls Tryz.prog 55 #[.agg #[.slice (some ⟨b, off, none⟩) F.pages.length cap, vw, .int .i64 F.fuse, .string ⟨F.torn.toArray⟩, .bool F.dead], .int .i64 (k : Int), .int .i64 (m : Int), .string ⟨s.toArray⟩] w _
  have hsz : (⟨was.toArray⟩ : ByteArray).size = was.length := size_mk was
  have hss : (⟨s.toArray⟩ : ByteArray).size = s.length := size_mk s
  have d1 : decide ((m : Int) < 0) = false := decide_eq_false (by omega)
  have d2 : decide ((was.length : Int) < (m : Int)) = false := decide_eq_false (by omega)
  have d3 : decide ((was.length : Int) - (m : Int) < (s.length : Int)) = false := decide_eq_false (by omega)
  have HD := Kept.mk hd
  clear hd
  go_enter Tryz.func55, Tryz.ntmps55
  go_wp2_with fail
  generalize ((w.alloc (.cells #[.slice (some ⟨b, off, none⟩) F.pages.length cap, vw, .int .i64 F.fuse, .string ⟨F.torn.toArray⟩, .bool F.dead] 25)).alloc (.cells #[.slice none 0 0, .slice none 0 0, .int .i64 0, .string ⟨#[]⟩, .bool false] 25)) = W at *
  refine (rpage_any F k _ W HV.out hf).mono ?_
  rintro e W1 ⟨rfl, hb⟩
  rewrite [HM.out]
  have hs1 := hb.size
  replace HX := Kept.mk (HX.out.keep hb)
  replace HR := Kept.mk (HR.out.keep hb)
  replace HB := Kept.mk (HB.out.trans (hb.mono HB.out.size))
  clear hb
  have kx0 := HX.out.cells.2 0 _ rfl
  have kx1 := HX.out.cells.2 1 _ rfl
  have kx2 := HX.out.cells.2 2 _ rfl
  have kx3 := HX.out.cells.2 3 _ rfl
  have kx4 := HX.out.cells.2 4 _ rfl
  have fx0 := HX.out.free 0
  have fx1 := HX.out.free 1
  have fx2 := HX.out.free 2
  have fx3 := HX.out.free 3
  have fx4 := HX.out.free 4
  have kc := (HB.out.cell (p := ⟨b, off + k, none⟩) hb).trans HC.out
  rw [HD.out] at kx4
  have HR2 := HR
  have HB2 := HB
  have K5 : Kept (Ones [.slice (some ⟨b, off, none⟩) F.pages.length cap, vw, .int .i64 F.fuse, .string ⟨F.torn.toArray⟩, .bool true]) := ⟨⟨o1, o2, rfl, rfl, rfl, trivial⟩⟩
  go_wp2_with (have hz1 := K5; refine wpList_storeN 25 rfl (.tmp 8) (.tmp 47) rfl (w.heap.size + 1) [.slice (some ⟨b, off, none⟩) F.pages.length cap, vw, .int .i64 F.fuse, .string ⟨F.torn.toArray⟩, .bool true] size_fl rfl rfl HR2.out.cells rfl HR2.out.free K5.out ?_; clear hz1 K5)
  have B := below_setN (show w.heap.size ≤ w.heap.size + 1 by omega) [.slice (some ⟨b, off, none⟩) F.pages.length cap, vw, .int .i64 F.fuse, .string ⟨F.torn.toArray⟩, .bool true] 0 _ HB2.out
  exact bodyPost_ret (resultsN2 rfl _ _ (w.heap.size + 1) _ (.int .i64 8) size_fl agg_fl rfl rfl (HR2.out.all_ (l := [.slice (some ⟨b, off, none⟩) F.pages.length cap, vw, .int .i64 F.fuse, .string ⟨F.torn.toArray⟩, .bool true]) rfl).cells) rfl ⟨_, rfl, ⟨.slice (some ⟨b, off, none⟩) F.pages.length cap, vw, by rw [HD.out]; rfl, stable_cells _ _ _ _ HP.out B, stable_cells _ _ _ _ HQ.out B⟩, B⟩
end Go.Proofs.YtpjafjnokgeifaaGreatDoor
end
section
namespace Go.Proofs.YtpjafjnokgeifaaGreatDoor
open Go.RowKit
set_option linter.unusedVariables false
set_option linter.unusedSimpArgs false
attribute [local irreducible] setN
theorem cnot (s : List UInt8) (w : World) (hs : s.length ≤ 100000) : Calls Tryz.prog 109 #[.string ⟨s.toArray⟩] w fun e w' => ∃ v, e = .returned v ∧ isVal (.string ⟨(notL s).toArray⟩) v w' ∧ Below w.heap.size w w' :=
  (refNot_any ⟨s.toArray⟩ w (by rw [size_mk]; exact hs)).mono (by
    rintro e w' ⟨rfl, hb⟩
    exact ⟨_, rfl, rfl, hb⟩)
theorem ones_nat (n : Nat) (hn : n ≤ 100000) : onesL (n : Int) = List.replicate n 255 := by
  unfold onesL
  by_cases h : 0 < n
  · rw [if_pos (by omega), Int.toNat_natCast]
  · have : n = 0 := by omega
    subst this; rfl
theorem not_xor (l : List UInt8) : notL l = l.map fun b => b ^^^ 255 := by
  unfold notL
  apply List.map_congr_left
  intro b _
  apply byte8
  intro i hi
  simp only [UInt8.toBitVec_not, UInt8.toBitVec_xor, BitVec.getLsbD_not, BitVec.getLsbD_xor, full8 i hi]
  simp [hi]
set_option maxRecDepth 100000 in
set_option maxHeartbeats 4000000 in
theorem rprog_yes (F : Fl) (k : Nat) (m : Nat) (s : List UInt8) (v : Value) (w : World) (hv : isFl F v w) (hf : FewF F) (hs : s.length ≤ 1000000) (hm : hasB F (k : Int) = true) (h2 : m + s.length ≤ (F.pages.getD k []).length) (hd : F.dead = false) (hz : ¬ F.fuse = 0) (hfz : F.fuse ≤ 9223372036854775807) :
    Calls Tryz.prog 55 #[v, .int .i64 (k : Int), .int .i64 (m : Int), .string ⟨s.toArray⟩] w fun e w' => ∃ v', e = .returned (.tuple #[v', .int .i64 0]) ∧ isFl { F with pages := F.pages.set k (pairL (· &&& ·) (F.pages.getD k []) (List.replicate m 255 ++ s ++ List.replicate ((F.pages.getD k []).length - m - s.length) 255)), fuse := lessN F.fuse } v' w' ∧ Below w.heap.size w w' := by
  have HHF := Kept.mk (has_facts F k hm)
  obtain ⟨hk, h6, hwl, htl, hpg, hwr⟩ := HHF.out
  obtain ⟨was, hwas⟩ : ∃ was, F.pages[k]? = some was := ⟨_, List.getElem?_eq_getElem hk⟩
  have hwm : was.length ≤ 8192 := (hpg _ (List.mem_of_getElem? hwas)).2.1
  have hget1 : F.pages.getD k [] = was := by simp [List.getD_eq_getElem?_getD, hwas]
  have HW0 := Kept.mk (show was.length = (F.pages[0]'(by omega)).length by
    rw [(hpg _ (List.mem_of_getElem? hwas)).2.2, (hpg _ (List.getElem_mem (show 0 < F.pages.length by omega))).2.2])
  have HWAS := Kept.mk hwas
  rw [hget1] at h2 ⊢
  have HWR := Kept.mk hwr
  have HM := Kept.mk hm
  clear hpg hwr hwas hget1 hm
  obtain ⟨vp, vw, rfl, hpp, hqq⟩ := hv
  have o1 := hpp.one
  have o2 := hqq.one
  obtain ⟨b, off, cap, hvp, hb, hc⟩ := hpp.some_ (by rw [List.length_map]; omega)
  rw [List.length_map] at hvp
  subst hvp
  have HC := Kept.mk (show w.cell? ⟨b, off + k, none⟩ = some (.string ⟨was.toArray⟩) from hc k _ (by simp [HWAS.out, strC]))
  clear hc
  have HP := Kept.mk hpp
  have HQ := Kept.mk hqq
  have hb0 := (lit_below w (.cells #[.slice (some ⟨b, off, none⟩) F.pages.length cap, vw, .int .i64 F.fuse, .string ⟨F.torn.toArray⟩, .bool F.dead] 25)).trans ((lit_below (w.alloc (.cells #[.slice (some ⟨b, off, none⟩) F.pages.length cap, vw, .int .i64 F.fuse, .string ⟨F.torn.toArray⟩, .bool F.dead] 25)) (.cells #[.slice none 0 0, .slice none 0 0, .int .i64 0, .string ⟨#[]⟩, .bool false] 25)).mono (lit_below w (.cells #[.slice (some ⟨b, off, none⟩) F.pages.length cap, vw, .int .i64 F.fuse, .string ⟨F.torn.toArray⟩, .bool F.dead] 25)).size)
  have HB := Kept.mk hb0
  have HX := Kept.mk ((Blk.new w 25 [.slice (some ⟨b, off, none⟩) F.pages.length cap, vw, .int .i64 F.fuse, .string ⟨F.torn.toArray⟩, .bool F.dead] w.heap.size rfl).alloc (.cells #[.slice none 0 0, .slice none 0 0, .int .i64 0, .string ⟨#[]⟩, .bool false] 25))
  have HR := Kept.mk (Blk.new (w.alloc (.cells #[.slice (some ⟨b, off, none⟩) F.pages.length cap, vw, .int .i64 F.fuse, .string ⟨F.torn.toArray⟩, .bool F.dead] 25)) 25 [.slice none 0 0, .slice none 0 0, .int .i64 0, .string ⟨#[]⟩, .bool false] (w.heap.size + 1) (by simp))
  have HV := Kept.mk (show isFl F (.agg #[.slice (some ⟨b, off, none⟩) F.pages.length cap, vw, .int .i64 F.fuse, .string ⟨F.torn.toArray⟩, .bool F.dead]) ((w.alloc (.cells #[.slice (some ⟨b, off, none⟩) F.pages.length cap, vw, .int .i64 F.fuse, .string ⟨F.torn.toArray⟩, .bool F.dead] 25)).alloc (.cells #[.slice none 0 0, .slice none 0 0, .int .i64 0, .string ⟨#[]⟩, .bool false] 25)) from ⟨.slice (some ⟨b, off, none⟩) F.pages.length cap, vw, rfl, stable_cells _ _ _ _ hpp hb0, stable_cells _ _ _ _ hqq hb0⟩)
  have hs0 : ((w.alloc (.cells #[.slice (some ⟨b, off, none⟩) F.pages.length cap, vw, .int .i64 F.fuse, .string ⟨F.torn.toArray⟩, .bool F.dead] 25)).alloc (.cells #[.slice none 0 0, .slice none 0 0, .int .i64 0, .string ⟨#[]⟩, .bool false] 25)).heap.size = w.heap.size + 2 := by simp
  clear hb0 hpp hqq
  show Calls Tryz.prog 55 #[.agg #[.slice (some ⟨b, off, none⟩) F.pages.length cap, vw, .int .i64 F.fuse, .string ⟨F.torn.toArray⟩, .bool F.dead], .int .i64 (k : Int), .int .i64 (m : Int), .string ⟨s.toArray⟩] w _
  have hsz : (⟨was.toArray⟩ : ByteArray).size = was.length := size_mk was
  have hss : (⟨s.toArray⟩ : ByteArray).size = s.length := size_mk s
  have d1 : decide ((m : Int) < 0) = false := decide_eq_false (by omega)
  have d2 : decide ((was.length : Int) < (m : Int)) = false := decide_eq_false (by omega)
  have d3 : decide ((was.length : Int) - (m : Int) < (s.length : Int)) = false := decide_eq_false (by omega)
  obtain ⟨l1, hl1⟩ : ∃ l : List UInt8, l = List.replicate m 255 := ⟨_, rfl⟩
  obtain ⟨l2, hl2⟩ : ∃ l : List UInt8, l = List.replicate (was.length - m - s.length) 255 := ⟨_, rfl⟩
  rw [← hl1, ← hl2]
  obtain ⟨l3, hl3⟩ : ∃ l : List UInt8, l = l1 ++ s := ⟨_, rfl⟩
  obtain ⟨d, hd0⟩ : ∃ l : List UInt8, l = l3 ++ l2 := ⟨_, rfl⟩
  rw [← hl3, ← hd0]
  have HO1 := Kept.mk (show onesL (m : Int) = l1 by rw [hl1]; exact ones_nat m (by omega))
  have HO2 := Kept.mk (show onesL ((was.length : Int) - (m : Int) - (s.length : Int)) = l2 by
    rw [hl2, show (was.length : Int) - (m : Int) - (s.length : Int) = ((was.length - m - s.length : Nat) : Int) by omega]
    exact ones_nat _ (by omega))
  have n1 : l1.length = m := by rw [hl1, List.length_replicate]
  have n2 : l2.length = was.length - m - s.length := by rw [hl2, List.length_replicate]
  have n3 : l3.length = m + s.length := by rw [hl3, List.length_append, n1]
  have nd : d.length = was.length := by rw [hd0, List.length_append, n3, n2]; omega
  have hA1 : ∀ W, (Op.stringOp .add ⟨l1.toArray⟩ ⟨s.toArray⟩).run Tryz.prog W = .ok (.string ⟨l3.toArray⟩) W := fun W => by rw [hl3]; exact run_string_add_lists W l1 s (by omega) (by omega)
  have hA2 : ∀ W, (Op.stringOp .add ⟨l3.toArray⟩ ⟨l2.toArray⟩).run Tryz.prog W = .ok (.string ⟨d.toArray⟩) W := fun W => by rw [hd0]; exact run_string_add_lists W l3 l2 (by omega) (by omega)
  clear hl1 hl2 hl3 hd0
  have HD := Kept.mk hd
  clear hd
  go_enter Tryz.func55, Tryz.ntmps55
  go_wp2_with fail
  generalize ((w.alloc (.cells #[.slice (some ⟨b, off, none⟩) F.pages.length cap, vw, .int .i64 F.fuse, .string ⟨F.torn.toArray⟩, .bool F.dead] 25)).alloc (.cells #[.slice none 0 0, .slice none 0 0, .int .i64 0, .string ⟨#[]⟩, .bool false] 25)) = W at *
  refine (rpage_any F k _ W HV.out hf).mono ?_
  rintro e W1 ⟨rfl, hb⟩
  rewrite [HM.out]
  have hs1 := hb.size
  replace HX := Kept.mk (HX.out.keep hb)
  replace HR := Kept.mk (HR.out.keep hb)
  replace HB := Kept.mk (HB.out.trans (hb.mono HB.out.size))
  clear hb
  have kx0 := HX.out.cells.2 0 _ rfl
  have kx1 := HX.out.cells.2 1 _ rfl
  have kx2 := HX.out.cells.2 2 _ rfl
  have kx3 := HX.out.cells.2 3 _ rfl
  have kx4 := HX.out.cells.2 4 _ rfl
  have fx0 := HX.out.free 0
  have fx1 := HX.out.free 1
  have fx2 := HX.out.free 2
  have fx3 := HX.out.free 3
  have fx4 := HX.out.free 4
  have kc := (HB.out.cell (p := ⟨b, off + k, none⟩) hb).trans HC.out
  rw [HD.out] at kx4
  go_wp2_with fail
  clear kx0 kx1 kx2 kx3 kx4 fx0 fx1 fx2 fx3 fx4 kc
  refine (refOnes_any _ _).mono ?_
  rintro e W2 ⟨rfl, hbb⟩
  have hsW2 := hbb.size
  replace HX := Kept.mk (HX.out.keep hbb)
  replace HR := Kept.mk (HR.out.keep hbb)
  replace HB := Kept.mk (HB.out.trans (hbb.mono HB.out.size))
  clear hbb
  rewrite [HO1.out]
  go_wp2_with fail
  refine (refOnes_any _ _).mono ?_
  rintro e W3 ⟨rfl, hbb⟩
  have hsW3 := hbb.size
  replace HX := Kept.mk (HX.out.keep hbb)
  replace HR := Kept.mk (HR.out.keep hbb)
  replace HB := Kept.mk (HB.out.trans (hbb.mono HB.out.size))
  clear hbb
  rewrite [HO2.out]
  have kx0 := HX.out.cells.2 0 _ rfl
  have kx1 := HX.out.cells.2 1 _ rfl
  have kx2 := HX.out.cells.2 2 _ rfl
  have kx3 := HX.out.cells.2 3 _ rfl
  have kx4 := HX.out.cells.2 4 _ rfl
  go_wp2_with fail
  clear kx0 kx1 kx2 kx3 kx4
  have hbl : b < W3.heap.size := by have := HB.out.size; omega
  have HP1 := Kept.mk (stable_cells _ _ _ _ HP.out HB.out)
  have HQ1 := Kept.mk (stable_cells _ _ _ _ HQ.out HB.out)
  have HC1 := Kept.mk ((HB.out.cell (p := ⟨b, off + k, none⟩) hb).trans HC.out)
  refine rp10_region _ _ _ rfl F k was b off F.pages.length cap w.heap.size (w.heap.size + 1) vw HX.out HR.out HP1.out HQ1.out (off_old HQ.out (by omega)) hk h6 HC1.out hbl hk hwm rfl rfl rfl d rfl (by omega) hfz ?_
  intro y9 p q W9 hcp hcq hop hoq hb9
  have HE := Kept.mk (below_setN (show w.heap.size ≤ w.heap.size + 1 by omega) [p, q, .int .i64 (lessN F.fuse), .string ⟨F.torn.toArray⟩, .bool F.dead] 0 _ (HB.out.trans (hb9.mono HB.out.size)))
  have HF := Kept.mk ((HR.out.keep hb9).all_ (l := [p, q, .int .i64 (lessN F.fuse), .string ⟨F.torn.toArray⟩, .bool F.dead]) rfl).cells
  have EP := Kept.mk (cells_apart hcp hop 0 [p, q, .int .i64 (lessN F.fuse), .string ⟨F.torn.toArray⟩, .bool F.dead])
  have EQ := Kept.mk (cells_apart hcq hoq 0 [p, q, .int .i64 (lessN F.fuse), .string ⟨F.torn.toArray⟩, .bool F.dead])
  clear hb9 hcp hcq hop hoq HC1 HP1 HQ1
  simp only [List.foldl_cons, List.foldl_nil]
  generalize y9 85 = z85
  generalize y9 86 = z86
  generalize y9 87 = z87
  generalize y9 88 = z88
  generalize y9 89 = z89
  generalize y9 90 = z90
  generalize y9 91 = z91
  generalize y9 92 = z92
  generalize y9 93 = z93
  generalize y9 94 = z94
  generalize y9 95 = z95
  generalize y9 9 = z9
  simp only [List.setIfInBounds_toArray, List.set_cons_succ, List.set_cons_zero]
  clear y9
  go_wp2
  exact bodyPost_ret (resultsN2 rfl _ _ (w.heap.size + 1) _ (.int .i64 0) size_fl agg_fl rfl rfl HF.out) rfl ⟨_, rfl, ⟨p, q, rfl, EP.out, EQ.out⟩, HE.out⟩
set_option maxRecDepth 100000 in
set_option maxHeartbeats 4000000 in
theorem rprog_torn (F : Fl) (k : Nat) (m : Nat) (s : List UInt8) (v : Value) (w : World) (hv : isFl F v w) (hf : FewF F) (hs : s.length ≤ 1000000) (hm : hasB F (k : Int) = true) (h2 : m + s.length ≤ (F.pages.getD k []).length) (hd : F.dead = false) (hz : F.fuse = 0) :
    Calls Tryz.prog 55 #[v, .int .i64 (k : Int), .int .i64 (m : Int), .string ⟨s.toArray⟩] w fun e w' => ∃ v', e = .returned (.tuple #[v', .int .i64 8]) ∧ isFl { F with pages := F.pages.set k (pairL (· &&& ·) (F.pages.getD k []) (pairL (· ||| ·) (List.replicate m 255 ++ s ++ List.replicate ((F.pages.getD k []).length - m - s.length) 255) (notL (maskL F.torn (F.pages.getD k []).length)))), dead := true } v' w' ∧ Below w.heap.size w w' := by
  have HHF := Kept.mk (has_facts F k hm)
  obtain ⟨hk, h6, hwl, htl, hpg, hwr⟩ := HHF.out
  obtain ⟨was, hwas⟩ : ∃ was, F.pages[k]? = some was := ⟨_, List.getElem?_eq_getElem hk⟩
  have hwm : was.length ≤ 8192 := (hpg _ (List.mem_of_getElem? hwas)).2.1
  have hget1 : F.pages.getD k [] = was := by simp [List.getD_eq_getElem?_getD, hwas]
  have HW0 := Kept.mk (show was.length = (F.pages[0]'(by omega)).length by
    rw [(hpg _ (List.mem_of_getElem? hwas)).2.2, (hpg _ (List.getElem_mem (show 0 < F.pages.length by omega))).2.2])
  have HWAS := Kept.mk hwas
  rw [hget1] at h2 ⊢
  have HWR := Kept.mk hwr
  have HM := Kept.mk hm
  clear hpg hwr hwas hget1 hm
  obtain ⟨vp, vw, rfl, hpp, hqq⟩ := hv
  have o1 := hpp.one
  have o2 := hqq.one
  obtain ⟨b, off, cap, hvp, hb, hc⟩ := hpp.some_ (by rw [List.length_map]; omega)
  rw [List.length_map] at hvp
  subst hvp
  have HC := Kept.mk (show w.cell? ⟨b, off + k, none⟩ = some (.string ⟨was.toArray⟩) from hc k _ (by simp [HWAS.out, strC]))
  clear hc
  have HP := Kept.mk hpp
  have HQ := Kept.mk hqq
  have hb0 := (lit_below w (.cells #[.slice (some ⟨b, off, none⟩) F.pages.length cap, vw, .int .i64 F.fuse, .string ⟨F.torn.toArray⟩, .bool F.dead] 25)).trans ((lit_below (w.alloc (.cells #[.slice (some ⟨b, off, none⟩) F.pages.length cap, vw, .int .i64 F.fuse, .string ⟨F.torn.toArray⟩, .bool F.dead] 25)) (.cells #[.slice none 0 0, .slice none 0 0, .int .i64 0, .string ⟨#[]⟩, .bool false] 25)).mono (lit_below w (.cells #[.slice (some ⟨b, off, none⟩) F.pages.length cap, vw, .int .i64 F.fuse, .string ⟨F.torn.toArray⟩, .bool F.dead] 25)).size)
  have HB := Kept.mk hb0
  have HX := Kept.mk ((Blk.new w 25 [.slice (some ⟨b, off, none⟩) F.pages.length cap, vw, .int .i64 F.fuse, .string ⟨F.torn.toArray⟩, .bool F.dead] w.heap.size rfl).alloc (.cells #[.slice none 0 0, .slice none 0 0, .int .i64 0, .string ⟨#[]⟩, .bool false] 25))
  have HR := Kept.mk (Blk.new (w.alloc (.cells #[.slice (some ⟨b, off, none⟩) F.pages.length cap, vw, .int .i64 F.fuse, .string ⟨F.torn.toArray⟩, .bool F.dead] 25)) 25 [.slice none 0 0, .slice none 0 0, .int .i64 0, .string ⟨#[]⟩, .bool false] (w.heap.size + 1) (by simp))
  have HV := Kept.mk (show isFl F (.agg #[.slice (some ⟨b, off, none⟩) F.pages.length cap, vw, .int .i64 F.fuse, .string ⟨F.torn.toArray⟩, .bool F.dead]) ((w.alloc (.cells #[.slice (some ⟨b, off, none⟩) F.pages.length cap, vw, .int .i64 F.fuse, .string ⟨F.torn.toArray⟩, .bool F.dead] 25)).alloc (.cells #[.slice none 0 0, .slice none 0 0, .int .i64 0, .string ⟨#[]⟩, .bool false] 25)) from ⟨.slice (some ⟨b, off, none⟩) F.pages.length cap, vw, rfl, stable_cells _ _ _ _ hpp hb0, stable_cells _ _ _ _ hqq hb0⟩)
  have hs0 : ((w.alloc (.cells #[.slice (some ⟨b, off, none⟩) F.pages.length cap, vw, .int .i64 F.fuse, .string ⟨F.torn.toArray⟩, .bool F.dead] 25)).alloc (.cells #[.slice none 0 0, .slice none 0 0, .int .i64 0, .string ⟨#[]⟩, .bool false] 25)).heap.size = w.heap.size + 2 := by simp
  clear hb0 hpp hqq
  show Calls Tryz.prog 55 #[.agg #[.slice (some ⟨b, off, none⟩) F.pages.length cap, vw, .int .i64 F.fuse, .string ⟨F.torn.toArray⟩, .bool F.dead], .int .i64 (k : Int), .int .i64 (m : Int), .string ⟨s.toArray⟩] w _
  have hsz : (⟨was.toArray⟩ : ByteArray).size = was.length := size_mk was
  have hss : (⟨s.toArray⟩ : ByteArray).size = s.length := size_mk s
  have d1 : decide ((m : Int) < 0) = false := decide_eq_false (by omega)
  have d2 : decide ((was.length : Int) < (m : Int)) = false := decide_eq_false (by omega)
  have d3 : decide ((was.length : Int) - (m : Int) < (s.length : Int)) = false := decide_eq_false (by omega)
  obtain ⟨l1, hl1⟩ : ∃ l : List UInt8, l = List.replicate m 255 := ⟨_, rfl⟩
  obtain ⟨l2, hl2⟩ : ∃ l : List UInt8, l = List.replicate (was.length - m - s.length) 255 := ⟨_, rfl⟩
  rw [← hl1, ← hl2]
  obtain ⟨l3, hl3⟩ : ∃ l : List UInt8, l = l1 ++ s := ⟨_, rfl⟩
  obtain ⟨d, hd0⟩ : ∃ l : List UInt8, l = l3 ++ l2 := ⟨_, rfl⟩
  rw [← hl3, ← hd0]
  have HO1 := Kept.mk (show onesL (m : Int) = l1 by rw [hl1]; exact ones_nat m (by omega))
  have HO2 := Kept.mk (show onesL ((was.length : Int) - (m : Int) - (s.length : Int)) = l2 by
    rw [hl2, show (was.length : Int) - (m : Int) - (s.length : Int) = ((was.length - m - s.length : Nat) : Int) by omega]
    exact ones_nat _ (by omega))
  have n1 : l1.length = m := by rw [hl1, List.length_replicate]
  have n2 : l2.length = was.length - m - s.length := by rw [hl2, List.length_replicate]
  have n3 : l3.length = m + s.length := by rw [hl3, List.length_append, n1]
  have nd : d.length = was.length := by rw [hd0, List.length_append, n3, n2]; omega
  have hA1 : ∀ W, (Op.stringOp .add ⟨l1.toArray⟩ ⟨s.toArray⟩).run Tryz.prog W = .ok (.string ⟨l3.toArray⟩) W := fun W => by rw [hl3]; exact run_string_add_lists W l1 s (by omega) (by omega)
  have hA2 : ∀ W, (Op.stringOp .add ⟨l3.toArray⟩ ⟨l2.toArray⟩).run Tryz.prog W = .ok (.string ⟨d.toArray⟩) W := fun W => by rw [hd0]; exact run_string_add_lists W l3 l2 (by omega) (by omega)
  clear hl1 hl2 hl3 hd0
  have HD := Kept.mk hd
  clear hd
  obtain ⟨mk, hmk⟩ : ∃ l : List UInt8, l = maskL F.torn was.length := ⟨_, rfl⟩
  obtain ⟨nt, hnt⟩ : ∃ l : List UInt8, l = notL mk := ⟨_, rfl⟩
  obtain ⟨ot, hot⟩ : ∃ l : List UInt8, l = pairL (· ||| ·) d nt := ⟨_, rfl⟩
  rw [← hmk, ← hnt, ← hot]
  have nm : mk.length = was.length := by rw [hmk, length_maskL]
  have nn : nt.length = was.length := by rw [hnt, length_notL, nm]
  have no : ot.length = was.length := by rw [hot, length_pairL, nd]
  have HK1 := Kept.mk hmk
  have HK2 := Kept.mk hnt
  have HK3 := Kept.mk hot
  clear hmk hnt hot
  have HZ := Kept.mk hz
  clear hz
  go_enter Tryz.func55, Tryz.ntmps55
  go_wp2_with fail
  generalize ((w.alloc (.cells #[.slice (some ⟨b, off, none⟩) F.pages.length cap, vw, .int .i64 F.fuse, .string ⟨F.torn.toArray⟩, .bool F.dead] 25)).alloc (.cells #[.slice none 0 0, .slice none 0 0, .int .i64 0, .string ⟨#[]⟩, .bool false] 25)) = W at *
  refine (rpage_any F k _ W HV.out hf).mono ?_
  rintro e W1 ⟨rfl, hb⟩
  rewrite [HM.out]
  have hs1 := hb.size
  replace HX := Kept.mk (HX.out.keep hb)
  replace HR := Kept.mk (HR.out.keep hb)
  replace HB := Kept.mk (HB.out.trans (hb.mono HB.out.size))
  clear hb
  have kx0 := HX.out.cells.2 0 _ rfl
  have kx1 := HX.out.cells.2 1 _ rfl
  have kx2 := HX.out.cells.2 2 _ rfl
  have kx3 := HX.out.cells.2 3 _ rfl
  have kx4 := HX.out.cells.2 4 _ rfl
  have fx0 := HX.out.free 0
  have fx1 := HX.out.free 1
  have fx2 := HX.out.free 2
  have fx3 := HX.out.free 3
  have fx4 := HX.out.free 4
  have kc := (HB.out.cell (p := ⟨b, off + k, none⟩) hb).trans HC.out
  rw [HD.out] at kx4
  go_wp2_with fail
  clear kx0 kx1 kx2 kx3 kx4 fx0 fx1 fx2 fx3 fx4 kc
  refine (refOnes_any _ _).mono ?_
  rintro e W2 ⟨rfl, hbb⟩
  have hsW2 := hbb.size
  replace HX := Kept.mk (HX.out.keep hbb)
  replace HR := Kept.mk (HR.out.keep hbb)
  replace HB := Kept.mk (HB.out.trans (hbb.mono HB.out.size))
  clear hbb
  rewrite [HO1.out]
  go_wp2_with fail
  refine (refOnes_any _ _).mono ?_
  rintro e W3 ⟨rfl, hbb⟩
  have hsW3 := hbb.size
  replace HX := Kept.mk (HX.out.keep hbb)
  replace HR := Kept.mk (HR.out.keep hbb)
  replace HB := Kept.mk (HB.out.trans (hbb.mono HB.out.size))
  clear hbb
  rewrite [HO2.out]
  have kx0 := HX.out.cells.2 0 _ rfl
  have kx1 := HX.out.cells.2 1 _ rfl
  have kx2 := HX.out.cells.2 2 _ rfl
  have kx3 := HX.out.cells.2 3 _ rfl
  have kx4 := HX.out.cells.2 4 _ rfl
  rw [HZ.out] at kx2
  go_wp2_with fail
  clear kx0 kx1 kx2 kx3 kx4
  refine (rmask_any F (.agg #[.slice (some ⟨b, off, none⟩) F.pages.length cap, vw, .int .i64 0, .string ⟨F.torn.toArray⟩, .bool F.dead]) _ ⟨.slice (some ⟨b, off, none⟩) F.pages.length cap, vw, by rw [HZ.out]; rfl, stable_cells _ _ _ _ HP.out HB.out, stable_cells _ _ _ _ HQ.out HB.out⟩ (by omega) (by omega) was.length HW0.out (by omega) (by omega)).mono ?_
  rintro e W4 ⟨rfl, hbb⟩
  have hsW4 := hbb.size
  replace HX := Kept.mk (HX.out.keep hbb)
  replace HR := Kept.mk (HR.out.keep hbb)
  replace HB := Kept.mk (HB.out.trans (hbb.mono HB.out.size))
  clear hbb
  rewrite [← HK1.out]
  go_wp2_with fail
  refine (cnot mk _ (by omega)).mono ?_
  rintro e W5 ⟨v', rfl, rfl, hbb⟩
  have hsW5 := hbb.size
  replace HX := Kept.mk (HX.out.keep hbb)
  replace HR := Kept.mk (HR.out.keep hbb)
  replace HB := Kept.mk (HB.out.trans (hbb.mono HB.out.size))
  clear hbb
  rewrite [← HK2.out]
  go_wp2_with fail
  refine (cor d nt _ (by omega) (by omega)).mono ?_
  rintro e W6 ⟨v'', rfl, rfl, hbb⟩
  have hsW6 := hbb.size
  replace HX := Kept.mk (HX.out.keep hbb)
  replace HR := Kept.mk (HR.out.keep hbb)
  replace HB := Kept.mk (HB.out.trans (hbb.mono HB.out.size))
  clear hbb
  rewrite [← HK3.out]
  go_wp2_with fail
  have hbl : b < W6.heap.size := by have := HB.out.size; omega
  have HP1 := Kept.mk (stable_cells _ _ _ _ HP.out HB.out)
  have HQ1 := Kept.mk (stable_cells _ _ _ _ HQ.out HB.out)
  have HC1 := Kept.mk ((HB.out.cell (p := ⟨b, off + k, none⟩) hb).trans HC.out)
  refine rp9_region _ _ _ rfl F k was b off F.pages.length cap w.heap.size (w.heap.size + 1) vw HX.out HR.out HP1.out HQ1.out (off_old HQ.out (by omega)) hk h6 HC1.out hbl hk hwm rfl rfl rfl ot rfl (by omega) ?_
  intro y9 p q W9 hcp hcq hop hoq hb9
  have HE := Kept.mk (below_setN (show w.heap.size ≤ w.heap.size + 1 by omega) [p, q, .int .i64 (F.fuse), .string ⟨F.torn.toArray⟩, .bool true] 0 _ (HB.out.trans (hb9.mono HB.out.size)))
  have HF := Kept.mk ((HR.out.keep hb9).all_ (l := [p, q, .int .i64 (F.fuse), .string ⟨F.torn.toArray⟩, .bool true]) rfl).cells
  have EP := Kept.mk (cells_apart hcp hop 0 [p, q, .int .i64 (F.fuse), .string ⟨F.torn.toArray⟩, .bool true])
  have EQ := Kept.mk (cells_apart hcq hoq 0 [p, q, .int .i64 (F.fuse), .string ⟨F.torn.toArray⟩, .bool true])
  clear hb9 hcp hcq hop hoq HC1 HP1 HQ1
  simp only [List.foldl_cons, List.foldl_nil]
  generalize y9 74 = z74
  generalize y9 75 = z75
  generalize y9 76 = z76
  generalize y9 77 = z77
  generalize y9 78 = z78
  generalize y9 79 = z79
  generalize y9 80 = z80
  generalize y9 81 = z81
  generalize y9 82 = z82
  generalize y9 83 = z83
  generalize y9 84 = z84
  generalize y9 9 = z9
  simp only [List.setIfInBounds_toArray, List.set_cons_succ, List.set_cons_zero]
  clear y9
  go_wp2
  exact bodyPost_ret (resultsN2 rfl _ _ (w.heap.size + 1) _ (.int .i64 8) size_fl agg_fl rfl rfl HF.out) rfl ⟨_, rfl, ⟨p, q, rfl, EP.out, EQ.out⟩, HE.out⟩
theorem rprog_any (F : Fl) (n at_ : Int) (s : List UInt8) (v : Value) (w : World) (hv : isFl F v w) (hf : FewF F) (hs : s.length ≤ 1000000) (hfz : F.fuse ≤ 9223372036854775807) :
    Calls Tryz.prog 55 #[v, .int .i64 n, .int .i64 at_, .string ⟨s.toArray⟩] w fun e w' => ∃ v', e = .returned (.tuple #[v', .int .i64 (progE F n at_ s)]) ∧ isFl (progF F n at_ s) v' w' ∧ Below w.heap.size w w' := by
  cases hm : hasB F n with
  | false =>
    rw [show progE F n at_ s = 1 by simp [progE, hm], show progF F n at_ s = F by simp [progF, hm]]
    exact rprog_no1 F n at_ s v w hv hf hs hm
  | true =>
    obtain ⟨k, rfl⟩ := has_nat hm
    cases hb : fitsB F k at_ s with
    | false =>
      rw [show progE F k at_ s = 1 by simp [progE, hm, hb], show progF F k at_ s = F by simp [progF, hm, hb]]
      unfold fitsB at hb
      rw [Int.toNat_natCast] at hb
      by_cases h0 : at_ < 0
      · exact rprog_no2 F k at_ s v w hv hf hs hm h0
      · by_cases h1 : ((F.pages.getD k []).length : Int) < at_
        · exact rprog_no3 F k at_ s v w hv hf hs hm h0 h1
        · refine rprog_no4 F k at_ s v w hv hf hs hm h0 (by omega) ?_
          rw [decide_eq_true (show 0 ≤ at_ by omega), Bool.true_and] at hb
          have := of_decide_eq_false hb
          omega
    | true =>
      have hb' := hb
      unfold fitsB at hb'
      rw [Int.toNat_natCast] at hb'
      simp only [Bool.and_eq_true, decide_eq_true_eq] at hb'
      obtain ⟨m, rfl⟩ := Int.eq_ofNat_of_zero_le hb'.1
      have h2 : m + s.length ≤ (F.pages.getD k []).length := by omega
      clear hb'
      cases hd : F.dead with
      | true =>
        rw [show progE F k m s = 8 by simp [progE, hm, hb, hd], show progF F k m s = F by simp [progF, hm, hb, hd]]
        exact rprog_no5 F k m s v w hv hf hs hm h2 hd
      | false =>
        have ed := and_data m (F.pages.getD k []) s h2
        by_cases hz : F.fuse = 0
        · rw [show progE F k m s = 8 by simp [progE, hm, hb, hd, hz]]
          have h := rprog_torn F k m s v w hv hf hs hm h2 hd hz
          have e : progF F k m s = { F with pages := F.pages.set k (betweenL (F.pages.getD k []) (progL (F.pages.getD k []) m s) F.torn), dead := true } := by
            unfold progF
            rw [if_neg (by rw [hm]; decide), if_neg (by rw [hb]; decide), if_neg (by rw [hd]; decide), if_pos hz, Int.toNat_natCast, Int.toNat_natCast]
          rw [not_xor, ← torn_and _ _ _ (by rw [List.length_append, List.length_append, List.length_replicate, List.length_replicate]; omega) (length_maskL _ _), ed] at h
          rw [e]
          exact h
        · rw [show progE F k m s = 0 by simp [progE, hm, hb, hd, hz]]
          have h := rprog_yes F k m s v w hv hf hs hm h2 hd hz hfz
          rw [ed] at h
          have e : progF F k m s = { F with pages := F.pages.set k (progL (F.pages.getD k []) m s), fuse := lessN F.fuse } := by
            unfold progF
            rw [if_neg (by rw [hm]; decide), if_neg (by rw [hb]; decide), if_neg (by rw [hd]; decide), if_neg hz, Int.toNat_natCast, Int.toNat_natCast]
            have hw : F.wear.set k (F.wear.getD k 0) = F.wear := by
              by_cases hk : k < F.wear.length
              · rw [List.getD_eq_getElem?_getD, List.getElem?_eq_getElem hk, Option.getD_some]; exact List.set_getElem_self hk
              · exact List.set_eq_of_length_le (by omega)
            rw [hw]
            rfl
          rw [e]
          exact h
end Go.Proofs.YtpjafjnokgeifaaGreatDoor
end
section
namespace Go.Proofs.YtpjafjnokgeifaaGreatDoor
open Go.RowKit
set_option linter.unusedVariables false
set_option linter.unusedSimpArgs false
attribute [local irreducible] setN
/-- A row that lies in no block of S. -/
def OffS (S : Nat → Prop) (cs : List Value) (v : Value) : Prop := ∀ b off cap, v = .slice (some ⟨b, off, none⟩) cs.length cap → cs ≠ [] → ¬ S b
theorem offS_new {S : Nat → Prop} {B : Nat} {cs : List Value} {v : Value} (h : NewB B v) (hg : ∀ b, S b → b < B) : OffS S cs v := by
  rintro b off cap rfl hne hb
  have := h b rfl
  have := hg b hb
  omega
theorem offS_or {S : Nat → Prop} {g : Nat} {cs : List Value} {v : Value} {w : World} (h : isCells cs v w) (h0 : OffS S cs v) (hg : w.heap.size ≤ g) : OffS (fun b => b = g ∨ S b) cs v := by
  intro b off cap e hne hb
  rcases hb with hb | hb
  · exact off_old h hg b off cap e hne hb
  · exact h0 b off cap e hne hb
def isWS (S : Nat → Prop) (P Q : List Value) (fu : Int) (tn : List UInt8) (de : Bool) : VP := fun v w => ∃ p q, v = .agg #[p, q, .int .i64 fu, .string ⟨tn.toArray⟩, .bool de] ∧ isCells P p w ∧ isCells Q q w ∧ OffS S P p ∧ OffS S Q q
theorem stable_WS (S : Nat → Prop) (P Q : List Value) (fu : Int) (tn : List UInt8) (de : Bool) : Stable (isWS S P Q fu tn de) := by
  rintro v w w' ⟨p, q, e, h1, h2, h3, h4⟩ hb
  exact ⟨p, q, e, stable_cells _ _ _ _ h1 hb, stable_cells _ _ _ _ h2 hb, h3, h4⟩
theorem cwithS (F : Fl) (k : Nat) (S : Nat → Prop) (s : List UInt8) (vp vw : Value) (w : World) (hp : isCells (F.pages.map strC) vp w) (hq : isCells (F.wear.map intC) vw w) (hk : k < F.pages.length) (h1 : F.pages.length ≤ 6) (ho : OffS S (F.wear.map intC) vw) (hr : ∀ b, S b → b < w.heap.size) :
    Calls Tryz.prog 112 #[.agg #[vp, vw, .int .i64 F.fuse, .string ⟨F.torn.toArray⟩, .bool F.dead], .int .i64 (k : Int), .string ⟨s.toArray⟩] w fun e w' => ∃ v, e = .returned v ∧ isWS S ((F.pages.set k s).map strC) (F.wear.map intC) F.fuse F.torn F.dead v w' ∧ Below w.heap.size w w' :=
  (rwith_any F k s vp vw w hp hq hk (by omega)).mono (by
    rintro e w' ⟨p', rfl, hc, hn, hb⟩
    exact ⟨_, rfl, ⟨p', vw, rfl, hc, stable_cells _ _ _ _ hq hb, offS_new hn hr, ho⟩, hb⟩)
theorem cdeadS (F : Fl) (S : Nat → Prop) (P Q : List Value) (vs : Array Value) (w : World) (h : ∃ u, vs = #[u] ∧ isWS S P Q F.fuse F.torn F.dead u w) :
    Calls Tryz.prog 111 vs w fun e w' => ∃ v, e = .returned v ∧ isWS S P Q F.fuse F.torn true v w' ∧ Below w.heap.size w w' := by
  obtain ⟨u, rfl, p, q, rfl, h1, h2, h3, h4⟩ := h
  refine (rdead_any F p q w h1.one h2.one).mono ?_
  rintro e w' ⟨rfl, hb⟩
  exact ⟨_, rfl, ⟨p, q, rfl, stable_cells _ _ _ _ h1 hb, stable_cells _ _ _ _ h2 hb, h3, h4⟩, hb⟩
theorem cburntS (F : Fl) (S : Nat → Prop) (P Q : List Value) (hf : F.fuse ≤ 9223372036854775807) (vs : Array Value) (w : World) (h : ∃ u, vs = #[u] ∧ isWS S P Q F.fuse F.torn F.dead u w) :
    Calls Tryz.prog 114 vs w fun e w' => ∃ v, e = .returned v ∧ isWS S P Q (lessN F.fuse) F.torn F.dead v w' ∧ Below w.heap.size w w' := by
  obtain ⟨u, rfl, p, q, rfl, h1, h2, h3, h4⟩ := h
  unfold lessN
  by_cases h0 : 0 < F.fuse
  · rw [if_pos h0]
    refine (rburnt_yes F p q w h1.one h2.one h0 hf).mono ?_
    rintro e w' ⟨rfl, hb⟩
    exact ⟨_, rfl, ⟨p, q, rfl, stable_cells _ _ _ _ h1 hb, stable_cells _ _ _ _ h2 hb, h3, h4⟩, hb⟩
  · rw [if_neg h0]
    refine (rburnt_no F p q w h1.one h2.one h0).mono ?_
    rintro e w' ⟨rfl, hb⟩
    exact ⟨_, rfl, ⟨p, q, rfl, stable_cells _ _ _ _ h1 hb, stable_cells _ _ _ _ h2 hb, h3, h4⟩, hb⟩
/-- A device whose rows lie in no block of S. -/
def isFlO (S : Nat → Prop) (F : Fl) : VP := fun v w => ∃ p q, v = .agg #[p, q, .int .i64 F.fuse, strC F.torn, .bool F.dead] ∧ isCells (F.pages.map strC) p w ∧ isCells (F.wear.map intC) q w ∧ OffS S (F.pages.map strC) p ∧ OffS S (F.wear.map intC) q
theorem isFlO.fl {S : Nat → Prop} {F : Fl} {v : Value} {w : World} (h : isFlO S F v w) : isFl F v w := by obtain ⟨p, q, e, h1, h2, _⟩ := h; exact ⟨p, q, e, h1, h2⟩
noncomputable def rp9SOps : Array Oper := regionOf Tryz.f55 9
set_option maxRecDepth 100000 in
set_option maxHeartbeats 4000000 in
theorem rp9S_region (Qq : Exit → Act → World → Prop) (a0 : Act) (w0 : World) (hsz : a0.tmps.size = 96) (S : Nat → Prop) (hS : ∀ b, S b → b < w0.heap.size) (F : Fl) (k : Nat) (was : List UInt8) (b off np cap b2 r : Nat) (vw : Value) (HX : Blk w0 b2 [.slice (some ⟨b, off, none⟩) np cap, vw, .int .i64 F.fuse, .string ⟨F.torn.toArray⟩, .bool F.dead]) (HR : Blk w0 r [.slice none 0 0, .slice none 0 0, .int .i64 0, .string ⟨#[]⟩, .bool false]) (hp : isCells (F.pages.map strC) (.slice (some ⟨b, off, none⟩) np cap) w0) (hq : isCells (F.wear.map intC) vw w0) (hoq : OffS S (F.wear.map intC) vw) (hk : k < F.pages.length) (hpl : F.pages.length ≤ 6) (hcell : w0.cell? ⟨b, off + k, none⟩ = some (.string ⟨was.toArray⟩)) (hblt : b < w0.heap.size) (hkn : k < np) (hwl : was.length ≤ 8192) (e1 : a0.tmps.getD 1 undef = .int .i64 (k : Int)) (e2 : a0.tmps.getD 4 undef = .pointer (some ⟨b2, 0, none⟩)) (er : a0.tmps.getD 8 undef = .pointer (some ⟨r, 0, none⟩)) (d : List UInt8) (ed : a0.tmps.getD 12 undef = .string ⟨d.toArray⟩) (hdl : d.length ≤ 1000000)
    (hQ : ∀ (y : Nat → Value) (p q : Value) (w : World), isCells ((F.pages.set k (pairL (· &&& ·) was d)).map strC) p w → isCells (F.wear.map intC) q w → OffS S ((F.pages.set k (pairL (· &&& ·) was d)).map strC) p → OffS S (F.wear.map intC) q → Below w0.heap.size w0 w → Qq .normal { tmps := ([74, 75, 76, 77, 78, 79, 80, 81, 82, 83, 84, 9].foldl (fun t s => t.setIfInBounds s (y s)) a0.tmps).setIfInBounds 9 (.int .i64 8), defers := a0.defers } (setN w r 0 [p, q, .int .i64 (F.fuse), .string ⟨F.torn.toArray⟩, .bool true])) :
    (Code.region 9 rp9SOps true).wp Tryz.prog Qq a0 w0 := by
  refine wp_region_cov 11 mixed (by rw [hsz]; kernel_rfl) (by kernel_rfl) ?_
  rw [show rp9SOps.size - 11 = 2 by kernel_rfl]
  refine ⟨isVal (.agg #[.slice (some ⟨b, off, none⟩) np cap, vw, .int .i64 F.fuse, .string ⟨F.torn.toArray⟩, .bool F.dead]), step_loadN 25 (.tmp 4) (b2) [.slice (some ⟨b, off, none⟩) np cap, vw, .int .i64 F.fuse, .string ⟨F.torn.toArray⟩, .bool F.dead] (by kernel_rfl) (wanted_none (by kernel_rfl)) (knows_old 4 (.pointer (some ⟨b2, 0, none⟩)) (by kernel_rfl) e2) size_fl agg_fl HX.cells, ?_⟩
  refine ⟨isVal (.int .i64 (k : Int)), step_move (.tmp 1) (by kernel_rfl) (wanted_none (by kernel_rfl)) (stable_val _) (knows_old 1 (.int .i64 (k : Int)) (by kernel_rfl) e1), ?_⟩
  refine ⟨isVal (.pointer (some ⟨b2, 0, none⟩)), step_field 25 (.tmp 4) 0 ⟨b2, 0, none⟩ ⟨b2, 0, none⟩ (by kernel_rfl) (wanted_none (by kernel_rfl)) (knows_old 4 (.pointer (some ⟨b2, 0, none⟩)) (by kernel_rfl) e2) (field_fl b2 0 (by omega)), ?_⟩
  refine ⟨isVal (.slice (some ⟨b, off, none⟩) np cap), step_read 22 (.tmp 76) ⟨b2, 0, none⟩ (.slice (some ⟨b, off, none⟩) np cap) (by kernel_rfl) (wanted_none (by kernel_rfl)) (knows_new (V := isVal (.pointer (some ⟨b2, 0, none⟩))) 76 2 (by kernel_rfl) (by kernel_rfl) (by kernel_rfl)) (HX.cells.2 0 _ rfl) HX.lt agg_strs, ?_⟩
  refine ⟨isVal (.int .i64 (k : Int)), step_move (.tmp 1) (by kernel_rfl) (wanted_none (by kernel_rfl)) (stable_val _) (knows_old 1 (.int .i64 (k : Int)) (by kernel_rfl) e1), ?_⟩
  refine ⟨isVal (.pointer (some ⟨b, off + k, none⟩)), step_place 22 9 (.tmp 77) (.tmp 78) b off np cap k (by kernel_rfl) (wanted_none (by kernel_rfl)) (knows_new (V := isVal (.slice (some ⟨b, off, none⟩) np cap)) 77 3 (by kernel_rfl) (by kernel_rfl) (by kernel_rfl)) (knows_new (V := isVal (.int .i64 (k : Int))) 78 4 (by kernel_rfl) (by kernel_rfl) (by kernel_rfl)) Tryz.underlying22 (by kernel_rfl) hkn, ?_⟩
  refine ⟨isVal (.string ⟨was.toArray⟩), step_read 9 (.tmp 79) ⟨b, off + k, none⟩ (.string ⟨was.toArray⟩) (by kernel_rfl) (wanted_none (by kernel_rfl)) (knows_new (V := isVal (.pointer (some ⟨b, off + k, none⟩))) 79 5 (by kernel_rfl) (by kernel_rfl) (by kernel_rfl)) hcell hblt agg_str, ?_⟩
  refine ⟨isVal (.string ⟨d.toArray⟩), step_move (.tmp 12) (by kernel_rfl) (wanted_none (by kernel_rfl)) (stable_val _) (knows_old 12 (.string ⟨d.toArray⟩) (by kernel_rfl) ed), ?_⟩
  refine ⟨isVal (.string ⟨(pairL (· &&& ·) was d).toArray⟩), step_call 113 #[.tmp 80, .tmp 81] #[9, 9] #[.string ⟨was.toArray⟩, .string ⟨d.toArray⟩] (by kernel_rfl) (wanted_none (by kernel_rfl)) (stable_val _) (args2 (.tmp 80) (.tmp 81) (.string ⟨was.toArray⟩) (.string ⟨d.toArray⟩) (knows_new (V := isVal (.string ⟨was.toArray⟩)) 80 6 (by kernel_rfl) (by kernel_rfl) (by kernel_rfl)) (knows_new (V := isVal (.string ⟨d.toArray⟩)) 81 7 (by kernel_rfl) (by kernel_rfl) (by kernel_rfl))) (enters_of Tryz.func113 (by kernel_rfl) rfl) (by intro w hb; exact cand was d w (by omega) (by omega)), ?_⟩
  refine ⟨(isWS S ((F.pages.set k (pairL (· &&& ·) was d)).map strC) (F.wear.map intC) (F.fuse) F.torn F.dead), step_call 112 #[.tmp 74, .tmp 75, .tmp 82] #[25, 3, 9] #[.agg #[.slice (some ⟨b, off, none⟩) np cap, vw, .int .i64 F.fuse, .string ⟨F.torn.toArray⟩, .bool F.dead], .int .i64 (k : Int), .string ⟨(pairL (· &&& ·) was d).toArray⟩] (by kernel_rfl) (wanted_none (by kernel_rfl)) (stable_WS _ _ _ _ _ _) (args3 (.tmp 74) (.tmp 75) (.tmp 82) (.agg #[.slice (some ⟨b, off, none⟩) np cap, vw, .int .i64 F.fuse, .string ⟨F.torn.toArray⟩, .bool F.dead]) (.int .i64 (k : Int)) (.string ⟨(pairL (· &&& ·) was d).toArray⟩) (knows_new (V := isVal (.agg #[.slice (some ⟨b, off, none⟩) np cap, vw, .int .i64 F.fuse, .string ⟨F.torn.toArray⟩, .bool F.dead])) 74 0 (by kernel_rfl) (by kernel_rfl) (by kernel_rfl)) (knows_new (V := isVal (.int .i64 (k : Int))) 75 1 (by kernel_rfl) (by kernel_rfl) (by kernel_rfl)) (knows_new (V := isVal (.string ⟨(pairL (· &&& ·) was d).toArray⟩)) 82 8 (by kernel_rfl) (by kernel_rfl) (by kernel_rfl))) (enters_of Tryz.func112 (by kernel_rfl) rfl) (by intro w hb; exact cwithS F k S (pairL (· &&& ·) was d) (.slice (some ⟨b, off, none⟩) np cap) vw w (stable_cells _ _ _ _ hp hb) (stable_cells _ _ _ _ hq hb) hk hpl hoq (fun b h => Nat.lt_of_lt_of_le (hS b h) hb.size)), ?_⟩
  refine ⟨(isWS S ((F.pages.set k (pairL (· &&& ·) was d)).map strC) (F.wear.map intC) (F.fuse) F.torn true), step_callP 111 #[.tmp 83] #[25] (by kernel_rfl) (wanted_none (by kernel_rfl)) (stable_WS _ _ _ _ _ _) (enters_of Tryz.func111 (by kernel_rfl) rfl) (_) (pre1 (knows_new (V := (isWS S ((F.pages.set k (pairL (· &&& ·) was d)).map strC) (F.wear.map intC) (F.fuse) F.torn F.dead)) 83 9 (by kernel_rfl) (by kernel_rfl) (by kernel_rfl))) (fun vs w hb h => cdeadS F S _ _ vs w h), ?_⟩
  intro x w hkp hb hd
  obtain ⟨p, q, dv, hcp, hcq, ho1, ho2⟩ := fdone_of (hd 10 (by decide)) (t := 84) (V := (isWS S ((F.pages.set k (pairL (· &&& ·) was d)).map strC) (F.wear.map intC) (F.fuse) F.torn true)) (by kernel_rfl) (by kernel_rfl)
  replace dv : x.eval (.tmp 84) = _ := dv
  have dr : x.eval (.tmp 8) = .pointer (some ⟨r, 0, none⟩) := (hkp.2.2 8 (by kernel_rfl)).trans er
  have hr2 := HR.keep hb
  refine tail_storeN 25 (.tmp 8) (.tmp 84) r [p, q, .int .i64 (F.fuse), .string ⟨F.torn.toArray⟩, .bool true] _ (by kernel_rfl) (by kernel_rfl) size_fl dr dv hr2.cells rfl hr2.free ⟨hcp.one, hcq.one, rfl, rfl, rfl, trivial⟩ ?_
  refine tail_assign (.const (.int .i64 8)) 9 _ (by kernel_rfl) (by kernel_rfl) rfl ?_
  obtain ⟨y, ey⟩ := kept_ex hkp [some 74, some 75, some 76, some 77, some 78, some 79, some 80, some 81, some 82, some 83, some 84, none, some 9] [74, 75, 76, 77, 78, 79, 80, 81, 82, 83, 84, 9] (by kernel_rfl) (by decide)
  exact put_kept ey (hQ y p q w hcp hcq ho1 ho2 hb)
noncomputable def rp10SOps : Array Oper := regionOf Tryz.f55 10
set_option maxRecDepth 100000 in
set_option maxHeartbeats 4000000 in
theorem rp10S_region (Qq : Exit → Act → World → Prop) (a0 : Act) (w0 : World) (hsz : a0.tmps.size = 96) (S : Nat → Prop) (hS : ∀ b, S b → b < w0.heap.size) (F : Fl) (k : Nat) (was : List UInt8) (b off np cap b2 r : Nat) (vw : Value) (HX : Blk w0 b2 [.slice (some ⟨b, off, none⟩) np cap, vw, .int .i64 F.fuse, .string ⟨F.torn.toArray⟩, .bool F.dead]) (HR : Blk w0 r [.slice none 0 0, .slice none 0 0, .int .i64 0, .string ⟨#[]⟩, .bool false]) (hp : isCells (F.pages.map strC) (.slice (some ⟨b, off, none⟩) np cap) w0) (hq : isCells (F.wear.map intC) vw w0) (hoq : OffS S (F.wear.map intC) vw) (hk : k < F.pages.length) (hpl : F.pages.length ≤ 6) (hcell : w0.cell? ⟨b, off + k, none⟩ = some (.string ⟨was.toArray⟩)) (hblt : b < w0.heap.size) (hkn : k < np) (hwl : was.length ≤ 8192) (e1 : a0.tmps.getD 1 undef = .int .i64 (k : Int)) (e2 : a0.tmps.getD 4 undef = .pointer (some ⟨b2, 0, none⟩)) (er : a0.tmps.getD 8 undef = .pointer (some ⟨r, 0, none⟩)) (d : List UInt8) (ed : a0.tmps.getD 11 undef = .string ⟨d.toArray⟩) (hdl : d.length ≤ 1000000) (hfz : F.fuse ≤ 9223372036854775807)
    (hQ : ∀ (y : Nat → Value) (p q : Value) (w : World), isCells ((F.pages.set k (pairL (· &&& ·) was d)).map strC) p w → isCells (F.wear.map intC) q w → OffS S ((F.pages.set k (pairL (· &&& ·) was d)).map strC) p → OffS S (F.wear.map intC) q → Below w0.heap.size w0 w → Qq .normal { tmps := ([85, 86, 87, 88, 89, 90, 91, 92, 93, 94, 95, 9].foldl (fun t s => t.setIfInBounds s (y s)) a0.tmps).setIfInBounds 9 (.int .i64 0), defers := a0.defers } (setN w r 0 [p, q, .int .i64 (lessN F.fuse), .string ⟨F.torn.toArray⟩, .bool F.dead])) :
    (Code.region 10 rp10SOps true).wp Tryz.prog Qq a0 w0 := by
  refine wp_region_cov 11 mixed (by rw [hsz]; kernel_rfl) (by kernel_rfl) ?_
  rw [show rp10SOps.size - 11 = 2 by kernel_rfl]
  refine ⟨isVal (.agg #[.slice (some ⟨b, off, none⟩) np cap, vw, .int .i64 F.fuse, .string ⟨F.torn.toArray⟩, .bool F.dead]), step_loadN 25 (.tmp 4) (b2) [.slice (some ⟨b, off, none⟩) np cap, vw, .int .i64 F.fuse, .string ⟨F.torn.toArray⟩, .bool F.dead] (by kernel_rfl) (wanted_none (by kernel_rfl)) (knows_old 4 (.pointer (some ⟨b2, 0, none⟩)) (by kernel_rfl) e2) size_fl agg_fl HX.cells, ?_⟩
  refine ⟨isVal (.int .i64 (k : Int)), step_move (.tmp 1) (by kernel_rfl) (wanted_none (by kernel_rfl)) (stable_val _) (knows_old 1 (.int .i64 (k : Int)) (by kernel_rfl) e1), ?_⟩
  refine ⟨isVal (.pointer (some ⟨b2, 0, none⟩)), step_field 25 (.tmp 4) 0 ⟨b2, 0, none⟩ ⟨b2, 0, none⟩ (by kernel_rfl) (wanted_none (by kernel_rfl)) (knows_old 4 (.pointer (some ⟨b2, 0, none⟩)) (by kernel_rfl) e2) (field_fl b2 0 (by omega)), ?_⟩
  refine ⟨isVal (.slice (some ⟨b, off, none⟩) np cap), step_read 22 (.tmp 87) ⟨b2, 0, none⟩ (.slice (some ⟨b, off, none⟩) np cap) (by kernel_rfl) (wanted_none (by kernel_rfl)) (knows_new (V := isVal (.pointer (some ⟨b2, 0, none⟩))) 87 2 (by kernel_rfl) (by kernel_rfl) (by kernel_rfl)) (HX.cells.2 0 _ rfl) HX.lt agg_strs, ?_⟩
  refine ⟨isVal (.int .i64 (k : Int)), step_move (.tmp 1) (by kernel_rfl) (wanted_none (by kernel_rfl)) (stable_val _) (knows_old 1 (.int .i64 (k : Int)) (by kernel_rfl) e1), ?_⟩
  refine ⟨isVal (.pointer (some ⟨b, off + k, none⟩)), step_place 22 9 (.tmp 88) (.tmp 89) b off np cap k (by kernel_rfl) (wanted_none (by kernel_rfl)) (knows_new (V := isVal (.slice (some ⟨b, off, none⟩) np cap)) 88 3 (by kernel_rfl) (by kernel_rfl) (by kernel_rfl)) (knows_new (V := isVal (.int .i64 (k : Int))) 89 4 (by kernel_rfl) (by kernel_rfl) (by kernel_rfl)) Tryz.underlying22 (by kernel_rfl) hkn, ?_⟩
  refine ⟨isVal (.string ⟨was.toArray⟩), step_read 9 (.tmp 90) ⟨b, off + k, none⟩ (.string ⟨was.toArray⟩) (by kernel_rfl) (wanted_none (by kernel_rfl)) (knows_new (V := isVal (.pointer (some ⟨b, off + k, none⟩))) 90 5 (by kernel_rfl) (by kernel_rfl) (by kernel_rfl)) hcell hblt agg_str, ?_⟩
  refine ⟨isVal (.string ⟨d.toArray⟩), step_move (.tmp 11) (by kernel_rfl) (wanted_none (by kernel_rfl)) (stable_val _) (knows_old 11 (.string ⟨d.toArray⟩) (by kernel_rfl) ed), ?_⟩
  refine ⟨isVal (.string ⟨(pairL (· &&& ·) was d).toArray⟩), step_call 113 #[.tmp 91, .tmp 92] #[9, 9] #[.string ⟨was.toArray⟩, .string ⟨d.toArray⟩] (by kernel_rfl) (wanted_none (by kernel_rfl)) (stable_val _) (args2 (.tmp 91) (.tmp 92) (.string ⟨was.toArray⟩) (.string ⟨d.toArray⟩) (knows_new (V := isVal (.string ⟨was.toArray⟩)) 91 6 (by kernel_rfl) (by kernel_rfl) (by kernel_rfl)) (knows_new (V := isVal (.string ⟨d.toArray⟩)) 92 7 (by kernel_rfl) (by kernel_rfl) (by kernel_rfl))) (enters_of Tryz.func113 (by kernel_rfl) rfl) (by intro w hb; exact cand was d w (by omega) (by omega)), ?_⟩
  refine ⟨(isWS S ((F.pages.set k (pairL (· &&& ·) was d)).map strC) (F.wear.map intC) (F.fuse) F.torn F.dead), step_call 112 #[.tmp 85, .tmp 86, .tmp 93] #[25, 3, 9] #[.agg #[.slice (some ⟨b, off, none⟩) np cap, vw, .int .i64 F.fuse, .string ⟨F.torn.toArray⟩, .bool F.dead], .int .i64 (k : Int), .string ⟨(pairL (· &&& ·) was d).toArray⟩] (by kernel_rfl) (wanted_none (by kernel_rfl)) (stable_WS _ _ _ _ _ _) (args3 (.tmp 85) (.tmp 86) (.tmp 93) (.agg #[.slice (some ⟨b, off, none⟩) np cap, vw, .int .i64 F.fuse, .string ⟨F.torn.toArray⟩, .bool F.dead]) (.int .i64 (k : Int)) (.string ⟨(pairL (· &&& ·) was d).toArray⟩) (knows_new (V := isVal (.agg #[.slice (some ⟨b, off, none⟩) np cap, vw, .int .i64 F.fuse, .string ⟨F.torn.toArray⟩, .bool F.dead])) 85 0 (by kernel_rfl) (by kernel_rfl) (by kernel_rfl)) (knows_new (V := isVal (.int .i64 (k : Int))) 86 1 (by kernel_rfl) (by kernel_rfl) (by kernel_rfl)) (knows_new (V := isVal (.string ⟨(pairL (· &&& ·) was d).toArray⟩)) 93 8 (by kernel_rfl) (by kernel_rfl) (by kernel_rfl))) (enters_of Tryz.func112 (by kernel_rfl) rfl) (by intro w hb; exact cwithS F k S (pairL (· &&& ·) was d) (.slice (some ⟨b, off, none⟩) np cap) vw w (stable_cells _ _ _ _ hp hb) (stable_cells _ _ _ _ hq hb) hk hpl hoq (fun b h => Nat.lt_of_lt_of_le (hS b h) hb.size)), ?_⟩
  refine ⟨(isWS S ((F.pages.set k (pairL (· &&& ·) was d)).map strC) (F.wear.map intC) (lessN F.fuse) F.torn F.dead), step_callP 114 #[.tmp 94] #[25] (by kernel_rfl) (wanted_none (by kernel_rfl)) (stable_WS _ _ _ _ _ _) (enters_of Tryz.func114 (by kernel_rfl) rfl) (_) (pre1 (knows_new (V := (isWS S ((F.pages.set k (pairL (· &&& ·) was d)).map strC) (F.wear.map intC) (F.fuse) F.torn F.dead)) 94 9 (by kernel_rfl) (by kernel_rfl) (by kernel_rfl))) (fun vs w hb h => cburntS F S _ _ hfz vs w h), ?_⟩
  intro x w hkp hb hd
  obtain ⟨p, q, dv, hcp, hcq, ho1, ho2⟩ := fdone_of (hd 10 (by decide)) (t := 95) (V := (isWS S ((F.pages.set k (pairL (· &&& ·) was d)).map strC) (F.wear.map intC) (lessN F.fuse) F.torn F.dead)) (by kernel_rfl) (by kernel_rfl)
  replace dv : x.eval (.tmp 95) = _ := dv
  have dr : x.eval (.tmp 8) = .pointer (some ⟨r, 0, none⟩) := (hkp.2.2 8 (by kernel_rfl)).trans er
  have hr2 := HR.keep hb
  refine tail_storeN 25 (.tmp 8) (.tmp 95) r [p, q, .int .i64 (lessN F.fuse), .string ⟨F.torn.toArray⟩, .bool F.dead] _ (by kernel_rfl) (by kernel_rfl) size_fl dr dv hr2.cells rfl hr2.free ⟨hcp.one, hcq.one, rfl, rfl, rfl, trivial⟩ ?_
  refine tail_assign (.const (.int .i64 0)) 9 _ (by kernel_rfl) (by kernel_rfl) rfl ?_
  obtain ⟨y, ey⟩ := kept_ex hkp [some 85, some 86, some 87, some 88, some 89, some 90, some 91, some 92, some 93, some 94, some 95, none, some 9] [85, 86, 87, 88, 89, 90, 91, 92, 93, 94, 95, 9] (by kernel_rfl) (by decide)
  exact put_kept ey (hQ y p q w hcp hcq ho1 ho2 hb)
set_option maxRecDepth 100000 in
set_option maxHeartbeats 4000000 in
theorem rprogS_no1 (F : Fl) (n : Int) (at_ : Int) (s : List UInt8) (v : Value) (w : World) (S0 : Nat → Prop) (hS0 : ∀ b, S0 b → b < w.heap.size) (hv : isFlO S0 F v w) (hf : FewF F) (hs : s.length ≤ 1000000) (hm : hasB F n = false) :
    Calls Tryz.prog 55 #[v, .int .i64 n, .int .i64 at_, .string ⟨s.toArray⟩] w fun e w' => ∃ v', e = .returned (.tuple #[v', .int .i64 1]) ∧ isFlO S0 F v' w' ∧ Below w.heap.size w w' := by
  obtain ⟨vp, vw, rfl, hpp, hqq, op0, oq0⟩ := hv
  have o1 := hpp.one
  have o2 := hqq.one
  have HP := Kept.mk hpp
  have HQ := Kept.mk hqq
  have hb0 := (lit_below w (.cells #[vp, vw, .int .i64 F.fuse, .string ⟨F.torn.toArray⟩, .bool F.dead] 25)).trans ((lit_below (w.alloc (.cells #[vp, vw, .int .i64 F.fuse, .string ⟨F.torn.toArray⟩, .bool F.dead] 25)) (.cells #[.slice none 0 0, .slice none 0 0, .int .i64 0, .string ⟨#[]⟩, .bool false] 25)).mono (lit_below w (.cells #[vp, vw, .int .i64 F.fuse, .string ⟨F.torn.toArray⟩, .bool F.dead] 25)).size)
  have HB := Kept.mk hb0
  have HX := Kept.mk ((Blk.new w 25 [vp, vw, .int .i64 F.fuse, .string ⟨F.torn.toArray⟩, .bool F.dead] w.heap.size rfl).alloc (.cells #[.slice none 0 0, .slice none 0 0, .int .i64 0, .string ⟨#[]⟩, .bool false] 25))
  have HR := Kept.mk (Blk.new (w.alloc (.cells #[vp, vw, .int .i64 F.fuse, .string ⟨F.torn.toArray⟩, .bool F.dead] 25)) 25 [.slice none 0 0, .slice none 0 0, .int .i64 0, .string ⟨#[]⟩, .bool false] (w.heap.size + 1) (by simp))
  have HV := Kept.mk (show isFl F (.agg #[vp, vw, .int .i64 F.fuse, .string ⟨F.torn.toArray⟩, .bool F.dead]) ((w.alloc (.cells #[vp, vw, .int .i64 F.fuse, .string ⟨F.torn.toArray⟩, .bool F.dead] 25)).alloc (.cells #[.slice none 0 0, .slice none 0 0, .int .i64 0, .string ⟨#[]⟩, .bool false] 25)) from ⟨vp, vw, rfl, stable_cells _ _ _ _ hpp hb0, stable_cells _ _ _ _ hqq hb0⟩)
  have hs0 : ((w.alloc (.cells #[vp, vw, .int .i64 F.fuse, .string ⟨F.torn.toArray⟩, .bool F.dead] 25)).alloc (.cells #[.slice none 0 0, .slice none 0 0, .int .i64 0, .string ⟨#[]⟩, .bool false] 25)).heap.size = w.heap.size + 2 := by simp
  clear hb0 hpp hqq
  show Calls Tryz.prog 55 #[.agg #[vp, vw, .int .i64 F.fuse, .string ⟨F.torn.toArray⟩, .bool F.dead], .int .i64 n, .int .i64 at_, .string ⟨s.toArray⟩] w _
  have HM := Kept.mk hm
  clear hm
  go_enter Tryz.func55, Tryz.ntmps55
  go_wp2_with fail
  generalize ((w.alloc (.cells #[vp, vw, .int .i64 F.fuse, .string ⟨F.torn.toArray⟩, .bool F.dead] 25)).alloc (.cells #[.slice none 0 0, .slice none 0 0, .int .i64 0, .string ⟨#[]⟩, .bool false] 25)) = W at *
  refine (rpage_any F n _ W HV.out hf).mono ?_
  rintro e W1 ⟨rfl, hb⟩
  rewrite [HM.out]
  have hs1 := hb.size
  replace HX := Kept.mk (HX.out.keep hb)
  replace HR := Kept.mk (HR.out.keep hb)
  replace HB := Kept.mk (HB.out.trans (hb.mono HB.out.size))
  clear hb
  have kx0 := HX.out.cells.2 0 _ rfl
  have kx1 := HX.out.cells.2 1 _ rfl
  have kx2 := HX.out.cells.2 2 _ rfl
  have kx3 := HX.out.cells.2 3 _ rfl
  have kx4 := HX.out.cells.2 4 _ rfl
  have fx0 := HX.out.free 0
  have fx1 := HX.out.free 1
  have fx2 := HX.out.free 2
  have fx3 := HX.out.free 3
  have fx4 := HX.out.free 4
  have HR2 := HR
  have HB2 := HB
  have K5 : Kept (Ones [vp, vw, .int .i64 F.fuse, .string ⟨F.torn.toArray⟩, .bool F.dead]) := ⟨⟨o1, o2, rfl, rfl, rfl, trivial⟩⟩
  go_wp2_with (have hz1 := K5; refine wpList_storeN 25 rfl (.tmp 8) (.tmp 44) rfl (w.heap.size + 1) [vp, vw, .int .i64 F.fuse, .string ⟨F.torn.toArray⟩, .bool F.dead] size_fl rfl rfl HR2.out.cells rfl HR2.out.free K5.out ?_; clear hz1 K5)
  have B := below_setN (show w.heap.size ≤ w.heap.size + 1 by omega) [vp, vw, .int .i64 F.fuse, .string ⟨F.torn.toArray⟩, .bool F.dead] 0 _ HB2.out
  exact bodyPost_ret (resultsN2 rfl _ _ (w.heap.size + 1) _ (.int .i64 1) size_fl agg_fl rfl rfl (HR2.out.all_ (l := [vp, vw, .int .i64 F.fuse, .string ⟨F.torn.toArray⟩, .bool F.dead]) rfl).cells) rfl ⟨_, rfl, ⟨vp, vw, rfl, stable_cells _ _ _ _ HP.out B, stable_cells _ _ _ _ HQ.out B, op0, oq0⟩, B⟩
set_option maxRecDepth 100000 in
set_option maxHeartbeats 4000000 in
theorem rprogS_no2 (F : Fl) (k : Nat) (at_ : Int) (s : List UInt8) (v : Value) (w : World) (S0 : Nat → Prop) (hS0 : ∀ b, S0 b → b < w.heap.size) (hv : isFlO S0 F v w) (hf : FewF F) (hs : s.length ≤ 1000000) (hm : hasB F (k : Int) = true) (h0 : at_ < 0) :
    Calls Tryz.prog 55 #[v, .int .i64 (k : Int), .int .i64 at_, .string ⟨s.toArray⟩] w fun e w' => ∃ v', e = .returned (.tuple #[v', .int .i64 1]) ∧ isFlO S0 F v' w' ∧ Below w.heap.size w w' := by
  obtain ⟨vp, vw, rfl, hpp, hqq, op0, oq0⟩ := hv
  have o1 := hpp.one
  have o2 := hqq.one
  have HP := Kept.mk hpp
  have HQ := Kept.mk hqq
  have hb0 := (lit_below w (.cells #[vp, vw, .int .i64 F.fuse, .string ⟨F.torn.toArray⟩, .bool F.dead] 25)).trans ((lit_below (w.alloc (.cells #[vp, vw, .int .i64 F.fuse, .string ⟨F.torn.toArray⟩, .bool F.dead] 25)) (.cells #[.slice none 0 0, .slice none 0 0, .int .i64 0, .string ⟨#[]⟩, .bool false] 25)).mono (lit_below w (.cells #[vp, vw, .int .i64 F.fuse, .string ⟨F.torn.toArray⟩, .bool F.dead] 25)).size)
  have HB := Kept.mk hb0
  have HX := Kept.mk ((Blk.new w 25 [vp, vw, .int .i64 F.fuse, .string ⟨F.torn.toArray⟩, .bool F.dead] w.heap.size rfl).alloc (.cells #[.slice none 0 0, .slice none 0 0, .int .i64 0, .string ⟨#[]⟩, .bool false] 25))
  have HR := Kept.mk (Blk.new (w.alloc (.cells #[vp, vw, .int .i64 F.fuse, .string ⟨F.torn.toArray⟩, .bool F.dead] 25)) 25 [.slice none 0 0, .slice none 0 0, .int .i64 0, .string ⟨#[]⟩, .bool false] (w.heap.size + 1) (by simp))
  have HV := Kept.mk (show isFl F (.agg #[vp, vw, .int .i64 F.fuse, .string ⟨F.torn.toArray⟩, .bool F.dead]) ((w.alloc (.cells #[vp, vw, .int .i64 F.fuse, .string ⟨F.torn.toArray⟩, .bool F.dead] 25)).alloc (.cells #[.slice none 0 0, .slice none 0 0, .int .i64 0, .string ⟨#[]⟩, .bool false] 25)) from ⟨vp, vw, rfl, stable_cells _ _ _ _ hpp hb0, stable_cells _ _ _ _ hqq hb0⟩)
  have hs0 : ((w.alloc (.cells #[vp, vw, .int .i64 F.fuse, .string ⟨F.torn.toArray⟩, .bool F.dead] 25)).alloc (.cells #[.slice none 0 0, .slice none 0 0, .int .i64 0, .string ⟨#[]⟩, .bool false] 25)).heap.size = w.heap.size + 2 := by simp
  clear hb0 hpp hqq
  show Calls Tryz.prog 55 #[.agg #[vp, vw, .int .i64 F.fuse, .string ⟨F.torn.toArray⟩, .bool F.dead], .int .i64 (k : Int), .int .i64 at_, .string ⟨s.toArray⟩] w _
  have HM := Kept.mk hm
  clear hm
  have d1 : decide (at_ < 0) = true := decide_eq_true h0
  go_enter Tryz.func55, Tryz.ntmps55
  go_wp2_with fail
  generalize ((w.alloc (.cells #[vp, vw, .int .i64 F.fuse, .string ⟨F.torn.toArray⟩, .bool F.dead] 25)).alloc (.cells #[.slice none 0 0, .slice none 0 0, .int .i64 0, .string ⟨#[]⟩, .bool false] 25)) = W at *
  refine (rpage_any F k _ W HV.out hf).mono ?_
  rintro e W1 ⟨rfl, hb⟩
  rewrite [HM.out]
  have hs1 := hb.size
  replace HX := Kept.mk (HX.out.keep hb)
  replace HR := Kept.mk (HR.out.keep hb)
  replace HB := Kept.mk (HB.out.trans (hb.mono HB.out.size))
  clear hb
  have kx0 := HX.out.cells.2 0 _ rfl
  have kx1 := HX.out.cells.2 1 _ rfl
  have kx2 := HX.out.cells.2 2 _ rfl
  have kx3 := HX.out.cells.2 3 _ rfl
  have kx4 := HX.out.cells.2 4 _ rfl
  have fx0 := HX.out.free 0
  have fx1 := HX.out.free 1
  have fx2 := HX.out.free 2
  have fx3 := HX.out.free 3
  have fx4 := HX.out.free 4
  have HR2 := HR
  have HB2 := HB
  have K5 : Kept (Ones [vp, vw, .int .i64 F.fuse, .string ⟨F.torn.toArray⟩, .bool F.dead]) := ⟨⟨o1, o2, rfl, rfl, rfl, trivial⟩⟩
  go_wp2_with (have hz1 := K5; refine wpList_storeN 25 rfl (.tmp 8) (.tmp 44) rfl (w.heap.size + 1) [vp, vw, .int .i64 F.fuse, .string ⟨F.torn.toArray⟩, .bool F.dead] size_fl rfl rfl HR2.out.cells rfl HR2.out.free K5.out ?_; clear hz1 K5)
  have B := below_setN (show w.heap.size ≤ w.heap.size + 1 by omega) [vp, vw, .int .i64 F.fuse, .string ⟨F.torn.toArray⟩, .bool F.dead] 0 _ HB2.out
  exact bodyPost_ret (resultsN2 rfl _ _ (w.heap.size + 1) _ (.int .i64 1) size_fl agg_fl rfl rfl (HR2.out.all_ (l := [vp, vw, .int .i64 F.fuse, .string ⟨F.torn.toArray⟩, .bool F.dead]) rfl).cells) rfl ⟨_, rfl, ⟨vp, vw, rfl, stable_cells _ _ _ _ HP.out B, stable_cells _ _ _ _ HQ.out B, op0, oq0⟩, B⟩
set_option maxRecDepth 100000 in
set_option maxHeartbeats 4000000 in
theorem rprogS_no3 (F : Fl) (k : Nat) (at_ : Int) (s : List UInt8) (v : Value) (w : World) (S0 : Nat → Prop) (hS0 : ∀ b, S0 b → b < w.heap.size) (hv : isFlO S0 F v w) (hf : FewF F) (hs : s.length ≤ 1000000) (hm : hasB F (k : Int) = true) (h0 : ¬ at_ < 0) (h1 : ((F.pages.getD k []).length : Int) < at_) :
    Calls Tryz.prog 55 #[v, .int .i64 (k : Int), .int .i64 at_, .string ⟨s.toArray⟩] w fun e w' => ∃ v', e = .returned (.tuple #[v', .int .i64 1]) ∧ isFlO S0 F v' w' ∧ Below w.heap.size w w' := by
  have HHF := Kept.mk (has_facts F k hm)
  obtain ⟨hk, h6, hwl, htl, hpg, hwr⟩ := HHF.out
  obtain ⟨was, hwas⟩ : ∃ was, F.pages[k]? = some was := ⟨_, List.getElem?_eq_getElem hk⟩
  have hwm : was.length ≤ 8192 := (hpg _ (List.mem_of_getElem? hwas)).2.1
  have hget1 : F.pages.getD k [] = was := by simp [List.getD_eq_getElem?_getD, hwas]
  have HW0 := Kept.mk (show was.length = (F.pages[0]'(by omega)).length by
    rw [(hpg _ (List.mem_of_getElem? hwas)).2.2, (hpg _ (List.getElem_mem (show 0 < F.pages.length by omega))).2.2])
  have HWAS := Kept.mk hwas
  rw [hget1] at h1
  have HWR := Kept.mk hwr
  have HM := Kept.mk hm
  clear hpg hwr hwas hget1 hm
  obtain ⟨vp, vw, rfl, hpp, hqq, op0, oq0⟩ := hv
  have o1 := hpp.one
  have o2 := hqq.one
  obtain ⟨b, off, cap, hvp, hb, hc⟩ := hpp.some_ (by rw [List.length_map]; omega)
  rw [List.length_map] at hvp
  subst hvp
  have HC := Kept.mk (show w.cell? ⟨b, off + k, none⟩ = some (.string ⟨was.toArray⟩) from hc k _ (by simp [HWAS.out, strC]))
  clear hc
  have HP := Kept.mk hpp
  have HQ := Kept.mk hqq
  have hb0 := (lit_below w (.cells #[.slice (some ⟨b, off, none⟩) F.pages.length cap, vw, .int .i64 F.fuse, .string ⟨F.torn.toArray⟩, .bool F.dead] 25)).trans ((lit_below (w.alloc (.cells #[.slice (some ⟨b, off, none⟩) F.pages.length cap, vw, .int .i64 F.fuse, .string ⟨F.torn.toArray⟩, .bool F.dead] 25)) (.cells #[.slice none 0 0, .slice none 0 0, .int .i64 0, .string ⟨#[]⟩, .bool false] 25)).mono (lit_below w (.cells #[.slice (some ⟨b, off, none⟩) F.pages.length cap, vw, .int .i64 F.fuse, .string ⟨F.torn.toArray⟩, .bool F.dead] 25)).size)
  have HB := Kept.mk hb0
  have HX := Kept.mk ((Blk.new w 25 [.slice (some ⟨b, off, none⟩) F.pages.length cap, vw, .int .i64 F.fuse, .string ⟨F.torn.toArray⟩, .bool F.dead] w.heap.size rfl).alloc (.cells #[.slice none 0 0, .slice none 0 0, .int .i64 0, .string ⟨#[]⟩, .bool false] 25))
  have HR := Kept.mk (Blk.new (w.alloc (.cells #[.slice (some ⟨b, off, none⟩) F.pages.length cap, vw, .int .i64 F.fuse, .string ⟨F.torn.toArray⟩, .bool F.dead] 25)) 25 [.slice none 0 0, .slice none 0 0, .int .i64 0, .string ⟨#[]⟩, .bool false] (w.heap.size + 1) (by simp))
  have HV := Kept.mk (show isFl F (.agg #[.slice (some ⟨b, off, none⟩) F.pages.length cap, vw, .int .i64 F.fuse, .string ⟨F.torn.toArray⟩, .bool F.dead]) ((w.alloc (.cells #[.slice (some ⟨b, off, none⟩) F.pages.length cap, vw, .int .i64 F.fuse, .string ⟨F.torn.toArray⟩, .bool F.dead] 25)).alloc (.cells #[.slice none 0 0, .slice none 0 0, .int .i64 0, .string ⟨#[]⟩, .bool false] 25)) from ⟨.slice (some ⟨b, off, none⟩) F.pages.length cap, vw, rfl, stable_cells _ _ _ _ hpp hb0, stable_cells _ _ _ _ hqq hb0⟩)
  have hs0 : ((w.alloc (.cells #[.slice (some ⟨b, off, none⟩) F.pages.length cap, vw, .int .i64 F.fuse, .string ⟨F.torn.toArray⟩, .bool F.dead] 25)).alloc (.cells #[.slice none 0 0, .slice none 0 0, .int .i64 0, .string ⟨#[]⟩, .bool false] 25)).heap.size = w.heap.size + 2 := by simp
  clear hb0 hpp hqq
  show Calls Tryz.prog 55 #[.agg #[.slice (some ⟨b, off, none⟩) F.pages.length cap, vw, .int .i64 F.fuse, .string ⟨F.torn.toArray⟩, .bool F.dead], .int .i64 (k : Int), .int .i64 at_, .string ⟨s.toArray⟩] w _
  have hsz : (⟨was.toArray⟩ : ByteArray).size = was.length := size_mk was
  have hss : (⟨s.toArray⟩ : ByteArray).size = s.length := size_mk s
  have d1 : decide (at_ < 0) = false := decide_eq_false h0
  have d2 : decide ((was.length : Int) < at_) = true := decide_eq_true h1
  go_enter Tryz.func55, Tryz.ntmps55
  go_wp2_with fail
  generalize ((w.alloc (.cells #[.slice (some ⟨b, off, none⟩) F.pages.length cap, vw, .int .i64 F.fuse, .string ⟨F.torn.toArray⟩, .bool F.dead] 25)).alloc (.cells #[.slice none 0 0, .slice none 0 0, .int .i64 0, .string ⟨#[]⟩, .bool false] 25)) = W at *
  refine (rpage_any F k _ W HV.out hf).mono ?_
  rintro e W1 ⟨rfl, hb⟩
  rewrite [HM.out]
  have hs1 := hb.size
  replace HX := Kept.mk (HX.out.keep hb)
  replace HR := Kept.mk (HR.out.keep hb)
  replace HB := Kept.mk (HB.out.trans (hb.mono HB.out.size))
  clear hb
  have kx0 := HX.out.cells.2 0 _ rfl
  have kx1 := HX.out.cells.2 1 _ rfl
  have kx2 := HX.out.cells.2 2 _ rfl
  have kx3 := HX.out.cells.2 3 _ rfl
  have kx4 := HX.out.cells.2 4 _ rfl
  have fx0 := HX.out.free 0
  have fx1 := HX.out.free 1
  have fx2 := HX.out.free 2
  have fx3 := HX.out.free 3
  have fx4 := HX.out.free 4
  have kc := (HB.out.cell (p := ⟨b, off + k, none⟩) hb).trans HC.out
  have HR2 := HR
  have HB2 := HB
  have K5 : Kept (Ones [.slice (some ⟨b, off, none⟩) F.pages.length cap, vw, .int .i64 F.fuse, .string ⟨F.torn.toArray⟩, .bool F.dead]) := ⟨⟨o1, o2, rfl, rfl, rfl, trivial⟩⟩
  go_wp2_with (have hz1 := K5; refine wpList_storeN 25 rfl (.tmp 8) (.tmp 44) rfl (w.heap.size + 1) [.slice (some ⟨b, off, none⟩) F.pages.length cap, vw, .int .i64 F.fuse, .string ⟨F.torn.toArray⟩, .bool F.dead] size_fl rfl rfl HR2.out.cells rfl HR2.out.free K5.out ?_; clear hz1 K5)
  have B := below_setN (show w.heap.size ≤ w.heap.size + 1 by omega) [.slice (some ⟨b, off, none⟩) F.pages.length cap, vw, .int .i64 F.fuse, .string ⟨F.torn.toArray⟩, .bool F.dead] 0 _ HB2.out
  exact bodyPost_ret (resultsN2 rfl _ _ (w.heap.size + 1) _ (.int .i64 1) size_fl agg_fl rfl rfl (HR2.out.all_ (l := [.slice (some ⟨b, off, none⟩) F.pages.length cap, vw, .int .i64 F.fuse, .string ⟨F.torn.toArray⟩, .bool F.dead]) rfl).cells) rfl ⟨_, rfl, ⟨.slice (some ⟨b, off, none⟩) F.pages.length cap, vw, rfl, stable_cells _ _ _ _ HP.out B, stable_cells _ _ _ _ HQ.out B, op0, oq0⟩, B⟩
set_option maxRecDepth 100000 in
set_option maxHeartbeats 4000000 in
theorem rprogS_no4 (F : Fl) (k : Nat) (at_ : Int) (s : List UInt8) (v : Value) (w : World) (S0 : Nat → Prop) (hS0 : ∀ b, S0 b → b < w.heap.size) (hv : isFlO S0 F v w) (hf : FewF F) (hs : s.length ≤ 1000000) (hm : hasB F (k : Int) = true) (h0 : ¬ at_ < 0) (h1 : at_ ≤ ((F.pages.getD k []).length : Int)) (h2 : ((F.pages.getD k []).length : Int) - at_ < (s.length : Int)) :
    Calls Tryz.prog 55 #[v, .int .i64 (k : Int), .int .i64 at_, .string ⟨s.toArray⟩] w fun e w' => ∃ v', e = .returned (.tuple #[v', .int .i64 1]) ∧ isFlO S0 F v' w' ∧ Below w.heap.size w w' := by
  have HHF := Kept.mk (has_facts F k hm)
  obtain ⟨hk, h6, hwl, htl, hpg, hwr⟩ := HHF.out
  obtain ⟨was, hwas⟩ : ∃ was, F.pages[k]? = some was := ⟨_, List.getElem?_eq_getElem hk⟩
  have hwm : was.length ≤ 8192 := (hpg _ (List.mem_of_getElem? hwas)).2.1
  have hget1 : F.pages.getD k [] = was := by simp [List.getD_eq_getElem?_getD, hwas]
  have HW0 := Kept.mk (show was.length = (F.pages[0]'(by omega)).length by
    rw [(hpg _ (List.mem_of_getElem? hwas)).2.2, (hpg _ (List.getElem_mem (show 0 < F.pages.length by omega))).2.2])
  have HWAS := Kept.mk hwas
  rw [hget1] at h1 h2
  have HWR := Kept.mk hwr
  have HM := Kept.mk hm
  clear hpg hwr hwas hget1 hm
  obtain ⟨vp, vw, rfl, hpp, hqq, op0, oq0⟩ := hv
  have o1 := hpp.one
  have o2 := hqq.one
  obtain ⟨b, off, cap, hvp, hb, hc⟩ := hpp.some_ (by rw [List.length_map]; omega)
  rw [List.length_map] at hvp
  subst hvp
  have HC := Kept.mk (show w.cell? ⟨b, off + k, none⟩ = some (.string ⟨was.toArray⟩) from hc k _ (by simp [HWAS.out, strC]))
  clear hc
  have HP := Kept.mk hpp
  have HQ := Kept.mk hqq
  have hb0 := (lit_below w (.cells #[.slice (some ⟨b, off, none⟩) F.pages.length cap, vw, .int .i64 F.fuse, .string ⟨F.torn.toArray⟩, .bool F.dead] 25)).trans ((lit_below (w.alloc (.cells #[.slice (some ⟨b, off, none⟩) F.pages.length cap, vw, .int .i64 F.fuse, .string ⟨F.torn.toArray⟩, .bool F.dead] 25)) (.cells #[.slice none 0 0, .slice none 0 0, .int .i64 0, .string ⟨#[]⟩, .bool false] 25)).mono (lit_below w (.cells #[.slice (some ⟨b, off, none⟩) F.pages.length cap, vw, .int .i64 F.fuse, .string ⟨F.torn.toArray⟩, .bool F.dead] 25)).size)
  have HB := Kept.mk hb0
  have HX := Kept.mk ((Blk.new w 25 [.slice (some ⟨b, off, none⟩) F.pages.length cap, vw, .int .i64 F.fuse, .string ⟨F.torn.toArray⟩, .bool F.dead] w.heap.size rfl).alloc (.cells #[.slice none 0 0, .slice none 0 0, .int .i64 0, .string ⟨#[]⟩, .bool false] 25))
  have HR := Kept.mk (Blk.new (w.alloc (.cells #[.slice (some ⟨b, off, none⟩) F.pages.length cap, vw, .int .i64 F.fuse, .string ⟨F.torn.toArray⟩, .bool F.dead] 25)) 25 [.slice none 0 0, .slice none 0 0, .int .i64 0, .string ⟨#[]⟩, .bool false] (w.heap.size + 1) (by simp))
  have HV := Kept.mk (show isFl F (.agg #[.slice (some ⟨b, off, none⟩) F.pages.length cap, vw, .int .i64 F.fuse, .string ⟨F.torn.toArray⟩, .bool F.dead]) ((w.alloc (.cells #[.slice (some ⟨b, off, none⟩) F.pages.length cap, vw, .int .i64 F.fuse, .string ⟨F.torn.toArray⟩, .bool F.dead] 25)).alloc (.cells #[.slice none 0 0, .slice none 0 0, .int .i64 0, .string ⟨#[]⟩, .bool false] 25)) from ⟨.slice (some ⟨b, off, none⟩) F.pages.length cap, vw, rfl, stable_cells _ _ _ _ hpp hb0, stable_cells _ _ _ _ hqq hb0⟩)
  have hs0 : ((w.alloc (.cells #[.slice (some ⟨b, off, none⟩) F.pages.length cap, vw, .int .i64 F.fuse, .string ⟨F.torn.toArray⟩, .bool F.dead] 25)).alloc (.cells #[.slice none 0 0, .slice none 0 0, .int .i64 0, .string ⟨#[]⟩, .bool false] 25)).heap.size = w.heap.size + 2 := by simp
  clear hb0 hpp hqq
  show Calls Tryz.prog 55 #[.agg #[.slice (some ⟨b, off, none⟩) F.pages.length cap, vw, .int .i64 F.fuse, .string ⟨F.torn.toArray⟩, .bool F.dead], .int .i64 (k : Int), .int .i64 at_, .string ⟨s.toArray⟩] w _
  have hsz : (⟨was.toArray⟩ : ByteArray).size = was.length := size_mk was
  have hss : (⟨s.toArray⟩ : ByteArray).size = s.length := size_mk s
  have d1 : decide (at_ < 0) = false := decide_eq_false h0
  have d2 : decide ((was.length : Int) < at_) = false := decide_eq_false (by omega)
  have d3 : decide ((was.length : Int) - at_ < (s.length : Int)) = true := decide_eq_true h2
  go_enter Tryz.func55, Tryz.ntmps55
  go_wp2_with fail
  generalize ((w.alloc (.cells #[.slice (some ⟨b, off, none⟩) F.pages.length cap, vw, .int .i64 F.fuse, .string ⟨F.torn.toArray⟩, .bool F.dead] 25)).alloc (.cells #[.slice none 0 0, .slice none 0 0, .int .i64 0, .string ⟨#[]⟩, .bool false] 25)) = W at *
  refine (rpage_any F k _ W HV.out hf).mono ?_
  rintro e W1 ⟨rfl, hb⟩
  rewrite [HM.out]
  have hs1 := hb.size
  replace HX := Kept.mk (HX.out.keep hb)
  replace HR := Kept.mk (HR.out.keep hb)
  replace HB := Kept.mk (HB.out.trans (hb.mono HB.out.size))
  clear hb
  have kx0 := HX.out.cells.2 0 _ rfl
  have kx1 := HX.out.cells.2 1 _ rfl
  have kx2 := HX.out.cells.2 2 _ rfl
  have kx3 := HX.out.cells.2 3 _ rfl
  have kx4 := HX.out.cells.2 4 _ rfl
  have fx0 := HX.out.free 0
  have fx1 := HX.out.free 1
  have fx2 := HX.out.free 2
  have fx3 := HX.out.free 3
  have fx4 := HX.out.free 4
  have kc := (HB.out.cell (p := ⟨b, off + k, none⟩) hb).trans HC.out
  have HR2 := HR
  have HB2 := HB
  have K5 : Kept (Ones [.slice (some ⟨b, off, none⟩) F.pages.length cap, vw, .int .i64 F.fuse, .string ⟨F.torn.toArray⟩, .bool F.dead]) := ⟨⟨o1, o2, rfl, rfl, rfl, trivial⟩⟩
  go_wp2_with (have hz1 := K5; refine wpList_storeN 25 rfl (.tmp 8) (.tmp 44) rfl (w.heap.size + 1) [.slice (some ⟨b, off, none⟩) F.pages.length cap, vw, .int .i64 F.fuse, .string ⟨F.torn.toArray⟩, .bool F.dead] size_fl rfl rfl HR2.out.cells rfl HR2.out.free K5.out ?_; clear hz1 K5)
  have B := below_setN (show w.heap.size ≤ w.heap.size + 1 by omega) [.slice (some ⟨b, off, none⟩) F.pages.length cap, vw, .int .i64 F.fuse, .string ⟨F.torn.toArray⟩, .bool F.dead] 0 _ HB2.out
  exact bodyPost_ret (resultsN2 rfl _ _ (w.heap.size + 1) _ (.int .i64 1) size_fl agg_fl rfl rfl (HR2.out.all_ (l := [.slice (some ⟨b, off, none⟩) F.pages.length cap, vw, .int .i64 F.fuse, .string ⟨F.torn.toArray⟩, .bool F.dead]) rfl).cells) rfl ⟨_, rfl, ⟨.slice (some ⟨b, off, none⟩) F.pages.length cap, vw, rfl, stable_cells _ _ _ _ HP.out B, stable_cells _ _ _ _ HQ.out B, op0, oq0⟩, B⟩
set_option maxRecDepth 100000 in
set_option maxHeartbeats 4000000 in
theorem rprogS_no5 (F : Fl) (k : Nat) (m : Nat) (s : List UInt8) (v : Value) (w : World) (S0 : Nat → Prop) (hS0 : ∀ b, S0 b → b < w.heap.size) (hv : isFlO S0 F v w) (hf : FewF F) (hs : s.length ≤ 1000000) (hm : hasB F (k : Int) = true) (h2 : m + s.length ≤ (F.pages.getD k []).length) (hd : F.dead = true) :
    Calls Tryz.prog 55 #[v, .int .i64 (k : Int), .int .i64 (m : Int), .string ⟨s.toArray⟩] w fun e w' => ∃ v', e = .returned (.tuple #[v', .int .i64 8]) ∧ isFlO S0 F v' w' ∧ Below w.heap.size w w' := by
  have HHF := Kept.mk (has_facts F k hm)
  obtain ⟨hk, h6, hwl, htl, hpg, hwr⟩ := HHF.out
  obtain ⟨was, hwas⟩ : ∃ was, F.pages[k]? = some was := ⟨_, List.getElem?_eq_getElem hk⟩
  have hwm : was.length ≤ 8192 := (hpg _ (List.mem_of_getElem? hwas)).2.1
  have hget1 : F.pages.getD k [] = was := by simp [List.getD_eq_getElem?_getD, hwas]
  have HW0 := Kept.mk (show was.length = (F.pages[0]'(by omega)).length by
    rw [(hpg _ (List.mem_of_getElem? hwas)).2.2, (hpg _ (List.getElem_mem (show 0 < F.pages.length by omega))).2.2])
  have HWAS := Kept.mk hwas
  rw [hget1] at h2
  have HWR := Kept.mk hwr
  have HM := Kept.mk hm
  clear hpg hwr hwas hget1 hm
  obtain ⟨vp, vw, rfl, hpp, hqq, op0, oq0⟩ := hv
  have o1 := hpp.one
  have o2 := hqq.one
  obtain ⟨b, off, cap, hvp, hb, hc⟩ := hpp.some_ (by rw [List.length_map]; omega)
  rw [List.length_map] at hvp
  subst hvp
  have HC := Kept.mk (show w.cell? ⟨b, off + k, none⟩ = some (.string ⟨was.toArray⟩) from hc k _ (by simp [HWAS.out, strC]))
  clear hc
  have HP := Kept.mk hpp
  have HQ := Kept.mk hqq
  have hb0 := (lit_below w (.cells #[.slice (some ⟨b, off, none⟩) F.pages.length cap, vw, .int .i64 F.fuse, .string ⟨F.torn.toArray⟩, .bool F.dead] 25)).trans ((lit_below (w.alloc (.cells #[.slice (some ⟨b, off, none⟩) F.pages.length cap, vw, .int .i64 F.fuse, .string ⟨F.torn.toArray⟩, .bool F.dead] 25)) (.cells #[.slice none 0 0, .slice none 0 0, .int .i64 0, .string ⟨#[]⟩, .bool false] 25)).mono (lit_below w (.cells #[.slice (some ⟨b, off, none⟩) F.pages.length cap, vw, .int .i64 F.fuse, .string ⟨F.torn.toArray⟩, .bool F.dead] 25)).size)
  have HB := Kept.mk hb0
  have HX := Kept.mk ((Blk.new w 25 [.slice (some ⟨b, off, none⟩) F.pages.length cap, vw, .int .i64 F.fuse, .string ⟨F.torn.toArray⟩, .bool F.dead] w.heap.size rfl).alloc (.cells #[.slice none 0 0, .slice none 0 0, .int .i64 0, .string ⟨#[]⟩, .bool false] 25))
  have HR := Kept.mk (Blk.new (w.alloc (.cells #[.slice (some ⟨b, off, none⟩) F.pages.length cap, vw, .int .i64 F.fuse, .string ⟨F.torn.toArray⟩, .bool F.dead] 25)) 25 [.slice none 0 0, .slice none 0 0, .int .i64 0, .string ⟨#[]⟩, .bool false] (w.heap.size + 1) (by simp))
  have HV := Kept.mk (show isFl F (.agg #[.slice (some ⟨b, off, none⟩) F.pages.length cap, vw, .int .i64 F.fuse, .string ⟨F.torn.toArray⟩, .bool F.dead]) ((w.alloc (.cells #[.slice (some ⟨b, off, none⟩) F.pages.length cap, vw, .int .i64 F.fuse, .string ⟨F.torn.toArray⟩, .bool F.dead] 25)).alloc (.cells #[.slice none 0 0, .slice none 0 0, .int .i64 0, .string ⟨#[]⟩, .bool false] 25)) from ⟨.slice (some ⟨b, off, none⟩) F.pages.length cap, vw, rfl, stable_cells _ _ _ _ hpp hb0, stable_cells _ _ _ _ hqq hb0⟩)
  have hs0 : ((w.alloc (.cells #[.slice (some ⟨b, off, none⟩) F.pages.length cap, vw, .int .i64 F.fuse, .string ⟨F.torn.toArray⟩, .bool F.dead] 25)).alloc (.cells #[.slice none 0 0, .slice none 0 0, .int .i64 0, .string ⟨#[]⟩, .bool false] 25)).heap.size = w.heap.size + 2 := by simp
  clear hb0 hpp hqq
  show Calls Tryz.prog 55 #[.agg #[.slice (some ⟨b, off, none⟩) F.pages.length cap, vw, .int .i64 F.fuse, .string ⟨F.torn.toArray⟩, .bool F.dead], .int .i64 (k : Int), .int .i64 (m : Int), .string ⟨s.toArray⟩] w _
  have hsz : (⟨was.toArray⟩ : ByteArray).size = was.length := size_mk was
  have hss : (⟨s.toArray⟩ : ByteArray).size = s.length := size_mk s
  have d1 : decide ((m : Int) < 0) = false := decide_eq_false (by omega)
  have d2 : decide ((was.length : Int) < (m : Int)) = false := decide_eq_false (by omega)
  have d3 : decide ((was.length : Int) - (m : Int) < (s.length : Int)) = false := decide_eq_false (by omega)
  have HD := Kept.mk hd
  clear hd
  go_enter Tryz.func55, Tryz.ntmps55
  go_wp2_with fail
  generalize ((w.alloc (.cells #[.slice (some ⟨b, off, none⟩) F.pages.length cap, vw, .int .i64 F.fuse, .string ⟨F.torn.toArray⟩, .bool F.dead] 25)).alloc (.cells #[.slice none 0 0, .slice none 0 0, .int .i64 0, .string ⟨#[]⟩, .bool false] 25)) = W at *
  refine (rpage_any F k _ W HV.out hf).mono ?_
  rintro e W1 ⟨rfl, hb⟩
  rewrite [HM.out]
  have hs1 := hb.size
  replace HX := Kept.mk (HX.out.keep hb)
  replace HR := Kept.mk (HR.out.keep hb)
  replace HB := Kept.mk (HB.out.trans (hb.mono HB.out.size))
  clear hb
  have kx0 := HX.out.cells.2 0 _ rfl
  have kx1 := HX.out.cells.2 1 _ rfl
  have kx2 := HX.out.cells.2 2 _ rfl
  have kx3 := HX.out.cells.2 3 _ rfl
  have kx4 := HX.out.cells.2 4 _ rfl
  have fx0 := HX.out.free 0
  have fx1 := HX.out.free 1
  have fx2 := HX.out.free 2
  have fx3 := HX.out.free 3
  have fx4 := HX.out.free 4
  have kc := (HB.out.cell (p := ⟨b, off + k, none⟩) hb).trans HC.out
  rw [HD.out] at kx4
  have HR2 := HR
  have HB2 := HB
  have K5 : Kept (Ones [.slice (some ⟨b, off, none⟩) F.pages.length cap, vw, .int .i64 F.fuse, .string ⟨F.torn.toArray⟩, .bool true]) := ⟨⟨o1, o2, rfl, rfl, rfl, trivial⟩⟩
  go_wp2_with (have hz1 := K5; refine wpList_storeN 25 rfl (.tmp 8) (.tmp 47) rfl (w.heap.size + 1) [.slice (some ⟨b, off, none⟩) F.pages.length cap, vw, .int .i64 F.fuse, .string ⟨F.torn.toArray⟩, .bool true] size_fl rfl rfl HR2.out.cells rfl HR2.out.free K5.out ?_; clear hz1 K5)
  have B := below_setN (show w.heap.size ≤ w.heap.size + 1 by omega) [.slice (some ⟨b, off, none⟩) F.pages.length cap, vw, .int .i64 F.fuse, .string ⟨F.torn.toArray⟩, .bool true] 0 _ HB2.out
  exact bodyPost_ret (resultsN2 rfl _ _ (w.heap.size + 1) _ (.int .i64 8) size_fl agg_fl rfl rfl (HR2.out.all_ (l := [.slice (some ⟨b, off, none⟩) F.pages.length cap, vw, .int .i64 F.fuse, .string ⟨F.torn.toArray⟩, .bool true]) rfl).cells) rfl ⟨_, rfl, ⟨.slice (some ⟨b, off, none⟩) F.pages.length cap, vw, by rw [HD.out]; rfl, stable_cells _ _ _ _ HP.out B, stable_cells _ _ _ _ HQ.out B, op0, oq0⟩, B⟩
set_option maxRecDepth 100000 in
set_option maxHeartbeats 4000000 in
theorem rprogS_yes (F : Fl) (k : Nat) (m : Nat) (s : List UInt8) (v : Value) (w : World) (S0 : Nat → Prop) (hS0 : ∀ b, S0 b → b < w.heap.size) (hv : isFlO S0 F v w) (hf : FewF F) (hs : s.length ≤ 1000000) (hm : hasB F (k : Int) = true) (h2 : m + s.length ≤ (F.pages.getD k []).length) (hd : F.dead = false) (hz : ¬ F.fuse = 0) (hfz : F.fuse ≤ 9223372036854775807) :
    Calls Tryz.prog 55 #[v, .int .i64 (k : Int), .int .i64 (m : Int), .string ⟨s.toArray⟩] w fun e w' => ∃ v', e = .returned (.tuple #[v', .int .i64 0]) ∧ isFlO S0 { F with pages := F.pages.set k (pairL (· &&& ·) (F.pages.getD k []) (List.replicate m 255 ++ s ++ List.replicate ((F.pages.getD k []).length - m - s.length) 255)), fuse := lessN F.fuse } v' w' ∧ Below w.heap.size w w' := by
  have HHF := Kept.mk (has_facts F k hm)
  obtain ⟨hk, h6, hwl, htl, hpg, hwr⟩ := HHF.out
  obtain ⟨was, hwas⟩ : ∃ was, F.pages[k]? = some was := ⟨_, List.getElem?_eq_getElem hk⟩
  have hwm : was.length ≤ 8192 := (hpg _ (List.mem_of_getElem? hwas)).2.1
  have hget1 : F.pages.getD k [] = was := by simp [List.getD_eq_getElem?_getD, hwas]
  have HW0 := Kept.mk (show was.length = (F.pages[0]'(by omega)).length by
    rw [(hpg _ (List.mem_of_getElem? hwas)).2.2, (hpg _ (List.getElem_mem (show 0 < F.pages.length by omega))).2.2])
  have HWAS := Kept.mk hwas
  rw [hget1] at h2 ⊢
  have HWR := Kept.mk hwr
  have HM := Kept.mk hm
  clear hpg hwr hwas hget1 hm
  obtain ⟨vp, vw, rfl, hpp, hqq, op0, oq0⟩ := hv
  have o1 := hpp.one
  have o2 := hqq.one
  obtain ⟨b, off, cap, hvp, hb, hc⟩ := hpp.some_ (by rw [List.length_map]; omega)
  rw [List.length_map] at hvp
  subst hvp
  have HC := Kept.mk (show w.cell? ⟨b, off + k, none⟩ = some (.string ⟨was.toArray⟩) from hc k _ (by simp [HWAS.out, strC]))
  clear hc
  have HP := Kept.mk hpp
  have HQ := Kept.mk hqq
  have hb0 := (lit_below w (.cells #[.slice (some ⟨b, off, none⟩) F.pages.length cap, vw, .int .i64 F.fuse, .string ⟨F.torn.toArray⟩, .bool F.dead] 25)).trans ((lit_below (w.alloc (.cells #[.slice (some ⟨b, off, none⟩) F.pages.length cap, vw, .int .i64 F.fuse, .string ⟨F.torn.toArray⟩, .bool F.dead] 25)) (.cells #[.slice none 0 0, .slice none 0 0, .int .i64 0, .string ⟨#[]⟩, .bool false] 25)).mono (lit_below w (.cells #[.slice (some ⟨b, off, none⟩) F.pages.length cap, vw, .int .i64 F.fuse, .string ⟨F.torn.toArray⟩, .bool F.dead] 25)).size)
  have HB := Kept.mk hb0
  have HX := Kept.mk ((Blk.new w 25 [.slice (some ⟨b, off, none⟩) F.pages.length cap, vw, .int .i64 F.fuse, .string ⟨F.torn.toArray⟩, .bool F.dead] w.heap.size rfl).alloc (.cells #[.slice none 0 0, .slice none 0 0, .int .i64 0, .string ⟨#[]⟩, .bool false] 25))
  have HR := Kept.mk (Blk.new (w.alloc (.cells #[.slice (some ⟨b, off, none⟩) F.pages.length cap, vw, .int .i64 F.fuse, .string ⟨F.torn.toArray⟩, .bool F.dead] 25)) 25 [.slice none 0 0, .slice none 0 0, .int .i64 0, .string ⟨#[]⟩, .bool false] (w.heap.size + 1) (by simp))
  have HV := Kept.mk (show isFl F (.agg #[.slice (some ⟨b, off, none⟩) F.pages.length cap, vw, .int .i64 F.fuse, .string ⟨F.torn.toArray⟩, .bool F.dead]) ((w.alloc (.cells #[.slice (some ⟨b, off, none⟩) F.pages.length cap, vw, .int .i64 F.fuse, .string ⟨F.torn.toArray⟩, .bool F.dead] 25)).alloc (.cells #[.slice none 0 0, .slice none 0 0, .int .i64 0, .string ⟨#[]⟩, .bool false] 25)) from ⟨.slice (some ⟨b, off, none⟩) F.pages.length cap, vw, rfl, stable_cells _ _ _ _ hpp hb0, stable_cells _ _ _ _ hqq hb0⟩)
  have hs0 : ((w.alloc (.cells #[.slice (some ⟨b, off, none⟩) F.pages.length cap, vw, .int .i64 F.fuse, .string ⟨F.torn.toArray⟩, .bool F.dead] 25)).alloc (.cells #[.slice none 0 0, .slice none 0 0, .int .i64 0, .string ⟨#[]⟩, .bool false] 25)).heap.size = w.heap.size + 2 := by simp
  clear hb0 hpp hqq
  show Calls Tryz.prog 55 #[.agg #[.slice (some ⟨b, off, none⟩) F.pages.length cap, vw, .int .i64 F.fuse, .string ⟨F.torn.toArray⟩, .bool F.dead], .int .i64 (k : Int), .int .i64 (m : Int), .string ⟨s.toArray⟩] w _
  have hsz : (⟨was.toArray⟩ : ByteArray).size = was.length := size_mk was
  have hss : (⟨s.toArray⟩ : ByteArray).size = s.length := size_mk s
  have d1 : decide ((m : Int) < 0) = false := decide_eq_false (by omega)
  have d2 : decide ((was.length : Int) < (m : Int)) = false := decide_eq_false (by omega)
  have d3 : decide ((was.length : Int) - (m : Int) < (s.length : Int)) = false := decide_eq_false (by omega)
  obtain ⟨l1, hl1⟩ : ∃ l : List UInt8, l = List.replicate m 255 := ⟨_, rfl⟩
  obtain ⟨l2, hl2⟩ : ∃ l : List UInt8, l = List.replicate (was.length - m - s.length) 255 := ⟨_, rfl⟩
  rw [← hl1, ← hl2]
  obtain ⟨l3, hl3⟩ : ∃ l : List UInt8, l = l1 ++ s := ⟨_, rfl⟩
  obtain ⟨d, hd0⟩ : ∃ l : List UInt8, l = l3 ++ l2 := ⟨_, rfl⟩
  rw [← hl3, ← hd0]
  have HO1 := Kept.mk (show onesL (m : Int) = l1 by rw [hl1]; exact ones_nat m (by omega))
  have HO2 := Kept.mk (show onesL ((was.length : Int) - (m : Int) - (s.length : Int)) = l2 by
    rw [hl2, show (was.length : Int) - (m : Int) - (s.length : Int) = ((was.length - m - s.length : Nat) : Int) by omega]
    exact ones_nat _ (by omega))
  have n1 : l1.length = m := by rw [hl1, List.length_replicate]
  have n2 : l2.length = was.length - m - s.length := by rw [hl2, List.length_replicate]
  have n3 : l3.length = m + s.length := by rw [hl3, List.length_append, n1]
  have nd : d.length = was.length := by rw [hd0, List.length_append, n3, n2]; omega
  have hA1 : ∀ W, (Op.stringOp .add ⟨l1.toArray⟩ ⟨s.toArray⟩).run Tryz.prog W = .ok (.string ⟨l3.toArray⟩) W := fun W => by rw [hl3]; exact run_string_add_lists W l1 s (by omega) (by omega)
  have hA2 : ∀ W, (Op.stringOp .add ⟨l3.toArray⟩ ⟨l2.toArray⟩).run Tryz.prog W = .ok (.string ⟨d.toArray⟩) W := fun W => by rw [hd0]; exact run_string_add_lists W l3 l2 (by omega) (by omega)
  clear hl1 hl2 hl3 hd0
  have HD := Kept.mk hd
  clear hd
  go_enter Tryz.func55, Tryz.ntmps55
  go_wp2_with fail
  generalize ((w.alloc (.cells #[.slice (some ⟨b, off, none⟩) F.pages.length cap, vw, .int .i64 F.fuse, .string ⟨F.torn.toArray⟩, .bool F.dead] 25)).alloc (.cells #[.slice none 0 0, .slice none 0 0, .int .i64 0, .string ⟨#[]⟩, .bool false] 25)) = W at *
  refine (rpage_any F k _ W HV.out hf).mono ?_
  rintro e W1 ⟨rfl, hb⟩
  rewrite [HM.out]
  have hs1 := hb.size
  replace HX := Kept.mk (HX.out.keep hb)
  replace HR := Kept.mk (HR.out.keep hb)
  replace HB := Kept.mk (HB.out.trans (hb.mono HB.out.size))
  clear hb
  have kx0 := HX.out.cells.2 0 _ rfl
  have kx1 := HX.out.cells.2 1 _ rfl
  have kx2 := HX.out.cells.2 2 _ rfl
  have kx3 := HX.out.cells.2 3 _ rfl
  have kx4 := HX.out.cells.2 4 _ rfl
  have fx0 := HX.out.free 0
  have fx1 := HX.out.free 1
  have fx2 := HX.out.free 2
  have fx3 := HX.out.free 3
  have fx4 := HX.out.free 4
  have kc := (HB.out.cell (p := ⟨b, off + k, none⟩) hb).trans HC.out
  rw [HD.out] at kx4
  go_wp2_with fail
  clear kx0 kx1 kx2 kx3 kx4 fx0 fx1 fx2 fx3 fx4 kc
  refine (refOnes_any _ _).mono ?_
  rintro e W2 ⟨rfl, hbb⟩
  have hsW2 := hbb.size
  replace HX := Kept.mk (HX.out.keep hbb)
  replace HR := Kept.mk (HR.out.keep hbb)
  replace HB := Kept.mk (HB.out.trans (hbb.mono HB.out.size))
  clear hbb
  rewrite [HO1.out]
  go_wp2_with fail
  refine (refOnes_any _ _).mono ?_
  rintro e W3 ⟨rfl, hbb⟩
  have hsW3 := hbb.size
  replace HX := Kept.mk (HX.out.keep hbb)
  replace HR := Kept.mk (HR.out.keep hbb)
  replace HB := Kept.mk (HB.out.trans (hbb.mono HB.out.size))
  clear hbb
  rewrite [HO2.out]
  have kx0 := HX.out.cells.2 0 _ rfl
  have kx1 := HX.out.cells.2 1 _ rfl
  have kx2 := HX.out.cells.2 2 _ rfl
  have kx3 := HX.out.cells.2 3 _ rfl
  have kx4 := HX.out.cells.2 4 _ rfl
  go_wp2_with fail
  clear kx0 kx1 kx2 kx3 kx4
  have hbl : b < W3.heap.size := by have := HB.out.size; omega
  have HP1 := Kept.mk (stable_cells _ _ _ _ HP.out HB.out)
  have HQ1 := Kept.mk (stable_cells _ _ _ _ HQ.out HB.out)
  have HC1 := Kept.mk ((HB.out.cell (p := ⟨b, off + k, none⟩) hb).trans HC.out)
  refine rp10S_region _ _ _ rfl (fun b => b = w.heap.size + 1 ∨ S0 b) (fun b hb => hb.elim (fun e => by have := HR.out.lt; omega) (fun h => Nat.lt_of_lt_of_le (hS0 b h) HB.out.size)) F k was b off F.pages.length cap w.heap.size (w.heap.size + 1) vw HX.out HR.out HP1.out HQ1.out (offS_or HQ.out oq0 (Nat.le_succ _)) hk h6 HC1.out hbl hk hwm rfl rfl rfl d rfl (by omega) hfz ?_
  intro y9 p q W9 hcp hcq hop hoq hb9
  have HE := Kept.mk (below_setN (show w.heap.size ≤ w.heap.size + 1 by omega) [p, q, .int .i64 (lessN F.fuse), .string ⟨F.torn.toArray⟩, .bool F.dead] 0 _ (HB.out.trans (hb9.mono HB.out.size)))
  have HF := Kept.mk ((HR.out.keep hb9).all_ (l := [p, q, .int .i64 (lessN F.fuse), .string ⟨F.torn.toArray⟩, .bool F.dead]) rfl).cells
  have EP := Kept.mk (cells_apart hcp (fun b o c e hne hb => hop b o c e hne (.inl hb)) 0 [p, q, .int .i64 (lessN F.fuse), .string ⟨F.torn.toArray⟩, .bool F.dead])
  have EQ := Kept.mk (cells_apart hcq (fun b o c e hne hb => hoq b o c e hne (.inl hb)) 0 [p, q, .int .i64 (lessN F.fuse), .string ⟨F.torn.toArray⟩, .bool F.dead])
  have OP := Kept.mk (show OffS S0 _ p from fun b o c e hne hb => hop b o c e hne (.inr hb))
  have OQ := Kept.mk (show OffS S0 _ q from fun b o c e hne hb => hoq b o c e hne (.inr hb))
  clear hb9 hcp hcq hop hoq HC1 HP1 HQ1
  simp only [List.foldl_cons, List.foldl_nil]
  generalize y9 85 = z85
  generalize y9 86 = z86
  generalize y9 87 = z87
  generalize y9 88 = z88
  generalize y9 89 = z89
  generalize y9 90 = z90
  generalize y9 91 = z91
  generalize y9 92 = z92
  generalize y9 93 = z93
  generalize y9 94 = z94
  generalize y9 95 = z95
  generalize y9 9 = z9
  simp only [List.setIfInBounds_toArray, List.set_cons_succ, List.set_cons_zero]
  clear y9
  go_wp2
  exact bodyPost_ret (resultsN2 rfl _ _ (w.heap.size + 1) _ (.int .i64 0) size_fl agg_fl rfl rfl HF.out) rfl ⟨_, rfl, ⟨p, q, rfl, EP.out, EQ.out, OP.out, OQ.out⟩, HE.out⟩
set_option maxRecDepth 100000 in
set_option maxHeartbeats 4000000 in
theorem rprogS_torn (F : Fl) (k : Nat) (m : Nat) (s : List UInt8) (v : Value) (w : World) (S0 : Nat → Prop) (hS0 : ∀ b, S0 b → b < w.heap.size) (hv : isFlO S0 F v w) (hf : FewF F) (hs : s.length ≤ 1000000) (hm : hasB F (k : Int) = true) (h2 : m + s.length ≤ (F.pages.getD k []).length) (hd : F.dead = false) (hz : F.fuse = 0) :
    Calls Tryz.prog 55 #[v, .int .i64 (k : Int), .int .i64 (m : Int), .string ⟨s.toArray⟩] w fun e w' => ∃ v', e = .returned (.tuple #[v', .int .i64 8]) ∧ isFlO S0 { F with pages := F.pages.set k (pairL (· &&& ·) (F.pages.getD k []) (pairL (· ||| ·) (List.replicate m 255 ++ s ++ List.replicate ((F.pages.getD k []).length - m - s.length) 255) (notL (maskL F.torn (F.pages.getD k []).length)))), dead := true } v' w' ∧ Below w.heap.size w w' := by
  have HHF := Kept.mk (has_facts F k hm)
  obtain ⟨hk, h6, hwl, htl, hpg, hwr⟩ := HHF.out
  obtain ⟨was, hwas⟩ : ∃ was, F.pages[k]? = some was := ⟨_, List.getElem?_eq_getElem hk⟩
  have hwm : was.length ≤ 8192 := (hpg _ (List.mem_of_getElem? hwas)).2.1
  have hget1 : F.pages.getD k [] = was := by simp [List.getD_eq_getElem?_getD, hwas]
  have HW0 := Kept.mk (show was.length = (F.pages[0]'(by omega)).length by
    rw [(hpg _ (List.mem_of_getElem? hwas)).2.2, (hpg _ (List.getElem_mem (show 0 < F.pages.length by omega))).2.2])
  have HWAS := Kept.mk hwas
  rw [hget1] at h2 ⊢
  have HWR := Kept.mk hwr
  have HM := Kept.mk hm
  clear hpg hwr hwas hget1 hm
  obtain ⟨vp, vw, rfl, hpp, hqq, op0, oq0⟩ := hv
  have o1 := hpp.one
  have o2 := hqq.one
  obtain ⟨b, off, cap, hvp, hb, hc⟩ := hpp.some_ (by rw [List.length_map]; omega)
  rw [List.length_map] at hvp
  subst hvp
  have HC := Kept.mk (show w.cell? ⟨b, off + k, none⟩ = some (.string ⟨was.toArray⟩) from hc k _ (by simp [HWAS.out, strC]))
  clear hc
  have HP := Kept.mk hpp
  have HQ := Kept.mk hqq
  have hb0 := (lit_below w (.cells #[.slice (some ⟨b, off, none⟩) F.pages.length cap, vw, .int .i64 F.fuse, .string ⟨F.torn.toArray⟩, .bool F.dead] 25)).trans ((lit_below (w.alloc (.cells #[.slice (some ⟨b, off, none⟩) F.pages.length cap, vw, .int .i64 F.fuse, .string ⟨F.torn.toArray⟩, .bool F.dead] 25)) (.cells #[.slice none 0 0, .slice none 0 0, .int .i64 0, .string ⟨#[]⟩, .bool false] 25)).mono (lit_below w (.cells #[.slice (some ⟨b, off, none⟩) F.pages.length cap, vw, .int .i64 F.fuse, .string ⟨F.torn.toArray⟩, .bool F.dead] 25)).size)
  have HB := Kept.mk hb0
  have HX := Kept.mk ((Blk.new w 25 [.slice (some ⟨b, off, none⟩) F.pages.length cap, vw, .int .i64 F.fuse, .string ⟨F.torn.toArray⟩, .bool F.dead] w.heap.size rfl).alloc (.cells #[.slice none 0 0, .slice none 0 0, .int .i64 0, .string ⟨#[]⟩, .bool false] 25))
  have HR := Kept.mk (Blk.new (w.alloc (.cells #[.slice (some ⟨b, off, none⟩) F.pages.length cap, vw, .int .i64 F.fuse, .string ⟨F.torn.toArray⟩, .bool F.dead] 25)) 25 [.slice none 0 0, .slice none 0 0, .int .i64 0, .string ⟨#[]⟩, .bool false] (w.heap.size + 1) (by simp))
  have HV := Kept.mk (show isFl F (.agg #[.slice (some ⟨b, off, none⟩) F.pages.length cap, vw, .int .i64 F.fuse, .string ⟨F.torn.toArray⟩, .bool F.dead]) ((w.alloc (.cells #[.slice (some ⟨b, off, none⟩) F.pages.length cap, vw, .int .i64 F.fuse, .string ⟨F.torn.toArray⟩, .bool F.dead] 25)).alloc (.cells #[.slice none 0 0, .slice none 0 0, .int .i64 0, .string ⟨#[]⟩, .bool false] 25)) from ⟨.slice (some ⟨b, off, none⟩) F.pages.length cap, vw, rfl, stable_cells _ _ _ _ hpp hb0, stable_cells _ _ _ _ hqq hb0⟩)
  have hs0 : ((w.alloc (.cells #[.slice (some ⟨b, off, none⟩) F.pages.length cap, vw, .int .i64 F.fuse, .string ⟨F.torn.toArray⟩, .bool F.dead] 25)).alloc (.cells #[.slice none 0 0, .slice none 0 0, .int .i64 0, .string ⟨#[]⟩, .bool false] 25)).heap.size = w.heap.size + 2 := by simp
  clear hb0 hpp hqq
  show Calls Tryz.prog 55 #[.agg #[.slice (some ⟨b, off, none⟩) F.pages.length cap, vw, .int .i64 F.fuse, .string ⟨F.torn.toArray⟩, .bool F.dead], .int .i64 (k : Int), .int .i64 (m : Int), .string ⟨s.toArray⟩] w _
  have hsz : (⟨was.toArray⟩ : ByteArray).size = was.length := size_mk was
  have hss : (⟨s.toArray⟩ : ByteArray).size = s.length := size_mk s
  have d1 : decide ((m : Int) < 0) = false := decide_eq_false (by omega)
  have d2 : decide ((was.length : Int) < (m : Int)) = false := decide_eq_false (by omega)
  have d3 : decide ((was.length : Int) - (m : Int) < (s.length : Int)) = false := decide_eq_false (by omega)
  obtain ⟨l1, hl1⟩ : ∃ l : List UInt8, l = List.replicate m 255 := ⟨_, rfl⟩
  obtain ⟨l2, hl2⟩ : ∃ l : List UInt8, l = List.replicate (was.length - m - s.length) 255 := ⟨_, rfl⟩
  rw [← hl1, ← hl2]
  obtain ⟨l3, hl3⟩ : ∃ l : List UInt8, l = l1 ++ s := ⟨_, rfl⟩
  obtain ⟨d, hd0⟩ : ∃ l : List UInt8, l = l3 ++ l2 := ⟨_, rfl⟩
  rw [← hl3, ← hd0]
  have HO1 := Kept.mk (show onesL (m : Int) = l1 by rw [hl1]; exact ones_nat m (by omega))
  have HO2 := Kept.mk (show onesL ((was.length : Int) - (m : Int) - (s.length : Int)) = l2 by
    rw [hl2, show (was.length : Int) - (m : Int) - (s.length : Int) = ((was.length - m - s.length : Nat) : Int) by omega]
    exact ones_nat _ (by omega))
  have n1 : l1.length = m := by rw [hl1, List.length_replicate]
  have n2 : l2.length = was.length - m - s.length := by rw [hl2, List.length_replicate]
  have n3 : l3.length = m + s.length := by rw [hl3, List.length_append, n1]
  have nd : d.length = was.length := by rw [hd0, List.length_append, n3, n2]; omega
  have hA1 : ∀ W, (Op.stringOp .add ⟨l1.toArray⟩ ⟨s.toArray⟩).run Tryz.prog W = .ok (.string ⟨l3.toArray⟩) W := fun W => by rw [hl3]; exact run_string_add_lists W l1 s (by omega) (by omega)
  have hA2 : ∀ W, (Op.stringOp .add ⟨l3.toArray⟩ ⟨l2.toArray⟩).run Tryz.prog W = .ok (.string ⟨d.toArray⟩) W := fun W => by rw [hd0]; exact run_string_add_lists W l3 l2 (by omega) (by omega)
  clear hl1 hl2 hl3 hd0
  have HD := Kept.mk hd
  clear hd
  obtain ⟨mk, hmk⟩ : ∃ l : List UInt8, l = maskL F.torn was.length := ⟨_, rfl⟩
  obtain ⟨nt, hnt⟩ : ∃ l : List UInt8, l = notL mk := ⟨_, rfl⟩
  obtain ⟨ot, hot⟩ : ∃ l : List UInt8, l = pairL (· ||| ·) d nt := ⟨_, rfl⟩
  rw [← hmk, ← hnt, ← hot]
  have nm : mk.length = was.length := by rw [hmk, length_maskL]
  have nn : nt.length = was.length := by rw [hnt, length_notL, nm]
  have no : ot.length = was.length := by rw [hot, length_pairL, nd]
  have HK1 := Kept.mk hmk
  have HK2 := Kept.mk hnt
  have HK3 := Kept.mk hot
  clear hmk hnt hot
  have HZ := Kept.mk hz
  clear hz
  go_enter Tryz.func55, Tryz.ntmps55
  go_wp2_with fail
  generalize ((w.alloc (.cells #[.slice (some ⟨b, off, none⟩) F.pages.length cap, vw, .int .i64 F.fuse, .string ⟨F.torn.toArray⟩, .bool F.dead] 25)).alloc (.cells #[.slice none 0 0, .slice none 0 0, .int .i64 0, .string ⟨#[]⟩, .bool false] 25)) = W at *
  refine (rpage_any F k _ W HV.out hf).mono ?_
  rintro e W1 ⟨rfl, hb⟩
  rewrite [HM.out]
  have hs1 := hb.size
  replace HX := Kept.mk (HX.out.keep hb)
  replace HR := Kept.mk (HR.out.keep hb)
  replace HB := Kept.mk (HB.out.trans (hb.mono HB.out.size))
  clear hb
  have kx0 := HX.out.cells.2 0 _ rfl
  have kx1 := HX.out.cells.2 1 _ rfl
  have kx2 := HX.out.cells.2 2 _ rfl
  have kx3 := HX.out.cells.2 3 _ rfl
  have kx4 := HX.out.cells.2 4 _ rfl
  have fx0 := HX.out.free 0
  have fx1 := HX.out.free 1
  have fx2 := HX.out.free 2
  have fx3 := HX.out.free 3
  have fx4 := HX.out.free 4
  have kc := (HB.out.cell (p := ⟨b, off + k, none⟩) hb).trans HC.out
  rw [HD.out] at kx4
  go_wp2_with fail
  clear kx0 kx1 kx2 kx3 kx4 fx0 fx1 fx2 fx3 fx4 kc
  refine (refOnes_any _ _).mono ?_
  rintro e W2 ⟨rfl, hbb⟩
  have hsW2 := hbb.size
  replace HX := Kept.mk (HX.out.keep hbb)
  replace HR := Kept.mk (HR.out.keep hbb)
  replace HB := Kept.mk (HB.out.trans (hbb.mono HB.out.size))
  clear hbb
  rewrite [HO1.out]
  go_wp2_with fail
  refine (refOnes_any _ _).mono ?_
  rintro e W3 ⟨rfl, hbb⟩
  have hsW3 := hbb.size
  replace HX := Kept.mk (HX.out.keep hbb)
  replace HR := Kept.mk (HR.out.keep hbb)
  replace HB := Kept.mk (HB.out.trans (hbb.mono HB.out.size))
  clear hbb
  rewrite [HO2.out]
  have kx0 := HX.out.cells.2 0 _ rfl
  have kx1 := HX.out.cells.2 1 _ rfl
  have kx2 := HX.out.cells.2 2 _ rfl
  have kx3 := HX.out.cells.2 3 _ rfl
  have kx4 := HX.out.cells.2 4 _ rfl
  rw [HZ.out] at kx2
  go_wp2_with fail
  clear kx0 kx1 kx2 kx3 kx4
  refine (rmask_any F (.agg #[.slice (some ⟨b, off, none⟩) F.pages.length cap, vw, .int .i64 0, .string ⟨F.torn.toArray⟩, .bool F.dead]) _ ⟨.slice (some ⟨b, off, none⟩) F.pages.length cap, vw, by rw [HZ.out]; rfl, stable_cells _ _ _ _ HP.out HB.out, stable_cells _ _ _ _ HQ.out HB.out⟩ (by omega) (by omega) was.length HW0.out (by omega) (by omega)).mono ?_
  rintro e W4 ⟨rfl, hbb⟩
  have hsW4 := hbb.size
  replace HX := Kept.mk (HX.out.keep hbb)
  replace HR := Kept.mk (HR.out.keep hbb)
  replace HB := Kept.mk (HB.out.trans (hbb.mono HB.out.size))
  clear hbb
  rewrite [← HK1.out]
  go_wp2_with fail
  refine (cnot mk _ (by omega)).mono ?_
  rintro e W5 ⟨v', rfl, rfl, hbb⟩
  have hsW5 := hbb.size
  replace HX := Kept.mk (HX.out.keep hbb)
  replace HR := Kept.mk (HR.out.keep hbb)
  replace HB := Kept.mk (HB.out.trans (hbb.mono HB.out.size))
  clear hbb
  rewrite [← HK2.out]
  go_wp2_with fail
  refine (cor d nt _ (by omega) (by omega)).mono ?_
  rintro e W6 ⟨v'', rfl, rfl, hbb⟩
  have hsW6 := hbb.size
  replace HX := Kept.mk (HX.out.keep hbb)
  replace HR := Kept.mk (HR.out.keep hbb)
  replace HB := Kept.mk (HB.out.trans (hbb.mono HB.out.size))
  clear hbb
  rewrite [← HK3.out]
  go_wp2_with fail
  have hbl : b < W6.heap.size := by have := HB.out.size; omega
  have HP1 := Kept.mk (stable_cells _ _ _ _ HP.out HB.out)
  have HQ1 := Kept.mk (stable_cells _ _ _ _ HQ.out HB.out)
  have HC1 := Kept.mk ((HB.out.cell (p := ⟨b, off + k, none⟩) hb).trans HC.out)
  refine rp9S_region _ _ _ rfl (fun b => b = w.heap.size + 1 ∨ S0 b) (fun b hb => hb.elim (fun e => by have := HR.out.lt; omega) (fun h => Nat.lt_of_lt_of_le (hS0 b h) HB.out.size)) F k was b off F.pages.length cap w.heap.size (w.heap.size + 1) vw HX.out HR.out HP1.out HQ1.out (offS_or HQ.out oq0 (Nat.le_succ _)) hk h6 HC1.out hbl hk hwm rfl rfl rfl ot rfl (by omega) ?_
  intro y9 p q W9 hcp hcq hop hoq hb9
  have HE := Kept.mk (below_setN (show w.heap.size ≤ w.heap.size + 1 by omega) [p, q, .int .i64 (F.fuse), .string ⟨F.torn.toArray⟩, .bool true] 0 _ (HB.out.trans (hb9.mono HB.out.size)))
  have HF := Kept.mk ((HR.out.keep hb9).all_ (l := [p, q, .int .i64 (F.fuse), .string ⟨F.torn.toArray⟩, .bool true]) rfl).cells
  have EP := Kept.mk (cells_apart hcp (fun b o c e hne hb => hop b o c e hne (.inl hb)) 0 [p, q, .int .i64 (F.fuse), .string ⟨F.torn.toArray⟩, .bool true])
  have EQ := Kept.mk (cells_apart hcq (fun b o c e hne hb => hoq b o c e hne (.inl hb)) 0 [p, q, .int .i64 (F.fuse), .string ⟨F.torn.toArray⟩, .bool true])
  have OP := Kept.mk (show OffS S0 _ p from fun b o c e hne hb => hop b o c e hne (.inr hb))
  have OQ := Kept.mk (show OffS S0 _ q from fun b o c e hne hb => hoq b o c e hne (.inr hb))
  clear hb9 hcp hcq hop hoq HC1 HP1 HQ1
  simp only [List.foldl_cons, List.foldl_nil]
  generalize y9 74 = z74
  generalize y9 75 = z75
  generalize y9 76 = z76
  generalize y9 77 = z77
  generalize y9 78 = z78
  generalize y9 79 = z79
  generalize y9 80 = z80
  generalize y9 81 = z81
  generalize y9 82 = z82
  generalize y9 83 = z83
  generalize y9 84 = z84
  generalize y9 9 = z9
  simp only [List.setIfInBounds_toArray, List.set_cons_succ, List.set_cons_zero]
  clear y9
  go_wp2
  exact bodyPost_ret (resultsN2 rfl _ _ (w.heap.size + 1) _ (.int .i64 8) size_fl agg_fl rfl rfl HF.out) rfl ⟨_, rfl, ⟨p, q, rfl, EP.out, EQ.out, OP.out, OQ.out⟩, HE.out⟩
theorem rprogS_any (F : Fl) (n at_ : Int) (s : List UInt8) (v : Value) (w : World) (S0 : Nat → Prop) (hS0 : ∀ b, S0 b → b < w.heap.size) (hv : isFlO S0 F v w) (hf : FewF F) (hs : s.length ≤ 1000000) (hfz : F.fuse ≤ 9223372036854775807) :
    Calls Tryz.prog 55 #[v, .int .i64 n, .int .i64 at_, .string ⟨s.toArray⟩] w fun e w' => ∃ v', e = .returned (.tuple #[v', .int .i64 (progE F n at_ s)]) ∧ isFlO S0 (progF F n at_ s) v' w' ∧ Below w.heap.size w w' := by
  cases hm : hasB F n with
  | false =>
    rw [show progE F n at_ s = 1 by simp [progE, hm], show progF F n at_ s = F by simp [progF, hm]]
    exact rprogS_no1 F n at_ s v w S0 hS0 hv hf hs hm
  | true =>
    obtain ⟨k, rfl⟩ := has_nat hm
    cases hb : fitsB F k at_ s with
    | false =>
      rw [show progE F k at_ s = 1 by simp [progE, hm, hb], show progF F k at_ s = F by simp [progF, hm, hb]]
      unfold fitsB at hb
      rw [Int.toNat_natCast] at hb
      by_cases h0 : at_ < 0
      · exact rprogS_no2 F k at_ s v w S0 hS0 hv hf hs hm h0
      · by_cases h1 : ((F.pages.getD k []).length : Int) < at_
        · exact rprogS_no3 F k at_ s v w S0 hS0 hv hf hs hm h0 h1
        · refine rprogS_no4 F k at_ s v w S0 hS0 hv hf hs hm h0 (by omega) ?_
          rw [decide_eq_true (show 0 ≤ at_ by omega), Bool.true_and] at hb
          have := of_decide_eq_false hb
          omega
    | true =>
      have hb' := hb
      unfold fitsB at hb'
      rw [Int.toNat_natCast] at hb'
      simp only [Bool.and_eq_true, decide_eq_true_eq] at hb'
      obtain ⟨m, rfl⟩ := Int.eq_ofNat_of_zero_le hb'.1
      have h2 : m + s.length ≤ (F.pages.getD k []).length := by omega
      clear hb'
      cases hd : F.dead with
      | true =>
        rw [show progE F k m s = 8 by simp [progE, hm, hb, hd], show progF F k m s = F by simp [progF, hm, hb, hd]]
        exact rprogS_no5 F k m s v w S0 hS0 hv hf hs hm h2 hd
      | false =>
        have ed := and_data m (F.pages.getD k []) s h2
        by_cases hz : F.fuse = 0
        · rw [show progE F k m s = 8 by simp [progE, hm, hb, hd, hz]]
          have h := rprogS_torn F k m s v w S0 hS0 hv hf hs hm h2 hd hz
          have e : progF F k m s = { F with pages := F.pages.set k (betweenL (F.pages.getD k []) (progL (F.pages.getD k []) m s) F.torn), dead := true } := by
            unfold progF
            rw [if_neg (by rw [hm]; decide), if_neg (by rw [hb]; decide), if_neg (by rw [hd]; decide), if_pos hz, Int.toNat_natCast, Int.toNat_natCast]
          rw [not_xor, ← torn_and _ _ _ (by rw [List.length_append, List.length_append, List.length_replicate, List.length_replicate]; omega) (length_maskL _ _), ed] at h
          rw [e]
          exact h
        · rw [show progE F k m s = 0 by simp [progE, hm, hb, hd, hz]]
          have h := rprogS_yes F k m s v w S0 hS0 hv hf hs hm h2 hd hz hfz
          rw [ed] at h
          have e : progF F k m s = { F with pages := F.pages.set k (progL (F.pages.getD k []) m s), fuse := lessN F.fuse } := by
            unfold progF
            rw [if_neg (by rw [hm]; decide), if_neg (by rw [hb]; decide), if_neg (by rw [hd]; decide), if_neg hz, Int.toNat_natCast, Int.toNat_natCast]
            have hw : F.wear.set k (F.wear.getD k 0) = F.wear := by
              by_cases hk : k < F.wear.length
              · rw [List.getD_eq_getElem?_getD, List.getElem?_eq_getElem hk, Option.getD_some]; exact List.set_getElem_self hk
              · exact List.set_eq_of_length_le (by omega)
            rw [hw]
            rfl
          rw [e]
          exact h
end Go.Proofs.YtpjafjnokgeifaaGreatDoor
end
section
namespace Go.Proofs.YtpjafjnokgeifaaGreatDoor
open Go.RowKit
set_option linter.unusedVariables false

theorem getN_putL : ∀ (w n : Nat), n < 256 ^ w → getN (putL n w) = n
  | 0, n, h => by simp at h; simp [putL, getN, h]
  | w + 1, n, h => by
    have h1 : n / 256 < 256 ^ w := by rw [Nat.pow_succ] at h; omega
    have h2 := getN_putL w (n / 256) h1
    have h3 : (UInt8.ofNat n).toNat = n % 256 := by simp
    simp only [putL, getN, h2, h3]
    omega
theorem putL_getN : ∀ l : List UInt8, putL (getN l) l.length = l
  | [] => rfl
  | b :: r => by
    have h := putL_getN r
    have hb := b.toNat_lt
    have h1 : (b.toNat + 256 * getN r) / 256 = getN r := by omega
    have h2 : UInt8.ofNat (b.toNat + 256 * getN r) = b := by
      apply UInt8.toNat_inj.1
      simp
    simp only [getN, List.length_cons, putL, h1, h2, h]

theorem pow_le (wd : Nat) (h : wd ≤ 7) : 256 ^ wd ≤ 72057594037927936 := by
  have := Nat.pow_le_pow_right (n := 256) (by omega) h
  simpa using this

theorem put_yes (m wd : Nat) (w : World) (h1 : 1 ≤ wd) (h7 : wd ≤ 7) (hz : m < 256 ^ wd) :
    Calls Tryz.prog 68 #[.int .i64 (m : Int), .int .i64 (wd : Int)] w fun e w' => e = .returned (.tuple #[.string ⟨(putL m wd).toArray⟩, .int .i64 0]) ∧ Below w.heap.size w w' := by
  have hp := pow_le wd h7
  refine (put_any m wd w (by omega)).mono ?_
  rintro e w' ⟨rfl, hb⟩
  have hi : isWidthB (wd : Int) = true := by simp [isWidthB]; omega
  have ok : okPut (m : Int) (wd : Int) = true := by
    simp only [okPut, hi, Bool.true_and, Int.toNat_natCast, Bool.and_eq_true, decide_eq_true_eq]
    refine ⟨by omega, ?_⟩
    rw [show ((256 : Int) ^ wd) = ((256 ^ wd : Nat) : Int) by simp]
    omega
  exact ⟨by simp [putS, putE, ok], hb⟩
theorem put_no (n width : Int) (w : World) (hm : n ≤ 9223372036854775807) (h : okPut n width = false) :
    Calls Tryz.prog 68 #[.int .i64 n, .int .i64 width] w fun e w' => e = .returned (.tuple #[.string ⟨#[]⟩, .int .i64 1]) ∧ Below w.heap.size w w' := by
  refine (put_any n width w hm).mono ?_
  rintro e w' ⟨rfl, hb⟩
  exact ⟨by simp [putS, putE, h], hb⟩
theorem okPut_nat {n width : Int} (h : okPut n width = true) : ∃ m wd : Nat, n = m ∧ width = wd ∧ 1 ≤ wd ∧ wd ≤ 7 ∧ m < 256 ^ wd := by
  simp only [okPut, isWidthB, Bool.and_eq_true, decide_eq_true_eq] at h
  obtain ⟨⟨⟨h1, h7⟩, h0⟩, hz⟩ := h
  obtain ⟨m, rfl⟩ := Int.eq_ofNat_of_zero_le h0
  obtain ⟨wd, rfl⟩ := Int.eq_ofNat_of_zero_le (show 0 ≤ width by omega)
  refine ⟨m, wd, rfl, rfl, by omega, by omega, ?_⟩
  rw [Int.toNat_natCast, show ((256 : Int) ^ wd) = ((256 ^ wd : Nat) : Int) by simp] at hz
  omega
theorem get_yes (l : List UInt8) (at_ wd : Nat) (w : World) (hl : l.length ≤ 1000000000) (h1 : 1 ≤ wd) (h7 : wd ≤ 7) (hf : at_ + wd ≤ l.length) :
    Calls Tryz.prog 70 #[.string ⟨l.toArray⟩, .int .i64 (at_ : Int), .int .i64 (wd : Int)] w fun e w' => e = .returned (.tuple #[.int .i64 (getN ((l.drop at_).take wd) : Int), .int .i64 0]) ∧ Below w.heap.size w w' := by
  refine (get_any _ at_ wd w (by rw [size_mk]; exact hl)).mono ?_
  rintro e w' ⟨rfl, hb⟩
  have hi : isWidthB (wd : Int) = true := by simp [isWidthB]; omega
  have ok : okGet ⟨l.toArray⟩ (at_ : Int) (wd : Int) = true := by simp only [okGet, size_mk, Bool.and_eq_true, decide_eq_true_eq]; omega
  exact ⟨by simp [getV, getE, hi, ok], hb⟩
/-- Whether Get answers. -/
def fitsGet (l : List UInt8) (at_ wd : Int) : Bool := decide (1 ≤ wd) && decide (wd ≤ 7) && decide (0 ≤ at_) && decide (at_ + wd ≤ l.length)
theorem get_no (l : List UInt8) (at_ wd : Int) (w : World) (hl : l.length ≤ 1000000000) (h : fitsGet l at_ wd = false) :
    Calls Tryz.prog 70 #[.string ⟨l.toArray⟩, .int .i64 at_, .int .i64 wd] w fun e w' => ∃ k : Int, (k == 0) = false ∧ k = getE ⟨l.toArray⟩ at_ wd ∧ e = .returned (.tuple #[.int .i64 0, .int .i64 k]) ∧ Below w.heap.size w w' := by
  refine (get_any _ at_ wd w (by rw [size_mk]; exact hl)).mono ?_
  rintro e w' ⟨rfl, hb⟩
  have hn : ¬ (isWidthB wd = true ∧ okGet ⟨l.toArray⟩ at_ wd = true) := by
    rintro ⟨h1, h2⟩
    simp only [isWidthB, okGet, size_mk, Bool.and_eq_true, decide_eq_true_eq] at h1 h2
    simp only [fitsGet, Bool.and_eq_false_iff, decide_eq_false_iff_not] at h
    omega
  refine ⟨getE ⟨l.toArray⟩ at_ wd, ?_, rfl, by simp only [getV, if_neg hn], hb⟩
  unfold getE
  split
  · rename_i hi
    rw [if_neg (fun ho => hn ⟨hi, ho⟩)]
    rfl
  · rfl
theorem fitsGet_nat {l : List UInt8} {at_ wd : Int} (h : fitsGet l at_ wd = true) : ∃ a b : Nat, at_ = a ∧ wd = b ∧ 1 ≤ b ∧ b ≤ 7 ∧ a + b ≤ l.length := by
  simp only [fitsGet, Bool.and_eq_true, decide_eq_true_eq] at h
  obtain ⟨a, rfl⟩ := Int.eq_ofNat_of_zero_le h.1.2
  obtain ⟨b, rfl⟩ := Int.eq_ofNat_of_zero_le (show 0 ≤ wd by omega)
  exact ⟨a, b, rfl, rfl, by omega, by omega, by omega⟩
end Go.Proofs.YtpjafjnokgeifaaGreatDoor
end
section
namespace Go.Proofs.YtpjafjnokgeifaaGreatDoor
set_option linter.unusedVariables false

/-- Behind one bit: of a number whose lowest bit is already turned by it. -/
def stp (n : Nat) : Nat := if n % 2 = 1 then (n / 2) ^^^ 3988292384 else n / 2
/-- So many steps. -/
def stps : Nat → Nat → Nat
  | 0, n => n
  | k + 1, n => stps k (stp n)
/-- Behind the eight bits of a byte. -/
@[irreducible] def stp8 (n : Nat) : Nat := stps 8 n
theorem stp8_eq (n : Nat) : stp8 n = stps 8 n := by unfold stp8; rfl
/-- Behind a text. -/
def onL : Nat → List UInt8 → Nat
  | n, [] => n
  | n, b :: l => onL (stp8 (n ^^^ b.toNat)) l
/-- The sum of what has a sum, and a text behind it. -/
def addN (sum : Nat) (l : List UInt8) : Nat := 4294967295 - onL (4294967295 - sum) l
def crcN (l : List UInt8) : Nat := addN 0 l
def sealL (l : List UInt8) : List UInt8 := l ++ putL (crcN l) 4
/-- Does it open? -/
def opens (l : List UInt8) : Bool := decide (4 ≤ l.length) && decide (getN (l.drop (l.length - 4)) = crcN (l.take (l.length - 4)))

theorem xor_two (a b : Nat) : (a ^^^ b) % 2 = (a % 2 + b % 2) % 2 := by
  have h := Nat.testBit_xor (x := a) (y := b) (i := 0)
  simp only [Nat.testBit_zero] at h
  rcases Nat.mod_two_eq_zero_or_one a with ha | ha <;> rcases Nat.mod_two_eq_zero_or_one b with hb | hb <;> rcases Nat.mod_two_eq_zero_or_one (a ^^^ b) with hc | hc <;> simp_all
theorem xor_half (a b : Nat) : (a ^^^ b) / 2 = a / 2 ^^^ b / 2 := by
  apply Nat.eq_of_testBit_eq
  intro i
  simp [Nat.testBit_xor, ← Nat.testBit_succ]

theorem stp_xor (a b : Nat) : stp (a ^^^ b) = stp a ^^^ stp b := by
  unfold stp
  rw [xor_two, xor_half]
  rcases Nat.mod_two_eq_zero_or_one a with ha | ha <;> rcases Nat.mod_two_eq_zero_or_one b with hb | hb <;> simp only [ha, hb] <;> simp
  · rw [Nat.xor_assoc]
  · rw [Nat.xor_assoc, Nat.xor_assoc, Nat.xor_comm 3988292384]
  · rw [Nat.xor_assoc, Nat.xor_comm 3988292384, Nat.xor_assoc, Nat.xor_self, Nat.xor_zero]
theorem stp_lt {n : Nat} (h : n < 4294967296) : stp n < 4294967296 := by
  unfold stp
  split
  · exact Nat.xor_lt_two_pow (n := 32) (by omega) (by decide)
  · omega
theorem stp_nil {n : Nat} (h : n < 4294967296) (e : stp n = 0) : n = 0 := by
  unfold stp at e
  split at e
  · have : n / 2 = 3988292384 := by
      have := congrArg (· ^^^ 3988292384) e
      simpa [Nat.xor_assoc] using this
    omega
  · omega
theorem stp_twice {c : Nat} : stp (2 * c) = c := by unfold stp; rw [if_neg (by omega)]; omega

theorem stps_xor : ∀ (k a b : Nat), stps k (a ^^^ b) = stps k a ^^^ stps k b
  | 0, _, _ => rfl
  | k + 1, a, b => by simp only [stps]; rw [stp_xor, stps_xor k]
theorem stps_lt : ∀ (k : Nat) {n : Nat}, n < 4294967296 → stps k n < 4294967296
  | 0, _, h => h
  | k + 1, _, h => stps_lt k (stp_lt h)
theorem stps_zero : ∀ k : Nat, stps k 0 = 0
  | 0 => rfl
  | k + 1 => by simp only [stps]; exact stps_zero k
theorem stps_nil : ∀ (k : Nat) {n : Nat}, n < 4294967296 → stps k n = 0 → n = 0
  | 0, _, _, e => e
  | k + 1, n, h, e => stp_nil h (stps_nil k (stp_lt h) e)
theorem stps_add : ∀ (j k n : Nat), stps (j + k) n = stps k (stps j n)
  | 0, k, n => by simp [stps]
  | j + 1, k, n => by rw [show j + 1 + k = (j + k) + 1 by omega]; simp only [stps]; exact stps_add j k _
theorem stps_inj (k : Nat) {a b : Nat} (ha : a < 4294967296) (hb : b < 4294967296) (e : stps k a = stps k b) : a = b := by
  have h := stps_nil k (n := a ^^^ b) (Nat.xor_lt_two_pow (n := 32) ha hb) (by rw [stps_xor, e, Nat.xor_self])
  have := congrArg (· ^^^ b) h
  simpa [Nat.xor_assoc] using this
theorem stps_shl : ∀ (k c : Nat), stps k (2 ^ k * c) = c
  | 0, c => by simp [stps]
  | k + 1, c => by
    simp only [stps]
    rw [show 2 ^ (k + 1) * c = 2 * (2 ^ k * c) by rw [Nat.pow_succ, Nat.mul_comm (2 ^ k) 2, Nat.mul_assoc], stp_twice]
    exact stps_shl k c

theorem onL_cons (n : Nat) (b : UInt8) (l : List UInt8) : onL n (b :: l) = onL (stp8 (n ^^^ b.toNat)) l := rfl
theorem onL_append : ∀ (a b : List UInt8) (n : Nat), onL n (a ++ b) = onL (onL n a) b
  | [], _, _ => rfl
  | x :: a, b, n => by rw [List.cons_append, onL_cons, onL_cons, onL_append a b]
theorem byte_lt (b : UInt8) : b.toNat < 4294967296 := by have := b.toNat_lt; omega
theorem x32 {a b : Nat} (ha : a < 4294967296) (hb : b < 4294967296) : a ^^^ b < 4294967296 := Nat.xor_lt_two_pow (n := 32) ha hb
theorem onL_lt : ∀ (l : List UInt8) {n : Nat}, n < 4294967296 → onL n l < 4294967296
  | [], _, h => h
  | b :: l, n, h => onL_lt l (by rw [stp8_eq]; exact stps_lt 8 (x32 h (byte_lt b)))
theorem not_x32 {n : Nat} (h : n < 4294967296) : 4294967295 - n = 4294967295 ^^^ n := by
  apply Nat.eq_of_testBit_eq
  intro i
  have h3 := Nat.testBit_two_pow_sub_succ (x := n) (n := 32) h i
  rw [show (4294967295 : Nat) - n = 2 ^ 32 - (n + 1) by omega, h3, Nat.testBit_xor]
  rw [show (4294967295 : Nat) = 2 ^ 32 - 1 by decide, Nat.testBit_two_pow_sub_one]
  by_cases hi : i < 32
  · simp [hi]
  · have : n.testBit i = false := Nat.testBit_lt_two_pow (Nat.lt_of_lt_of_le h (Nat.pow_le_pow_right (n := 2) (by omega) (by omega : 32 ≤ i)))
    simp [hi, this]
theorem addN_lt (n : Nat) (l : List UInt8) : addN n l < 4294967296 := by unfold addN; omega
theorem sumN_lt (l : List UInt8) : crcN l < 4294967296 := addN_lt 0 l
theorem sumN_eq (l : List UInt8) : crcN l = 4294967295 ^^^ onL 4294967295 l := by
  unfold crcN addN
  exact not_x32 (onL_lt l (by omega))
theorem addN_addN (n : Nat) (a b : List UInt8) (h : n < 4294967296) : addN (addN n a) b = addN n (a ++ b) := by
  unfold addN
  rw [onL_append]
  have := onL_lt a (n := 4294967295 - n) (by omega)
  rw [show 4294967295 - (4294967295 - onL (4294967295 - n) a) = onL (4294967295 - n) a by omega]

/-! ### What is turned in four bytes comes to something -/
theorem stp8_xor (a b : Nat) : stp8 (a ^^^ b) = stp8 a ^^^ stp8 b := by rw [stp8_eq, stp8_eq, stp8_eq, stps_xor]
theorem xors (a b c d : Nat) : (a ^^^ b) ^^^ (c ^^^ d) = (a ^^^ c) ^^^ (b ^^^ d) := by
  rw [Nat.xor_assoc, Nat.xor_assoc, ← Nat.xor_assoc b c d, Nat.xor_comm b c, Nat.xor_assoc c b d]
theorem onL_xor : ∀ (a b : List UInt8) (m n : Nat), a.length = b.length → onL (m ^^^ n) (pairL (· ^^^ ·) a b) = onL m a ^^^ onL n b
  | [], [], _, _, _ => rfl
  | [], _ :: _, _, _, h => by simp at h
  | _ :: _, [], _, _, h => by simp at h
  | x :: a, y :: b, m, n, h => by
    rw [pairL, onL_cons, onL_cons, onL_cons, UInt8.toNat_xor, xors, stp8_xor]
    exact onL_xor a b _ _ (by simpa using h)
theorem onL_zeros : ∀ (k n : Nat), onL n (List.replicate k 0) = stps (8 * k) n
  | 0, n => rfl
  | k + 1, n => by
    rw [List.replicate_succ, onL_cons, onL_zeros k, show (0 : UInt8).toNat = 0 from rfl, Nat.xor_zero, stp8_eq, ← stps_add, Nat.mul_add, Nat.add_comm]
theorem xor_add (a c : Nat) (h : a < 256) : a ^^^ (256 * c) = a + 256 * c := by
  have := Nat.two_pow_add_eq_or_of_lt (i := 8) (by simpa using h) c
  rw [show 256 * c = 2 ^ 8 * c by rfl, Nat.add_comm, this]
  apply Nat.eq_of_testBit_eq
  intro i
  rw [Nat.testBit_xor, Nat.testBit_or, Nat.testBit_two_pow_mul]
  by_cases hi : 8 ≤ i
  · have : a.testBit i = false := Nat.testBit_lt_two_pow (Nat.lt_of_lt_of_le h (Nat.pow_le_pow_right (n := 2) (by omega) hi))
    simp [this]
  · simp [hi]
/-- Bytes that stand next to each other, as a number, are turned into it at once. -/
theorem onL_getN : ∀ (l : List UInt8) (n : Nat), onL n l = stps (8 * l.length) (n ^^^ getN l)
  | [], n => by simp [onL, stps, getN]
  | b :: l, n => by
    have hb := b.toNat_lt
    rw [onL_cons, onL_getN l, stp8_eq]
    have h : getN (b :: l) = b.toNat ^^^ 256 * getN l := by rw [xor_add _ _ hb]; simp [getN]; try omega
    rw [h, show 8 * (b :: l).length = 8 + 8 * l.length by simp; omega, stps_add, ← Nat.xor_assoc, stps_xor 8 (n ^^^ b.toNat), show 256 * getN l = 2 ^ 8 * getN l by rfl, stps_shl]
end Go.Proofs.YtpjafjnokgeifaaGreatDoor
end
section
namespace Go.Proofs.YtpjafjnokgeifaaGreatDoor
open Go.RowKit
set_option linter.unusedVariables false

theorem low_bit {n : Nat} (h : n < 4294967296) : bits .and .u32 (n : Int) 1 = ((n % 2 : Nat) : Int) := by
  have := u32_and_nat n 1 h (by omega)
  rw [show ((1 : Nat) : Int) = 1 from rfl] at this
  rw [this, Nat.and_one_is_mod]

set_option maxHeartbeats 400000 in
theorem afterBits_any (n : Nat) (w : World) (hn : n < 4294967296) :
    Calls Tryz.prog 175 #[.int .u32 (n : Int)] w fun e w' => e = .returned (.int .u32 (stp8 n : Int)) ∧ w = w' := by
  go_enter Tryz.func175, Tryz.ntmps175
  go_wp2
  go_loop [0, 4] (fun x i => ∃ k q : Nat, k ≤ 8 ∧ q < 4294967296 ∧ i = .int .i64 k ∧ x = .int .u32 (q : Int) ∧ Hid (stps (8 - k) q = stps 8 n)) (fun _ i => 8 - (intOf i).toNat)
  case atStart => exact ⟨0, n, by omega, hn, rfl, rfl, Lib.hid rfl⟩
  case round =>
    obtain ⟨k, q, hk, hq, rfl, rfl, HR⟩ := hrel
    by_cases hlt : k < 8
    · have hand := low_bit hq
      have hxor := u32_xor_nat (q / 2) 3988292384 (by omega) (by omega)
      have HS := Lib.hid (show stps (8 - k) q = stps (8 - (k + 1)) (stp q) by rw [show 8 - k = (8 - (k + 1)) + 1 by omega]; rfl)
      have hsl := stp_lt hq
      by_cases hodd : q % 2 = 1
      · have HE := Lib.hid (show stp q = q / 2 ^^^ 3988292384 by unfold stp; rw [if_pos hodd])
        go_wp2
        go_round
        case rel => exact ⟨k + 1, stp q, by omega, hsl, by go_num, by rw [HE.out, ← hxor]; go_num, Lib.hid (by rw [← HS.out]; exact HR.out)⟩
        case measure => simp [intOf]; omega
      · have hev : q % 2 = 0 := by omega
        have HE := Lib.hid (show stp q = q / 2 by unfold stp; rw [if_neg hodd])
        go_wp2
        go_round
        case rel => exact ⟨k + 1, stp q, by omega, hsl, by go_num, by rw [HE.out]; go_num, Lib.hid (by rw [← HS.out]; exact HR.out)⟩
        case measure => simp [intOf]; omega
    · obtain rfl : k = 8 := by omega
      go_wp2
      go_ret
      exact ⟨ret_int (by rw [stp8_eq, ← HR.out]; rfl), rfl⟩

theorem onL_take (n : Nat) (l : List UInt8) (k : Nat) (h : k < l.length) : onL n (l.take (k + 1)) = stp8 (onL n (l.take k) ^^^ (l[k]).toNat) := by
  rw [List.take_succ_eq_append_getElem h, onL_append, onL_cons]; rfl

set_option maxHeartbeats 400000 in
theorem byBits_any (n : Nat) (l : List UInt8) (w : World) (hn : n < 4294967296) (hl : l.length ≤ 1000000) :
    Calls Tryz.prog 145 #[.int .u32 (n : Int), .string ⟨l.toArray⟩] w fun e w' => e = .returned (.int .u32 (onL n l : Int)) ∧ w = w' := by
  go_enter Tryz.func145, Tryz.ntmps145
  have hsz : (⟨l.toArray⟩ : ByteArray).size = l.length := size_mk l
  go_wp2
  go_loop [0, 8] (fun x i => ∃ k : Nat, k ≤ l.length ∧ i = .int .i64 k ∧ x = .int .u32 (onL n (l.take k) : Int)) (fun _ i => l.length - (intOf i).toNat)
  case atStart => exact ⟨0, Nat.zero_le _, rfl, rfl⟩
  case round =>
    obtain ⟨k, hk, rfl, rfl⟩ := hrel
    have ho := onL_lt (l.take k) hn
    by_cases hlt : k < l.length
    · have HT := Lib.hid (onL_take n l k hlt)
      have hb := byte_lt l[k]
      have hget : (⟨l.toArray⟩ : ByteArray).data[k]? = some l[k] := by simp [hlt]
      have hx := x32 ho hb
      have hb2 := (l[k]).toNat_lt
      have HX := Lib.hid (show bits .xor .u32 (onL n (l.take k) : Int) ((((⟨l.toArray⟩ : ByteArray)[k]'(by rw [hsz]; exact hlt)).toNat : Int) % 4294967296) = ((onL n (l.take k) ^^^ (l[k]).toNat : Nat) : Int) by
        rw [← u32_xor_nat _ _ ho hb]; congr 1; change (((l[k]).toNat : Nat) : Int) % 4294967296 = _; omega)
      generalize onL n (l.take k) = q at *
      go_wp2_with fail
      rw [HX.out]
      refine (afterBits_any _ _ hx).mono ?_
      rintro e w' ⟨rfl, rfl⟩
      go_wp2
      go_round
      case rel => exact ⟨k + 1, by omega, by go_num, by rw [HT.out]⟩
      case measure => simp [intOf]; omega
    · go_wp2
      go_ret
      exact ⟨ret_int (by rw [List.take_of_length_le (by omega)]), rfl⟩

theorem turned_u32 {n : Nat} (h : n < 4294967296) : bits .xor .u32 IntKind.u32.max (n : Int) = ((4294967295 - n : Nat) : Int) := by
  rw [not_x32 h, ← u32_xor_nat _ _ (by omega) h]; rfl

set_option maxHeartbeats 400000 in
theorem extend_any (n : Nat) (l : List UInt8) (w : World) (hn : n < 4294967296) (hl : l.length ≤ 1024) :
    Calls Tryz.prog 85 #[.int .i64 (n : Int), .string ⟨l.toArray⟩] w fun e w' => e = .returned (.int .i64 (addN n l : Int)) ∧ w = w' := by
  have ho := onL_lt l (n := 4294967295 - n) (by omega)
  have HA := Lib.hid (show addN n l = 4294967295 - onL (4294967295 - n) l from rfl)
  have hsz : (⟨l.toArray⟩ : ByteArray).size = l.length := size_mk l
  have hc : decide (1024 < (l.length : Int)) = false := by simp; omega
  go_enter Tryz.func85, Tryz.ntmps85
  have h1 := turned_u32 hn
  have h2 := turned_u32 ho
  have hle : onL (4294967295 - n) l ≤ 4294967295 := by omega
  go_wp2_with fail
  refine (byBits_any _ l _ (by omega) (by omega)).mono ?_
  rintro e w' ⟨rfl, rfl⟩
  clear h1
  generalize onL (4294967295 - n) l = q at *
  go_wp2
  go_ret
  exact ⟨ret_int (by rw [HA.out]), rfl⟩

set_option maxHeartbeats 400000 in
theorem sum_any (l : List UInt8) (w : World) (hl : l.length ≤ 1024) :
    Calls Tryz.prog 38 #[.string ⟨l.toArray⟩] w fun e w' => e = .returned (.int .i64 (crcN l : Int)) ∧ w = w' := by
  go_enter Tryz.func38, Tryz.ntmps38
  go_wp2_with fail
  refine (extend_any 0 l _ (by omega) hl).mono ?_
  rintro e w' ⟨rfl, rfl⟩
  go_wp2
  go_ret
  exact ⟨rfl, rfl⟩

theorem length_sealL (l : List UInt8) : (sealL l).length = l.length + 4 := by simp [sealL, length_putL]

set_option maxHeartbeats 400000 in
theorem seal_any (l : List UInt8) (w : World) (hl : l.length ≤ 1024) :
    Calls Tryz.prog 98 #[.string ⟨l.toArray⟩] w fun e w' => e = .returned (.string ⟨(sealL l).toArray⟩) ∧ Below w.heap.size w w' := by
  have hp := length_putL 4 (crcN l)
  have hcat := fun W => run_string_add_lists (P := Tryz.prog) W l (putL (crcN l) 4) (by omega) (by omega)
  have hs := sumN_lt l
  have HS := Lib.hid (show l ++ putL (crcN l) 4 = sealL l from rfl)
  go_enter Tryz.func98, Tryz.ntmps98
  go_wp2_with fail
  refine (sum_any l _ hl).mono ?_
  rintro e w' ⟨rfl, rfl⟩
  go_wp2_with fail
  refine (put_yes (crcN l) 4 _ (by omega) (by omega) (by omega)).mono ?_
  rintro e w' ⟨rfl, hB⟩
  generalize putL (crcN l) 4 = p at *
  go_wp2
  go_ret
  exact ⟨ret_str HS.out, hB⟩

/-- What opening answers. -/
def openS (l : List UInt8) : List UInt8 := if opens l then l.take (l.length - 4) else []
def openE (l : List UInt8) : Int := if opens l then 0 else 2

theorem ext_take' (l : List UInt8) (n : Nat) : (⟨l.toArray⟩ : ByteArray).extract 0 n = ⟨(l.take n).toArray⟩ := by
  apply ByteArray.ext
  apply Array.toList_inj.1
  rw [ByteArray.data_extract, Array.toList_extract, List.extract_eq_take_drop]
  simp

set_option maxHeartbeats 400000 in
theorem open_short (l : List UInt8) (w : World) (hl : l.length < 4) :
    Calls Tryz.prog 150 #[.string ⟨l.toArray⟩] w fun e w' => e = .returned (.tuple #[.string ⟨#[]⟩, .int .i64 2]) ∧ Below w.heap.size w w' := by
  have hsz : (⟨l.toArray⟩ : ByteArray).size = l.length := size_mk l
  have hf : fitsGet l ((l.length : Int) - 4) 4 = false := by
    cases h : fitsGet l ((l.length : Int) - 4) 4 with
    | false => rfl
    | true => obtain ⟨x, y, hx, _⟩ := fitsGet_nat h; omega
  go_enter Tryz.func150, Tryz.ntmps150
  go_wp2_with fail
  refine (get_no l _ _ _ (by omega) hf).mono ?_
  rintro e w2 ⟨k, hk, hke, rfl, hB⟩
  have hk' : (k != 0) = true := by simpa [bne] using hk
  clear hke
  go_wp2
  go_ret2
  exact ⟨rfl, hB⟩

set_option maxHeartbeats 400000 in
theorem open_long (l : List UInt8) (m : Nat) (w : World) (hm : l.length = m + 4) (hl : m ≤ 1024) (o : Bool) (ho : decide (getN (l.drop m) = crcN (l.take m)) = o) :
    Calls Tryz.prog 150 #[.string ⟨l.toArray⟩] w fun e w' => e = .returned (if o = true then .tuple #[.string ⟨(l.take m).toArray⟩, .int .i64 0] else .tuple #[.string ⟨#[]⟩, .int .i64 2]) ∧ Below w.heap.size w w' := by
  have hsz : (⟨l.toArray⟩ : ByteArray).size = m + 4 := by rw [size_mk l]; exact hm
  have hext := ext_take' l m
  have HD := Lib.hid (show (l.drop m).take 4 = l.drop m from List.take_of_length_le (by rw [List.length_drop]; omega))
  have HO := Lib.hid ho
  clear ho
  go_enter Tryz.func150, Tryz.ntmps150
  go_wp2_with fail
  refine (get_yes l m 4 _ (by omega) (by omega) (by omega) (by omega)).mono ?_
  rintro e w2 ⟨rfl, hB⟩
  rw [HD.out]
  go_wp2_with fail
  refine (sum_any (l.take m) _ (by rw [List.length_take]; omega)).mono ?_
  rintro e w' ⟨rfl, rfl⟩
  generalize getN (l.drop m) = g at *
  generalize crcN (l.take m) = u at *
  cases o with
  | true =>
    obtain rfl : g = u := by simpa using HO.out
    go_wp2
    go_ret2
    exact ⟨rfl, hB⟩
  | false =>
    have hne : ¬ g = u := by simpa using HO.out
    have hne2 : ¬ ((g : Int) = (u : Int)) := by omega
    go_wp2
    go_ret2
    exact ⟨rfl, hB⟩

theorem open_any (l : List UInt8) (w : World) (hl : l.length ≤ 1028) :
    Calls Tryz.prog 150 #[.string ⟨l.toArray⟩] w fun e w' => e = .returned (.tuple #[.string ⟨(openS l).toArray⟩, .int .i64 (openE l)]) ∧ Below w.heap.size w w' := by
  by_cases h : l.length < 4
  · have e1 : opens l = false := by unfold opens; rw [decide_eq_false (by omega)]; rfl
    have e2 : openS l = [] := by unfold openS; rw [e1]; rfl
    have e3 : openE l = 2 := by unfold openE; rw [e1]; rfl
    rw [e2, e3]
    exact open_short l w h
  · have e0 : opens l = decide (getN (l.drop (l.length - 4)) = crcN (l.take (l.length - 4))) := by unfold opens; rw [decide_eq_true (by omega)]; rfl
    refine (open_long l (l.length - 4) w (by omega) (by omega) (opens l) e0.symm).mono ?_
    rintro e w' ⟨rfl, hB⟩
    refine ⟨?_, hB⟩
    unfold openS openE
    cases opens l <;> rfl
end Go.Proofs.YtpjafjnokgeifaaGreatDoor
end
section
namespace Go.Proofs.YtpjafjnokgeifaaGreatDoor
set_option linter.unusedVariables false

theorem take_seal (l : List UInt8) : (sealL l).take l.length = l := by simp [sealL]
theorem drop_seal (l : List UInt8) : (sealL l).drop l.length = putL (crcN l) 4 := by simp [sealL]
theorem opens_app (a p : List UInt8) (hp : p.length = 4) : opens (a ++ p) = decide (getN p = crcN a) := by
  unfold opens
  rw [List.length_append, hp, Nat.add_sub_cancel, decide_eq_true (by omega), Bool.true_and]
  simp
theorem opens_seal (l : List UInt8) : opens (sealL l) = true := by
  unfold sealL
  rw [opens_app _ _ (length_putL 4 _), getN_putL 4 _ (sumN_lt l)]
  simp
theorem openS_seal (l : List UInt8) : openS (sealL l) = l := by
  unfold openS
  rw [opens_seal, if_pos rfl, length_sealL, Nat.add_sub_cancel, take_seal]
theorem openE_seal (l : List UInt8) : openE (sealL l) = 0 := by unfold openE; rw [opens_seal]; rfl
theorem cut4 (l : List UInt8) (h : 4 ≤ l.length) : ∃ a p : List UInt8, l = a ++ p ∧ p.length = 4 :=
  ⟨l.take (l.length - 4), l.drop (l.length - 4), (List.take_append_drop _ _).symm, by rw [List.length_drop]; omega⟩
theorem seal_open (l : List UInt8) (h : opens l = true) : sealL (openS l) = l := by
  have h4 : 4 ≤ l.length := by unfold opens at h; simp at h; exact h.1
  obtain ⟨a, p, rfl, hp⟩ := cut4 l h4
  rw [opens_app a p hp] at h
  have hg : getN p = crcN a := by simpa using h
  unfold openS
  rw [opens_app a p hp, h, if_pos rfl, List.length_append, hp, Nat.add_sub_cancel, List.take_left]
  unfold sealL
  rw [← hg, ← hp, putL_getN]
theorem openE_cases (l : List UInt8) : (opens l = true ∧ openE l = 0) ∨ (opens l = false ∧ openE l = 2 ∧ openS l = []) := by
  unfold openE openS
  cases opens l <;> simp

/-- What is sealed comes to one number, and nothing else does. -/
theorem opens_on (l : List UInt8) (h4 : 4 ≤ l.length) : opens l = decide (onL 4294967295 l = stps 32 4294967295) := by
  obtain ⟨a, p, rfl, hp⟩ := cut4 l h4
  rw [opens_app a p hp, onL_append, onL_getN p, hp]
  have ha := onL_lt a (n := 4294967295) (by omega)
  have hg : getN p < 4294967296 := by have := getN_lt p; rw [hp] at this; exact this
  have hs := sumN_eq a
  generalize onL 4294967295 a = q at *
  rw [Bool.eq_iff_iff, decide_eq_true_iff, decide_eq_true_iff]
  constructor
  · intro e
    rw [e, hs, ← Nat.xor_assoc, Nat.xor_comm q, Nat.xor_assoc, Nat.xor_self, Nat.xor_zero]
  · intro e
    have := stps_inj _ (x32 ha hg) (by omega) e
    rw [hs, ← this, Nat.xor_comm q, Nat.xor_assoc, Nat.xor_self, Nat.xor_zero]

theorem pairL_pad : ∀ (a b : List UInt8), pairL (· ^^^ ·) a b = pairL (· ^^^ ·) a (b ++ List.replicate (a.length - b.length) 0)
  | [], _ => by simp [pairL]
  | x :: a, [] => by
    have : ∀ l : List UInt8, pairL (· ^^^ ·) l (List.replicate l.length 0) = l := by
      intro l
      induction l with
      | nil => rfl
      | cons y l ih => simp [pairL, List.replicate_succ]; exact ih
    rw [List.nil_append, List.length_nil, Nat.sub_zero, this]; rfl
  | x :: a, y :: b => by
    rw [List.cons_append, pairL, pairL, List.length_cons, List.length_cons, Nat.add_sub_add_right, ← pairL_pad a b]
theorem pairL_none : ∀ (a : List UInt8) (k : Nat), pairL (· ^^^ ·) a (List.replicate k 0) = a
  | [], _ => by simp [pairL]
  | x :: a, 0 => rfl
  | x :: a, k + 1 => by rw [List.replicate_succ, pairL, pairL_none a k]; simp

/-- What is turned in four bytes that stand next to each other comes to nothing where nothing is turned alone. -/
theorem turned (n : Nat) (t q : List UInt8) (k : Nat) (hq : q.length = 4) (hk : k + 4 ≤ t.length) (hn : n < 4294967296) :
    (onL n (pairL (· ^^^ ·) t (List.replicate k 0 ++ q)) = onL n t) ↔ getN q = 0 := by
  rw [pairL_pad]
  have hlen : t.length = (List.replicate k 0 ++ q ++ List.replicate (t.length - (List.replicate k (0 : UInt8) ++ q).length) 0).length := by
    simp [hq]; omega
  have h := onL_xor t _ n 0 hlen
  rw [Nat.xor_zero] at h
  rw [h]
  generalize t.length - (List.replicate k (0 : UInt8) ++ q).length = r
  rw [onL_append, onL_append, onL_zeros k, stps_zero, onL_getN q, onL_zeros r, hq, Nat.zero_xor, ← stps_add]
  have hg : getN q < 4294967296 := by have := getN_lt q; rw [hq] at this; exact this
  have ht := onL_lt t hn
  constructor
  · intro e
    have e2 := congrArg (onL n t ^^^ ·) e
    simp only [← Nat.xor_assoc, Nat.xor_self, Nat.zero_xor] at e2
    exact stps_nil _ hg e2
  · intro e
    rw [e, stps_zero, Nat.xor_zero]
theorem same_iff (t q : List UInt8) (k : Nat) (hq : q.length = 4) (hk : k + 4 ≤ t.length) :
    (pairL (· ^^^ ·) t (List.replicate k 0 ++ q) = t) ↔ getN q = 0 := by
  constructor
  · intro e
    refine (turned 0 t q k hq hk (by omega)).1 ?_
    rw [e]
  · intro e
    have h : q = List.replicate 4 0 := by
      have := putL_getN q
      rw [e, hq] at this
      rw [← this]; rfl
    rw [h, List.replicate_append_replicate, pairL_none]
theorem sum_inj {a b : List UInt8} : crcN a = crcN b ↔ onL 4294967295 a = onL 4294967295 b := by
  have ha := onL_lt a (n := 4294967295) (by omega)
  have hb := onL_lt b (n := 4294967295) (by omega)
  have e1 : crcN a = 4294967295 - onL 4294967295 a := rfl
  have e2 : crcN b = 4294967295 - onL 4294967295 b := rfl
  rw [e1, e2]
  omega
theorem sum_mix (s t u : List UInt8) (h1 : t.length = s.length) (h2 : u.length = s.length) :
    crcN (pairL (· ^^^ ·) (pairL (· ^^^ ·) s t) u) = crcN s ^^^ crcN t ^^^ crcN u := by
  have a := onL_xor s t 4294967295 4294967295 h1.symm
  have b := onL_xor (pairL (· ^^^ ·) s t) u (4294967295 ^^^ 4294967295) 4294967295 (by rw [length_pairL, h2])
  rw [a, Nat.xor_self, Nat.zero_xor] at b
  rw [sumN_eq, sumN_eq, sumN_eq, sumN_eq, b]
  generalize onL 4294967295 s = x
  generalize onL 4294967295 t = y
  generalize onL 4294967295 u = z
  rw [xors 4294967295 x 4294967295 y, Nat.xor_self, Nat.zero_xor, ← Nat.xor_assoc, ← Nat.xor_assoc, ← Nat.xor_assoc, Nat.xor_comm (x ^^^ y) 4294967295, ← Nat.xor_assoc]
theorem sum_app (a b : List UInt8) : addN (crcN a) b = crcN (a ++ b) := addN_addN 0 a b (by omega)
end Go.Proofs.YtpjafjnokgeifaaGreatDoor
end
section
namespace Go.Proofs.YtpjafjnokgeifaaGreatDoor
open Go.RowKit Go.Shelf
set_option linter.unusedVariables false
attribute [local go_sem] Oper.semAt_some

def encOne (x : UInt8) : Array Value := #[.int .u8 (x.toNat : Int)]

set_option maxRecDepth 100000 in
set_option maxHeartbeats 1000000 in
theorem bytesOf1_in (F : Fence) (n : Nat) (hF : F.fn 183) (hro : F.round = none) (hn : 1 ≤ n) (l Bs : Nat) (s : ByteArray) (hs : s.size ≤ 1000000000) (J Jx : List UInt8 → World → Prop)
    (hY : ∀ pre x W, J pre W → pre.length < s.size → YieldAt F (n - 1) Tryz.prog l (encOne x) W fun e W' =>
      (e = .returned (.bool true) ∧ J (pre ++ [x]) W' ∧ BoxKept Bs W W') ∨ (e = .returned (.bool false) ∧ Jx (pre ++ [x]) W'))
    (W : World) (hBs : W.cell? ⟨Bs, 0, none⟩ = some (.string s)) (h0 : J [] W) :
    CallsIn F n Tryz.prog 183 #[.func (.yield l) #[] #[], .pointer (some ⟨Bs, 0, none⟩)] W fun e W' => (∃ v, e = .returned v) ∧
      ((∃ ys, ys = s.data.toList ∧ J ys W') ∨ (∃ pre, pre <+: s.data.toList ∧ Jx pre W')) := by
  refine callsIn_of_wp Tryz.func183 rfl hF ?_ hro
  simp only [Tryz.ntmps183, List.size_toArray, List.length_cons, List.length_nil, Nat.reduceAdd, Nat.reduceSub, Array.replicate_succ, Array.replicate_zero, List.push_toArray, List.append_toArray, List.nil_append, List.cons_append]
  gi_wp2
  gi_loopw [6] (fun i wr => ∃ k : Nat, k ≤ s.size ∧ i = .int .i64 k ∧ J (s.data.toList.take k) wr ∧ wr.cell? ⟨Bs, 0, none⟩ = some (.string s))
    (fun i _ => s.size - (intOf i).toNat)
  case atStart => exact ⟨0, Nat.zero_le _, rfl, h0, hBs⟩
  case round =>
    obtain ⟨k, hk, rfl, hJs, hcx⟩ := hrel
    by_cases hlt : k < s.size
    · obtain ⟨fn, tmps, assign, body, hy, hR⟩ := hY _ (s[k]'hlt) wr hJs (by rw [List.length_take]; simp; omega)
      simp only [encOne] at hy
      have hbt : (s[k]'hlt).toNat < 256 := UInt8.toNat_lt _
      have ht : s.data.toList.take k ++ [s[k]'hlt] = s.data.toList.take (k + 1) := by
        rw [List.take_succ_eq_append_getElem (by simpa using hlt)]; rfl
      rw [ht] at hR
      have HT := Lib.hid ht
      clear ht
      gi_wp2
      refine hR.mono ?_
      rintro e W3 (⟨rfl, hJ3, hk3⟩ | ⟨rfl, hJx3⟩)
      · have hc3 := hk3.trans hcx
        gi_wp2
        go_roundw
        case rel => exact ⟨k + 1, by omega, by go_num, hJ3, hc3⟩
        case measure => simp [intOf]; omega
      · gi_wp2
        refine bodyPost_ret (results_none rfl _ _ _) rfl ?_
        exact ⟨⟨_, rfl⟩, .inr ⟨_, List.take_prefix _ _, hJx3⟩⟩
    · obtain rfl : k = s.size := by omega
      gi_wp2
      go_end0
      refine ⟨⟨_, rfl⟩, .inl ⟨_, rfl, ?_⟩⟩
      rwa [List.take_of_length_le (by simp)] at hJs

set_option maxHeartbeats 1000000 in
theorem bytesOf_in (F : Fence) (n : Nat) (hF : F.fn 151) (hro : F.round = none) (s : ByteArray) (w : World) :
    CallsIn F n Tryz.prog 151 #[.string s] w fun e w' => e = .returned (.func (.func 183) #[] #[.pointer (some ⟨w.heap.size, 0, none⟩)]) ∧ w' = w.alloc (.cells #[.string s] 9) := by
  refine callsIn_of_wp Tryz.func151 rfl hF ?_ hro
  simp only [Tryz.ntmps151, List.size_toArray, List.length_cons, List.length_nil, Nat.reduceAdd, Nat.reduceSub, Array.replicate_succ, Array.replicate_zero, List.push_toArray, List.append_toArray, List.nil_append, List.cons_append]
  gi_wp2
  go_ret
  exact ⟨rfl, rfl⟩

theorem bytesOf_stops (F : Fence) (n : Nat) (hF : F.fn 183) (hro : F.round = none) (hn : 1 ≤ n) (Bs : Nat) (s : ByteArray) (hs : s.size ≤ 1000000000) (w : World) (hB : Bs < w.heap.size) (hBs : w.cell? ⟨Bs, 0, none⟩ = some (.string s)) :
    SeqStopsK F n Tryz.prog 183 #[.pointer (some ⟨Bs, 0, none⟩)] encOne (BoxKept Bs) (fun ys => ys = s.data.toList) (fun pre => pre <+: s.data.toList) s.size w := fun l J Jx W hW _ _ hY h0 =>
  bytesOf1_in F n hF hro hn l Bs s hs J Jx hY W ((hW.cell (p := ⟨Bs, 0, none⟩) hB).trans hBs) h0

def clearL (s : List UInt8) : Bool := s.all fun b => decide (b = 255)

set_option maxRecDepth 100000 in
set_option maxHeartbeats 1000000 in
theorem clear_in (F : Fence) (n : Nat) (hF0 : F.fn 94) (hF1 : F.fn 151) (hF2 : F.fn 183) (hro : F.round = none) (hn : 3 ≤ n) (s : ByteArray) (hs : s.size ≤ 1000000000) (w : World) :
    CallsIn F n Tryz.prog 94 #[.string s] w fun e W' => e = .returned (.bool (clearL s.data.toList)) ∧ Below w.heap.size w W' := by
  have hn1 : 1 ≤ n := by omega
  refine callsIn_of_wp_marks Tryz.func94 rfl hF0 ?_ hro
  simp only [Tryz.ntmps94, List.size_toArray, List.length_cons, List.length_nil, Nat.reduceAdd, Nat.reduceSub, Array.replicate_succ, Array.replicate_zero, List.push_toArray, List.append_toArray, List.nil_append, List.cons_append]
  gi_wp2_with (gi_at_call 151; refine (bytesOf_in F (n - 1) hF1 hro _ _).mono ?_; rintro e w' ⟨rfl, rfl⟩)
  have cn := newCell w (.bool false) 4
  have cb := newCell (w.alloc (.cells #[.bool false] 4)) (.string s) 9
  rw [World.size_alloc] at cb
  have hB0 : Below w.heap.size w ((w.alloc (.cells #[.bool false] 4)).alloc (.cells #[.string s] 9)) := ((Below.refl _ w).alloc (Nat.le_refl _) _).alloc (by simp) _
  refine wpIn_rangeFunc_ownF hro hn1 (gf := 183) (lb := #[.pointer (some ⟨w.heap.size + 1, 0, none⟩)]) rfl hF2 (enters_of Tryz.func183 (by kernel_rfl) rfl)
    (bytesOf_stops F (n - 1) hF2 hro (by omega) (w.heap.size + 1) s hs _ (by simp) cb.1) (boxKept_t _) (boxKept_put _ _ (by simp)) (Below.refl _ _) (fun _ => rfl)
    (fun pre W => ((∀ y ∈ pre, y = 255) ∧ W.cell? ⟨w.heap.size, 0, none⟩ = some (.bool false) ∧ W.frozen? ⟨w.heap.size, 0, none⟩ = false) ∧ Below w.heap.size w W)
    (fun c pre W => (c = .ret ∧ (∃ y ∈ pre, y ≠ 255) ∧ W.cell? ⟨w.heap.size, 0, none⟩ = some (.bool false)) ∧ Below w.heap.size w W)
    (OwnFrom.and (Own.from (fun s A B row hs hg hr => ⟨hs.1, cell_kept hs.2.1 hg hr, (frozen_kept hs.2.1 hg hr).trans hs.2.2⟩) _) (ownFrom_below (Nat.le_refl _) (by simp; omega)))
    (fun c => OwnFrom.and (Own.from (fun s A B row hs hg hr => ⟨hs.1, hs.2.1, cell_kept hs.2.2 hg hr⟩) _) (ownFrom_below (Nat.le_refl _) (by simp; omega)))
    ⟨⟨by simp, oldCell _ cn.1, oldFree _ cn.1 cn.2⟩, hB0⟩
    (fun x => { tmps := #[Value.string s, undef, Value.pointer (some { block := w.heap.size, off := 0 }), .int .u8 (x.toNat : Int), Value.string s,
          Value.func (Fn.func 183) #[] #[Value.pointer (some { block := w.heap.size + 1, off := 0 })], .int .u8 (x.toNat : Int), undef, undef], defers := [] }) ?assign ?body ?done ?stop
  case assign =>
    intro l x W K hK
    simp only [encOne]
    gi_wp2
    exact hK
  case body =>
    rintro l pre x W ⟨⟨hp, hcr, hfr⟩, hB⟩ _
    clear cn cb hB0
    have hx2 : x.toNat < 256 := x.toNat_lt
    by_cases hx : x = 255
    · have hd : ((x.toNat : Int) != 255) = false := by subst hx; rfl
      gi_wp2
      exact ⟨KeepsOthers.refl _, rfl, ⟨fun y hy => (List.mem_append.1 hy).elim (hp y) (fun e => by simp at e; rw [e]; exact hx), hcr, hfr⟩, hB⟩
    · have hne : x.toNat ≠ 255 := fun e => hx (UInt8.toNat_inj.1 e)
      have hd : ((x.toNat : Int) != 255) = true := by simp; omega
      gi_wp2
      exact ⟨KeepsOthers.setCell _ _ _, ⟨rfl, ⟨x, by simp, hx⟩, World.cell?_setCell_same' _ _ _ (by rw [hcr]; rfl)⟩, hB.setCell (p := ⟨w.heap.size, 0, none⟩) (Nat.le_refl _) _⟩
  case done =>
    rintro D ys W hD rfl ⟨⟨hne, hcr, hfr⟩, hB⟩ hK
    gi_wp2
    have hK' := (KeepsOthers.setCell W ⟨w.heap.size, 0, none⟩ (.bool true)).same D _ hK rfl
    refine ⟨by simp, .inl ⟨_, _, rfl, run_takeDeferred hK', ?_⟩⟩
    have hc5 := cell_kept (World.cell?_setCell_same' W ⟨w.heap.size, 0, none⟩ (.bool true) (by rw [hcr]; rfl)) (grownBy_putObj' _ D (.deferred none)) (fun r e => by cases e; exact ⟨_, hK', rfl⟩)
    have hcl : clearL s.data.toList = true := by unfold clearL; rw [List.all_eq_true]; intro b hb; simpa using hne b hb
    refine ⟨.bool true, ?_, by rw [hcl], (hB.setCell (p := ⟨w.heap.size, 0, none⟩) (Nat.le_refl _) _).trans (belowK_b (w := w) (Nat.le_refl _) _ D _ _ (by simp at hD; omega) hK' rfl rfl)⟩
    simp [results, Tryz.f94, go_sem, hc5]
  case stop =>
    rintro D c pre W hD hpre ⟨⟨rfl, ⟨y, hy, hyn⟩, hcr⟩, hB⟩ hK
    gi_wp2
    refine ⟨by simp, .inl ⟨_, _, rfl, run_takeDeferred hK, ?_⟩⟩
    have hc5 := cell_kept hcr (grownBy_putObj' _ D (.deferred none)) (fun r e => by cases e; exact ⟨_, hK, rfl⟩)
    have hcl : clearL s.data.toList = false := by
      cases h : clearL s.data.toList with
      | false => rfl
      | true =>
        unfold clearL at h
        rw [List.all_eq_true] at h
        have := h y (hpre.subset hy)
        simp at this
        exact absurd this hyn
    refine ⟨.bool false, ?_, by rw [hcl], hB.trans (belowK_b (w := w) (Nat.le_refl _) W D _ _ (by simp at hD; omega) hK rfl rfl)⟩
    simp [results, Tryz.f94, go_sem, hc5]
theorem clear_any (s : ByteArray) (w : World) (hs : s.size ≤ 1000000000) :
    Calls Tryz.prog 94 #[.string s] w fun e w' => e = .returned (.bool (clearL s.data.toList)) ∧ Below w.heap.size w w' :=
  callsIn_wide.1 (clear_in Fence.wide 3 trivial trivial trivial rfl (by omega) s hs w)
end Go.Proofs.YtpjafjnokgeifaaGreatDoor
end
section
namespace Go.Proofs.YtpjafjnokgeifaaGreatDoor
set_option linter.unusedVariables false

/-- A payload's record. -/
def recL (a : List UInt8) : List UInt8 := sealL a ++ notL (sealL a)
/-- Whether the back half is the front one turned. -/
def halfB (s : List UInt8) : Bool := decide (notL (s.take (s.length / 2)) = s.drop (s.length / 2))
def readS (s : List UInt8) : List UInt8 := if halfB s = true then openS (s.take (s.length / 2)) else []
def readE (s : List UInt8) : Int := if halfB s = true then openE (s.take (s.length / 2)) else 2
def sizeN (n : Int) : Int := if n < 0 ∨ 4000 < n then 0 else 2 * (n + 4)

theorem length_recL (a : List UInt8) : (recL a).length = 2 * (a.length + 4) := by
  unfold recL; rw [List.length_append, length_notL, length_sealL]; omega
theorem half_two (f b : List UInt8) (h : b.length = f.length) : (f ++ b).length / 2 = f.length := by rw [List.length_append, h]; omega
theorem half_app (f b : List UInt8) (h : b.length = f.length) : halfB (f ++ b) = decide (notL f = b) := by
  unfold halfB; rw [half_two f b h, List.take_left, List.drop_left]
theorem readS_app (f b : List UInt8) (h : b.length = f.length) : readS (f ++ b) = if notL f = b then openS f else [] := by
  unfold readS; rw [half_app f b h, half_two f b h, List.take_left]; simp
theorem readE_app (f b : List UInt8) (h : b.length = f.length) : readE (f ++ b) = if notL f = b then openE f else 2 := by
  unfold readE; rw [half_app f b h, half_two f b h, List.take_left]; simp
theorem readS_rec (a : List UInt8) : readS (recL a) = a := by
  unfold recL; rw [readS_app _ _ (length_notL _), if_pos rfl, openS_seal]
theorem readE_rec (a : List UInt8) : readE (recL a) = 0 := by
  unfold recL; rw [readE_app _ _ (length_notL _), if_pos rfl, openE_seal]
theorem readE_cases (t : List UInt8) : (readE t = 0 ∧ recL (readS t) = t) ∨ (readE t = 2 ∧ readS t = []) := by
  unfold readE readS
  cases hh : halfB t with
  | false => exact .inr ⟨rfl, rfl⟩
  | true =>
    rw [if_pos rfl, if_pos rfl]
    have hn : notL (t.take (t.length / 2)) = t.drop (t.length / 2) := of_decide_eq_true hh
    rcases openE_cases (t.take (t.length / 2)) with ⟨h1, h2⟩ | ⟨h1, h2, h3⟩
    · refine .inl ⟨h2, ?_⟩
      unfold recL
      rw [seal_open _ h1, hn, List.take_append_drop]
    · exact .inr ⟨h2, h3⟩
theorem readS_len (t : List UInt8) : (readS t).length ≤ t.length := by
  unfold readS openS
  split
  · split
    · rw [List.length_take, List.length_take]; omega
    · simp
  · simp
theorem recL_inj {a b : List UInt8} (h : recL a = recL b) : a = b := by rw [← readS_rec a, h, readS_rec]

/- Cleared in part. -/
theorem byte_ext {x y : UInt8} (h : ∀ i, i < 8 → x.toBitVec.getLsbD i = y.toBitVec.getLsbD i) : x = y :=
  UInt8.toBitVec_inj.1 (BitVec.eq_of_getLsbD_eq fun i hi => h i hi)
theorem or_part (x p q : UInt8) (h : ~~~(x ||| p) = ~~~x ||| q) : x ||| p = x := by
  refine byte_ext fun i hi => ?_
  have := congrArg (fun z : UInt8 => z.toBitVec.getLsbD i) h
  simp only [UInt8.toBitVec_not, UInt8.toBitVec_or, BitVec.getLsbD_not, BitVec.getLsbD_or, hi, decide_true, Bool.true_and] at this ⊢
  revert this
  cases x.toBitVec.getLsbD i <;> cases p.toBitVec.getLsbD i <;> cases q.toBitVec.getLsbD i <;> simp
theorem or_part0 (x p : UInt8) (h : ~~~(x ||| p) = ~~~x) : x ||| p = x := by
  have := or_part x p (~~~x) (by rw [h]; simp)
  exact this
theorem and_part (x y : UInt8) (h : ~~~(x &&& y) = ~~~x &&& ~~~y) : x = y := by
  refine byte_ext fun i hi => ?_
  have := congrArg (fun z : UInt8 => z.toBitVec.getLsbD i) h
  simp only [UInt8.toBitVec_not, UInt8.toBitVec_and, BitVec.getLsbD_not, BitVec.getLsbD_and, hi, decide_true, Bool.true_and] at this ⊢
  revert this
  cases x.toBitVec.getLsbD i <;> cases y.toBitVec.getLsbD i <;> simp
theorem pairL_nil (f : UInt8 → UInt8 → UInt8) (a : List UInt8) : pairL f a [] = a := by cases a <;> rfl
/-- What is cut is done part by part. -/
theorem pairL_cut (f : UInt8 → UInt8 → UInt8) : ∀ a c s : List UInt8, pairL f (a ++ c) s = pairL f a (s.take a.length) ++ pairL f c (s.drop a.length)
  | [], c, s => by simp [pairL]
  | x :: a, c, [] => by simp [pairL_nil]
  | x :: a, c, y :: s => by simp [pairL, pairL_cut f a c s]
theorem orL_part : ∀ (f p q : List UInt8), notL (pairL (· ||| ·) f p) = pairL (· ||| ·) (notL f) q → pairL (· ||| ·) f p = f
  | [], p, q, _ => by simp [pairL]
  | x :: f, [], q, _ => rfl
  | x :: f, y :: p, [], h => by
    simp only [pairL, notL, List.map_cons, List.cons.injEq] at h ⊢
    exact ⟨or_part0 x y h.1, orL_part f p [] (by rw [pairL_nil]; exact h.2)⟩
  | x :: f, y :: p, z :: q, h => by
    simp only [pairL, notL, List.map_cons, List.cons.injEq] at h ⊢
    exact ⟨or_part x y z h.1, orL_part f p q h.2⟩
theorem part_reads (a some : List UInt8) (h : readE (pairL (· ||| ·) (recL a) some) = 0) : pairL (· ||| ·) (recL a) some = recL a := by
  unfold recL at h ⊢
  rw [pairL_cut] at h ⊢
  generalize some.take (sealL a).length = p at h ⊢
  generalize some.drop (sealL a).length = q at h ⊢
  rw [readE_app _ _ (by rw [length_pairL, length_pairL, length_notL])] at h
  split at h
  · rename_i hn
    have h1 := orL_part _ _ _ hn
    rw [h1] at hn ⊢
    rw [← hn]
  · exact absurd h (by decide)
theorem part_iff (a some : List UInt8) : (readE (pairL (· ||| ·) (recL a) some) = 0) ↔ pairL (· ||| ·) (recL a) some = recL a :=
  ⟨part_reads a some, fun h => by rw [h]; exact readE_rec a⟩

/- One over the other. -/
theorem andL_part : ∀ (f g : List UInt8), f.length = g.length → notL (pairL (· &&& ·) f g) = pairL (· &&& ·) (notL f) (notL g) → f = g
  | [], [], _, _ => rfl
  | x :: f, y :: g, e, h => by
    simp only [pairL, notL, List.map_cons, List.cons.injEq] at h ⊢
    exact ⟨and_part x y h.1, andL_part f g (by simpa using e) h.2⟩
theorem sealL_inj {a b : List UInt8} (h : sealL a = sealL b) : a = b := by rw [← openS_seal a, h, openS_seal]
theorem both_iff (a b : List UInt8) (e : b.length = a.length) : (readE (pairL (· &&& ·) (recL a) (recL b)) = 0) ↔ a = b := by
  constructor
  · intro h
    unfold recL at h
    rw [pairL_append _ _ _ _ _ (by rw [length_sealL, length_sealL, e]), readE_app _ _ (by rw [length_pairL, length_pairL, length_notL])] at h
    split at h
    · rename_i hn
      exact sealL_inj (andL_part _ _ (by rw [length_sealL, length_sealL, e]) hn)
    · exact absurd h (by decide)
  · rintro rfl
    rw [pairL_self _ (fun x => by simp), readE_rec]

/- Turned in four bytes. -/
theorem not_xor8 (x y : UInt8) : ~~~(x ^^^ y) = ~~~x ^^^ y := by
  refine byte_ext fun i hi => ?_
  simp only [UInt8.toBitVec_not, UInt8.toBitVec_xor, BitVec.getLsbD_not, BitVec.getLsbD_xor, hi, decide_true, Bool.true_and]
  cases x.toBitVec.getLsbD i <;> cases y.toBitVec.getLsbD i <;> rfl
theorem notL_xor : ∀ (f p : List UInt8), notL (pairL (· ^^^ ·) f p) = pairL (· ^^^ ·) (notL f) p
  | [], p => by simp [pairL, notL]
  | x :: f, [] => rfl
  | x :: f, y :: p => by
    have := notL_xor f p
    simp only [pairL, notL, List.map_cons, List.cons.injEq] at this ⊢
    exact ⟨not_xor8 x y, this⟩
theorem xorL_inj : ∀ (f p q : List UInt8), p.length = f.length → q.length = f.length → pairL (· ^^^ ·) f p = pairL (· ^^^ ·) f q → p = q
  | [], [], [], _, _, _ => rfl
  | x :: f, y :: p, z :: q, e1, e2, h => by
    simp only [pairL, List.cons.injEq] at h ⊢
    refine ⟨?_, xorL_inj f p q (by simpa using e1) (by simpa using e2) h.2⟩
    have := congrArg (x ^^^ ·) h.1
    simpa [← UInt8.xor_assoc] using this
/-- The list of turned bits, filled up with nothing. -/
def padL (k n : Nat) (q : List UInt8) : List UInt8 := List.replicate k 0 ++ q ++ List.replicate (n - (k + q.length)) 0
theorem length_padL (k n : Nat) (q : List UInt8) (h : k + q.length ≤ n) : (padL k n q).length = n := by simp [padL]; omega
theorem padL_out (k n : Nat) (q : List UInt8) (i : Nat) (hi : i < k ∨ k + q.length ≤ i) (h : i < n) : (padL k n q)[i]? = some 0 ∨ (padL k n q)[i]? = none := by
  unfold padL
  rw [List.append_assoc]
  rcases hi with hi | hi
  · left
    rw [List.getElem?_append_left (by simpa using hi)]
    simp [hi]
  · rw [List.getElem?_append_right (by simp; omega), List.getElem?_append_right (by simp; omega)]
    simp only [List.length_replicate, List.getElem?_replicate]
    split
    · exact .inl rfl
    · exact .inr rfl
theorem rot_halves (h : Nat) (hh : 4 ≤ h) (k : Nat) (q : List UInt8) (hq : q.length = 4) (hk : k + 4 ≤ 2 * h) (e : (padL k (2 * h) q).take h = (padL k (2 * h) q).drop h) : padL k (2 * h) q = List.replicate (2 * h) 0 := by
  have hlen := length_padL k (2 * h) q (by omega)
  have at_ : ∀ j, j < h → (padL k (2 * h) q)[j]? = (padL k (2 * h) q)[h + j]? := by
    intro j hj
    have := congrArg (fun l : List UInt8 => l[j]?) e
    simpa [List.getElem?_take, hj, List.getElem?_drop] using this
  have zero : ∀ j, j < h → (padL k (2 * h) q)[j]? = some 0 := by
    intro j hj
    by_cases hin : k ≤ j ∧ j < k + 4
    · rcases padL_out k (2 * h) q (h + j) (by omega) (by omega) with h2 | h2
      · rw [at_ j hj, h2]
      · rw [List.getElem?_eq_none_iff] at h2; omega
    · rcases padL_out k (2 * h) q j (by omega) (by omega) with h2 | h2
      · exact h2
      · rw [List.getElem?_eq_none_iff] at h2; omega
  refine List.ext_getElem? fun i => ?_
  by_cases hi : i < 2 * h
  · rw [List.getElem?_replicate, if_pos hi]
    by_cases hl : i < h
    · exact zero i hl
    · have := at_ (i - h) (by omega)
      rw [show h + (i - h) = i by omega] at this
      rw [← this]
      exact zero _ (by omega)
  · rw [List.getElem?_eq_none (by omega), List.getElem?_eq_none (by simp; omega)]
theorem rot_reads (a q : List UInt8) (k : Nat) (hq : q.length = 4) (hk : k + 4 ≤ (recL a).length) (h : readE (pairL (· ^^^ ·) (recL a) (List.replicate k 0 ++ q)) = 0) : pairL (· ^^^ ·) (recL a) (List.replicate k 0 ++ q) = recL a := by
  have hs := length_sealL a
  have hr := length_recL a
  have hpad : pairL (· ^^^ ·) (recL a) (List.replicate k 0 ++ q) = pairL (· ^^^ ·) (recL a) (padL k (2 * (sealL a).length) q) := by
    rw [pairL_pad]
    unfold padL
    rw [hr, hs]
    simp
  have hl := length_padL k (2 * (sealL a).length) q (by omega)
  rw [hpad] at h ⊢
  have hrot := rot_halves (sealL a).length (by omega) k q hq (by omega)
  generalize padL k (2 * (sealL a).length) q = p at *
  unfold recL at h ⊢
  rw [pairL_cut] at h ⊢
  rw [readE_app _ _ (by rw [length_pairL, length_pairL, length_notL])] at h
  split at h
  · rename_i hn
    rw [notL_xor] at hn
    have := hrot (xorL_inj (notL (sealL a)) _ _ (by rw [length_notL, List.length_take]; omega) (by rw [length_notL, List.length_drop]; omega) hn)
    rw [this, List.take_replicate, List.drop_replicate, pairL_none, pairL_none]
  · exact absurd h (by decide)
theorem rots_iff (a q : List UInt8) (k : Nat) (hq : q.length = 4) (hk : k + 4 ≤ (recL a).length) : (readE (pairL (· ^^^ ·) (recL a) (List.replicate k 0 ++ q)) = 0) ↔ getN q = 0 := by
  rw [← same_iff (recL a) q k hq hk]
  exact ⟨rot_reads a q k hq hk, fun h => by rw [h]; exact readE_rec a⟩

/- Halves of ones. -/
theorem count_rec (a : List UInt8) : countL (recL a) = 4 * (recL a).length := by
  have := count_not (sealL a)
  rw [length_recL]
  unfold recL
  rw [countL_append, this, length_sealL]
  omega
theorem clearL_ones (n : Nat) : clearL (List.replicate n 255) = true := by simp [clearL]
theorem not_full (x : UInt8) (h : x = 255) : ~~~x ≠ 255 := by subst h; decide
theorem clearL_rec (a : List UInt8) : clearL (recL a) = false := by
  have hs := length_sealL a
  unfold recL
  cases hl : sealL a with
  | nil => rw [hl] at hs; simp at hs
  | cons x l =>
    simp only [clearL, notL, List.all_append, List.all_cons, List.map_cons]
    by_cases hx : x = 255
    · have := not_full x hx
      simp [this]
    · simp [hx]
theorem readE_ones (n : Nat) : readE (List.replicate n 255) = 2 := by
  unfold readE
  cases hh : halfB (List.replicate n 255) with
  | false => rfl
  | true =>
    rw [if_pos rfl]
    have hn : notL ((List.replicate n 255).take ((List.replicate n (255 : UInt8)).length / 2)) = (List.replicate n 255).drop ((List.replicate n (255 : UInt8)).length / 2) := of_decide_eq_true hh
    simp only [List.length_replicate, List.take_replicate, List.drop_replicate, notL, List.map_replicate] at hn ⊢
    have hlen := congrArg List.length hn
    simp only [List.length_replicate] at hlen
    by_cases h0 : n / 2 = 0
    · have : n = 0 := by omega
      subst this
      rfl
    · exfalso
      have := congrArg (fun l : List UInt8 => l[0]?) hn
      simp only [List.getElem?_replicate] at this
      rw [if_pos (by omega), if_pos (by omega)] at this
      simp at this
theorem clear_iff (s : List UInt8) : clearL s = decide (s = List.replicate s.length 255) := by
  rw [Bool.eq_iff_iff, decide_eq_true_iff]
  unfold clearL
  rw [List.all_eq_true]
  constructor
  · intro h
    exact List.eq_replicate_iff.2 ⟨rfl, fun b hb => by simpa using h b hb⟩
  · intro h b hb
    rw [h] at hb
    simpa using (List.mem_replicate.1 hb).2
/-- Reading as the document says it. -/
theorem read_ref (s : List UInt8) (h8 : 8 ≤ s.length) (h2 : s.length % 2 = 0) : readE s = (if recL (s.take (s.length / 2 - 4)) = s then 0 else 2) ∧ readS s = if recL (s.take (s.length / 2 - 4)) = s then s.take (s.length / 2 - 4) else [] := by
  by_cases h : recL (s.take (s.length / 2 - 4)) = s
  · rw [if_pos h, if_pos h]
    have h1 := readE_rec (s.take (s.length / 2 - 4))
    have h3 := readS_rec (s.take (s.length / 2 - 4))
    rw [h] at h1 h3
    exact ⟨h1, h3⟩
  · rw [if_neg h, if_neg h]
    rcases readE_cases s with ⟨h1, h3⟩ | h1
    · exfalso
      apply h
      have hl := congrArg List.length h3
      rw [length_recL] at hl
      have h4 : s.take (s.length / 2 - 4) = readS s := by
        have e : s.take (readS s).length = (recL (readS s)).take (readS s).length := by rw [h3]
        rw [show s.length / 2 - 4 = (readS s).length by omega, e]
        unfold recL sealL
        rw [List.append_assoc, List.take_left]
      rw [h4, h3]
    · exact h1
theorem read_short (s : List UInt8) (h : s.length < 8 ∨ s.length % 2 = 1) : readE s = 2 ∧ readS s = [] := by
  rcases readE_cases s with ⟨h1, h3⟩ | h1
  · have hl := congrArg List.length h3
    rw [length_recL] at hl
    omega
  · exact h1
end Go.Proofs.YtpjafjnokgeifaaGreatDoor
end
