/- All that is not dead is read by its key, and nothing else is (delta.Scan, Text, Sum, Flags; arena.Find). -/
import Derived.Test.YtbgconagkgfplaaGreatPartG
import Derived.SizedLaws
import Derived.ProofKit
import Derived.OpenShut
import Derived.ShutString
import Derived.ChangeOld
import Derived.Below
namespace Go.Proofs.YtbgconagkgfplaaGreat
open Go.RowKit
open Go.ChangeShapes Go.WideShapes Go.ChangeAt Go.RowKit
open Go.ChangeMaps (open_string shut_string)
set_option linter.unusedVariables false
set_option linter.unusedSimpArgs false
attribute [local irreducible] setN

theorem fs_en_0 (g o : Nat) (w : World) : (Instr.fieldAt 30 (.pointer (some ⟨g, o, none⟩)) 0).run Tryz.prog w = .ok (.pointer (some ⟨g, o, none⟩)) w := by simp [Instr.fieldAt, run_underlying Tryz.underlying30, Instr.sureAddr, fieldPlace, Addr.add]
theorem fs_en_1 (g o : Nat) (w : World) : (Instr.fieldAt 30 (.pointer (some ⟨g, o, none⟩)) 1).run Tryz.prog w = .ok (.pointer (some ⟨g, o + 1, none⟩)) w := by simp [Instr.fieldAt, run_underlying Tryz.underlying30, Instr.sureAddr, fieldPlace, Addr.add]
theorem fs_va_0 (g o : Nat) (w : World) : (Instr.fieldAt 28 (.pointer (some ⟨g, o, none⟩)) 0).run Tryz.prog w = .ok (.pointer (some ⟨g, o, none⟩)) w := by simp [Instr.fieldAt, run_underlying Tryz.underlying28, Instr.sureAddr, fieldPlace, Addr.add]
theorem fs_va_3 (g o : Nat) (w : World) : (Instr.fieldAt 28 (.pointer (some ⟨g, o, none⟩)) 3).run Tryz.prog w = .ok (.pointer (some ⟨g, o + 3, none⟩)) w := by simp [Instr.fieldAt, run_underlying Tryz.underlying28, Instr.sureAddr, fieldPlace, Addr.add]
/-- A slot that is read by its key. -/
def lvE (A : Ar) (E : En) : Bool := (E.val.kind == 1 && textB A E.key) || (E.val.kind == 2 && heldB A 2 E.key) || (E.val.kind == 3 && heldB A 3 E.key)
theorem held_slot {A : Ar} (h : OkA A) {E : En} (hE : E ∈ A.slots) : heldB A E.val.kind E.key = true ∧ heldV A E.val.kind E.key = E.val := by
  have hn : nameB E (nameE E.val.kind E.key) = true := name_iff.2 ⟨rfl, rfl⟩
  have hh := (hit_iff h).2 ⟨E, hE, hn⟩
  obtain ⟨h1, h2, _⟩ := held_hit h hh
  exact ⟨h1, by rw [h2, ← slot_one h hh hE hn]⟩
theorem live_ok {A : Ar} (h : OkA A) {E : En} (hE : E ∈ A.slots) : lvE A E = !E.val.dead := by
  obtain ⟨h1, h2⟩ := held_slot h hE
  have hv := okE_val (h.ents E hE)
  unfold lvE
  rcases ok_kind hv with hk | hk | hk
  · rw [hk] at h1 h2 ⊢
    unfold textB
    rw [h1, h2]; simp
  · rw [hk] at h1 h2 ⊢
    rw [h1, (ok_count hv hk).2]; simp [onlyCount]
  · rw [hk] at h1 h2 ⊢
    rw [h1, ok_flags hv hk]; simp [onlyFlags]
theorem lv_bad {A : Ar} (h : okA A = false) (E : En) : lvE A E = false := by
  unfold lvE textB
  rw [(held_no (kind := 1) (key := E.key) (.inl h)).1, (held_no (kind := 2) (key := E.key) (.inl h)).1, (held_no (kind := 3) (key := E.key) (.inl h)).1]; simp
theorem perm_full {α : Type} [DecidableEq α] : ∀ (l m : List α), l.Nodup → (∀ x ∈ l, x ∈ m) → m.length = l.length → l.Perm m
  | [], m, _, _, h => by
    have : m = [] := List.eq_nil_of_length_eq_zero h
    subst this; exact List.Perm.nil
  | a :: l, m, hn, hs, h => by
    have hn' := List.nodup_cons.1 hn
    have hm : a ∈ m := hs a (List.mem_cons_self ..)
    have hl : (m.erase a).length = l.length := by rw [List.length_erase_of_mem hm, h]; rfl
    exact ((perm_full l (m.erase a) hn'.2 (fun x hx => (List.mem_erase_of_ne (by rintro rfl; exact hn'.1 hx)).2 (hs x (List.mem_cons_of_mem _ hx))) hl).cons a).trans (List.perm_cons_erase hm).symm
theorem ord_nodup {A : Ar} (h : OkA A) : (ordA A).Nodup := by
  have h1 := h.asc
  unfold Asc at h1
  refine List.Pairwise.imp ?_ h1
  rintro a b hl rfl
  exact less_both _ _ hl hl
theorem scan_count (A : Ar) : (A.slots.filter (lvE A)).length = (scanA A).length := by
  unfold scanA allA
  cases ho : okA A with
  | false => rw [if_neg (by decide), List.filter_eq_nil_iff.2 (fun e _ => by rw [lv_bad ho]; decide)]; rfl
  | true =>
    rw [if_pos rfl]
    have h := okA_iff.1 ho
    rw [List.filter_congr (q := fun e => !e.val.dead) (fun e he => live_ok h he)]
    exact ((perm_full (ordA A) A.slots (ord_nodup h) (fun x hx => (mem_ord h x).1 hx) (ord_length h).symm).filter _).length_eq.symm
theorem scan_len {A : Ar} (hF : FitA A) : (scanA A).length ≤ 1000 := by unfold scanA; exact Nat.le_trans (List.length_filter_le _ _) (all_len hF)
theorem scan_in {A : Ar} {X : En} (h : X ∈ scanA A) : X.val.dead = false ∧ ∃ p, findI A (nameE X.val.kind X.key) = p ∧ 0 ≤ p := by
  unfold scanA at h
  obtain ⟨h1, h2⟩ := List.mem_filter.1 h
  unfold allA at h1
  cases ho : okA A with
  | false => rw [ho, if_neg (by decide)] at h1; cases h1
  | true =>
    rw [ho, if_pos rfl] at h1
    have hA := okA_iff.1 ho
    have hh := (hit_iff hA).2 ⟨X, (mem_ord hA X).1 h1, (name_iff.2 ⟨rfl, rfl⟩ : nameB X (nameE X.val.kind X.key) = true)⟩
    exact ⟨by simpa using h2, _, find_hit hA hh, (place_spec hA hh).1.1⟩
theorem scan_in_slots {A : Ar} {x : En} {p : Int} (h : findI A x = p) (hp : 0 ≤ p) : A.slots ≠ [] := by
  subst h
  obtain ⟨q, _, h2, _⟩ := find_range hp
  intro e; rw [e] at h2; simp at h2
theorem take_count {A : Ar} {l : List En} {q c : Nat} {E : En} (h : l[q]? = some E) (hc : ((l.take q).filter (lvE A)).length = c) : ((l.take (q + 1)).filter (lvE A)).length = c + (if lvE A E = true then 1 else 0) := by
  rw [List.take_add_one, h, List.filter_append, List.length_append, hc]
  cases hlv : lvE A E <;> simp [hlv]
noncomputable def dstOps : Array Oper := regionOf Tryz.f9 12
set_option maxRecDepth 100000 in
set_option maxHeartbeats 2000000 in
theorem dst_region (Q : Exit → Act → World → Prop) (a0 : Act) (w0 : World) (hsz : a0.tmps.size = 129) (ga k bs os cs n : Nat) (A : Ar) (vi : Value) (K : List UInt8) (T : List UInt8) (z : Bool) (HA : CellsN w0 ga [.int .i64 A.cap, .slice (some ⟨bs, os, none⟩) n cs, vi]) (XA : isAr A (.agg #[.int .i64 A.cap, .slice (some ⟨bs, os, none⟩) n cs, vi]) w0) (hF : FitA A) (hk0 : w0.cell? ⟨bs, os + k * 9, none⟩ = some (.string ⟨K.toArray⟩)) (hbs : bs < w0.heap.size) (hk : k < n) (hT : textT A K = T) (hz : textB A K = z) (e1 : a0.tmps.getD 1 undef = .pointer (some ⟨ga, 0, none⟩)) (e7 : a0.tmps.getD 7 undef = .int .i64 (k : Int))
    (hQ : ∀ (g : Nat → Value) (w : World), g 8 = .string ⟨T.toArray⟩ → g 9 = .bool z → Below w0.heap.size w0 w → Q .normal { tmps := [34, 35, 36, 37, 38, 39, 40, 41, 33, 42, 43, 8, 9].foldl (fun t s => t.setIfInBounds s (g s)) a0.tmps, defers := a0.defers } w) :
    (Code.region 12 dstOps true).wp Tryz.prog Q a0 w0 := by
  refine wp_region_flow mixed (by rw [hsz]; kernel_rfl) ?_
  rw [show dstOps.size = 13 by kernel_rfl]
  refine ⟨isVal (.agg #[.int .i64 A.cap, .slice (some ⟨bs, os, none⟩) n cs, vi]), step_loadA 25 (.tmp 1) (ga) (0) [.int .i64 A.cap, .slice (some ⟨bs, os, none⟩) n cs, vi] (by kernel_rfl) (wanted_none (by kernel_rfl)) (knows_old 1 (.pointer (some ⟨ga, 0, none⟩)) (by kernel_rfl) e1) size_ar agg_ar (⟨HA.1, fun j x hx => by rw [Nat.zero_add]; exact HA.2 j x hx⟩), ?_⟩
  refine ⟨isVal (.pointer (some ⟨ga, 1, none⟩)), step_field 25 (.tmp 1) 1 ⟨ga, 0, none⟩ ⟨ga, 1, none⟩ (by kernel_rfl) (wanted_none (by kernel_rfl)) (knows_old 1 (.pointer (some ⟨ga, 0, none⟩)) (by kernel_rfl) e1) (f_ar_0_1 (ga)), ?_⟩
  refine ⟨isVal (.slice (some ⟨bs, os, none⟩) n cs), step_read 22 (.tmp 35) ⟨ga, 1, none⟩ (.slice (some ⟨bs, os, none⟩) n cs) (by kernel_rfl) (wanted_none (by kernel_rfl)) (knows_new (V := isVal (.pointer (some ⟨ga, 1, none⟩))) 35 1 (by kernel_rfl) (by kernel_rfl) (by kernel_rfl)) (HA.2 1 _ rfl) (HA.1) (agg_noS), ?_⟩
  refine ⟨isVal (.int .i64 (k : Int)), step_move (.tmp 7) (by kernel_rfl) (wanted_none (by kernel_rfl)) (stable_val _) (knows_old 7 (.int .i64 (k : Int)) (by kernel_rfl) e7), ?_⟩
  refine ⟨isVal (.pointer (some ⟨bs, os + k * 9, none⟩)), step_placeE 22 30 (.tmp 36) (.tmp 37) bs (os) (n) (cs) (k) (os + k * 9) (by kernel_rfl) (wanted_none (by kernel_rfl)) (knows_new (V := isVal (.slice (some ⟨bs, os, none⟩) n cs)) 36 2 (by kernel_rfl) (by kernel_rfl) (by kernel_rfl)) (knows_new (V := isVal (.int .i64 (k : Int))) 37 3 (by kernel_rfl) (by kernel_rfl) (by kernel_rfl)) Tryz.underlying22 (by kernel_rfl) (⟨hk, rfl⟩), ?_⟩
  refine ⟨isVal (.pointer (some ⟨bs, os + k * 9, none⟩)), step_field 30 (.tmp 38) 0 ⟨bs, os + k * 9, none⟩ ⟨bs, os + k * 9, none⟩ (by kernel_rfl) (wanted_none (by kernel_rfl)) (knows_new (V := isVal (.pointer (some ⟨bs, os + k * 9, none⟩))) 38 4 (by kernel_rfl) (by kernel_rfl) (by kernel_rfl)) (fs_en_0 (bs) (os + k * 9)), ?_⟩
  refine ⟨isVal (.string ⟨K.toArray⟩), step_read 9 (.tmp 39) ⟨bs, os + k * 9, none⟩ (.string ⟨K.toArray⟩) (by kernel_rfl) (wanted_none (by kernel_rfl)) (knows_new (V := isVal (.pointer (some ⟨bs, os + k * 9, none⟩))) 39 5 (by kernel_rfl) (by kernel_rfl) (by kernel_rfl)) (hk0) (hbs) (agg_noT), ?_⟩
  refine ⟨isVal (.tuple #[.string ⟨T.toArray⟩, .bool z]), step_call 29 #[.tmp 34, .tmp 40] #[25, 9] #[.agg #[.int .i64 A.cap, .slice (some ⟨bs, os, none⟩) n cs, vi], .string ⟨K.toArray⟩] (by kernel_rfl) (wanted_none (by kernel_rfl)) (stable_val _) (args2 (.tmp 34) (.tmp 40) (.agg #[.int .i64 A.cap, .slice (some ⟨bs, os, none⟩) n cs, vi]) (.string ⟨K.toArray⟩) (knows_new (V := isVal (.agg #[.int .i64 A.cap, .slice (some ⟨bs, os, none⟩) n cs, vi])) 34 0 (by kernel_rfl) (by kernel_rfl) (by kernel_rfl)) (knows_new (V := isVal (.string ⟨K.toArray⟩)) 40 6 (by kernel_rfl) (by kernel_rfl) (by kernel_rfl))) (enters_of Tryz.func29 (by kernel_rfl) rfl) (by intro w' hb; exact call_v1 (gd_text A K T z _ w' (stable_ar _ _ _ _ XA hb) hF hT hz)), ?_⟩
  refine ⟨isVal (.tuple #[.string ⟨T.toArray⟩, .bool z]), step_move (.tmp 41) (by kernel_rfl) (wanted_none (by kernel_rfl)) (stable_val _) (knows_new (V := isVal (.tuple #[.string ⟨T.toArray⟩, .bool z])) 41 7 (by kernel_rfl) (by kernel_rfl) (by kernel_rfl)), ?_⟩
  refine ⟨isVal (.string ⟨T.toArray⟩), step_extract (.tmp 33) 0 _ (.string ⟨T.toArray⟩) (by kernel_rfl) (wanted_none (by kernel_rfl)) (knows_new (V := isVal (.tuple #[.string ⟨T.toArray⟩, .bool z])) 33 8 (by kernel_rfl) (by kernel_rfl) (by kernel_rfl)) rfl, ?_⟩
  refine ⟨isVal (.bool z), step_extract (.tmp 33) 1 _ (.bool z) (by kernel_rfl) (wanted_none (by kernel_rfl)) (knows_new (V := isVal (.tuple #[.string ⟨T.toArray⟩, .bool z])) 33 8 (by kernel_rfl) (by kernel_rfl) (by kernel_rfl)) rfl, ?_⟩
  refine ⟨isVal (.string ⟨T.toArray⟩), step_assign (.tmp 42) (by kernel_rfl) (wanted_none (by kernel_rfl)) (stable_val _) (knows_new (V := isVal (.string ⟨T.toArray⟩)) 42 9 (by kernel_rfl) (by kernel_rfl) (by kernel_rfl)), ?_⟩
  refine ⟨isVal (.bool z), step_assign (.tmp 43) (by kernel_rfl) (wanted_none (by kernel_rfl)) (stable_val _) (knows_new (V := isVal (.bool z)) 43 10 (by kernel_rfl) (by kernel_rfl) (by kernel_rfl)), ?_⟩
  intro a w hkp hb hd
  rw [kept_of hkp [some 34, some 35, some 36, some 37, some 38, some 39, some 40, some 41, some 33, some 42, some 43, some 8, some 9] [34, 35, 36, 37, 38, 39, 40, 41, 33, 42, 43, 8, 9] (by kernel_rfl) (by decide)]
  have d8 := fdone_of (hd 11 (by rw [show dstOps.size = 13 by kernel_rfl]; decide)) (t := 8) (V := isVal (.string ⟨T.toArray⟩)) (by kernel_rfl) (by kernel_rfl)
  have d9 := fdone_of (hd 12 (by rw [show dstOps.size = 13 by kernel_rfl]; decide)) (t := 9) (V := isVal (.bool z)) (by kernel_rfl) (by kernel_rfl)
  exact hQ (fun s => a.tmps.getD s undef) w d8 d9 hb
noncomputable def dssOps : Array Oper := regionOf Tryz.f9 13
set_option maxRecDepth 100000 in
set_option maxHeartbeats 2000000 in
theorem dss_region (Q : Exit → Act → World → Prop) (a0 : Act) (w0 : World) (hsz : a0.tmps.size = 129) (ga k bs os cs n : Nat) (A : Ar) (vi : Value) (K : List UInt8) (T : Int) (z : Bool) (HA : CellsN w0 ga [.int .i64 A.cap, .slice (some ⟨bs, os, none⟩) n cs, vi]) (XA : isAr A (.agg #[.int .i64 A.cap, .slice (some ⟨bs, os, none⟩) n cs, vi]) w0) (hF : FitA A) (hk0 : w0.cell? ⟨bs, os + k * 9, none⟩ = some (.string ⟨K.toArray⟩)) (hbs : bs < w0.heap.size) (hk : k < n) (hT : sumT A K = T) (hz : heldB A 2 K = z) (e1 : a0.tmps.getD 1 undef = .pointer (some ⟨ga, 0, none⟩)) (e7 : a0.tmps.getD 7 undef = .int .i64 (k : Int))
    (hQ : ∀ (g : Nat → Value) (w : World), g 10 = .int .i64 T → g 11 = .bool z → Below w0.heap.size w0 w → Q .normal { tmps := [45, 46, 47, 48, 49, 50, 51, 52, 44, 53, 54, 10, 11].foldl (fun t s => t.setIfInBounds s (g s)) a0.tmps, defers := a0.defers } w) :
    (Code.region 13 dssOps true).wp Tryz.prog Q a0 w0 := by
  refine wp_region_flow mixed (by rw [hsz]; kernel_rfl) ?_
  rw [show dssOps.size = 13 by kernel_rfl]
  refine ⟨isVal (.agg #[.int .i64 A.cap, .slice (some ⟨bs, os, none⟩) n cs, vi]), step_loadA 25 (.tmp 1) (ga) (0) [.int .i64 A.cap, .slice (some ⟨bs, os, none⟩) n cs, vi] (by kernel_rfl) (wanted_none (by kernel_rfl)) (knows_old 1 (.pointer (some ⟨ga, 0, none⟩)) (by kernel_rfl) e1) size_ar agg_ar (⟨HA.1, fun j x hx => by rw [Nat.zero_add]; exact HA.2 j x hx⟩), ?_⟩
  refine ⟨isVal (.pointer (some ⟨ga, 1, none⟩)), step_field 25 (.tmp 1) 1 ⟨ga, 0, none⟩ ⟨ga, 1, none⟩ (by kernel_rfl) (wanted_none (by kernel_rfl)) (knows_old 1 (.pointer (some ⟨ga, 0, none⟩)) (by kernel_rfl) e1) (f_ar_0_1 (ga)), ?_⟩
  refine ⟨isVal (.slice (some ⟨bs, os, none⟩) n cs), step_read 22 (.tmp 46) ⟨ga, 1, none⟩ (.slice (some ⟨bs, os, none⟩) n cs) (by kernel_rfl) (wanted_none (by kernel_rfl)) (knows_new (V := isVal (.pointer (some ⟨ga, 1, none⟩))) 46 1 (by kernel_rfl) (by kernel_rfl) (by kernel_rfl)) (HA.2 1 _ rfl) (HA.1) (agg_noS), ?_⟩
  refine ⟨isVal (.int .i64 (k : Int)), step_move (.tmp 7) (by kernel_rfl) (wanted_none (by kernel_rfl)) (stable_val _) (knows_old 7 (.int .i64 (k : Int)) (by kernel_rfl) e7), ?_⟩
  refine ⟨isVal (.pointer (some ⟨bs, os + k * 9, none⟩)), step_placeE 22 30 (.tmp 47) (.tmp 48) bs (os) (n) (cs) (k) (os + k * 9) (by kernel_rfl) (wanted_none (by kernel_rfl)) (knows_new (V := isVal (.slice (some ⟨bs, os, none⟩) n cs)) 47 2 (by kernel_rfl) (by kernel_rfl) (by kernel_rfl)) (knows_new (V := isVal (.int .i64 (k : Int))) 48 3 (by kernel_rfl) (by kernel_rfl) (by kernel_rfl)) Tryz.underlying22 (by kernel_rfl) (⟨hk, rfl⟩), ?_⟩
  refine ⟨isVal (.pointer (some ⟨bs, os + k * 9, none⟩)), step_field 30 (.tmp 49) 0 ⟨bs, os + k * 9, none⟩ ⟨bs, os + k * 9, none⟩ (by kernel_rfl) (wanted_none (by kernel_rfl)) (knows_new (V := isVal (.pointer (some ⟨bs, os + k * 9, none⟩))) 49 4 (by kernel_rfl) (by kernel_rfl) (by kernel_rfl)) (fs_en_0 (bs) (os + k * 9)), ?_⟩
  refine ⟨isVal (.string ⟨K.toArray⟩), step_read 9 (.tmp 50) ⟨bs, os + k * 9, none⟩ (.string ⟨K.toArray⟩) (by kernel_rfl) (wanted_none (by kernel_rfl)) (knows_new (V := isVal (.pointer (some ⟨bs, os + k * 9, none⟩))) 50 5 (by kernel_rfl) (by kernel_rfl) (by kernel_rfl)) (hk0) (hbs) (agg_noT), ?_⟩
  refine ⟨isVal (.tuple #[.int .i64 T, .bool z]), step_call 31 #[.tmp 45, .tmp 51] #[25, 9] #[.agg #[.int .i64 A.cap, .slice (some ⟨bs, os, none⟩) n cs, vi], .string ⟨K.toArray⟩] (by kernel_rfl) (wanted_none (by kernel_rfl)) (stable_val _) (args2 (.tmp 45) (.tmp 51) (.agg #[.int .i64 A.cap, .slice (some ⟨bs, os, none⟩) n cs, vi]) (.string ⟨K.toArray⟩) (knows_new (V := isVal (.agg #[.int .i64 A.cap, .slice (some ⟨bs, os, none⟩) n cs, vi])) 45 0 (by kernel_rfl) (by kernel_rfl) (by kernel_rfl)) (knows_new (V := isVal (.string ⟨K.toArray⟩)) 51 6 (by kernel_rfl) (by kernel_rfl) (by kernel_rfl))) (enters_of Tryz.func31 (by kernel_rfl) rfl) (by intro w' hb; exact call_v1 (gd_sum A K T z _ w' (stable_ar _ _ _ _ XA hb) hF hT hz)), ?_⟩
  refine ⟨isVal (.tuple #[.int .i64 T, .bool z]), step_move (.tmp 52) (by kernel_rfl) (wanted_none (by kernel_rfl)) (stable_val _) (knows_new (V := isVal (.tuple #[.int .i64 T, .bool z])) 52 7 (by kernel_rfl) (by kernel_rfl) (by kernel_rfl)), ?_⟩
  refine ⟨isVal (.int .i64 T), step_extract (.tmp 44) 0 _ (.int .i64 T) (by kernel_rfl) (wanted_none (by kernel_rfl)) (knows_new (V := isVal (.tuple #[.int .i64 T, .bool z])) 44 8 (by kernel_rfl) (by kernel_rfl) (by kernel_rfl)) rfl, ?_⟩
  refine ⟨isVal (.bool z), step_extract (.tmp 44) 1 _ (.bool z) (by kernel_rfl) (wanted_none (by kernel_rfl)) (knows_new (V := isVal (.tuple #[.int .i64 T, .bool z])) 44 8 (by kernel_rfl) (by kernel_rfl) (by kernel_rfl)) rfl, ?_⟩
  refine ⟨isVal (.int .i64 T), step_assign (.tmp 53) (by kernel_rfl) (wanted_none (by kernel_rfl)) (stable_val _) (knows_new (V := isVal (.int .i64 T)) 53 9 (by kernel_rfl) (by kernel_rfl) (by kernel_rfl)), ?_⟩
  refine ⟨isVal (.bool z), step_assign (.tmp 54) (by kernel_rfl) (wanted_none (by kernel_rfl)) (stable_val _) (knows_new (V := isVal (.bool z)) 54 10 (by kernel_rfl) (by kernel_rfl) (by kernel_rfl)), ?_⟩
  intro a w hkp hb hd
  rw [kept_of hkp [some 45, some 46, some 47, some 48, some 49, some 50, some 51, some 52, some 44, some 53, some 54, some 10, some 11] [45, 46, 47, 48, 49, 50, 51, 52, 44, 53, 54, 10, 11] (by kernel_rfl) (by decide)]
  have d10 := fdone_of (hd 11 (by rw [show dssOps.size = 13 by kernel_rfl]; decide)) (t := 10) (V := isVal (.int .i64 T)) (by kernel_rfl) (by kernel_rfl)
  have d11 := fdone_of (hd 12 (by rw [show dssOps.size = 13 by kernel_rfl]; decide)) (t := 11) (V := isVal (.bool z)) (by kernel_rfl) (by kernel_rfl)
  exact hQ (fun s => a.tmps.getD s undef) w d10 d11 hb
noncomputable def dsfOps : Array Oper := regionOf Tryz.f9 14
set_option maxRecDepth 100000 in
set_option maxHeartbeats 2000000 in
theorem dsf_region (Q : Exit → Act → World → Prop) (a0 : Act) (w0 : World) (hsz : a0.tmps.size = 129) (ga k bs os cs n : Nat) (A : Ar) (vi : Value) (K : List UInt8) (T : UInt64) (z : Bool) (HA : CellsN w0 ga [.int .i64 A.cap, .slice (some ⟨bs, os, none⟩) n cs, vi]) (XA : isAr A (.agg #[.int .i64 A.cap, .slice (some ⟨bs, os, none⟩) n cs, vi]) w0) (hF : FitA A) (hk0 : w0.cell? ⟨bs, os + k * 9, none⟩ = some (.string ⟨K.toArray⟩)) (hbs : bs < w0.heap.size) (hk : k < n) (hT : flagT A K = T) (hz : heldB A 3 K = z) (e1 : a0.tmps.getD 1 undef = .pointer (some ⟨ga, 0, none⟩)) (e7 : a0.tmps.getD 7 undef = .int .i64 (k : Int))
    (hQ : ∀ (g : Nat → Value) (w : World), g 12 = .int .u64 (T.toNat : Int) → g 13 = .bool z → Below w0.heap.size w0 w → Q .normal { tmps := [56, 57, 58, 59, 60, 61, 62, 63, 55, 64, 65, 12, 13].foldl (fun t s => t.setIfInBounds s (g s)) a0.tmps, defers := a0.defers } w) :
    (Code.region 14 dsfOps true).wp Tryz.prog Q a0 w0 := by
  refine wp_region_flow mixed (by rw [hsz]; kernel_rfl) ?_
  rw [show dsfOps.size = 13 by kernel_rfl]
  refine ⟨isVal (.agg #[.int .i64 A.cap, .slice (some ⟨bs, os, none⟩) n cs, vi]), step_loadA 25 (.tmp 1) (ga) (0) [.int .i64 A.cap, .slice (some ⟨bs, os, none⟩) n cs, vi] (by kernel_rfl) (wanted_none (by kernel_rfl)) (knows_old 1 (.pointer (some ⟨ga, 0, none⟩)) (by kernel_rfl) e1) size_ar agg_ar (⟨HA.1, fun j x hx => by rw [Nat.zero_add]; exact HA.2 j x hx⟩), ?_⟩
  refine ⟨isVal (.pointer (some ⟨ga, 1, none⟩)), step_field 25 (.tmp 1) 1 ⟨ga, 0, none⟩ ⟨ga, 1, none⟩ (by kernel_rfl) (wanted_none (by kernel_rfl)) (knows_old 1 (.pointer (some ⟨ga, 0, none⟩)) (by kernel_rfl) e1) (f_ar_0_1 (ga)), ?_⟩
  refine ⟨isVal (.slice (some ⟨bs, os, none⟩) n cs), step_read 22 (.tmp 57) ⟨ga, 1, none⟩ (.slice (some ⟨bs, os, none⟩) n cs) (by kernel_rfl) (wanted_none (by kernel_rfl)) (knows_new (V := isVal (.pointer (some ⟨ga, 1, none⟩))) 57 1 (by kernel_rfl) (by kernel_rfl) (by kernel_rfl)) (HA.2 1 _ rfl) (HA.1) (agg_noS), ?_⟩
  refine ⟨isVal (.int .i64 (k : Int)), step_move (.tmp 7) (by kernel_rfl) (wanted_none (by kernel_rfl)) (stable_val _) (knows_old 7 (.int .i64 (k : Int)) (by kernel_rfl) e7), ?_⟩
  refine ⟨isVal (.pointer (some ⟨bs, os + k * 9, none⟩)), step_placeE 22 30 (.tmp 58) (.tmp 59) bs (os) (n) (cs) (k) (os + k * 9) (by kernel_rfl) (wanted_none (by kernel_rfl)) (knows_new (V := isVal (.slice (some ⟨bs, os, none⟩) n cs)) 58 2 (by kernel_rfl) (by kernel_rfl) (by kernel_rfl)) (knows_new (V := isVal (.int .i64 (k : Int))) 59 3 (by kernel_rfl) (by kernel_rfl) (by kernel_rfl)) Tryz.underlying22 (by kernel_rfl) (⟨hk, rfl⟩), ?_⟩
  refine ⟨isVal (.pointer (some ⟨bs, os + k * 9, none⟩)), step_field 30 (.tmp 60) 0 ⟨bs, os + k * 9, none⟩ ⟨bs, os + k * 9, none⟩ (by kernel_rfl) (wanted_none (by kernel_rfl)) (knows_new (V := isVal (.pointer (some ⟨bs, os + k * 9, none⟩))) 60 4 (by kernel_rfl) (by kernel_rfl) (by kernel_rfl)) (fs_en_0 (bs) (os + k * 9)), ?_⟩
  refine ⟨isVal (.string ⟨K.toArray⟩), step_read 9 (.tmp 61) ⟨bs, os + k * 9, none⟩ (.string ⟨K.toArray⟩) (by kernel_rfl) (wanted_none (by kernel_rfl)) (knows_new (V := isVal (.pointer (some ⟨bs, os + k * 9, none⟩))) 61 5 (by kernel_rfl) (by kernel_rfl) (by kernel_rfl)) (hk0) (hbs) (agg_noT), ?_⟩
  refine ⟨isVal (.tuple #[.int .u64 (T.toNat : Int), .bool z]), step_call 33 #[.tmp 56, .tmp 62] #[25, 9] #[.agg #[.int .i64 A.cap, .slice (some ⟨bs, os, none⟩) n cs, vi], .string ⟨K.toArray⟩] (by kernel_rfl) (wanted_none (by kernel_rfl)) (stable_val _) (args2 (.tmp 56) (.tmp 62) (.agg #[.int .i64 A.cap, .slice (some ⟨bs, os, none⟩) n cs, vi]) (.string ⟨K.toArray⟩) (knows_new (V := isVal (.agg #[.int .i64 A.cap, .slice (some ⟨bs, os, none⟩) n cs, vi])) 56 0 (by kernel_rfl) (by kernel_rfl) (by kernel_rfl)) (knows_new (V := isVal (.string ⟨K.toArray⟩)) 62 6 (by kernel_rfl) (by kernel_rfl) (by kernel_rfl))) (enters_of Tryz.func33 (by kernel_rfl) rfl) (by intro w' hb; exact call_v1 (gd_flags A K T z _ w' (stable_ar _ _ _ _ XA hb) hF hT hz)), ?_⟩
  refine ⟨isVal (.tuple #[.int .u64 (T.toNat : Int), .bool z]), step_move (.tmp 63) (by kernel_rfl) (wanted_none (by kernel_rfl)) (stable_val _) (knows_new (V := isVal (.tuple #[.int .u64 (T.toNat : Int), .bool z])) 63 7 (by kernel_rfl) (by kernel_rfl) (by kernel_rfl)), ?_⟩
  refine ⟨isVal (.int .u64 (T.toNat : Int)), step_extract (.tmp 55) 0 _ (.int .u64 (T.toNat : Int)) (by kernel_rfl) (wanted_none (by kernel_rfl)) (knows_new (V := isVal (.tuple #[.int .u64 (T.toNat : Int), .bool z])) 55 8 (by kernel_rfl) (by kernel_rfl) (by kernel_rfl)) rfl, ?_⟩
  refine ⟨isVal (.bool z), step_extract (.tmp 55) 1 _ (.bool z) (by kernel_rfl) (wanted_none (by kernel_rfl)) (knows_new (V := isVal (.tuple #[.int .u64 (T.toNat : Int), .bool z])) 55 8 (by kernel_rfl) (by kernel_rfl) (by kernel_rfl)) rfl, ?_⟩
  refine ⟨isVal (.int .u64 (T.toNat : Int)), step_assign (.tmp 64) (by kernel_rfl) (wanted_none (by kernel_rfl)) (stable_val _) (knows_new (V := isVal (.int .u64 (T.toNat : Int))) 64 9 (by kernel_rfl) (by kernel_rfl) (by kernel_rfl)), ?_⟩
  refine ⟨isVal (.bool z), step_assign (.tmp 65) (by kernel_rfl) (wanted_none (by kernel_rfl)) (stable_val _) (knows_new (V := isVal (.bool z)) 65 10 (by kernel_rfl) (by kernel_rfl) (by kernel_rfl)), ?_⟩
  intro a w hkp hb hd
  rw [kept_of hkp [some 56, some 57, some 58, some 59, some 60, some 61, some 62, some 63, some 55, some 64, some 65, some 12, some 13] [56, 57, 58, 59, 60, 61, 62, 63, 55, 64, 65, 12, 13] (by kernel_rfl) (by decide)]
  have d12 := fdone_of (hd 11 (by rw [show dsfOps.size = 13 by kernel_rfl]; decide)) (t := 12) (V := isVal (.int .u64 (T.toNat : Int))) (by kernel_rfl) (by kernel_rfl)
  have d13 := fdone_of (hd 12 (by rw [show dsfOps.size = 13 by kernel_rfl]; decide)) (t := 13) (V := isVal (.bool z)) (by kernel_rfl) (by kernel_rfl)
  exact hQ (fun s => a.tmps.getD s undef) w d12 d13 hb
noncomputable def dsrOps : Array Oper := regionOf Tryz.f9 21
set_option maxRecDepth 100000 in
set_option maxHeartbeats 2000000 in
theorem dsr_region (Q : Exit → Act → World → Prop) (a0 : Act) (w0 : World) (hsz : a0.tmps.size = 129) (ga j bs os cs n bl ol cl m : Nat) (A : Ar) (vi : Value) (K : List UInt8) (q p : Int) (HA : CellsN w0 ga [.int .i64 A.cap, .slice (some ⟨bs, os, none⟩) n cs, vi]) (XA : isAr A (.agg #[.int .i64 A.cap, .slice (some ⟨bs, os, none⟩) n cs, vi]) w0) (hF : FitA A) (hd : w0.cell? ⟨bl, ol + j * 9 + 1 + 3, none⟩ = some (.bool false)) (hq : w0.cell? ⟨bl, ol + j * 9 + 1, none⟩ = some (.int .i64 q)) (hk0 : w0.cell? ⟨bl, ol + j * 9, none⟩ = some (.string ⟨K.toArray⟩)) (hbl : bl < w0.heap.size) (hj : j < m) (hp : findI A (nameE q K) = p) (hp0 : 0 ≤ p) (e5 : a0.tmps.getD 5 undef = .slice (some ⟨bl, ol, none⟩) m cl) (e15 : a0.tmps.getD 15 undef = .int .i64 (j : Int)) (e1 : a0.tmps.getD 1 undef = .pointer (some ⟨ga, 0, none⟩))
    (hQ : ∀ (g : Nat → Value) (w : World), g 121 = .bool false → Below w0.heap.size w0 w → Q .normal { tmps := [100, 101, 102, 103, 104, 105, 106, 107, 108, 109, 110, 111, 112, 113, 114, 115, 116, 117, 118, 119, 120, 121].foldl (fun t s => t.setIfInBounds s (g s)) a0.tmps, defers := a0.defers } w) :
    (Code.region 21 dsrOps true).wp Tryz.prog Q a0 w0 := by
  refine wp_region_flow mixed (by rw [hsz]; kernel_rfl) ?_
  rw [show dsrOps.size = 22 by kernel_rfl]
  refine ⟨isVal (.slice (some ⟨bl, ol, none⟩) m cl), step_move (.tmp 5) (by kernel_rfl) (wanted_none (by kernel_rfl)) (stable_val _) (knows_old 5 (.slice (some ⟨bl, ol, none⟩) m cl) (by kernel_rfl) e5), ?_⟩
  refine ⟨isVal (.int .i64 (j : Int)), step_move (.tmp 15) (by kernel_rfl) (wanted_none (by kernel_rfl)) (stable_val _) (knows_old 15 (.int .i64 (j : Int)) (by kernel_rfl) e15), ?_⟩
  refine ⟨isVal (.pointer (some ⟨bl, ol + j * 9, none⟩)), step_placeE 22 30 (.tmp 100) (.tmp 101) bl (ol) (m) (cl) (j) (ol + j * 9) (by kernel_rfl) (wanted_none (by kernel_rfl)) (knows_new (V := isVal (.slice (some ⟨bl, ol, none⟩) m cl)) 100 0 (by kernel_rfl) (by kernel_rfl) (by kernel_rfl)) (knows_new (V := isVal (.int .i64 (j : Int))) 101 1 (by kernel_rfl) (by kernel_rfl) (by kernel_rfl)) Tryz.underlying22 (by kernel_rfl) (⟨hj, rfl⟩), ?_⟩
  refine ⟨isVal (.pointer (some ⟨bl, ol + j * 9 + 1, none⟩)), step_field 30 (.tmp 102) 1 ⟨bl, ol + j * 9, none⟩ ⟨bl, ol + j * 9 + 1, none⟩ (by kernel_rfl) (wanted_none (by kernel_rfl)) (knows_new (V := isVal (.pointer (some ⟨bl, ol + j * 9, none⟩))) 102 2 (by kernel_rfl) (by kernel_rfl) (by kernel_rfl)) (fs_en_1 (bl) (ol + j * 9)), ?_⟩
  refine ⟨isVal (.pointer (some ⟨bl, ol + j * 9 + 1 + 3, none⟩)), step_field 28 (.tmp 103) 3 ⟨bl, ol + j * 9 + 1, none⟩ ⟨bl, ol + j * 9 + 1 + 3, none⟩ (by kernel_rfl) (wanted_none (by kernel_rfl)) (knows_new (V := isVal (.pointer (some ⟨bl, ol + j * 9 + 1, none⟩))) 103 3 (by kernel_rfl) (by kernel_rfl) (by kernel_rfl)) (fs_va_3 (bl) (ol + j * 9 + 1)), ?_⟩
  refine ⟨isVal (.bool false), step_read 4 (.tmp 104) ⟨bl, ol + j * 9 + 1 + 3, none⟩ (.bool false) (by kernel_rfl) (wanted_none (by kernel_rfl)) (knows_new (V := isVal (.pointer (some ⟨bl, ol + j * 9 + 1 + 3, none⟩))) 104 4 (by kernel_rfl) (by kernel_rfl) (by kernel_rfl)) (hd) (hbl) (agg_noB), ?_⟩
  refine ⟨isVal (.bool false), step_move (.tmp 105) (by kernel_rfl) (wanted_none (by kernel_rfl)) (stable_val _) (knows_new (V := isVal (.bool false)) 105 5 (by kernel_rfl) (by kernel_rfl) (by kernel_rfl)), ?_⟩
  refine ⟨isVal (.agg #[.int .i64 A.cap, .slice (some ⟨bs, os, none⟩) n cs, vi]), step_loadA 25 (.tmp 1) (ga) (0) [.int .i64 A.cap, .slice (some ⟨bs, os, none⟩) n cs, vi] (by kernel_rfl) (wanted_some 6 106 false (by kernel_rfl) (by kernel_rfl) (by kernel_rfl) (by kernel_rfl)) (knows_old 1 (.pointer (some ⟨ga, 0, none⟩)) (by kernel_rfl) e1) size_ar agg_ar (⟨HA.1, fun j x hx => by rw [Nat.zero_add]; exact HA.2 j x hx⟩), ?_⟩
  refine ⟨isVal (.slice (some ⟨bl, ol, none⟩) m cl), step_move (.tmp 5) (by kernel_rfl) (wanted_some 6 106 false (by kernel_rfl) (by kernel_rfl) (by kernel_rfl) (by kernel_rfl)) (stable_val _) (knows_old 5 (.slice (some ⟨bl, ol, none⟩) m cl) (by kernel_rfl) e5), ?_⟩
  refine ⟨isVal (.int .i64 (j : Int)), step_move (.tmp 15) (by kernel_rfl) (wanted_some 6 106 false (by kernel_rfl) (by kernel_rfl) (by kernel_rfl) (by kernel_rfl)) (stable_val _) (knows_old 15 (.int .i64 (j : Int)) (by kernel_rfl) e15), ?_⟩
  refine ⟨isVal (.pointer (some ⟨bl, ol + j * 9, none⟩)), step_placeE 22 30 (.tmp 108) (.tmp 109) bl (ol) (m) (cl) (j) (ol + j * 9) (by kernel_rfl) (wanted_some 6 106 false (by kernel_rfl) (by kernel_rfl) (by kernel_rfl) (by kernel_rfl)) (knows_new (V := isVal (.slice (some ⟨bl, ol, none⟩) m cl)) 108 8 (by kernel_rfl) (by kernel_rfl) (by kernel_rfl)) (knows_new (V := isVal (.int .i64 (j : Int))) 109 9 (by kernel_rfl) (by kernel_rfl) (by kernel_rfl)) Tryz.underlying22 (by kernel_rfl) (⟨hj, rfl⟩), ?_⟩
  refine ⟨isVal (.pointer (some ⟨bl, ol + j * 9 + 1, none⟩)), step_field 30 (.tmp 110) 1 ⟨bl, ol + j * 9, none⟩ ⟨bl, ol + j * 9 + 1, none⟩ (by kernel_rfl) (wanted_some 6 106 false (by kernel_rfl) (by kernel_rfl) (by kernel_rfl) (by kernel_rfl)) (knows_new (V := isVal (.pointer (some ⟨bl, ol + j * 9, none⟩))) 110 10 (by kernel_rfl) (by kernel_rfl) (by kernel_rfl)) (fs_en_1 (bl) (ol + j * 9)), ?_⟩
  refine ⟨isVal (.pointer (some ⟨bl, ol + j * 9 + 1, none⟩)), step_field 28 (.tmp 111) 0 ⟨bl, ol + j * 9 + 1, none⟩ ⟨bl, ol + j * 9 + 1, none⟩ (by kernel_rfl) (wanted_some 6 106 false (by kernel_rfl) (by kernel_rfl) (by kernel_rfl) (by kernel_rfl)) (knows_new (V := isVal (.pointer (some ⟨bl, ol + j * 9 + 1, none⟩))) 111 11 (by kernel_rfl) (by kernel_rfl) (by kernel_rfl)) (fs_va_0 (bl) (ol + j * 9 + 1)), ?_⟩
  refine ⟨isVal (.int .i64 q), step_read 3 (.tmp 112) ⟨bl, ol + j * 9 + 1, none⟩ (.int .i64 q) (by kernel_rfl) (wanted_some 6 106 false (by kernel_rfl) (by kernel_rfl) (by kernel_rfl) (by kernel_rfl)) (knows_new (V := isVal (.pointer (some ⟨bl, ol + j * 9 + 1, none⟩))) 112 12 (by kernel_rfl) (by kernel_rfl) (by kernel_rfl)) (hq) (hbl) (agg_noZ), ?_⟩
  refine ⟨isVal (.slice (some ⟨bl, ol, none⟩) m cl), step_move (.tmp 5) (by kernel_rfl) (wanted_some 6 106 false (by kernel_rfl) (by kernel_rfl) (by kernel_rfl) (by kernel_rfl)) (stable_val _) (knows_old 5 (.slice (some ⟨bl, ol, none⟩) m cl) (by kernel_rfl) e5), ?_⟩
  refine ⟨isVal (.int .i64 (j : Int)), step_move (.tmp 15) (by kernel_rfl) (wanted_some 6 106 false (by kernel_rfl) (by kernel_rfl) (by kernel_rfl) (by kernel_rfl)) (stable_val _) (knows_old 15 (.int .i64 (j : Int)) (by kernel_rfl) e15), ?_⟩
  refine ⟨isVal (.pointer (some ⟨bl, ol + j * 9, none⟩)), step_placeE 22 30 (.tmp 114) (.tmp 115) bl (ol) (m) (cl) (j) (ol + j * 9) (by kernel_rfl) (wanted_some 6 106 false (by kernel_rfl) (by kernel_rfl) (by kernel_rfl) (by kernel_rfl)) (knows_new (V := isVal (.slice (some ⟨bl, ol, none⟩) m cl)) 114 14 (by kernel_rfl) (by kernel_rfl) (by kernel_rfl)) (knows_new (V := isVal (.int .i64 (j : Int))) 115 15 (by kernel_rfl) (by kernel_rfl) (by kernel_rfl)) Tryz.underlying22 (by kernel_rfl) (⟨hj, rfl⟩), ?_⟩
  refine ⟨isVal (.pointer (some ⟨bl, ol + j * 9, none⟩)), step_field 30 (.tmp 116) 0 ⟨bl, ol + j * 9, none⟩ ⟨bl, ol + j * 9, none⟩ (by kernel_rfl) (wanted_some 6 106 false (by kernel_rfl) (by kernel_rfl) (by kernel_rfl) (by kernel_rfl)) (knows_new (V := isVal (.pointer (some ⟨bl, ol + j * 9, none⟩))) 116 16 (by kernel_rfl) (by kernel_rfl) (by kernel_rfl)) (fs_en_0 (bl) (ol + j * 9)), ?_⟩
  refine ⟨isVal (.string ⟨K.toArray⟩), step_read 9 (.tmp 117) ⟨bl, ol + j * 9, none⟩ (.string ⟨K.toArray⟩) (by kernel_rfl) (wanted_some 6 106 false (by kernel_rfl) (by kernel_rfl) (by kernel_rfl) (by kernel_rfl)) (knows_new (V := isVal (.pointer (some ⟨bl, ol + j * 9, none⟩))) 117 17 (by kernel_rfl) (by kernel_rfl) (by kernel_rfl)) (hk0) (hbl) (agg_noT), ?_⟩
  refine ⟨isVal (.int .i64 p), step_call 40 #[.tmp 107, .tmp 113, .tmp 118] #[25, 3, 9] #[.agg #[.int .i64 A.cap, .slice (some ⟨bs, os, none⟩) n cs, vi], .int .i64 q, .string ⟨K.toArray⟩] (by kernel_rfl) (wanted_some 6 106 false (by kernel_rfl) (by kernel_rfl) (by kernel_rfl) (by kernel_rfl)) (stable_val _) (args3 (.tmp 107) (.tmp 113) (.tmp 118) (.agg #[.int .i64 A.cap, .slice (some ⟨bs, os, none⟩) n cs, vi]) (.int .i64 q) (.string ⟨K.toArray⟩) (knows_new (V := isVal (.agg #[.int .i64 A.cap, .slice (some ⟨bs, os, none⟩) n cs, vi])) 107 7 (by kernel_rfl) (by kernel_rfl) (by kernel_rfl)) (knows_new (V := isVal (.int .i64 q)) 113 13 (by kernel_rfl) (by kernel_rfl) (by kernel_rfl)) (knows_new (V := isVal (.string ⟨K.toArray⟩)) 118 18 (by kernel_rfl) (by kernel_rfl) (by kernel_rfl))) (enters_of Tryz.func40 (by kernel_rfl) rfl) (by intro w' hb; exact call_v1 (ga_findk A q K p _ w' (stable_ar _ _ _ _ XA hb) hF hp)), ?_⟩
  refine ⟨isVal (.bool false), step_bin .lss 3 3 (.tmp 119) (.const (.int .i64 0)) (.int .i64 p) (.int .i64 0) (.bool false) (by kernel_rfl) (wanted_some 6 106 false (by kernel_rfl) (by kernel_rfl) (by kernel_rfl) (by kernel_rfl)) (knows_new (V := isVal (.int .i64 p)) 119 19 (by kernel_rfl) (by kernel_rfl) (by kernel_rfl)) (knows_const _) (fun _ => rfl) (by intro w; simp [go_sem]; omega), ?_⟩
  refine ⟨isVal (.bool false), step_pick (.tmp 106) (.const (.bool true)) (.tmp 120) false (by kernel_rfl) (wanted_none (by kernel_rfl)) (stable_val _) (knows_new (V := isVal (.bool false)) 106 6 (by kernel_rfl) (by kernel_rfl) (by kernel_rfl)) (knows_new (V := isVal (.bool false)) 120 20 (by kernel_rfl) (by kernel_rfl) (by kernel_rfl)), ?_⟩
  intro a w hkp hb hd
  rw [kept_of hkp [some 100, some 101, some 102, some 103, some 104, some 105, some 106, some 107, some 108, some 109, some 110, some 111, some 112, some 113, some 114, some 115, some 116, some 117, some 118, some 119, some 120, some 121] [100, 101, 102, 103, 104, 105, 106, 107, 108, 109, 110, 111, 112, 113, 114, 115, 116, 117, 118, 119, 120, 121] (by kernel_rfl) (by decide)]
  have d121 := fdone_of (hd 21 (by rw [show dsrOps.size = 22 by kernel_rfl]; decide)) (t := 121) (V := isVal (.bool false)) (by kernel_rfl) (by kernel_rfl)
  exact hQ (fun s => a.tmps.getD s undef) w d121 hb
set_option maxRecDepth 100000 in
set_option maxHeartbeats 4000000 in
theorem deltaScans_walk (F0 : Ar) (v0 : Value) (w0 : CameA F0) (w : World) (fl0 : isAr F0 v0 w) :
    Calls Tryz.prog 9 #[v0] w fun e w' => e = .returned (.bool true) ∧ Below w.heap.size w w' := by
  obtain ⟨pa, ma, rfl, hpa, hma⟩ := fl0
  obtain ⟨hB, Va⟩ := abox w F0 pa ma hpa hma (w.heap.size) (by simp)
  clear hpa hma
  go_enter Tryz.func9, Tryz.ntmps9
  go_wp2_with fail
  generalize (w.alloc (.cells #[.int .i64 F0.cap, pa, ma] 25)) = W0 at *
  ((with_reducible refine (dworks_any _).mono ?_); rintro e W1 ⟨rfl, hb1⟩)
  replace hB := Kept.mk (hB.out.trans ((hb1).mono hB.out.size))
  replace Va := Kept.mk (Va.out.keep (hb1))
  clear hb1
  obtain ⟨qa, ra, xa, sa, ia, ka0, ka1, ka2⟩ := Va.out.open_
  have Xa := Kept.mk xa
  have Sa := Kept.mk sa
  have Ia := Kept.mk ia
  clear xa sa ia
  go_wp2_with fail
  ((with_reducible refine (afew_any F0 _ _ Xa.out (CameA.keys w0) w0.slots w0.index).mono ?_); rintro e W2 ⟨rfl, hb1⟩)
  clear Xa Sa Ia ka0 ka1 ka2
  replace hB := Kept.mk (hB.out.trans ((hb1).mono hB.out.size))
  replace Va := Kept.mk (Va.out.keep (hb1))
  clear hb1
  cases fa : fewA F0 with
  | false =>
    go_wp2
    all_goals go_ret
    all_goals exact ⟨rfl, hB.out⟩
  | true =>
    have FFa := Kept.mk (fewA_fit fa)
    have KFa := Kept.mk fa
    clear fa
    obtain ⟨L, hL⟩ : ∃ L, scanA F0 = L := ⟨_, rfl⟩
    have HL := Kept.mk hL
    clear hL
    obtain ⟨qa, ra, xa, sa, ia, ka0, ka1, ka2⟩ := Va.out.open_
    have Xa := Kept.mk xa
    have Sa := Kept.mk sa
    have Ia := Kept.mk ia
    clear xa sa ia
    go_wp2_with fail
    ((with_reducible refine (gd_scan F0 L _ _ Xa.out FFa.out HL.out).mono ?_); rintro e W3 ⟨vl, rfl, hvl, hb1⟩)
    clear Xa Sa Ia ka0 ka1 ka2
    replace hB := Kept.mk (hB.out.trans ((hb1).mono hB.out.size))
    replace Va := Kept.mk (Va.out.keep (hb1))
    clear hb1
    obtain ⟨lx, lc, el⟩ := hvl.len
    subst el
    have SL := Kept.mk hvl
    clear hvl
    have hln8 : L.length ≤ 1000 := by rw [← HL.out]; exact scan_len FFa.out
    obtain ⟨M, hM⟩ : ∃ M, L.length = M := ⟨_, rfl⟩
    rw [hM] at SL hln8 ⊢
    have HM := Kept.mk hM
    clear hM
    have hl12 := FFa.out.slots
    obtain ⟨N, hN⟩ : ∃ N, F0.slots.length = N := ⟨_, rfl⟩
    rw [hN] at hl12
    have HN := Kept.mk hN
    clear hN
    go_wp2_with fail
    go_loopw [6, 7, 8, 9, 10, 11, 12, 13, 14] (fun c i _ _ _ _ _ _ _ wr => ∃ q : Nat, q ≤ N ∧ i = .int .i64 (q : Int) ∧ c = .int .i64 ((((F0.slots.take q).filter (lvE F0)).length : Nat) : Int) ∧ Kept (Below w.heap.size w wr) ∧ Kept (VarA wr w.heap.size F0) ∧ Kept (isEns L (.slice lx M lc) wr)) (fun _ i _ _ _ _ _ _ _ _ => N - (intOf i).toNat)
    case atStart => exact ⟨0, Nat.zero_le _, rfl, rfl, hB, Va, SL⟩
    case round =>
      clear hB Va SL
      obtain ⟨q, hq, rfl, rfl, hB, Va, SL⟩ := hrel
      by_cases hlt : q < N
      · skip
        have hlt' : (q : Int) < (N : Int) := by omega
        obtain ⟨E, hE⟩ : ∃ E, F0.slots[q]? = some E := ⟨_, List.getElem?_eq_getElem (by rw [HN.out]; exact hlt)⟩
        have HE := Kept.mk hE
        obtain ⟨vs, vi, ca, sa, ia⟩ := Va.out
        obtain ⟨bs, os, cs, ea, hbs, hEa⟩ := sa.get hE
        rw [HN.out] at ea
        subst ea
        have CA := Kept.mk ca
        have XA := Kept.mk (show isAr F0 (.agg #[.int .i64 F0.cap, .slice (some ⟨bs, os, none⟩) N cs, vi]) wr from ⟨_, _, rfl, sa, ia⟩)
        obtain ⟨ep, em, x1, y1, ke0, ke1, ke2, ke3, ke4, ke5, ke6, ke7, ke8⟩ := hEa.open_
        have KE0 := Kept.mk ke0
        have KE1 := Kept.mk ke1
        clear x1 y1 hE sa ia hEa ke0 ke1 ke2 ke3 ke4 ke5 ke6 ke7 ke8
        obtain ⟨c, hc⟩ : ∃ c : Nat, ((F0.slots.take q).filter (lvE F0)).length = c := ⟨_, rfl⟩
        have hc8 : c ≤ 1000 := by rw [← hc]; exact Nat.le_trans (List.length_filter_le _ _) (by rw [List.length_take]; omega)
        have HC := Kept.mk hc
        rw [hc]
        clear hc
        have ka1 := CA.out.2 1 _ rfl
        go_wp2
        clear ka1
        obtain ⟨Tt, hTt⟩ : ∃ r : List UInt8, textT F0 E.key = r := ⟨_, rfl⟩
        obtain ⟨zt, hzt⟩ : ∃ r : Bool, textB F0 E.key = r := ⟨_, rfl⟩
        have HTt := Kept.mk hTt
        have HZt := Kept.mk hzt
        clear hTt hzt
        refine dst_region _ _ _ rfl w.heap.size q bs os cs N F0 vi E.key Tt zt CA.out XA.out FFa.out KE0.out hbs hlt HTt.out HZt.out rfl rfl ?_
        intro f0 X0 d8 d9 hb0
        simp only [List.foldl_cons, List.foldl_nil, d8, d9]
        generalize f0 34 = y34
        generalize f0 35 = y35
        generalize f0 36 = y36
        generalize f0 37 = y37
        generalize f0 38 = y38
        generalize f0 39 = y39
        generalize f0 40 = y40
        generalize f0 41 = y41
        generalize f0 33 = y33
        generalize f0 42 = y42
        generalize f0 43 = y43
        clear d8 d9
        simp only [List.setIfInBounds_toArray, List.set_cons_succ, List.set_cons_zero]
        replace hB := Kept.mk (hB.out.trans (hb0.mono hB.out.size))
        replace Va := Kept.mk (Va.out.keep hb0)
        replace SL := Kept.mk (stable_ens _ _ _ _ SL.out hb0)
        replace CA := Kept.mk (CA.out.keep hb0 CA.out.1)
        replace XA := Kept.mk (stable_ar _ _ _ _ XA.out hb0)
        replace KE0 := Kept.mk ((hb0.cell (p := ⟨bs, os + q * 9, none⟩) hbs).trans KE0.out)
        replace KE1 := Kept.mk ((hb0.cell (p := ⟨bs, os + q * 9 + 1, none⟩) hbs).trans KE1.out)
        replace hbs := Nat.lt_of_lt_of_le hbs hb0.size
        clear hb0
        go_wp2_with fail
        obtain ⟨Ts, hTs⟩ : ∃ r : Int, sumT F0 E.key = r := ⟨_, rfl⟩
        obtain ⟨zs, hzs⟩ : ∃ r : Bool, heldB F0 2 E.key = r := ⟨_, rfl⟩
        have HTs := Kept.mk hTs
        have HZs := Kept.mk hzs
        clear hTs hzs
        refine dss_region _ _ _ rfl w.heap.size q bs os cs N F0 vi E.key Ts zs CA.out XA.out FFa.out KE0.out hbs hlt HTs.out HZs.out rfl rfl ?_
        intro f1 X1 d10 d11 hb1
        simp only [List.foldl_cons, List.foldl_nil, d10, d11]
        generalize f1 45 = y45
        generalize f1 46 = y46
        generalize f1 47 = y47
        generalize f1 48 = y48
        generalize f1 49 = y49
        generalize f1 50 = y50
        generalize f1 51 = y51
        generalize f1 52 = y52
        generalize f1 44 = y44
        generalize f1 53 = y53
        generalize f1 54 = y54
        clear d10 d11
        simp only [List.setIfInBounds_toArray, List.set_cons_succ, List.set_cons_zero]
        replace hB := Kept.mk (hB.out.trans (hb1.mono hB.out.size))
        replace Va := Kept.mk (Va.out.keep hb1)
        replace SL := Kept.mk (stable_ens _ _ _ _ SL.out hb1)
        replace CA := Kept.mk (CA.out.keep hb1 CA.out.1)
        replace XA := Kept.mk (stable_ar _ _ _ _ XA.out hb1)
        replace KE0 := Kept.mk ((hb1.cell (p := ⟨bs, os + q * 9, none⟩) hbs).trans KE0.out)
        replace KE1 := Kept.mk ((hb1.cell (p := ⟨bs, os + q * 9 + 1, none⟩) hbs).trans KE1.out)
        replace hbs := Nat.lt_of_lt_of_le hbs hb1.size
        clear hb1
        go_wp2_with fail
        obtain ⟨Tf, hTf⟩ : ∃ r : UInt64, flagT F0 E.key = r := ⟨_, rfl⟩
        obtain ⟨zf, hzf⟩ : ∃ r : Bool, heldB F0 3 E.key = r := ⟨_, rfl⟩
        have HTf := Kept.mk hTf
        have HZf := Kept.mk hzf
        clear hTf hzf
        refine dsf_region _ _ _ rfl w.heap.size q bs os cs N F0 vi E.key Tf zf CA.out XA.out FFa.out KE0.out hbs hlt HTf.out HZf.out rfl rfl ?_
        intro f2 X2 d12 d13 hb2
        simp only [List.foldl_cons, List.foldl_nil, d12, d13]
        generalize f2 56 = y56
        generalize f2 57 = y57
        generalize f2 58 = y58
        generalize f2 59 = y59
        generalize f2 60 = y60
        generalize f2 61 = y61
        generalize f2 62 = y62
        generalize f2 63 = y63
        generalize f2 55 = y55
        generalize f2 64 = y64
        generalize f2 65 = y65
        clear d12 d13
        simp only [List.setIfInBounds_toArray, List.set_cons_succ, List.set_cons_zero]
        replace hB := Kept.mk (hB.out.trans (hb2.mono hB.out.size))
        replace Va := Kept.mk (Va.out.keep hb2)
        replace SL := Kept.mk (stable_ens _ _ _ _ SL.out hb2)
        replace CA := Kept.mk (CA.out.keep hb2 CA.out.1)
        replace XA := Kept.mk (stable_ar _ _ _ _ XA.out hb2)
        replace KE0 := Kept.mk ((hb2.cell (p := ⟨bs, os + q * 9, none⟩) hbs).trans KE0.out)
        replace KE1 := Kept.mk ((hb2.cell (p := ⟨bs, os + q * 9 + 1, none⟩) hbs).trans KE1.out)
        replace hbs := Nat.lt_of_lt_of_le hbs hb2.size
        clear hb2
        skip
        have ka1 := CA.out.2 1 _ rfl
        have ke1 : X2.cell? ⟨bs, os + q * 9 + 1, none⟩ = _ := KE1.out
        obtain ⟨kd, hkd⟩ : ∃ kd, E.val.kind = kd := ⟨_, rfl⟩
        rw [hkd] at ke1
        have HKD := Kept.mk hkd
        have hlv : lvE F0 E = ((kd == 1 && zt) || (kd == 2 && zs) || (kd == 3 && zf)) := by rw [← HZt.out, ← HZs.out, ← HZf.out, ← hkd]; rfl
        clear hkd
        obtain ⟨lv, hlw⟩ : ∃ lv, lvE F0 E = lv := ⟨_, rfl⟩
        have HST := Kept.mk (show ((F0.slots.take (q + 1)).filter (lvE F0)).length = c + (if lv = true then 1 else 0) by rw [← hlw]; exact take_count HE.out HC.out)
        rw [hlw] at hlv
        clear hlw HE HC
        by_cases k1 : kd = 1
        · subst k1
          cases zt
          · have HLV := Kept.mk (show lv = false by rw [hlv]; simp)
            clear hlv
            go_wp2
            go_roundw
            case rel => exact ⟨q + 1, by omega, by go_num, by rw [HST.out, HLV.out]; go_num, hB, Va, SL⟩
            case measure => simp [intOf]; omega
          · have HLV := Kept.mk (show lv = true by rw [hlv]; simp)
            clear hlv
            go_wp2
            go_roundw
            case rel => exact ⟨q + 1, by omega, by go_num, by rw [HST.out, HLV.out]; go_num, hB, Va, SL⟩
            case measure => simp [intOf]; omega
        by_cases k2 : kd = 2
        · subst k2
          cases zs
          · have HLV := Kept.mk (show lv = false by rw [hlv]; simp)
            clear hlv
            go_wp2
            go_roundw
            case rel => exact ⟨q + 1, by omega, by go_num, by rw [HST.out, HLV.out]; go_num, hB, Va, SL⟩
            case measure => simp [intOf]; omega
          · have HLV := Kept.mk (show lv = true by rw [hlv]; simp)
            clear hlv
            go_wp2
            go_roundw
            case rel => exact ⟨q + 1, by omega, by go_num, by rw [HST.out, HLV.out]; go_num, hB, Va, SL⟩
            case measure => simp [intOf]; omega
        by_cases k3 : kd = 3
        · subst k3
          cases zf
          · have HLV := Kept.mk (show lv = false by rw [hlv]; simp)
            clear hlv
            go_wp2
            go_roundw
            case rel => exact ⟨q + 1, by omega, by go_num, by rw [HST.out, HLV.out]; go_num, hB, Va, SL⟩
            case measure => simp [intOf]; omega
          · have HLV := Kept.mk (show lv = true by rw [hlv]; simp)
            clear hlv
            go_wp2
            go_roundw
            case rel => exact ⟨q + 1, by omega, by go_num, by rw [HST.out, HLV.out]; go_num, hB, Va, SL⟩
            case measure => simp [intOf]; omega
        have n1 : (kd == 1) = false := beq_eq_false_iff_ne.2 k1
        have n2 : (kd == 2) = false := beq_eq_false_iff_ne.2 k2
        have n3 : (kd == 3) = false := beq_eq_false_iff_ne.2 k3
        have HLV := Kept.mk (show lv = false by rw [hlv, n1, n2, n3]; rfl)
        clear hlv
        go_wp2
        go_roundw
        case rel => exact ⟨q + 1, by omega, by go_num, by rw [HST.out, HLV.out]; go_num, hB, Va, SL⟩
        case measure => simp [intOf]; omega
      · skip
        obtain rfl : q = N := by omega
        have hlt' : ¬ (q : Int) < (q : Int) := by omega
        have HEND := Kept.mk (show ((F0.slots.take q).filter (lvE F0)).length = M by rw [List.take_of_length_le (by rw [HN.out]; exact Nat.le_refl _), ← HM.out, ← HL.out]; exact scan_count F0)
        rw [HEND.out]
        obtain ⟨vs, vi, ca, sa, ia⟩ := Va.out
        obtain ⟨sx, sc, es⟩ := sa.len
        rw [HN.out] at es
        subst es
        have ka1 := ca.2 1 _ rfl
        clear ca sa ia
        go_wp2_with fail
        clear ka1 HEND
        rename World => w4
        have hB4 := hB
        have Va4 := Va
        have SL4 := SL
        clear hB Va SL
        go_loopw [15] (fun i wr => ∃ j : Nat, j ≤ M ∧ i = .int .i64 (j : Int) ∧ Kept (Below w4.heap.size w4 wr)) (fun i _ => M - (intOf i).toNat)
        case atStart => exact ⟨0, Nat.zero_le _, rfl, ⟨Below.refl _ _⟩⟩
        case round =>
          obtain ⟨j, hj, rfl, BZ⟩ := hrel
          have hB := Kept.mk (hB4.out.trans (BZ.out.mono hB4.out.size))
          by_cases hlt : j < M
          · skip
            have hlt' : (j : Int) < (M : Int) := by omega
            obtain ⟨X, hX⟩ : ∃ X, L[j]? = some X := ⟨_, List.getElem?_eq_getElem (by rw [HM.out]; exact hlt)⟩
            obtain ⟨hXd, p, hp, hp0⟩ := scan_in (A := F0) (X := X) (by rw [HL.out]; exact List.mem_of_getElem? hX)
            have Va := Kept.mk (Va4.out.keep BZ.out)
            have SL := Kept.mk (stable_ens _ _ _ _ SL4.out BZ.out)
            obtain ⟨vs, vi, ca, sa, ia⟩ := Va.out
            obtain ⟨bl, ol, cl, eb, hbl, hEb⟩ := SL.out.get hX
            rw [HM.out] at eb
            injection eb with eb1 eb2 eb3
            subst eb1 eb3
            clear eb2
            obtain ⟨ep, em, x1, y1, ke0, ke1, ke2, ke3, ke4, ke5, ke6, ke7, ke8⟩ := hEb.open_
            have KE0 := Kept.mk ke0
            have KE1 := Kept.mk ke1
            have KE4 : Kept (wr.cell? ⟨bl, ol + j * 9 + 1 + 3, none⟩ = some (.bool false)) := ⟨by rw [← hXd, show ol + j * 9 + 1 + 3 = ol + j * 9 + 4 by omega]; exact ke4⟩
            clear x1 y1 hX hEb hXd ke0 ke1 ke2 ke3 ke4 ke5 ke6 ke7 ke8
            have CA := Kept.mk ca
            have XA := Kept.mk (show isAr F0 (.agg #[.int .i64 F0.cap, vs, vi]) wr from ⟨_, _, rfl, sa, ia⟩)
            obtain ⟨sx2, sc2, es2⟩ := sa.len
            rw [HN.out] at es2
            subst es2
            have hq0 : 0 < q ∨ True := .inr trivial
            clear ca hq0
            rcases sa.cases_ with ⟨_, _, _, hnil⟩ | ⟨bs, os, cs, eq1, hbs, _⟩
            · exact absurd hp (by have h1 := scan_in_slots (A := F0) (p := p) (x := nameE X.val.kind X.key) hp hp0; rw [hnil] at h1; simp at h1)
            rw [HN.out] at eq1
            injection eq1 with q1 q2 q3
            subst q1 q3
            clear q2 sa ia
            go_wp2
            refine dsr_region _ _ _ rfl w.heap.size j bs os sc2 q bl ol lc M F0 vi X.key X.val.kind p CA.out XA.out FFa.out KE4.out KE1.out KE0.out hbl hlt hp hp0 rfl rfl rfl ?_
            intro f9 W9 d121 hb9
            simp only [List.foldl_cons, List.foldl_nil, d121]
            generalize f9 100 = y100
            generalize f9 101 = y101
            generalize f9 102 = y102
            generalize f9 103 = y103
            generalize f9 104 = y104
            generalize f9 105 = y105
            generalize f9 106 = y106
            generalize f9 107 = y107
            generalize f9 108 = y108
            generalize f9 109 = y109
            generalize f9 110 = y110
            generalize f9 111 = y111
            generalize f9 112 = y112
            generalize f9 113 = y113
            generalize f9 114 = y114
            generalize f9 115 = y115
            generalize f9 116 = y116
            generalize f9 117 = y117
            generalize f9 118 = y118
            generalize f9 119 = y119
            generalize f9 120 = y120
            clear d121
            simp only [List.setIfInBounds_toArray, List.set_cons_succ, List.set_cons_zero]
            replace BZ := Kept.mk (BZ.out.trans (hb9.mono BZ.out.size))
            clear hb9 KE0 KE1 KE4 CA XA Va SL hB hp hp0 hbs hbl
            go_wp2
            go_roundw
            case rel => exact ⟨j + 1, by omega, by go_num, BZ⟩
            case measure => simp [intOf]; omega
          · skip
            obtain rfl : j = M := by omega
            have hlt' : ¬ (j : Int) < (j : Int) := by omega
            go_wp2
            go_ret
            exact ⟨rfl, hB.out⟩
set_option maxRecDepth 100000 in
theorem deltaScans_lifted (os : Os) (started : os.Started) (H : Type) (enc : TypeId × Value → H) :
    ReturnsInHanded {} Tryz.checked os 9 .any (Rows.deltaScansSpec.pre6 enc Tryz.prog Tryz.f9 Rows.deltaScansRow.domain false) (Rows.deltaScansSpec.post enc Tryz.prog Tryz.f9 false true false false) := by
  refine returnsInHanded_of_change (C := Tryz.checked) (by kernel_rfl : ownKnob Tryz.prog.godebug = none) started (by kernel_rfl) Tryz.func9
    (ChangeSpec.witness6 (enc := enc) (C := Tryz.checked) false ⟨#[], #[.agg #[.int .i64 0, .slice none 0 0, .slice none 0 0]], []⟩ 8 (by kernel_rfl) (by kernel_rfl) (by kernel_rfl) (by kernel_rfl)) ?_
  intro W base args ds gs before hval0 hW hcnd _
  have hval : ∀ (j : Nat) t v, Tryz.f9.params[j]? = some t → args[j]? = some v → Value.okWide Tryz.prog W .any base t v := hval0
  have hW' := hW
  obtain ⟨p, q, hA0, hV, rfl, hfz, hnd⟩ := hW
  have hA : DataW.TrodAll enc Tryz.prog W 0 (fun _ => true) true Tryz.f9.params.toList args.toList ds p := hA0
  rw [Tryz.params9] at hA hval
  obtain ⟨v0, vs0, d0, ds0, p0, q0, hargs, rfl, rfl, h0, r0⟩ := trodAll_cons hA
  obtain ⟨rfl, rfl, rfl⟩ := trodAll_nil r0
  obtain rfl : args = #[v0] := by cases args; simp_all
  obtain ⟨rfl, rfl⟩ := trodVars_none hV
  obtain ⟨F0, fl0, w0⟩ := open_ar (hval 0 25 v0 rfl rfl) h0
  have lt0 : ∀ x ∈ p0, x.block < W.heap.size := fun x hx => by obtain ⟨fuel, hf⟩ := h0; exact DataW.trod_lt fuel _ _ _ hf x hx
  clear hA0 hval0
  simp only [List.append_nil] at hW'
  refine (deltaScans_walk F0 v0 w0 W fl0).mono fun e W' ⟨he, bel⟩ => ?_
  subst he
  exact ⟨_, rfl, _, _, _, [], _, [], hW', trodAll_mk1 (shut_bool Tryz.underlying4 _), (trodAll_cons_mk (Below.trod (by kernel_rfl) (by kernel_rfl) (of_decide_eq_true (by kernel_rfl)) h0 bel lt0) trodAll_mk0), rfl, bel.frame _, fun h => by cases h⟩
/-- THE STATEMENT. -/
theorem deltaScans_proved : Rows.DeltaScansSaid :=
  OpenClaim.holds_of_wide 9 Tryz.f9 rfl rfl rfl rfl rfl rfl rfl ⟨rfl, rfl, rfl, rfl, rfl⟩ rfl rfl rfl rfl rfl (by kernel_rfl) Tryz.func9 (by kernel_rfl)
    (of_decide_eq_true (by kernel_rfl)) (by unfold Func.isWrapper; first | (rw [if_pos (by decide +kernel)]; kernel_rfl) | (rw [if_neg (by decide +kernel)]; exact ⟨rfl, rfl⟩))
    (fun os started H enc _ => deltaScans_lifted os started H enc)
#print axioms deltaScans_proved
end Go.Proofs.YtbgconagkgfplaaGreat
