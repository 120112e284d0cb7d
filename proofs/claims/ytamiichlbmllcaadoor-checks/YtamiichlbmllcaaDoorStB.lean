import Derived.Test.YtamiichlbmllcaaDoorRws
import Derived.Deep.RegionLaw
import Derived.Deep.QuietTactic
import Derived.BigQuiet
import Derived.Deep.RegionHeld3
/-
  Ranges and states: contracts of the leaves of package ranges.
-/
namespace Go.Proofs.YtamiichlbmllcaaDoor
open Go.RowKit
structure R2 where
  lo : Int
  hi : Int
def R2.val (r : R2) : Value := .agg #[.int .i64 r.lo, .int .i64 r.hi]
def allR : R2 := ⟨-9223372036854775808, 9223372036854775807⟩
def comR (r o : R2) : R2 := ⟨max r.lo o.lo, min r.hi o.hi⟩
def inRg (r o : R2) : Bool := decide (o.lo ≤ r.lo) && decide (r.hi ≤ o.hi)
theorem belA1 (w : World) (o : Obj) : Below w.heap.size w (w.alloc o) := (Below.refl _ _).alloc (Nat.le_refl _) o
set_option maxHeartbeats 400000 in
theorem isEmpty_any (r : R2) (w : World) :
    Calls Tryd.prog 48 #[r.val] w fun e w' => e = .returned (.bool (decide (r.hi < r.lo))) ∧ Below w.heap.size w w' := by
  unfold R2.val
  go_enter Tryd.func48, Tryd.ntmps48
  go_wp2
  go_ret
  exact ⟨rfl, belA1 _ _⟩
set_option maxHeartbeats 400000 in
theorem has_any (r : R2) (n : Int) (w : World) :
    Calls Tryd.prog 82 #[r.val, .int .i64 n] w fun e w' => e = .returned (.bool (decide (r.lo ≤ n ∧ n ≤ r.hi))) ∧ Below w.heap.size w w' := by
  unfold R2.val
  by_cases h0 : r.lo ≤ n <;> by_cases h1 : n ≤ r.hi
  all_goals
    go_enter Tryd.func82, Tryd.ntmps82
    go_wp2
    go_ret
    exact ⟨by simp [h0, h1], belA1 _ _⟩
theorem ret_r2 {a b c d : Int} (h : a = c) (k : b = d) : (Value.agg #[.int .i64 a, .int .i64 b]) = .agg #[.int .i64 c, .int .i64 d] := by rw [h, k]
set_option maxHeartbeats 1000000 in
theorem common_any (r o : R2) (w : World) :
    Calls Tryd.prog 86 #[r.val, o.val] w fun e w' => e = .returned (comR r o).val ∧ Below w.heap.size w w' := by
  unfold R2.val
  obtain ⟨r0, r1⟩ := r
  obtain ⟨o0, o1⟩ := o
  simp only
  go_enter Tryd.func86, Tryd.ntmps86
  go_wp2
  all_goals exact bodyPost_ret (v := (comR ⟨r0, r1⟩ ⟨o0, o1⟩).val) (by simp [results, Tryd.results86, go_sem, comR, R2.val]; omega) rfl ⟨rfl, ((belA1 _ _).alloc (by simp) _).alloc (by simp; omega) _⟩
theorem comR_eq (r o : R2) : ((comR r o).lo == r.lo && (comR r o).hi == r.hi) = inRg r o := by
  unfold comR inRg
  simp only
  by_cases h1 : o.lo ≤ r.lo <;> by_cases h2 : r.hi ≤ o.hi <;> simp [h1, h2] <;> omega
set_option maxHeartbeats 1000000 in
theorem liesIn_any (r o : R2) (w : World) :
    Calls Tryd.prog 85 #[r.val, o.val] w fun e w' => e = .returned (.bool (inRg r o)) ∧ Below w.heap.size w w' := by
  have HE := hide (comR_eq r o)
  have HC : Hid (∀ wx, Calls Tryd.prog 86 #[.agg #[.int .i64 r.lo, .int .i64 r.hi], .agg #[.int .i64 o.lo, .int .i64 o.hi]] wx fun e w' => e = .returned (.agg #[.int .i64 (comR r o).lo, .int .i64 (comR r o).hi]) ∧ Below wx.heap.size wx w') := hide (fun wx => common_any r o wx)
  generalize hB : inRg r o = B at HE
  generalize comR r o = C at HE HC
  unfold R2.val
  clear hB
  have HB0 := hide (((belA1 w (.cells #[.int .i64 r.lo, .int .i64 r.hi] 36)).alloc (by simp) (.cells #[.int .i64 o.lo, .int .i64 o.hi] 36)).drew)
  have HX : Hid (∀ w2, Below ((w.alloc (.cells #[.int .i64 r.lo, .int .i64 r.hi] 36)).alloc (.cells #[.int .i64 o.lo, .int .i64 o.hi] 36)).drew.heap.size ((w.alloc (.cells #[.int .i64 r.lo, .int .i64 r.hi] 36)).alloc (.cells #[.int .i64 o.lo, .int .i64 o.hi] 36)).drew w2 → w2.cell? ⟨w.heap.size, 0, none⟩ = some (.int .i64 r.lo) ∧ w2.cell? ⟨w.heap.size, 1, none⟩ = some (.int .i64 r.hi) ∧ w2.cell? ⟨w.heap.size + 1, 0, none⟩ = some (.int .i64 o.lo) ∧ w2.cell? ⟨w.heap.size + 1, 1, none⟩ = some (.int .i64 o.hi)) := hide (fun w2 hb => by
    rw [hb.cell (p := ⟨w.heap.size, 0, none⟩) (by simp; omega), hb.cell (p := ⟨w.heap.size, 1, none⟩) (by simp; omega), hb.cell (p := ⟨w.heap.size + 1, 0, none⟩) (by simp), hb.cell (p := ⟨w.heap.size + 1, 1, none⟩) (by simp)]
    simp [go_sem])
  cases h1 : (C.lo == r.lo) <;> cases h2 : (C.hi == r.hi)
  all_goals
    rw [h1, h2] at HE
    go_enter Tryd.func85, Tryd.ntmps85
    go_wp2_with fail
    go_region_held3 (fun w' => w'.cell? ⟨w.heap.size, 0, none⟩ = some (.int .i64 r.lo) ∧ w'.cell? ⟨w.heap.size, 1, none⟩ = some (.int .i64 r.hi) ∧ w'.cell? ⟨w.heap.size + 1, 0, none⟩ = some (.int .i64 o.lo) ∧ w'.cell? ⟨w.heap.size + 1, 1, none⟩ = some (.int .i64 o.hi)) (go_keep) (first
      | (go_at_call 86; refine (HC.out _).mono ?_; rintro e w2 ⟨rfl, hb2⟩; obtain ⟨z0, z1, z2, z3⟩ := HX.out w2 hb2; have HB2 := hide (HB0.out.trans (hb2.mono HB0.out.size)); clear hb2))
    go_wp2
    go_ret
    exact ⟨ret_bool HE.out, HB2.out⟩
end Go.Proofs.YtamiichlbmllcaaDoor
/-
  States: contracts of ranges.IsState, stateLiesIn, With, (ranges.Place).LiesIn.
-/
namespace Go.Proofs.YtamiichlbmllcaaDoor
open Go.RowKit
def stC (s : Nat → R2) : Array Value := #[.int .i64 (s 0).lo, .int .i64 (s 0).hi, .int .i64 (s 1).lo, .int .i64 (s 1).hi, .int .i64 (s 2).lo, .int .i64 (s 2).hi, .int .i64 (s 3).lo, .int .i64 (s 3).hi, .int .i64 (s 4).lo, .int .i64 (s 4).hi, .int .i64 (s 5).lo, .int .i64 (s 5).hi, .int .i64 (s 6).lo, .int .i64 (s 6).hi, .int .i64 (s 7).lo, .int .i64 (s 7).hi]
theorem idx_st (s : Nat → R2) (n : Nat) (hn : n < 8) (w : World) : (Instr.index 38 (.agg (stC s)) (.int .i64 n)).run Tryd.prog w = .ok (.agg #[.int .i64 (s n).lo, .int .i64 (s n).hi]) w := by
  match n, hn with
  | 0, _ => exact (show (Instr.index 38 (.agg (stC s)) (.int .i64 0)).run Tryd.prog w = .ok (.agg #[.int .i64 (s 0).lo, .int .i64 (s 0).hi]) w by kernel_rfl)
  | 1, _ => exact (show (Instr.index 38 (.agg (stC s)) (.int .i64 1)).run Tryd.prog w = .ok (.agg #[.int .i64 (s 1).lo, .int .i64 (s 1).hi]) w by kernel_rfl)
  | 2, _ => exact (show (Instr.index 38 (.agg (stC s)) (.int .i64 2)).run Tryd.prog w = .ok (.agg #[.int .i64 (s 2).lo, .int .i64 (s 2).hi]) w by kernel_rfl)
  | 3, _ => exact (show (Instr.index 38 (.agg (stC s)) (.int .i64 3)).run Tryd.prog w = .ok (.agg #[.int .i64 (s 3).lo, .int .i64 (s 3).hi]) w by kernel_rfl)
  | 4, _ => exact (show (Instr.index 38 (.agg (stC s)) (.int .i64 4)).run Tryd.prog w = .ok (.agg #[.int .i64 (s 4).lo, .int .i64 (s 4).hi]) w by kernel_rfl)
  | 5, _ => exact (show (Instr.index 38 (.agg (stC s)) (.int .i64 5)).run Tryd.prog w = .ok (.agg #[.int .i64 (s 5).lo, .int .i64 (s 5).hi]) w by kernel_rfl)
  | 6, _ => exact (show (Instr.index 38 (.agg (stC s)) (.int .i64 6)).run Tryd.prog w = .ok (.agg #[.int .i64 (s 6).lo, .int .i64 (s 6).hi]) w by kernel_rfl)
  | 7, _ => exact (show (Instr.index 38 (.agg (stC s)) (.int .i64 7)).run Tryd.prog w = .ok (.agg #[.int .i64 (s 7).lo, .int .i64 (s 7).hi]) w by kernel_rfl)
  | n + 8, h => omega
def isStR (s : Nat → R2) : Bool := (List.range 8).all fun i => decide ((s i).lo ≤ (s i).hi)
theorem isStR_yes {s : Nat → R2} (h : ∀ i, i < 8 → (s i).lo ≤ (s i).hi) : isStR s = true := by
  unfold isStR; rw [List.all_eq_true]; intro i hi; simpa using h i (List.mem_range.1 hi)
theorem isStR_no {s : Nat → R2} {n : Nat} (hn : n < 8) (h : (s n).hi < (s n).lo) : isStR s = false := by
  unfold isStR; rw [List.all_eq_false]; exact ⟨n, List.mem_range.2 hn, by simpa using h⟩
theorem isStR_at {s : Nat → R2} (h : isStR s = true) (i : Nat) (hi : i < 8) : (s i).lo ≤ (s i).hi := by
  unfold isStR at h; rw [List.all_eq_true] at h; simpa using h i (List.mem_range.2 hi)
set_option maxHeartbeats 1000000 in
set_option maxRecDepth 100000 in
theorem isState_any (s : Nat → R2) (w : World) : Calls Tryd.prog 36 #[.agg (stC s)] w fun e w' => e = .returned (.bool (isStR s)) ∧ Below w.heap.size w w' := by
  have HI := hide (idx_st s)
  have HST : Hid (stC s = #[.int .i64 (s 0).lo, .int .i64 (s 0).hi, .int .i64 (s 1).lo, .int .i64 (s 1).hi, .int .i64 (s 2).lo, .int .i64 (s 2).hi, .int .i64 (s 3).lo, .int .i64 (s 3).hi, .int .i64 (s 4).lo, .int .i64 (s 4).hi, .int .i64 (s 5).lo, .int .i64 (s 5).hi, .int .i64 (s 6).lo, .int .i64 (s 6).hi, .int .i64 (s 7).lo, .int .i64 (s 7).hi]) := hide rfl
  rw [HST.out]
  go_enter Tryd.func36, Tryd.ntmps36
  go_wp2_with fail
  rw [← HST.out]
  have hb0 := belA1 w (.cells (stC s) 38)
  generalize w.alloc (.cells (stC s) 38) = w1 at *
  have hz1 := hb0.size
  go_loopw [6] (fun j wr => ∃ n : Nat, n ≤ 8 ∧ j = .int .i64 n ∧ (∀ i, i < n → (s i).lo ≤ (s i).hi) ∧ Below w.heap.size w wr) (fun j _ => 8 - (intOf j).toNat)
  case atStart => exact ⟨0, by omega, rfl, fun i hi => by omega, hb0⟩
  case round =>
    clear hb0
    obtain ⟨n, hn, rfl, hall, hbl⟩ := hrel
    have HA := hide hall
    have hzr := hbl.size
    clear hall
    by_cases hlt : n < 8
    · have hx := HI.out n hlt
      by_cases he : (s n).hi < (s n).lo
      · have HE : Hid (isStR s = false) := hide (isStR_no hlt he)
        have hd : decide ((s n).hi < (s n).lo) = true := by simpa using he
        clear he
        go_wp2_with (go_at_call 48; refine (isEmpty_any (s n) _).mono ?_; rintro e w2 ⟨rfl, hb2⟩; rw [hd]; have HB := hide ((hbl.alloc hzr _).trans (hb2.mono (by simp; omega))); clear hb2)
        go_ret
        exact ⟨ret_bool HE.out.symm, HB.out⟩
      · have hle : (s n).lo ≤ (s n).hi := by omega
        have hd : decide ((s n).hi < (s n).lo) = false := by simpa using hle
        have HLE := hide hle
        clear he hle
        go_wp2_with (go_at_call 48; refine (isEmpty_any (s n) _).mono ?_; rintro e w2 ⟨rfl, hb2⟩; rw [hd]; have HB := hide ((hbl.alloc hzr _).trans (hb2.mono (by simp; omega))); clear hb2)
        go_roundw
        case rel => exact ⟨n + 1, by omega, by go_num, fun i hi => by rcases Nat.lt_succ_iff_lt_or_eq.1 hi with h | h; exact HA.out i h; subst h; exact HLE.out, HB.out⟩
        case measure => simp [intOf]; omega
    · have HE : Hid (isStR s = true) := hide (isStR_yes fun i hi => HA.out i (by omega))
      go_wp2
      go_ret
      exact ⟨ret_bool HE.out.symm, hbl⟩
end Go.Proofs.YtamiichlbmllcaaDoor
/-
  States: contracts of ranges.stateLiesIn and With.
-/
namespace Go.Proofs.YtamiichlbmllcaaDoor
open Go.RowKit
theorem stC_get (s : Nat → R2) (n : Nat) (hn : n < 8) : (stC s)[n * 2]? = some (.int .i64 (s n).lo) ∧ (stC s)[n * 2 + 1]? = some (.int .i64 (s n).hi) := by
  match n, hn with
  | 0, _ => exact ⟨rfl, rfl⟩
  | 1, _ => exact ⟨rfl, rfl⟩
  | 2, _ => exact ⟨rfl, rfl⟩
  | 3, _ => exact ⟨rfl, rfl⟩
  | 4, _ => exact ⟨rfl, rfl⟩
  | 5, _ => exact ⟨rfl, rfl⟩
  | 6, _ => exact ⟨rfl, rfl⟩
  | 7, _ => exact ⟨rfl, rfl⟩
  | n + 8, h => omega
def liesR (s t : Nat → R2) : Bool := (List.range 8).all fun i => inRg (s i) (t i)
theorem liesR_yes {s t : Nat → R2} (h : ∀ i, i < 8 → inRg (s i) (t i) = true) : liesR s t = true := by
  unfold liesR; rw [List.all_eq_true]; intro i hi; exact h i (List.mem_range.1 hi)
theorem liesR_no {s t : Nat → R2} {n : Nat} (hn : n < 8) (h : inRg (s n) (t n) = false) : liesR s t = false := by
  unfold liesR; rw [List.all_eq_false]; exact ⟨n, List.mem_range.2 hn, by simp [h]⟩
set_option maxHeartbeats 2000000 in
set_option maxRecDepth 100000 in
theorem stateLies_any (s t : Nat → R2) (w : World) : Calls Tryd.prog 84 #[.agg (stC s), .agg (stC t)] w fun e w' => e = .returned (.bool (liesR s t)) ∧ Below w.heap.size w w' := by
  have HI := hide (idx_st s)
  have HST : Hid (stC s = #[.int .i64 (s 0).lo, .int .i64 (s 0).hi, .int .i64 (s 1).lo, .int .i64 (s 1).hi, .int .i64 (s 2).lo, .int .i64 (s 2).hi, .int .i64 (s 3).lo, .int .i64 (s 3).hi, .int .i64 (s 4).lo, .int .i64 (s 4).hi, .int .i64 (s 5).lo, .int .i64 (s 5).hi, .int .i64 (s 6).lo, .int .i64 (s 6).hi, .int .i64 (s 7).lo, .int .i64 (s 7).hi]) := hide rfl
  have HTT : Hid (stC t = #[.int .i64 (t 0).lo, .int .i64 (t 0).hi, .int .i64 (t 1).lo, .int .i64 (t 1).hi, .int .i64 (t 2).lo, .int .i64 (t 2).hi, .int .i64 (t 3).lo, .int .i64 (t 3).hi, .int .i64 (t 4).lo, .int .i64 (t 4).hi, .int .i64 (t 5).lo, .int .i64 (t 5).hi, .int .i64 (t 6).lo, .int .i64 (t 6).hi, .int .i64 (t 7).lo, .int .i64 (t 7).hi]) := hide rfl
  rw [HST.out, HTT.out]
  go_enter Tryd.func84, Tryd.ntmps84
  go_wp2_with fail
  rw [← HST.out, ← HTT.out]
  have hH : ((w.alloc (.cells (stC s) 38)).alloc (.cells (stC t) 38)).heap[w.heap.size + 1]? = some (.cells (stC t) 38 (0, 0)) := by
    have := heap_alloc_new (w.alloc (.cells (stC s) 38)) (.cells (stC t) 38)
    simpa using this
  have hb0 : Below w.heap.size w ((w.alloc (.cells (stC s) 38)).alloc (.cells (stC t) 38)) := (belA1 _ _).alloc (by simp) _
  generalize (w.alloc (.cells (stC s) 38)).alloc (.cells (stC t) 38) = w1 at *
  have hlt1 := lt_of_block hH
  have HH := hide hH
  have HB0 := hide hb0
  clear hH hb0
  go_loopw [8] (fun j wr => ∃ n : Nat, n ≤ 8 ∧ j = .int .i64 n ∧ (∀ i, i < n → inRg (s i) (t i) = true) ∧ Below w1.heap.size w1 wr) (fun j _ => 8 - (intOf j).toNat)
  case atStart => exact ⟨0, by omega, rfl, fun i hi => by omega, Below.refl _ _⟩
  case round =>
    obtain ⟨n, hn, rfl, hall, hbl⟩ := hrel
    have HA := hide hall
    have hzr := hbl.size
    clear hall
    by_cases hlt : n < 8
    · have hx := HI.out n hlt
      have c0 : wr.cell? ⟨w.heap.size + 1, n * 2, none⟩ = some (.int .i64 (t n).lo) := by rw [hbl.cell (p := ⟨w.heap.size + 1, _, none⟩) hlt1, cell_of_row _ _ _ _ _ _ HH.out]; exact (stC_get t n hlt).1
      have c1 : wr.cell? ⟨w.heap.size + 1, n * 2 + 1, none⟩ = some (.int .i64 (t n).hi) := by rw [hbl.cell (p := ⟨w.heap.size + 1, _, none⟩) hlt1, cell_of_row _ _ _ _ _ _ HH.out]; exact (stC_get t n hlt).2
      have hltr : w.heap.size + 1 < wr.heap.size := by omega
      have HBR := hide (HB0.out.trans (hbl.mono HB0.out.size))
      have HBL := hide hbl
      clear hbl
      have HL : Hid (∀ wx, Calls Tryd.prog 85 #[.agg #[.int .i64 (s n).lo, .int .i64 (s n).hi], .agg #[.int .i64 (t n).lo, .int .i64 (t n).hi]] wx fun e w' => e = .returned (.bool (inRg (s n) (t n))) ∧ Below wx.heap.size wx w') := hide (fun wx => liesIn_any (s n) (t n) wx)
      have HX : Hid (∀ w2, Below (wr.alloc (.cells #[.int .i64 (s n).lo, .int .i64 (s n).hi] 36)).drew.heap.size (wr.alloc (.cells #[.int .i64 (s n).lo, .int .i64 (s n).hi] 36)).drew w2 → w2.cell? ⟨wr.heap.size, 0, none⟩ = some (.int .i64 (s n).lo) ∧ w2.cell? ⟨wr.heap.size, 1, none⟩ = some (.int .i64 (s n).hi) ∧ w2.cell? ⟨w.heap.size + 1, n * 2, none⟩ = some (.int .i64 (t n).lo) ∧ w2.cell? ⟨w.heap.size + 1, n * 2 + 1, none⟩ = some (.int .i64 (t n).hi) ∧ Below w1.heap.size w1 w2) := hide (fun w2 hb => by
        have hb3 : Below wr.heap.size wr w2 := ((belA1 _ _).drew).trans (hb.mono (by simp))
        refine ⟨?_, ?_, ?_, ?_, HBL.out.trans (hb3.mono hzr)⟩
        · rw [hb.cell (p := ⟨wr.heap.size, 0, none⟩) (by simp)]; simp [go_sem]
        · rw [hb.cell (p := ⟨wr.heap.size, 1, none⟩) (by simp)]; simp [go_sem]
        · rw [hb3.cell (p := ⟨w.heap.size + 1, _, none⟩) hltr]; exact c0
        · rw [hb3.cell (p := ⟨w.heap.size + 1, _, none⟩) hltr]; exact c1)
      have hni : (0 : Int) ≤ (n : Int) := by omega
      have hnj : (n : Int) < 8 := by omega
      cases he : inRg (s n) (t n)
      · have HE : Hid (liesR s t = false) := hide (liesR_no hlt he)
        have HEE := hide he
        clear he
        go_wp2_with fail
        go_region_held3 (fun w' => w'.cell? ⟨wr.heap.size, 0, none⟩ = some (.int .i64 (s n).lo) ∧ w'.cell? ⟨wr.heap.size, 1, none⟩ = some (.int .i64 (s n).hi) ∧ w'.cell? ⟨w.heap.size + 1, n * 2, none⟩ = some (.int .i64 (t n).lo) ∧ w'.cell? ⟨w.heap.size + 1, n * 2 + 1, none⟩ = some (.int .i64 (t n).hi)) (go_keep) (first
          | (go_at_call 85; refine (HL.out _).mono ?_; rintro e w2 ⟨rfl, hb2⟩; rw [HEE.out]; obtain ⟨p0, p1, p2, p3, hb4⟩ := HX.out w2 hb2; have HB4 := hide hb4; clear hb2 hb4))
        go_wp2
        go_ret
        exact ⟨ret_bool HE.out.symm, HB0.out.trans (HB4.out.mono HB0.out.size)⟩
      · have HEE := hide he
        clear he
        go_wp2_with fail
        go_region_held3 (fun w' => w'.cell? ⟨wr.heap.size, 0, none⟩ = some (.int .i64 (s n).lo) ∧ w'.cell? ⟨wr.heap.size, 1, none⟩ = some (.int .i64 (s n).hi) ∧ w'.cell? ⟨w.heap.size + 1, n * 2, none⟩ = some (.int .i64 (t n).lo) ∧ w'.cell? ⟨w.heap.size + 1, n * 2 + 1, none⟩ = some (.int .i64 (t n).hi)) (go_keep) (first
          | (go_at_call 85; refine (HL.out _).mono ?_; rintro e w2 ⟨rfl, hb2⟩; rw [HEE.out]; obtain ⟨p0, p1, p2, p3, hb4⟩ := HX.out w2 hb2; have HB4 := hide hb4; clear hb2 hb4))
        go_wp2
        exact ⟨⟨n + 1, by omega, by go_num, fun i hi => by rcases Nat.lt_succ_iff_lt_or_eq.1 hi with h | h; exact HA.out i h; subst h; exact HEE.out, HB4.out⟩, by simp [intOf]; omega⟩
    · have HE : Hid (liesR s t = true) := hide (liesR_yes fun i hi => HA.out i (by omega))
      go_wp2
      go_ret
      exact ⟨ret_bool HE.out.symm, HB0.out.trans (hbl.mono HB0.out.size)⟩
end Go.Proofs.YtamiichlbmllcaaDoor
