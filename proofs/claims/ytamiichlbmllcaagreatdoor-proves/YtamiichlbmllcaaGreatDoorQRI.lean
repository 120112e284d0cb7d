import Derived.Test.YtamiichlbmllcaaGreatDoorQOrd
import Derived.Laws.MakeOwn
import Derived.Test.YtamiichlbmllcaaGreatDoorQKn
import Derived.Deep.RegionLaw
import Derived.Deep.QuietTactic
import Derived.BigQuiet
import Derived.Deep.RegionHeld3
import Derived.WalkKit
import Derived.Laws.BitsAllLaws
import Derived.Lib.Strings
/-
  Rows of rows; lists that are made; tests of a type; what lies in old blocks.
-/
namespace Go.Proofs.YtamiichlbmllcaaGreatDoor
open Go.RowKit
/-- n rows of k cells, one behind the other -/
def rowsA (n k : Nat) (g : Nat → Array Value) : Array Value := Array.ofFn (n := n * k) fun j => (g (j.val / k)).getD (j.val % k) undef
theorem rows_size (n k : Nat) (g : Nat → Array Value) : (rowsA n k g).size = n * k := by unfold rowsA; simp
theorem rows_get {n k : Nat} {g : Nat → Array Value} {j : Nat} (h : j < n * k) : (rowsA n k g)[j]? = some ((g (j / k)).getD (j % k) undef) := by
  unfold rowsA
  rw [Array.getElem?_ofFn, dif_pos h]
theorem rows_at {n k : Nat} {g : Nat → Array Value} {i q : Nat} (hi : i < n) (hq : q < k) (hg : (g i).size = k) : (rowsA n k g)[i * k + q]? = (g i)[q]? := by
  have h : i * k + q < n * k := by
    have : (i + 1) * k ≤ n * k := Nat.mul_le_mul_right k hi
    rw [Nat.add_mul, Nat.one_mul] at this
    omega
  have hk : 0 < k := by omega
  have e1 : (i * k + q) / k = i := by
    rw [Nat.add_comm, Nat.add_mul_div_right _ _ hk, Nat.div_eq_of_lt hq, Nat.zero_add]
  have e2 : (i * k + q) % k = q := by
    rw [Nat.add_comm, Nat.add_mul_mod_self_right, Nat.mod_eq_of_lt hq]
  rw [rows_get h, e1, e2, Array.getD_eq_getD_getElem?, Array.getElem?_eq_getElem (by omega)]
  rfl
theorem rows_ex {n k : Nat} {g : Nat → Array Value} {i : Nat} (hi : i < n) (hg : (g i).size = k) : (rowsA n k g).extract (i * k) (i * k + k) = g i := by
  have hn : i * k + k ≤ n * k := by
    have : (i + 1) * k ≤ n * k := Nat.mul_le_mul_right k hi
    rwa [Nat.add_mul, Nat.one_mul] at this
  apply Array.ext_getElem?
  intro q
  by_cases hq : q < k
  · rw [Array.getElem?_extract, if_pos (by rw [rows_size]; omega)]
    exact rows_at hi hq hg
  · rw [Array.getElem?_eq_none (by rw [Array.size_extract, rows_size]; omega), Array.getElem?_eq_none (by omega)]
theorem rows_put {n k : Nat} {g : Nat → Array Value} {i : Nat} {c : Array Value} (hc : c.size = k) : putA (rowsA n k g) (i * k) c.toList = rowsA n k (fun j => if j = i then c else g j) := by
  apply Array.ext_getElem?
  intro q
  by_cases hq : q < n * k
  · have hk : 0 < k := by
      rcases Nat.eq_zero_or_pos k with h | h
      · subst h; simp at hq
      · exact h
    rw [putA_get _ _ _ _ (by rw [rows_size]; exact hq), rows_get (g := fun j => if j = i then c else g j) hq]
    by_cases h1 : i * k ≤ q ∧ q < i * k + c.toList.length
    · have e1 : q / k = i := by
        rw [Nat.div_eq_iff hk]
        simp only [Array.length_toList, hc] at h1
        omega
      have e2 : q % k = q - i * k := by
        have := Nat.mod_add_div q k
        rw [e1, Nat.mul_comm] at this
        omega
      rw [if_pos h1, e1, e2]
      simp only [if_true]
      simp only [Array.length_toList] at h1
      rw [Array.getD_eq_getD_getElem?, Array.getElem?_toList, Array.getElem?_eq_getElem (by omega)]
      rfl
    · have e1 : q / k ≠ i := by
        intro e
        apply h1
        rw [Nat.div_eq_iff hk] at e
        simp only [Array.length_toList, hc]
        omega
      rw [if_neg h1, rows_get hq, if_neg e1]
  · rw [Array.getElem?_eq_none (by rw [putA_size, rows_size]; omega), Array.getElem?_eq_none (by rw [rows_size]; omega)]
theorem rows_congr {n k : Nat} {g h : Nat → Array Value} (e : ∀ i, i < n → g i = h i) : rowsA n k g = rowsA n k h := by
  apply Array.ext_getElem?
  intro q
  by_cases hq : q < n * k
  · have hk : 0 < k := by
      rcases Nat.eq_zero_or_pos k with h | h
      · subst h; simp at hq
      · exact h
    rw [rows_get hq, rows_get hq, e _ (Nat.div_lt_of_lt_mul (by rw [Nat.mul_comm]; exact hq))]
  · rw [Array.getElem?_eq_none (by rw [rows_size]; omega), Array.getElem?_eq_none (by rw [rows_size]; omega)]
theorem made_rows (n k : Nat) (z : Array Value) (hz : z.size = k) : madeCells z (n * k) = rowsA n k (fun _ => z) := by
  apply Array.ext_getElem?
  intro q
  unfold madeCells
  by_cases hq : q < n * k
  · rw [rows_get hq]
    have hk : 0 < k := by
      rcases Nat.eq_zero_or_pos k with h | h
      · subst h; simp at hq
      · exact h
    have hlt : q % k < z.size := by rw [hz]; exact Nat.mod_lt _ hk
    have e : z[q % k]! = z.getD (q % k) undef := by rw [getElem!_pos z _ hlt, Array.getD_eq_getD_getElem?, Array.getElem?_eq_getElem hlt]; rfl
    rw [Array.getElem?_map, Array.getElem?_eq_getElem (by simpa using hq), Array.getElem_range, Option.map_some, hz, e]
  · rw [Array.getElem?_eq_none (xs := rowsA n k fun _ => z) (by rw [rows_size]; omega), Array.getElem?_eq_none (by simp; omega)]
/-- a type of lists that can be made -/
structure MkT (P : Program) (ty e : TypeId) (k by_ : Nat) (z : Array Value) : Prop where
  hu : P.underlying ty = some (.slice e)
  ex : ∃ zv, (P.info? e).map (fun i => (i.zero, i.size, i.bytes)) = some (some zv, k, by_) ∧ zv.cells = z ∧ z.size = k
/-- a type that is asked for: no interface, and its zero -/
structure AsT (P : Program) (ty : TypeId) (z : Value) : Prop where
  ex : ∃ d, P.underlying ty = some d ∧ ∀ m, d ≠ .interface m
  hz : (P.info? ty).map (·.zero) = some (some z)
section laws
variable {P : Program} {d : Option Tmp} {tt : TypeId} {pos : String} {aft : Array Edge} {g : Option (Nat × Bool)} {a : Act} {w : World} {K : Act → World → Prop} {Q : Exit → Act → World → Prop} {M : List Nat} {w0 : World} {L : RowL} {ty e t : TypeId} {x y : Operand} {A z cs : Array Value} {b j n k by_ : Nat} {v zv : Value}
/-- make([]T, n) -/
theorem oMake (hx : a.eval x = .int .i64 n) (hy : a.eval y = .int .i64 n) (hk : Kn M w0 w L) (hT : MkT P ty e k by_ z) (hb : (by_ : Int) * n ≤ 281474976710656) (hn : (n : Int) ≤ 9223372036854775807)
    (h : ∀ w1, Kn M w0 w1 ((w.heap.size, rowsA n k (fun _ => z), e) :: L) → K (a.put d (.slice (some ⟨w.heap.size, 0, none⟩) n n)) w1) : Oper.wp P ⟨d, .makeSlice ty x y, tt, pos, aft, g⟩ a w K Q := by
  have hu := hT.hu
  obtain ⟨zv, hin, hc, hzs⟩ := hT.ex
  obtain ⟨i, hi, hz, hs, hby⟩ : ∃ i, P.info? e = some i ∧ i.zero = some zv ∧ i.size = k ∧ i.bytes = by_ := by
    cases hq : P.info? e with
    | none => rw [hq] at hin; simp at hin
    | some i => rw [hq] at hin; simp at hin; exact ⟨i, rfl, hin.1, hin.2.1, hin.2.2⟩
  have h1 := h (w.alloc (.cells (rowsA n k (fun _ => z)) e)) (hk.alloc _ e)
  have hr := run_make (P := P) w ty e i zv hu hi hz .i64 .i64 (n : Int) (n : Int) (by omega) (Int.le_refl _) (by rw [hby]; exact hb) hn
  rw [hc, hs, Int.toNat_natCast, made_rows n k z hzs] at hr
  unfold Oper.wp execOp
  simp only [hx, hy, Sem.run_bind, Sem.run_pure, Result.andThen_ok, hr]
  exact h1
/-- the type is the one that is asked for -/
theorem oAssertY (hx : a.eval x = .iface ty v) (hT : AsT P ty zv) (h : K (a.put d (.tuple #[v, .bool true])) w) : Oper.wp P ⟨d, .typeAssert x e ty true, tt, pos, aft, g⟩ a w K Q := by
  obtain ⟨dd, hu, hni⟩ := hT.ex
  unfold Oper.wp execOp
  simp only [hx, Instr.typeAssert, Sem.run_bind, run_underlying hu w, Result.andThen_ok]
  cases dd with
  | interface m => exact absurd rfl (hni m)
  | _ => simpa [Oper.upon] using h
theorem oAssertN (hx : a.eval x = .iface t v) (hne : t ≠ ty) (hT : AsT P ty zv) (h : K (a.put d (.tuple #[zv, .bool false])) w) : Oper.wp P ⟨d, .typeAssert x e ty true, tt, pos, aft, g⟩ a w K Q := by
  obtain ⟨dd, hu, hni⟩ := hT.ex
  have hzz := hT.hz
  obtain ⟨i, hi, hz⟩ : ∃ i, P.info? ty = some i ∧ i.zero = some zv := by
    cases hq : P.info? ty with
    | none => rw [hq] at hzz; simp at hzz
    | some i => rw [hq] at hzz; simp at hzz; exact ⟨i, rfl, hzz⟩
  unfold Oper.wp execOp
  simp only [hx, Instr.typeAssert, Sem.run_bind, run_underlying hu w, Result.andThen_ok]
  cases dd with
  | interface m => exact absurd rfl (hni m)
  | _ => simpa [Oper.upon, hne, zeroValue, typeInfo, hi, hz] using h
theorem old_at (hk : Kn M w0 w L) (hat : At w0 b A t) (hM : b ∉ M) : At w b A t := hat.of (hk.mod.block b hat.lt hM)
theorem oOldR (hx : a.eval x = .pointer (some ⟨b, j, none⟩)) (hk : Kn M w0 w L) (hat : At w0 b A t) (hM : b ∉ M) (hT : RowT P ty n) (hc : A.extract j (j + n) = cs) (hn : cs.size = n) (h : K (a.put d (.agg cs)) w) : Oper.wp P ⟨d, .load ty x, tt, pos, aft, g⟩ a w K Q := by
  unfold Oper.wp execOp
  simp only [hx, Sem.run_bind, Sem.run_pure, Result.andThen_ok, run_loadA (old_at hk hat hM) hT hc hn]
  exact h
theorem oOld1 (hx : a.eval x = .pointer (some ⟨b, j, none⟩)) (hk : Kn M w0 w L) (hat : At w0 b A t) (hM : b ∉ M) (hT : OneT P ty) (hv : A[j]? = some v) (h : K (a.put d v) w) : Oper.wp P ⟨d, .load ty x, tt, pos, aft, g⟩ a w K Q := by
  unfold Oper.wp execOp
  simp only [hx, Sem.run_bind, Sem.run_pure, Result.andThen_ok, run_loadC (by rw [(old_at hk hat hM).cell]; exact hv) hT]
  exact h
end laws
section still
variable {P : Program} {l : List Oper} {Q : Exit → Act → World → Prop} {F : Nat → Bool} {r : OT} {a : Act} {w : World} {i : Nat} {d : Option Tmp} {tt : TypeId} {pos : String} {aft : Array Edge} {g : Option (Nat × Bool)} {M : List Nat} {w0 : World} {L : RowL} {ty t : TypeId} {x : Operand} {A cs : Array Value} {b j n : Nat} {v : Value}
theorem tOldR (ho : nthO i l = some ⟨d, .load ty x, tt, pos, aft, g⟩) (hw : Region.wanted ⟨d, .load ty x, tt, pos, aft, g⟩ (yielded l.toArray a.tmps) = true) (hS : Kn M w0 w L) (hx : a.eval x = .pointer (some ⟨b, j, none⟩)) (hat : At w0 b A t) (hM : b ∉ M) (hT : RowT P ty n) (hc : A.extract j (j + n) = cs) (hn : cs.size = n)
    (h : wpT P l Q F (fun wx => Kn M w0 wx L) r (a.put d (.agg cs)) w) : wpT P l Q F (fun wx => Kn M w0 wx L) (.op i r) a w :=
  tStill ho rfl hw hS (fun wx hk => by unfold execOp; simp only [hx, Sem.run_bind, Sem.run_pure, Result.andThen_ok, run_loadA (old_at hk hat hM) hT hc hn]) h
theorem tOld1 (ho : nthO i l = some ⟨d, .load ty x, tt, pos, aft, g⟩) (hw : Region.wanted ⟨d, .load ty x, tt, pos, aft, g⟩ (yielded l.toArray a.tmps) = true) (hS : Kn M w0 w L) (hx : a.eval x = .pointer (some ⟨b, j, none⟩)) (hat : At w0 b A t) (hM : b ∉ M) (hT : OneT P ty) (hv : A[j]? = some v)
    (h : wpT P l Q F (fun wx => Kn M w0 wx L) r (a.put d v) w) : wpT P l Q F (fun wx => Kn M w0 wx L) (.op i r) a w :=
  tStill ho rfl hw hS (fun wx hk => by unfold execOp; simp only [hx, Sem.run_bind, Sem.run_pure, Result.andThen_ok, run_loadC (by rw [(old_at hk hat hM).cell]; exact hv) hT]) h
end still
end Go.Proofs.YtamiichlbmllcaaGreatDoor
/-
  Ranges and states: contracts of the leaves of package ranges.
-/
namespace Go.Proofs.YtamiichlbmllcaaGreatDoor
open Go.RowKit
structure R2 where
  lo : Int
  hi : Int
def R2.val (r : R2) : Value := .agg #[.int .i64 r.lo, .int .i64 r.hi]
def allR : R2 := ⟨-9223372036854775808, 9223372036854775807⟩
def comR (r o : R2) : R2 := ⟨max r.lo o.lo, min r.hi o.hi⟩
def inRg (r o : R2) : Bool := decide (o.lo ≤ r.lo) && decide (r.hi ≤ o.hi)
theorem belA1 (w : World) (o : Obj) : Below w.heap.size w (w.alloc o) := (Below.refl _ _).alloc (Nat.le_refl _) o
set_option maxHeartbeats 400000 in
theorem isEmpty_any (r : R2) (w : World) :
    Calls Tryz.prog 100 #[r.val] w fun e w' => e = .returned (.bool (decide (r.hi < r.lo))) ∧ Below w.heap.size w w' := by
  unfold R2.val
  go_enter Tryz.func100, Tryz.ntmps100
  go_wp2
  go_ret
  exact ⟨rfl, belA1 _ _⟩
set_option maxHeartbeats 400000 in
theorem has_any (r : R2) (n : Int) (w : World) :
    Calls Tryz.prog 75 #[r.val, .int .i64 n] w fun e w' => e = .returned (.bool (decide (r.lo ≤ n ∧ n ≤ r.hi))) ∧ Below w.heap.size w w' := by
  unfold R2.val
  by_cases h0 : r.lo ≤ n <;> by_cases h1 : n ≤ r.hi
  all_goals
    go_enter Tryz.func75, Tryz.ntmps75
    go_wp2
    go_ret
    exact ⟨by simp [h0, h1], belA1 _ _⟩
theorem ret_r2 {a b c d : Int} (h : a = c) (k : b = d) : (Value.agg #[.int .i64 a, .int .i64 b]) = .agg #[.int .i64 c, .int .i64 d] := by rw [h, k]
set_option maxHeartbeats 1000000 in
theorem common_any (r o : R2) (w : World) :
    Calls Tryz.prog 153 #[r.val, o.val] w fun e w' => e = .returned (comR r o).val ∧ Below w.heap.size w w' := by
  unfold R2.val
  obtain ⟨r0, r1⟩ := r
  obtain ⟨o0, o1⟩ := o
  simp only
  go_enter Tryz.func153, Tryz.ntmps153
  go_wp2
  all_goals exact bodyPost_ret (v := (comR ⟨r0, r1⟩ ⟨o0, o1⟩).val) (by simp [results, Tryz.results153, go_sem, comR, R2.val]; omega) rfl ⟨rfl, ((belA1 _ _).alloc (by simp) _).alloc (by simp; omega) _⟩
theorem comR_eq (r o : R2) : ((comR r o).lo == r.lo && (comR r o).hi == r.hi) = inRg r o := by
  unfold comR inRg
  simp only
  by_cases h1 : o.lo ≤ r.lo <;> by_cases h2 : r.hi ≤ o.hi <;> simp [h1, h2] <;> omega
set_option maxHeartbeats 1000000 in
theorem liesIn_any (r o : R2) (w : World) :
    Calls Tryz.prog 152 #[r.val, o.val] w fun e w' => e = .returned (.bool (inRg r o)) ∧ Below w.heap.size w w' := by
  have HE := hide (comR_eq r o)
  have HC : Hid (∀ wx, Calls Tryz.prog 153 #[.agg #[.int .i64 r.lo, .int .i64 r.hi], .agg #[.int .i64 o.lo, .int .i64 o.hi]] wx fun e w' => e = .returned (.agg #[.int .i64 (comR r o).lo, .int .i64 (comR r o).hi]) ∧ Below wx.heap.size wx w') := hide (fun wx => common_any r o wx)
  generalize hB : inRg r o = B at HE
  generalize comR r o = C at HE HC
  unfold R2.val
  clear hB
  have HB0 := hide (((belA1 w (.cells #[.int .i64 r.lo, .int .i64 r.hi] 28)).alloc (by simp) (.cells #[.int .i64 o.lo, .int .i64 o.hi] 28)).drew)
  have HX : Hid (∀ w2, Below ((w.alloc (.cells #[.int .i64 r.lo, .int .i64 r.hi] 28)).alloc (.cells #[.int .i64 o.lo, .int .i64 o.hi] 28)).drew.heap.size ((w.alloc (.cells #[.int .i64 r.lo, .int .i64 r.hi] 28)).alloc (.cells #[.int .i64 o.lo, .int .i64 o.hi] 28)).drew w2 → w2.cell? ⟨w.heap.size, 0, none⟩ = some (.int .i64 r.lo) ∧ w2.cell? ⟨w.heap.size, 1, none⟩ = some (.int .i64 r.hi) ∧ w2.cell? ⟨w.heap.size + 1, 0, none⟩ = some (.int .i64 o.lo) ∧ w2.cell? ⟨w.heap.size + 1, 1, none⟩ = some (.int .i64 o.hi)) := hide (fun w2 hb => by
    rw [hb.cell (p := ⟨w.heap.size, 0, none⟩) (by simp; omega), hb.cell (p := ⟨w.heap.size, 1, none⟩) (by simp; omega), hb.cell (p := ⟨w.heap.size + 1, 0, none⟩) (by simp), hb.cell (p := ⟨w.heap.size + 1, 1, none⟩) (by simp)]
    simp [go_sem])
  cases h1 : (C.lo == r.lo) <;> cases h2 : (C.hi == r.hi)
  all_goals
    rw [h1, h2] at HE
    go_enter Tryz.func152, Tryz.ntmps152
    go_wp2_with fail
    go_region_held3 (fun w' => w'.cell? ⟨w.heap.size, 0, none⟩ = some (.int .i64 r.lo) ∧ w'.cell? ⟨w.heap.size, 1, none⟩ = some (.int .i64 r.hi) ∧ w'.cell? ⟨w.heap.size + 1, 0, none⟩ = some (.int .i64 o.lo) ∧ w'.cell? ⟨w.heap.size + 1, 1, none⟩ = some (.int .i64 o.hi)) (go_keep) (first
      | (go_at_call 153; refine (HC.out _).mono ?_; rintro e w2 ⟨rfl, hb2⟩; obtain ⟨z0, z1, z2, z3⟩ := HX.out w2 hb2; have HB2 := hide (HB0.out.trans (hb2.mono HB0.out.size)); clear hb2))
    go_wp2
    go_ret
    exact ⟨ret_bool HE.out, HB2.out⟩
end Go.Proofs.YtamiichlbmllcaaGreatDoor
/-
  States: contracts of ranges.IsState, stateLiesIn, With, (ranges.Place).LiesIn.
-/
namespace Go.Proofs.YtamiichlbmllcaaGreatDoor
open Go.RowKit
def stC (s : Nat → R2) : Array Value := #[.int .i64 (s 0).lo, .int .i64 (s 0).hi, .int .i64 (s 1).lo, .int .i64 (s 1).hi, .int .i64 (s 2).lo, .int .i64 (s 2).hi, .int .i64 (s 3).lo, .int .i64 (s 3).hi, .int .i64 (s 4).lo, .int .i64 (s 4).hi, .int .i64 (s 5).lo, .int .i64 (s 5).hi, .int .i64 (s 6).lo, .int .i64 (s 6).hi, .int .i64 (s 7).lo, .int .i64 (s 7).hi]
theorem idx_st (s : Nat → R2) (n : Nat) (hn : n < 8) (w : World) : (Instr.index 30 (.agg (stC s)) (.int .i64 n)).run Tryz.prog w = .ok (.agg #[.int .i64 (s n).lo, .int .i64 (s n).hi]) w := by
  match n, hn with
  | 0, _ => exact (show (Instr.index 30 (.agg (stC s)) (.int .i64 0)).run Tryz.prog w = .ok (.agg #[.int .i64 (s 0).lo, .int .i64 (s 0).hi]) w by kernel_rfl)
  | 1, _ => exact (show (Instr.index 30 (.agg (stC s)) (.int .i64 1)).run Tryz.prog w = .ok (.agg #[.int .i64 (s 1).lo, .int .i64 (s 1).hi]) w by kernel_rfl)
  | 2, _ => exact (show (Instr.index 30 (.agg (stC s)) (.int .i64 2)).run Tryz.prog w = .ok (.agg #[.int .i64 (s 2).lo, .int .i64 (s 2).hi]) w by kernel_rfl)
  | 3, _ => exact (show (Instr.index 30 (.agg (stC s)) (.int .i64 3)).run Tryz.prog w = .ok (.agg #[.int .i64 (s 3).lo, .int .i64 (s 3).hi]) w by kernel_rfl)
  | 4, _ => exact (show (Instr.index 30 (.agg (stC s)) (.int .i64 4)).run Tryz.prog w = .ok (.agg #[.int .i64 (s 4).lo, .int .i64 (s 4).hi]) w by kernel_rfl)
  | 5, _ => exact (show (Instr.index 30 (.agg (stC s)) (.int .i64 5)).run Tryz.prog w = .ok (.agg #[.int .i64 (s 5).lo, .int .i64 (s 5).hi]) w by kernel_rfl)
  | 6, _ => exact (show (Instr.index 30 (.agg (stC s)) (.int .i64 6)).run Tryz.prog w = .ok (.agg #[.int .i64 (s 6).lo, .int .i64 (s 6).hi]) w by kernel_rfl)
  | 7, _ => exact (show (Instr.index 30 (.agg (stC s)) (.int .i64 7)).run Tryz.prog w = .ok (.agg #[.int .i64 (s 7).lo, .int .i64 (s 7).hi]) w by kernel_rfl)
  | n + 8, h => omega
def isStR (s : Nat → R2) : Bool := (List.range 8).all fun i => decide ((s i).lo ≤ (s i).hi)
theorem isStR_yes {s : Nat → R2} (h : ∀ i, i < 8 → (s i).lo ≤ (s i).hi) : isStR s = true := by
  unfold isStR; rw [List.all_eq_true]; intro i hi; simpa using h i (List.mem_range.1 hi)
theorem isStR_no {s : Nat → R2} {n : Nat} (hn : n < 8) (h : (s n).hi < (s n).lo) : isStR s = false := by
  unfold isStR; rw [List.all_eq_false]; exact ⟨n, List.mem_range.2 hn, by simpa using h⟩
theorem isStR_at {s : Nat → R2} (h : isStR s = true) (i : Nat) (hi : i < 8) : (s i).lo ≤ (s i).hi := by
  unfold isStR at h; rw [List.all_eq_true] at h; simpa using h i (List.mem_range.2 hi)
set_option maxHeartbeats 1000000 in
set_option maxRecDepth 100000 in
theorem isState_any (s : Nat → R2) (w : World) : Calls Tryz.prog 62 #[.agg (stC s)] w fun e w' => e = .returned (.bool (isStR s)) ∧ Below w.heap.size w w' := by
  have HI := hide (idx_st s)
  have HST : Hid (stC s = #[.int .i64 (s 0).lo, .int .i64 (s 0).hi, .int .i64 (s 1).lo, .int .i64 (s 1).hi, .int .i64 (s 2).lo, .int .i64 (s 2).hi, .int .i64 (s 3).lo, .int .i64 (s 3).hi, .int .i64 (s 4).lo, .int .i64 (s 4).hi, .int .i64 (s 5).lo, .int .i64 (s 5).hi, .int .i64 (s 6).lo, .int .i64 (s 6).hi, .int .i64 (s 7).lo, .int .i64 (s 7).hi]) := hide rfl
  rw [HST.out]
  go_enter Tryz.func62, Tryz.ntmps62
  go_wp2_with fail
  rw [← HST.out]
  have hb0 := belA1 w (.cells (stC s) 30)
  generalize w.alloc (.cells (stC s) 30) = w1 at *
  have hz1 := hb0.size
  go_loopw [6] (fun j wr => ∃ n : Nat, n ≤ 8 ∧ j = .int .i64 n ∧ (∀ i, i < n → (s i).lo ≤ (s i).hi) ∧ Below w.heap.size w wr) (fun j _ => 8 - (intOf j).toNat)
  case atStart => exact ⟨0, by omega, rfl, fun i hi => by omega, hb0⟩
  case round =>
    clear hb0
    obtain ⟨n, hn, rfl, hall, hbl⟩ := hrel
    have HA := hide hall
    have hzr := hbl.size
    clear hall
    by_cases hlt : n < 8
    · have hx := HI.out n hlt
      by_cases he : (s n).hi < (s n).lo
      · have HE : Hid (isStR s = false) := hide (isStR_no hlt he)
        have hd : decide ((s n).hi < (s n).lo) = true := by simpa using he
        clear he
        go_wp2_with (go_at_call 100; refine (isEmpty_any (s n) _).mono ?_; rintro e w2 ⟨rfl, hb2⟩; rw [hd]; have HB := hide ((hbl.alloc hzr _).trans (hb2.mono (by simp; omega))); clear hb2)
        go_ret
        exact ⟨ret_bool HE.out.symm, HB.out⟩
      · have hle : (s n).lo ≤ (s n).hi := by omega
        have hd : decide ((s n).hi < (s n).lo) = false := by simpa using hle
        have HLE := hide hle
        clear he hle
        go_wp2_with (go_at_call 100; refine (isEmpty_any (s n) _).mono ?_; rintro e w2 ⟨rfl, hb2⟩; rw [hd]; have HB := hide ((hbl.alloc hzr _).trans (hb2.mono (by simp; omega))); clear hb2)
        go_roundw
        case rel => exact ⟨n + 1, by omega, by go_num, fun i hi => by rcases Nat.lt_succ_iff_lt_or_eq.1 hi with h | h; exact HA.out i h; subst h; exact HLE.out, HB.out⟩
        case measure => simp [intOf]; omega
    · have HE : Hid (isStR s = true) := hide (isStR_yes fun i hi => HA.out i (by omega))
      go_wp2
      go_ret
      exact ⟨ret_bool HE.out.symm, hbl⟩
end Go.Proofs.YtamiichlbmllcaaGreatDoor
/-
  States: contracts of ranges.stateLiesIn and With.
-/
namespace Go.Proofs.YtamiichlbmllcaaGreatDoor
open Go.RowKit
theorem stC_get (s : Nat → R2) (n : Nat) (hn : n < 8) : (stC s)[n * 2]? = some (.int .i64 (s n).lo) ∧ (stC s)[n * 2 + 1]? = some (.int .i64 (s n).hi) := by
  match n, hn with
  | 0, _ => exact ⟨rfl, rfl⟩
  | 1, _ => exact ⟨rfl, rfl⟩
  | 2, _ => exact ⟨rfl, rfl⟩
  | 3, _ => exact ⟨rfl, rfl⟩
  | 4, _ => exact ⟨rfl, rfl⟩
  | 5, _ => exact ⟨rfl, rfl⟩
  | 6, _ => exact ⟨rfl, rfl⟩
  | 7, _ => exact ⟨rfl, rfl⟩
  | n + 8, h => omega
def liesR (s t : Nat → R2) : Bool := (List.range 8).all fun i => inRg (s i) (t i)
theorem liesR_yes {s t : Nat → R2} (h : ∀ i, i < 8 → inRg (s i) (t i) = true) : liesR s t = true := by
  unfold liesR; rw [List.all_eq_true]; intro i hi; exact h i (List.mem_range.1 hi)
theorem liesR_no {s t : Nat → R2} {n : Nat} (hn : n < 8) (h : inRg (s n) (t n) = false) : liesR s t = false := by
  unfold liesR; rw [List.all_eq_false]; exact ⟨n, List.mem_range.2 hn, by simp [h]⟩
set_option maxHeartbeats 2000000 in
set_option maxRecDepth 100000 in
theorem stateLies_any (s t : Nat → R2) (w : World) : Calls Tryz.prog 151 #[.agg (stC s), .agg (stC t)] w fun e w' => e = .returned (.bool (liesR s t)) ∧ Below w.heap.size w w' := by
  have HI := hide (idx_st s)
  have HST : Hid (stC s = #[.int .i64 (s 0).lo, .int .i64 (s 0).hi, .int .i64 (s 1).lo, .int .i64 (s 1).hi, .int .i64 (s 2).lo, .int .i64 (s 2).hi, .int .i64 (s 3).lo, .int .i64 (s 3).hi, .int .i64 (s 4).lo, .int .i64 (s 4).hi, .int .i64 (s 5).lo, .int .i64 (s 5).hi, .int .i64 (s 6).lo, .int .i64 (s 6).hi, .int .i64 (s 7).lo, .int .i64 (s 7).hi]) := hide rfl
  have HTT : Hid (stC t = #[.int .i64 (t 0).lo, .int .i64 (t 0).hi, .int .i64 (t 1).lo, .int .i64 (t 1).hi, .int .i64 (t 2).lo, .int .i64 (t 2).hi, .int .i64 (t 3).lo, .int .i64 (t 3).hi, .int .i64 (t 4).lo, .int .i64 (t 4).hi, .int .i64 (t 5).lo, .int .i64 (t 5).hi, .int .i64 (t 6).lo, .int .i64 (t 6).hi, .int .i64 (t 7).lo, .int .i64 (t 7).hi]) := hide rfl
  rw [HST.out, HTT.out]
  go_enter Tryz.func151, Tryz.ntmps151
  go_wp2_with fail
  rw [← HST.out, ← HTT.out]
  have hH : ((w.alloc (.cells (stC s) 30)).alloc (.cells (stC t) 30)).heap[w.heap.size + 1]? = some (.cells (stC t) 30 (0, 0)) := by
    have := heap_alloc_new (w.alloc (.cells (stC s) 30)) (.cells (stC t) 30)
    simpa using this
  have hb0 : Below w.heap.size w ((w.alloc (.cells (stC s) 30)).alloc (.cells (stC t) 30)) := (belA1 _ _).alloc (by simp) _
  generalize (w.alloc (.cells (stC s) 30)).alloc (.cells (stC t) 30) = w1 at *
  have hlt1 := lt_of_block hH
  have HH := hide hH
  have HB0 := hide hb0
  clear hH hb0
  go_loopw [8] (fun j wr => ∃ n : Nat, n ≤ 8 ∧ j = .int .i64 n ∧ (∀ i, i < n → inRg (s i) (t i) = true) ∧ Below w1.heap.size w1 wr) (fun j _ => 8 - (intOf j).toNat)
  case atStart => exact ⟨0, by omega, rfl, fun i hi => by omega, Below.refl _ _⟩
  case round =>
    obtain ⟨n, hn, rfl, hall, hbl⟩ := hrel
    have HA := hide hall
    have hzr := hbl.size
    clear hall
    by_cases hlt : n < 8
    · have hx := HI.out n hlt
      have c0 : wr.cell? ⟨w.heap.size + 1, n * 2, none⟩ = some (.int .i64 (t n).lo) := by rw [hbl.cell (p := ⟨w.heap.size + 1, _, none⟩) hlt1, cell_of_row _ _ _ _ _ _ HH.out]; exact (stC_get t n hlt).1
      have c1 : wr.cell? ⟨w.heap.size + 1, n * 2 + 1, none⟩ = some (.int .i64 (t n).hi) := by rw [hbl.cell (p := ⟨w.heap.size + 1, _, none⟩) hlt1, cell_of_row _ _ _ _ _ _ HH.out]; exact (stC_get t n hlt).2
      have hltr : w.heap.size + 1 < wr.heap.size := by omega
      have HBR := hide (HB0.out.trans (hbl.mono HB0.out.size))
      have HBL := hide hbl
      clear hbl
      have HL : Hid (∀ wx, Calls Tryz.prog 152 #[.agg #[.int .i64 (s n).lo, .int .i64 (s n).hi], .agg #[.int .i64 (t n).lo, .int .i64 (t n).hi]] wx fun e w' => e = .returned (.bool (inRg (s n) (t n))) ∧ Below wx.heap.size wx w') := hide (fun wx => liesIn_any (s n) (t n) wx)
      have HX : Hid (∀ w2, Below (wr.alloc (.cells #[.int .i64 (s n).lo, .int .i64 (s n).hi] 28)).drew.heap.size (wr.alloc (.cells #[.int .i64 (s n).lo, .int .i64 (s n).hi] 28)).drew w2 → w2.cell? ⟨wr.heap.size, 0, none⟩ = some (.int .i64 (s n).lo) ∧ w2.cell? ⟨wr.heap.size, 1, none⟩ = some (.int .i64 (s n).hi) ∧ w2.cell? ⟨w.heap.size + 1, n * 2, none⟩ = some (.int .i64 (t n).lo) ∧ w2.cell? ⟨w.heap.size + 1, n * 2 + 1, none⟩ = some (.int .i64 (t n).hi) ∧ Below w1.heap.size w1 w2) := hide (fun w2 hb => by
        have hb3 : Below wr.heap.size wr w2 := ((belA1 _ _).drew).trans (hb.mono (by simp))
        refine ⟨?_, ?_, ?_, ?_, HBL.out.trans (hb3.mono hzr)⟩
        · rw [hb.cell (p := ⟨wr.heap.size, 0, none⟩) (by simp)]; simp [go_sem]
        · rw [hb.cell (p := ⟨wr.heap.size, 1, none⟩) (by simp)]; simp [go_sem]
        · rw [hb3.cell (p := ⟨w.heap.size + 1, _, none⟩) hltr]; exact c0
        · rw [hb3.cell (p := ⟨w.heap.size + 1, _, none⟩) hltr]; exact c1)
      have hni : (0 : Int) ≤ (n : Int) := by omega
      have hnj : (n : Int) < 8 := by omega
      cases he : inRg (s n) (t n)
      · have HE : Hid (liesR s t = false) := hide (liesR_no hlt he)
        have HEE := hide he
        clear he
        go_wp2_with fail
        go_region_held3 (fun w' => w'.cell? ⟨wr.heap.size, 0, none⟩ = some (.int .i64 (s n).lo) ∧ w'.cell? ⟨wr.heap.size, 1, none⟩ = some (.int .i64 (s n).hi) ∧ w'.cell? ⟨w.heap.size + 1, n * 2, none⟩ = some (.int .i64 (t n).lo) ∧ w'.cell? ⟨w.heap.size + 1, n * 2 + 1, none⟩ = some (.int .i64 (t n).hi)) (go_keep) (first
          | (go_at_call 152; refine (HL.out _).mono ?_; rintro e w2 ⟨rfl, hb2⟩; rw [HEE.out]; obtain ⟨p0, p1, p2, p3, hb4⟩ := HX.out w2 hb2; have HB4 := hide hb4; clear hb2 hb4))
        go_wp2
        go_ret
        exact ⟨ret_bool HE.out.symm, HB0.out.trans (HB4.out.mono HB0.out.size)⟩
      · have HEE := hide he
        clear he
        go_wp2_with fail
        go_region_held3 (fun w' => w'.cell? ⟨wr.heap.size, 0, none⟩ = some (.int .i64 (s n).lo) ∧ w'.cell? ⟨wr.heap.size, 1, none⟩ = some (.int .i64 (s n).hi) ∧ w'.cell? ⟨w.heap.size + 1, n * 2, none⟩ = some (.int .i64 (t n).lo) ∧ w'.cell? ⟨w.heap.size + 1, n * 2 + 1, none⟩ = some (.int .i64 (t n).hi)) (go_keep) (first
          | (go_at_call 152; refine (HL.out _).mono ?_; rintro e w2 ⟨rfl, hb2⟩; rw [HEE.out]; obtain ⟨p0, p1, p2, p3, hb4⟩ := HX.out w2 hb2; have HB4 := hide hb4; clear hb2 hb4))
        go_wp2
        exact ⟨⟨n + 1, by omega, by go_num, fun i hi => by rcases Nat.lt_succ_iff_lt_or_eq.1 hi with h | h; exact HA.out i h; subst h; exact HEE.out, HB4.out⟩, by simp [intOf]; omega⟩
    · have HE : Hid (liesR s t = true) := hide (liesR_yes fun i hi => HA.out i (by omega))
      go_wp2
      go_ret
      exact ⟨ret_bool HE.out.symm, HB0.out.trans (hbl.mono HB0.out.size)⟩
end Go.Proofs.YtamiichlbmllcaaGreatDoor
/-
  Plain facts on bytes and numbers: a number of several bytes, the low one first.
-/
namespace Go.Proofs.YtamiichlbmllcaaGreatDoor
open Go.RowKit
/-- the low one first -/
def leNat : List UInt8 → Nat
  | [] => 0
  | b :: r => b.toNat + 256 * leNat r
theorem leNat_snoc (l : List UInt8) (b : UInt8) : leNat (l ++ [b]) = leNat l + 256 ^ l.length * b.toNat := by
  induction l with
  | nil => simp [leNat]
  | cons x r ih => simp only [List.cons_append, leNat, ih, List.length_cons, Nat.pow_succ, Nat.mul_add]; rw [Nat.mul_comm (256 ^ r.length) 256, Nat.mul_assoc]; omega
theorem leNat_lt (l : List UInt8) : leNat l < 256 ^ l.length := by
  induction l with
  | nil => simp [leNat]
  | cons x r ih => simp only [leNat, List.length_cons, Nat.pow_succ]; have := x.toNat_lt; omega
theorem pow_lt8 {j : Nat} (h : j < 8) : 256 ^ j * 256 ≤ 18446744073709551616 := by
  have : j = 0 ∨ j = 1 ∨ j = 2 ∨ j = 3 ∨ j = 4 ∨ j = 5 ∨ j = 6 ∨ j = 7 := by omega
  rcases this with rfl | rfl | rfl | rfl | rfl | rfl | rfl | rfl <;> decide
theorem take_snoc (s : ByteArray) (k : Nat) (h : k < s.size) : s.data.toList.take (k + 1) = s.data.toList.take k ++ [s[k]] := by
  rw [List.take_succ_eq_append_getElem (by simpa using h)]; rfl
theorem take_len (s : ByteArray) (k : Nat) (h : k ≤ s.size) : (s.data.toList.take k).length = k := by
  rw [List.length_take]; have : s.data.toList.length = s.size := by rw [Array.length_toList]; rfl
  omega
theorem u64_step (a b j : Nat) (hj : j < 8) (ha : a < 256 ^ j) (hb : b < 256) :
    bits .or .u64 (a : Int) (IntKind.u64.wrap (IntKind.u64.wrap (b : Int) * 2 ^ (8 * j))) = ((a + 256 ^ j * b : Nat) : Int) := by
  have hp := pow_lt8 hj
  have e2 : (2 : Nat) ^ (8 * j) = 256 ^ j := by rw [Nat.pow_mul]
  have hbj : 256 ^ j * b < 18446744073709551616 := Nat.lt_of_lt_of_le ((Nat.mul_lt_mul_left (Nat.pow_pos (by omega))).2 hb) hp
  have e1 : IntKind.u64.wrap (b : Int) = (b : Int) := by rw [IntKind.wrap_u64]; omega
  have e3 : (b : Int) * 2 ^ (8 * j) = ((256 ^ j * b : Nat) : Int) := by
    have : ((2 : Int) ^ (8 * j)) = (((2 : Nat) ^ (8 * j) : Nat) : Int) := by simp
    rw [this, e2, Int.mul_comm]; rfl
  have e4 : IntKind.u64.wrap ((256 ^ j * b : Nat) : Int) = ((256 ^ j * b : Nat) : Int) := by rw [IntKind.wrap_u64]; omega
  rw [e1, e3, e4, u64_or_nat _ _ (by omega) hbj]
  have h := Nat.two_pow_add_eq_or_of_lt (i := 8 * j) (b := a) (by rw [e2]; exact ha) b
  rw [e2] at h
  rw [Nat.or_comm, ← h, Nat.add_comm]
theorem leNat_step (s : ByteArray) (j : Nat) (hs : s.size ≤ 8) (h : j < s.size) :
    bits .or .u64 (leNat (s.data.toList.take j) : Int) (IntKind.u64.wrap (IntKind.u64.wrap (s[j].toNat : Int) * 2 ^ (8 * j))) = (leNat (s.data.toList.take (j + 1)) : Int) := by
  have hl := take_len s j (by omega)
  have := leNat_lt (s.data.toList.take j)
  rw [hl] at this
  rw [u64_step _ _ j (by omega) this s[j].toNat_lt, take_snoc s j h, leNat_snoc, hl]
end Go.Proofs.YtamiichlbmllcaaGreatDoor
/-
  The contract of code.readNumber, for every string of at most eight bytes.
-/
namespace Go.Proofs.YtamiichlbmllcaaGreatDoor
open Go.RowKit
theorem ret_int {k : IntKind} {a b : Int} (h : a = b) : Ending.returned (.int k a) = .returned (.int k b) := by rw [h]
set_option maxHeartbeats 400000 in
theorem readNumber_any (s : ByteArray) (w : World) (hs : s.size ≤ 8) :
    Calls Tryz.prog 130 #[.string s] w fun e w' => e = .returned (.int .i64 (wrap64 (leNat s.data.toList))) ∧ w' = w := by
  go_enter Tryz.func130, Tryz.ntmps130
  go_wp2
  go_loop [3, 7] (fun k i => ∃ j : Nat, j ≤ s.size ∧ i = .int .i64 j ∧ k = .int .u64 (leNat (s.data.toList.take j))) (fun _ i => s.size - (intOf i).toNat)
  case atStart => exact ⟨0, by omega, rfl, rfl⟩
  case round =>
    obtain ⟨j, hj, rfl, rfl⟩ := hrel
    by_cases hlt : j < s.size
    · have R := hide (leNat_step s j hs hlt)
      go_wp2
      exact ⟨⟨j + 1, by omega, by go_num, by rw [R.out]⟩, by simp [intOf]; omega⟩
    · have R : Hid (s.data.toList.take j = s.data.toList) := hide (List.take_of_length_le (by rw [Array.length_toList]; show s.size ≤ j; omega))
      go_wp2
      go_ret
      exact ⟨ret_int (by rw [R.out]), rfl⟩
end Go.Proofs.YtamiichlbmllcaaGreatDoor
/-
  The contract of code.readInstruction, for every string.
-/
namespace Go.Proofs.YtamiichlbmllcaaGreatDoor
open Go.RowKit
def noIns : Value := .tuple #[.agg #[.int .i64 0, .int .i64 0, .int .i64 0, .int .i64 0, .int .i64 0], .int .i64 0]
theorem wb (b : UInt8) : wrap64 (b.toNat : Int) = b.toNat := by have := b.toNat_lt; unfold wrap64; omega
theorem empty_yes {s : ByteArray} (h : s.size = 0) : s.toList.isEmpty = true := by
  rw [Lib.toList_data, List.isEmpty_iff_length_eq_zero, Array.length_toList]; exact h
theorem empty_no {s : ByteArray} (h : 0 < s.size) : s.toList.isEmpty = false := by
  rw [Lib.toList_data, ← Bool.not_eq_true, List.isEmpty_iff_length_eq_zero, Array.length_toList]; have : s.data.size = s.size := rfl; omega
set_option maxHeartbeats 400000 in
theorem readIns_empty (s : ByteArray) (w : World) (hs : s.size = 0) :
    Calls Tryz.prog 123 #[.string s] w fun e w' => e = .returned noIns ∧ Below w.heap.size w w' := by
  have hd := empty_yes hs
  go_enter Tryz.func123, Tryz.ntmps123
  go_wp2
  exact bodyPost_ret (v := noIns) (by simp [results, Tryz.results123, go_sem, noIns]) rfl ⟨rfl, (Below.refl _ _).alloc (Nat.le_refl _) _⟩
set_option maxHeartbeats 400000 in
theorem readIns_big (s : ByteArray) (w : World) (hs : 0 < s.size) (h1 : 12 ≤ s[0].toNat) :
    Calls Tryz.prog 123 #[.string s] w fun e w' => e = .returned noIns ∧ Below w.heap.size w w' := by
  have hd := empty_no hs
  have hwb := wb
  go_enter Tryz.func123, Tryz.ntmps123
  go_wp2
  exact bodyPost_ret (v := noIns) (by simp [results, Tryz.results123, go_sem, noIns]) rfl ⟨rfl, (Below.refl _ _).alloc (Nat.le_refl _) _⟩
set_option maxHeartbeats 400000 in
theorem readIns_short (s : ByteArray) (nr kb : Nat) (w : World) (hs : 0 < s.size) (h1 : s[0].toNat < 12) (hz : 0 < w.heap.size) (_h3 : nr ≤ 3) (_h8 : kb ≤ 8)
    (c2 : w.cell? ⟨0, s[0].toNat * 3 + 2, none⟩ = some (.int .i64 (1 + nr + kb))) (hlt : s.size < 1 + nr + kb) :
    Calls Tryz.prog 123 #[.string s] w fun e w' => e = .returned noIns ∧ Below w.heap.size w w' := by
  have hd := empty_no hs
  have hwb := wb
  go_enter Tryz.func123, Tryz.ntmps123
  go_wp2
  exact bodyPost_ret (v := noIns) (by simp [results, Tryz.results123, go_sem, noIns]) rfl ⟨rfl, (Below.refl _ _).alloc (Nat.le_refl _) _⟩
def byteAt (s : ByteArray) (i : Nat) : Int := ((s.data.toList.getD i 0).toNat : Int)
theorem byteAt_eq (s : ByteArray) (i : Nat) (h : i < s.size) : byteAt s i = (s[i].toNat : Int) := by
  unfold byteAt; simp only [List.getD_eq_getElem?_getD]; rw [List.getElem?_eq_getElem (by rw [Array.length_toList]; exact h)]; rfl
def regAt (s : ByteArray) (nr j : Nat) : Int := if j < nr then byteAt s (1 + j) else 0
theorem regAt_new (s : ByteArray) (j : Nat) (h : 1 + j < s.size) : (s[1 + j].toNat : Int) = regAt s (j + 1) j := by rw [regAt, if_pos (by omega), byteAt_eq s (1 + j) h]
theorem regAt_succ (s : ByteArray) (i j : Nat) (h : i ≠ j) : regAt s (j + 1) i = regAt s j i := by
  unfold regAt; by_cases h2 : i < j
  · rw [if_pos h2, if_pos (by omega)]
  · rw [if_neg h2, if_neg (by omega)]
set_option maxHeartbeats 400000 in
theorem readIns_yes (s : ByteArray) (nr kb : Nat) (w : World) (hs : 0 < s.size) (h1 : s[0].toNat < 12) (hz : 0 < w.heap.size) (h3 : nr ≤ 3) (h8 : kb ≤ 8)
    (c0 : w.cell? ⟨0, s[0].toNat * 3, none⟩ = some (.int .i64 nr)) (c1 : w.cell? ⟨0, s[0].toNat * 3 + 1, none⟩ = some (.int .i64 kb))
    (c2 : w.cell? ⟨0, s[0].toNat * 3 + 2, none⟩ = some (.int .i64 (1 + nr + kb))) (hge : 1 + nr + kb ≤ s.size) :
    Calls Tryz.prog 123 #[.string s] w fun e w' => e = .returned (.tuple #[.agg #[.int .i64 s[0].toNat, .int .i64 (regAt s nr 0), .int .i64 (regAt s nr 1), .int .i64 (regAt s nr 2), .int .i64 (wrap64 (leNat ((s.data.toList.drop (1 + nr)).take kb)))], .int .i64 (1 + nr + kb)]) ∧ Below w.heap.size w w' := by
  have hd := empty_no hs
  have hwb := wb
  go_enter Tryz.func123, Tryz.ntmps123
  go_wp2
  go_loopw [34] (fun i w' => ∃ (j : Nat) (x0 x1 x2 : Int), j ≤ nr ∧ i = .int .i64 j ∧ x0 = regAt s j 0 ∧ x1 = regAt s j 1 ∧ x2 = regAt s j 2 ∧
    w' = (w.alloc (.cells #[.int .i64 0, .int .i64 0, .int .i64 0, .int .i64 0, .int .i64 0] 62)).alloc (.cells #[.int .i64 x0, .int .i64 x1, .int .i64 x2] 167)) (fun i _ => nr - (intOf i).toNat)
  case atStart => exact ⟨0, 0, 0, 0, by omega, rfl, rfl, rfl, rfl, rfl⟩
  case round =>
    obtain ⟨j, x0, x1, x2, hj, rfl, hx0, hx1, hx2, rfl⟩ := hrel
    replace hx0 := hide hx0
    replace hx1 := hide hx1
    replace hx2 := hide hx2
    by_cases hlt : j < nr
    · have hb := hide (regAt_new s j (by omega))
      match j, hj, hlt, hx0, hx1, hx2, hb with
      | 0, _, hlt, hx0, hx1, hx2, hb =>
        go_wp2
        go_roundw
        case rel => exact ⟨1, _, _, _, by omega, rfl, hb.out, hx1.out.trans (regAt_succ s 1 0 (by omega)).symm, hx2.out.trans (regAt_succ s 2 0 (by omega)).symm, rfl⟩
        case measure => simp [intOf]; omega
      | 1, _, hlt, hx0, hx1, hx2, hb =>
        go_wp2
        go_roundw
        case rel => exact ⟨2, _, _, _, by omega, rfl, hx0.out.trans (regAt_succ s 0 1 (by omega)).symm, hb.out, hx2.out.trans (regAt_succ s 2 1 (by omega)).symm, rfl⟩
        case measure => simp [intOf]; omega
      | 2, _, hlt, hx0, hx1, hx2, hb =>
        go_wp2
        go_roundw
        case rel => exact ⟨3, _, _, _, by omega, rfl, hx0.out.trans (regAt_succ s 0 2 (by omega)).symm, hx1.out.trans (regAt_succ s 1 2 (by omega)).symm, hb.out, rfl⟩
        case measure => simp [intOf]; omega
      | j + 3, _, hlt, _, _, _, _ => omega
    · have ej : j = nr := by omega
      subst ej
      have R := hide (Lib.extract_data s (1 + j) (1 + j + kb))
      rw [show 1 + j + kb - (1 + j) = kb by omega] at R
      have hz8 : (s.extract (1 + j) (1 + j + kb)).size ≤ 8 := by rw [ByteArray.size_extract]; omega
      go_wp2_with (go_at_call 130; refine (readNumber_any _ _ hz8).mono ?_; rintro e w' ⟨rfl, rfl⟩; rw [R.out])
      refine bodyPost_ret (v := .tuple #[.agg #[.int .i64 s[0].toNat, .int .i64 x0, .int .i64 x1, .int .i64 x2, .int .i64 (wrap64 (leNat ((s.data.toList.drop (1 + j)).take kb)))], .int .i64 (1 + j + kb)]) (by simp [results, Tryz.results123, go_sem]) rfl ⟨?_, ((Below.refl _ _).alloc (Nat.le_refl _) _).alloc (by simp) _⟩
      rw [hx0.out, hx1.out, hx2.out]
def nrN (o : Nat) : Nat := (nregs o).toNat
def kbN (o : Nat) : Nat := (kbytes o).toNat
theorem nrN_eq (o : Nat) : ((nrN o : Nat) : Int) = nregs o := by have := nregs_bd o; unfold nrN; omega
theorem kbN_eq (o : Nat) : ((kbN o : Nat) : Int) = kbytes o := by have := kb_three o; unfold kbN; omega
theorem nrN_le (o : Nat) : nrN o ≤ 3 := by have := nregs_bd o; unfold nrN; omega
theorem kbN_le (o : Nat) : kbN o ≤ 8 := by have := kb_three o; unfold kbN; omega
def regL (l : List UInt8) (nr j : Nat) : Int := if j < nr then ((l.getD (1 + j) 0).toNat : Int) else 0
/-- the first instruction of these bytes, and how many it has -/
def readI (l : List UInt8) : Option (I5 × Nat) :=
  match l with
  | [] => none
  | b :: _ => if 12 ≤ b.toNat then none else if l.length < 1 + nrN b.toNat + kbN b.toNat then none else
    some (⟨b.toNat, regL l (nrN b.toNat) 0, regL l (nrN b.toNat) 1, regL l (nrN b.toNat) 2, wrap64 (leNat ((l.drop (1 + nrN b.toNat)).take (kbN b.toNat)))⟩, 1 + nrN b.toNat + kbN b.toNat)
def readVal : Option (I5 × Nat) → Value
  | none => noIns
  | some (i, n) => .tuple #[i.val, .int .i64 n]
theorem readIns_any (s : ByteArray) (w : World) (hs : Shapes w) :
    Calls Tryz.prog 123 #[.string s] w fun e w' => e = .returned (readVal (readI s.data.toList)) ∧ Below w.heap.size w w' := by
  by_cases h0 : s.size = 0
  · have e : s.data.toList = [] := List.eq_nil_of_length_eq_zero (by rw [Array.length_toList]; exact h0)
    rw [e]
    exact readIns_empty s w h0
  · have hp : 0 < s.size := by omega
    have hlen : s.data.toList.length = s.size := by rw [Array.length_toList]; rfl
    have hcons : s.data.toList = s[0] :: s.data.toList.tail := by
      have : s.data.toList ≠ [] := fun e => by rw [e] at hlen; simp at hlen; omega
      rw [← List.cons_head_tail this]
      have h2 : s.data.toList.head this = s[0] := by rw [List.head_eq_getElem]; rfl
      rw [h2]; rfl
    by_cases h1 : 12 ≤ s[0].toNat
    · have R : readI s.data.toList = none := by rw [hcons]; simp only [readI]; rw [if_pos h1]
      rw [R]
      exact readIns_big s w hp h1
    · have hc := hs.2 (s[0].toNat) (by omega) (by omega)
      rw [← nrN_eq, ← kbN_eq, Int.toNat_natCast] at hc
      obtain ⟨c0, c1, c2⟩ := hc
      by_cases h2 : s.size < 1 + nrN s[0].toNat + kbN s[0].toNat
      · have R : readI s.data.toList = none := by rw [hcons]; simp only [readI]; rw [if_neg h1, ← hcons, hlen, if_pos h2]
        rw [R]
        exact readIns_short s _ _ w hp (by omega) hs.1 (nrN_le _) (kbN_le _) c2 h2
      · have R : readI s.data.toList = some (⟨s[0].toNat, regL s.data.toList (nrN s[0].toNat) 0, regL s.data.toList (nrN s[0].toNat) 1, regL s.data.toList (nrN s[0].toNat) 2, wrap64 (leNat ((s.data.toList.drop (1 + nrN s[0].toNat)).take (kbN s[0].toNat)))⟩, 1 + nrN s[0].toNat + kbN s[0].toNat) := by
          rw [hcons]; simp only [readI]; rw [if_neg h1, ← hcons, hlen, if_neg h2]
        rw [R]
        exact readIns_yes s _ _ w hp (by omega) hs.1 (nrN_le _) (kbN_le _) c0 c1 c2 (by omega)
end Go.Proofs.YtamiichlbmllcaaGreatDoor
