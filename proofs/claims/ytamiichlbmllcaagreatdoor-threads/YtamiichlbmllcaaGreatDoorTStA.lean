import Derived.Test.YtamiichlbmllcaaGreatDoorTOrd
import Derived.Laws.MakeOwn
import Derived.Test.YtamiichlbmllcaaGreatDoorTRowF
import Derived.Deep.RegionLaw
import Derived.Deep.QuietTactic
import Derived.BigQuiet
import Derived.Deep.RegionHeld3
/-
  Rows of rows; lists that are made; tests of a type; what lies in old blocks.
-/
namespace Go.Proofs.YtamiichlbmllcaaGreatDoor
open Go.RowKit
/-- n rows of k cells, one behind the other -/
def rowsA (n k : Nat) (g : Nat → Array Value) : Array Value := Array.ofFn (n := n * k) fun j => (g (j.val / k)).getD (j.val % k) undef
theorem rows_size (n k : Nat) (g : Nat → Array Value) : (rowsA n k g).size = n * k := by unfold rowsA; simp
theorem rows_get {n k : Nat} {g : Nat → Array Value} {j : Nat} (h : j < n * k) : (rowsA n k g)[j]? = some ((g (j / k)).getD (j % k) undef) := by
  unfold rowsA
  rw [Array.getElem?_ofFn, dif_pos h]
theorem rows_at {n k : Nat} {g : Nat → Array Value} {i q : Nat} (hi : i < n) (hq : q < k) (hg : (g i).size = k) : (rowsA n k g)[i * k + q]? = (g i)[q]? := by
  have h : i * k + q < n * k := by
    have : (i + 1) * k ≤ n * k := Nat.mul_le_mul_right k hi
    rw [Nat.add_mul, Nat.one_mul] at this
    omega
  have hk : 0 < k := by omega
  have e1 : (i * k + q) / k = i := by
    rw [Nat.add_comm, Nat.add_mul_div_right _ _ hk, Nat.div_eq_of_lt hq, Nat.zero_add]
  have e2 : (i * k + q) % k = q := by
    rw [Nat.add_comm, Nat.add_mul_mod_self_right, Nat.mod_eq_of_lt hq]
  rw [rows_get h, e1, e2, Array.getD_eq_getD_getElem?, Array.getElem?_eq_getElem (by omega)]
  rfl
theorem rows_ex {n k : Nat} {g : Nat → Array Value} {i : Nat} (hi : i < n) (hg : (g i).size = k) : (rowsA n k g).extract (i * k) (i * k + k) = g i := by
  have hn : i * k + k ≤ n * k := by
    have : (i + 1) * k ≤ n * k := Nat.mul_le_mul_right k hi
    rwa [Nat.add_mul, Nat.one_mul] at this
  apply Array.ext_getElem?
  intro q
  by_cases hq : q < k
  · rw [Array.getElem?_extract, if_pos (by rw [rows_size]; omega)]
    exact rows_at hi hq hg
  · rw [Array.getElem?_eq_none (by rw [Array.size_extract, rows_size]; omega), Array.getElem?_eq_none (by omega)]
theorem rows_put {n k : Nat} {g : Nat → Array Value} {i : Nat} {c : Array Value} (hc : c.size = k) : putA (rowsA n k g) (i * k) c.toList = rowsA n k (fun j => if j = i then c else g j) := by
  apply Array.ext_getElem?
  intro q
  by_cases hq : q < n * k
  · have hk : 0 < k := by
      rcases Nat.eq_zero_or_pos k with h | h
      · subst h; simp at hq
      · exact h
    rw [putA_get _ _ _ _ (by rw [rows_size]; exact hq), rows_get (g := fun j => if j = i then c else g j) hq]
    by_cases h1 : i * k ≤ q ∧ q < i * k + c.toList.length
    · have e1 : q / k = i := by
        rw [Nat.div_eq_iff hk]
        simp only [Array.length_toList, hc] at h1
        omega
      have e2 : q % k = q - i * k := by
        have := Nat.mod_add_div q k
        rw [e1, Nat.mul_comm] at this
        omega
      rw [if_pos h1, e1, e2]
      simp only [if_true]
      simp only [Array.length_toList] at h1
      rw [Array.getD_eq_getD_getElem?, Array.getElem?_toList, Array.getElem?_eq_getElem (by omega)]
      rfl
    · have e1 : q / k ≠ i := by
        intro e
        apply h1
        rw [Nat.div_eq_iff hk] at e
        simp only [Array.length_toList, hc]
        omega
      rw [if_neg h1, rows_get hq, if_neg e1]
  · rw [Array.getElem?_eq_none (by rw [putA_size, rows_size]; omega), Array.getElem?_eq_none (by rw [rows_size]; omega)]
theorem rows_congr {n k : Nat} {g h : Nat → Array Value} (e : ∀ i, i < n → g i = h i) : rowsA n k g = rowsA n k h := by
  apply Array.ext_getElem?
  intro q
  by_cases hq : q < n * k
  · have hk : 0 < k := by
      rcases Nat.eq_zero_or_pos k with h | h
      · subst h; simp at hq
      · exact h
    rw [rows_get hq, rows_get hq, e _ (Nat.div_lt_of_lt_mul (by rw [Nat.mul_comm]; exact hq))]
  · rw [Array.getElem?_eq_none (by rw [rows_size]; omega), Array.getElem?_eq_none (by rw [rows_size]; omega)]
theorem made_rows (n k : Nat) (z : Array Value) (hz : z.size = k) : madeCells z (n * k) = rowsA n k (fun _ => z) := by
  apply Array.ext_getElem?
  intro q
  unfold madeCells
  by_cases hq : q < n * k
  · rw [rows_get hq]
    have hk : 0 < k := by
      rcases Nat.eq_zero_or_pos k with h | h
      · subst h; simp at hq
      · exact h
    have hlt : q % k < z.size := by rw [hz]; exact Nat.mod_lt _ hk
    have e : z[q % k]! = z.getD (q % k) undef := by rw [getElem!_pos z _ hlt, Array.getD_eq_getD_getElem?, Array.getElem?_eq_getElem hlt]; rfl
    rw [Array.getElem?_map, Array.getElem?_eq_getElem (by simpa using hq), Array.getElem_range, Option.map_some, hz, e]
  · rw [Array.getElem?_eq_none (xs := rowsA n k fun _ => z) (by rw [rows_size]; omega), Array.getElem?_eq_none (by simp; omega)]
/-- a type of lists that can be made -/
structure MkT (P : Program) (ty e : TypeId) (k by_ : Nat) (z : Array Value) : Prop where
  hu : P.underlying ty = some (.slice e)
  ex : ∃ zv, (P.info? e).map (fun i => (i.zero, i.size, i.bytes)) = some (some zv, k, by_) ∧ zv.cells = z ∧ z.size = k
/-- a type that is asked for: no interface, and its zero -/
structure AsT (P : Program) (ty : TypeId) (z : Value) : Prop where
  ex : ∃ d, P.underlying ty = some d ∧ ∀ m, d ≠ .interface m
  hz : (P.info? ty).map (·.zero) = some (some z)
section laws
variable {P : Program} {d : Option Tmp} {tt : TypeId} {pos : String} {aft : Array Edge} {g : Option (Nat × Bool)} {a : Act} {w : World} {K : Act → World → Prop} {Q : Exit → Act → World → Prop} {M : List Nat} {w0 : World} {L : RowL} {ty e t : TypeId} {x y : Operand} {A z cs : Array Value} {b j n k by_ : Nat} {v zv : Value}
/-- make([]T, n) -/
theorem oMake (hx : a.eval x = .int .i64 n) (hy : a.eval y = .int .i64 n) (hk : Kn M w0 w L) (hT : MkT P ty e k by_ z) (hb : (by_ : Int) * n ≤ 281474976710656) (hn : (n : Int) ≤ 9223372036854775807)
    (h : ∀ w1, Kn M w0 w1 ((w.heap.size, rowsA n k (fun _ => z), e) :: L) → K (a.put d (.slice (some ⟨w.heap.size, 0, none⟩) n n)) w1) : Oper.wp P ⟨d, .makeSlice ty x y, tt, pos, aft, g⟩ a w K Q := by
  have hu := hT.hu
  obtain ⟨zv, hin, hc, hzs⟩ := hT.ex
  obtain ⟨i, hi, hz, hs, hby⟩ : ∃ i, P.info? e = some i ∧ i.zero = some zv ∧ i.size = k ∧ i.bytes = by_ := by
    cases hq : P.info? e with
    | none => rw [hq] at hin; simp at hin
    | some i => rw [hq] at hin; simp at hin; exact ⟨i, rfl, hin.1, hin.2.1, hin.2.2⟩
  have h1 := h (w.alloc (.cells (rowsA n k (fun _ => z)) e)) (hk.alloc _ e)
  have hr := run_make (P := P) w ty e i zv hu hi hz .i64 .i64 (n : Int) (n : Int) (by omega) (Int.le_refl _) (by rw [hby]; exact hb) hn
  rw [hc, hs, Int.toNat_natCast, made_rows n k z hzs] at hr
  unfold Oper.wp execOp
  simp only [hx, hy, Sem.run_bind, Sem.run_pure, Result.andThen_ok, hr]
  exact h1
/-- the type is the one that is asked for -/
theorem oAssertY (hx : a.eval x = .iface ty v) (hT : AsT P ty zv) (h : K (a.put d (.tuple #[v, .bool true])) w) : Oper.wp P ⟨d, .typeAssert x e ty true, tt, pos, aft, g⟩ a w K Q := by
  obtain ⟨dd, hu, hni⟩ := hT.ex
  unfold Oper.wp execOp
  simp only [hx, Instr.typeAssert, Sem.run_bind, run_underlying hu w, Result.andThen_ok]
  cases dd with
  | interface m => exact absurd rfl (hni m)
  | _ => simpa [Oper.upon] using h
theorem oAssertN (hx : a.eval x = .iface t v) (hne : t ≠ ty) (hT : AsT P ty zv) (h : K (a.put d (.tuple #[zv, .bool false])) w) : Oper.wp P ⟨d, .typeAssert x e ty true, tt, pos, aft, g⟩ a w K Q := by
  obtain ⟨dd, hu, hni⟩ := hT.ex
  have hzz := hT.hz
  obtain ⟨i, hi, hz⟩ : ∃ i, P.info? ty = some i ∧ i.zero = some zv := by
    cases hq : P.info? ty with
    | none => rw [hq] at hzz; simp at hzz
    | some i => rw [hq] at hzz; simp at hzz; exact ⟨i, rfl, hzz⟩
  unfold Oper.wp execOp
  simp only [hx, Instr.typeAssert, Sem.run_bind, run_underlying hu w, Result.andThen_ok]
  cases dd with
  | interface m => exact absurd rfl (hni m)
  | _ => simpa [Oper.upon, hne, zeroValue, typeInfo, hi, hz] using h
theorem old_at (hk : Kn M w0 w L) (hat : At w0 b A t) (hM : b ∉ M) : At w b A t := hat.of (hk.mod.block b hat.lt hM)
theorem oOldR (hx : a.eval x = .pointer (some ⟨b, j, none⟩)) (hk : Kn M w0 w L) (hat : At w0 b A t) (hM : b ∉ M) (hT : RowT P ty n) (hc : A.extract j (j + n) = cs) (hn : cs.size = n) (h : K (a.put d (.agg cs)) w) : Oper.wp P ⟨d, .load ty x, tt, pos, aft, g⟩ a w K Q := by
  unfold Oper.wp execOp
  simp only [hx, Sem.run_bind, Sem.run_pure, Result.andThen_ok, run_loadA (old_at hk hat hM) hT hc hn]
  exact h
theorem oOld1 (hx : a.eval x = .pointer (some ⟨b, j, none⟩)) (hk : Kn M w0 w L) (hat : At w0 b A t) (hM : b ∉ M) (hT : OneT P ty) (hv : A[j]? = some v) (h : K (a.put d v) w) : Oper.wp P ⟨d, .load ty x, tt, pos, aft, g⟩ a w K Q := by
  unfold Oper.wp execOp
  simp only [hx, Sem.run_bind, Sem.run_pure, Result.andThen_ok, run_loadC (by rw [(old_at hk hat hM).cell]; exact hv) hT]
  exact h
end laws
section still
variable {P : Program} {l : List Oper} {Q : Exit → Act → World → Prop} {F : Nat → Bool} {r : OT} {a : Act} {w : World} {i : Nat} {d : Option Tmp} {tt : TypeId} {pos : String} {aft : Array Edge} {g : Option (Nat × Bool)} {M : List Nat} {w0 : World} {L : RowL} {ty t : TypeId} {x : Operand} {A cs : Array Value} {b j n : Nat} {v : Value}
theorem tOldR (ho : nthO i l = some ⟨d, .load ty x, tt, pos, aft, g⟩) (hw : Region.wanted ⟨d, .load ty x, tt, pos, aft, g⟩ (yielded l.toArray a.tmps) = true) (hS : Kn M w0 w L) (hx : a.eval x = .pointer (some ⟨b, j, none⟩)) (hat : At w0 b A t) (hM : b ∉ M) (hT : RowT P ty n) (hc : A.extract j (j + n) = cs) (hn : cs.size = n)
    (h : wpT P l Q F (fun wx => Kn M w0 wx L) r (a.put d (.agg cs)) w) : wpT P l Q F (fun wx => Kn M w0 wx L) (.op i r) a w :=
  tStill ho rfl hw hS (fun wx hk => by unfold execOp; simp only [hx, Sem.run_bind, Sem.run_pure, Result.andThen_ok, run_loadA (old_at hk hat hM) hT hc hn]) h
theorem tOld1 (ho : nthO i l = some ⟨d, .load ty x, tt, pos, aft, g⟩) (hw : Region.wanted ⟨d, .load ty x, tt, pos, aft, g⟩ (yielded l.toArray a.tmps) = true) (hS : Kn M w0 w L) (hx : a.eval x = .pointer (some ⟨b, j, none⟩)) (hat : At w0 b A t) (hM : b ∉ M) (hT : OneT P ty) (hv : A[j]? = some v)
    (h : wpT P l Q F (fun wx => Kn M w0 wx L) r (a.put d v) w) : wpT P l Q F (fun wx => Kn M w0 wx L) (.op i r) a w :=
  tStill ho rfl hw hS (fun wx hk => by unfold execOp; simp only [hx, Sem.run_bind, Sem.run_pure, Result.andThen_ok, run_loadC (by rw [(old_at hk hat hM).cell]; exact hv) hT]) h
end still
end Go.Proofs.YtamiichlbmllcaaGreatDoor
/-
  Ranges and states: contracts of the leaves of package ranges.
-/
namespace Go.Proofs.YtamiichlbmllcaaGreatDoor
open Go.RowKit
structure R2 where
  lo : Int
  hi : Int
def R2.val (r : R2) : Value := .agg #[.int .i64 r.lo, .int .i64 r.hi]
def allR : R2 := ⟨-9223372036854775808, 9223372036854775807⟩
def comR (r o : R2) : R2 := ⟨max r.lo o.lo, min r.hi o.hi⟩
def inRg (r o : R2) : Bool := decide (o.lo ≤ r.lo) && decide (r.hi ≤ o.hi)
theorem belA1 (w : World) (o : Obj) : Below w.heap.size w (w.alloc o) := (Below.refl _ _).alloc (Nat.le_refl _) o
set_option maxHeartbeats 1600000 in
theorem isEmpty_any (r : R2) (w : World) :
    Calls Tryz.prog 100 #[r.val] w fun e w' => e = .returned (.bool (decide (r.hi < r.lo))) ∧ Below w.heap.size w w' := by
  unfold R2.val
  go_enter Tryz.func100, Tryz.ntmps100
  go_wp2
  go_ret
  exact ⟨rfl, belA1 _ _⟩
set_option maxHeartbeats 1600000 in
theorem has_any (r : R2) (n : Int) (w : World) :
    Calls Tryz.prog 75 #[r.val, .int .i64 n] w fun e w' => e = .returned (.bool (decide (r.lo ≤ n ∧ n ≤ r.hi))) ∧ Below w.heap.size w w' := by
  unfold R2.val
  by_cases h0 : r.lo ≤ n <;> by_cases h1 : n ≤ r.hi
  all_goals
    go_enter Tryz.func75, Tryz.ntmps75
    go_wp2
    go_ret
    exact ⟨by simp [h0, h1], belA1 _ _⟩
theorem ret_r2 {a b c d : Int} (h : a = c) (k : b = d) : (Value.agg #[.int .i64 a, .int .i64 b]) = .agg #[.int .i64 c, .int .i64 d] := by rw [h, k]
set_option maxHeartbeats 4000000 in
theorem common_any (r o : R2) (w : World) :
    Calls Tryz.prog 153 #[r.val, o.val] w fun e w' => e = .returned (comR r o).val ∧ Below w.heap.size w w' := by
  unfold R2.val
  obtain ⟨r0, r1⟩ := r
  obtain ⟨o0, o1⟩ := o
  simp only
  go_enter Tryz.func153, Tryz.ntmps153
  go_wp2
  all_goals exact bodyPost_ret (v := (comR ⟨r0, r1⟩ ⟨o0, o1⟩).val) (by simp [results, Tryz.results153, go_sem, comR, R2.val]; omega) rfl ⟨rfl, ((belA1 _ _).alloc (by simp) _).alloc (by simp; omega) _⟩
theorem comR_eq (r o : R2) : ((comR r o).lo == r.lo && (comR r o).hi == r.hi) = inRg r o := by
  unfold comR inRg
  simp only
  by_cases h1 : o.lo ≤ r.lo <;> by_cases h2 : r.hi ≤ o.hi <;> simp [h1, h2] <;> omega
set_option maxHeartbeats 4000000 in
theorem liesIn_any (r o : R2) (w : World) :
    Calls Tryz.prog 152 #[r.val, o.val] w fun e w' => e = .returned (.bool (inRg r o)) ∧ Below w.heap.size w w' := by
  have HE := hide (comR_eq r o)
  have HC : Hid (∀ wx, Calls Tryz.prog 153 #[.agg #[.int .i64 r.lo, .int .i64 r.hi], .agg #[.int .i64 o.lo, .int .i64 o.hi]] wx fun e w' => e = .returned (.agg #[.int .i64 (comR r o).lo, .int .i64 (comR r o).hi]) ∧ Below wx.heap.size wx w') := hide (fun wx => common_any r o wx)
  generalize hB : inRg r o = B at HE
  generalize comR r o = C at HE HC
  unfold R2.val
  clear hB
  have HB0 := hide (((belA1 w (.cells #[.int .i64 r.lo, .int .i64 r.hi] 28)).alloc (by simp) (.cells #[.int .i64 o.lo, .int .i64 o.hi] 28)).drew)
  have HX : Hid (∀ w2, Below ((w.alloc (.cells #[.int .i64 r.lo, .int .i64 r.hi] 28)).alloc (.cells #[.int .i64 o.lo, .int .i64 o.hi] 28)).drew.heap.size ((w.alloc (.cells #[.int .i64 r.lo, .int .i64 r.hi] 28)).alloc (.cells #[.int .i64 o.lo, .int .i64 o.hi] 28)).drew w2 → w2.cell? ⟨w.heap.size, 0, none⟩ = some (.int .i64 r.lo) ∧ w2.cell? ⟨w.heap.size, 1, none⟩ = some (.int .i64 r.hi) ∧ w2.cell? ⟨w.heap.size + 1, 0, none⟩ = some (.int .i64 o.lo) ∧ w2.cell? ⟨w.heap.size + 1, 1, none⟩ = some (.int .i64 o.hi)) := hide (fun w2 hb => by
    rw [hb.cell (p := ⟨w.heap.size, 0, none⟩) (by simp; omega), hb.cell (p := ⟨w.heap.size, 1, none⟩) (by simp; omega), hb.cell (p := ⟨w.heap.size + 1, 0, none⟩) (by simp), hb.cell (p := ⟨w.heap.size + 1, 1, none⟩) (by simp)]
    simp [go_sem])
  cases h1 : (C.lo == r.lo) <;> cases h2 : (C.hi == r.hi)
  all_goals
    rw [h1, h2] at HE
    go_enter Tryz.func152, Tryz.ntmps152
    go_wp2_with fail
    go_region_held3 (fun w' => w'.cell? ⟨w.heap.size, 0, none⟩ = some (.int .i64 r.lo) ∧ w'.cell? ⟨w.heap.size, 1, none⟩ = some (.int .i64 r.hi) ∧ w'.cell? ⟨w.heap.size + 1, 0, none⟩ = some (.int .i64 o.lo) ∧ w'.cell? ⟨w.heap.size + 1, 1, none⟩ = some (.int .i64 o.hi)) (go_keep) (first
      | (go_at_call 153; refine (HC.out _).mono ?_; rintro e w2 ⟨rfl, hb2⟩; obtain ⟨z0, z1, z2, z3⟩ := HX.out w2 hb2; have HB2 := hide (HB0.out.trans (hb2.mono HB0.out.size)); clear hb2))
    go_wp2
    go_ret
    exact ⟨ret_bool HE.out, HB2.out⟩
end Go.Proofs.YtamiichlbmllcaaGreatDoor
/-
  States: contracts of ranges.IsState, stateLiesIn, With, (ranges.Place).LiesIn.
-/
namespace Go.Proofs.YtamiichlbmllcaaGreatDoor
open Go.RowKit
def stC (s : Nat → R2) : Array Value := #[.int .i64 (s 0).lo, .int .i64 (s 0).hi, .int .i64 (s 1).lo, .int .i64 (s 1).hi, .int .i64 (s 2).lo, .int .i64 (s 2).hi, .int .i64 (s 3).lo, .int .i64 (s 3).hi, .int .i64 (s 4).lo, .int .i64 (s 4).hi, .int .i64 (s 5).lo, .int .i64 (s 5).hi, .int .i64 (s 6).lo, .int .i64 (s 6).hi, .int .i64 (s 7).lo, .int .i64 (s 7).hi]
theorem idx_st (s : Nat → R2) (n : Nat) (hn : n < 8) (w : World) : (Instr.index 30 (.agg (stC s)) (.int .i64 n)).run Tryz.prog w = .ok (.agg #[.int .i64 (s n).lo, .int .i64 (s n).hi]) w := by
  match n, hn with
  | 0, _ => exact (show (Instr.index 30 (.agg (stC s)) (.int .i64 0)).run Tryz.prog w = .ok (.agg #[.int .i64 (s 0).lo, .int .i64 (s 0).hi]) w by kernel_rfl)
  | 1, _ => exact (show (Instr.index 30 (.agg (stC s)) (.int .i64 1)).run Tryz.prog w = .ok (.agg #[.int .i64 (s 1).lo, .int .i64 (s 1).hi]) w by kernel_rfl)
  | 2, _ => exact (show (Instr.index 30 (.agg (stC s)) (.int .i64 2)).run Tryz.prog w = .ok (.agg #[.int .i64 (s 2).lo, .int .i64 (s 2).hi]) w by kernel_rfl)
  | 3, _ => exact (show (Instr.index 30 (.agg (stC s)) (.int .i64 3)).run Tryz.prog w = .ok (.agg #[.int .i64 (s 3).lo, .int .i64 (s 3).hi]) w by kernel_rfl)
  | 4, _ => exact (show (Instr.index 30 (.agg (stC s)) (.int .i64 4)).run Tryz.prog w = .ok (.agg #[.int .i64 (s 4).lo, .int .i64 (s 4).hi]) w by kernel_rfl)
  | 5, _ => exact (show (Instr.index 30 (.agg (stC s)) (.int .i64 5)).run Tryz.prog w = .ok (.agg #[.int .i64 (s 5).lo, .int .i64 (s 5).hi]) w by kernel_rfl)
  | 6, _ => exact (show (Instr.index 30 (.agg (stC s)) (.int .i64 6)).run Tryz.prog w = .ok (.agg #[.int .i64 (s 6).lo, .int .i64 (s 6).hi]) w by kernel_rfl)
  | 7, _ => exact (show (Instr.index 30 (.agg (stC s)) (.int .i64 7)).run Tryz.prog w = .ok (.agg #[.int .i64 (s 7).lo, .int .i64 (s 7).hi]) w by kernel_rfl)
  | n + 8, h => omega
def isStR (s : Nat → R2) : Bool := (List.range 8).all fun i => decide ((s i).lo ≤ (s i).hi)
theorem isStR_yes {s : Nat → R2} (h : ∀ i, i < 8 → (s i).lo ≤ (s i).hi) : isStR s = true := by
  unfold isStR; rw [List.all_eq_true]; intro i hi; simpa using h i (List.mem_range.1 hi)
theorem isStR_no {s : Nat → R2} {n : Nat} (hn : n < 8) (h : (s n).hi < (s n).lo) : isStR s = false := by
  unfold isStR; rw [List.all_eq_false]; exact ⟨n, List.mem_range.2 hn, by simpa using h⟩
theorem isStR_at {s : Nat → R2} (h : isStR s = true) (i : Nat) (hi : i < 8) : (s i).lo ≤ (s i).hi := by
  unfold isStR at h; rw [List.all_eq_true] at h; simpa using h i (List.mem_range.2 hi)
set_option maxHeartbeats 4000000 in
set_option maxRecDepth 100000 in
theorem isState_any (s : Nat → R2) (w : World) : Calls Tryz.prog 62 #[.agg (stC s)] w fun e w' => e = .returned (.bool (isStR s)) ∧ Below w.heap.size w w' := by
  have HI := hide (idx_st s)
  have HST : Hid (stC s = #[.int .i64 (s 0).lo, .int .i64 (s 0).hi, .int .i64 (s 1).lo, .int .i64 (s 1).hi, .int .i64 (s 2).lo, .int .i64 (s 2).hi, .int .i64 (s 3).lo, .int .i64 (s 3).hi, .int .i64 (s 4).lo, .int .i64 (s 4).hi, .int .i64 (s 5).lo, .int .i64 (s 5).hi, .int .i64 (s 6).lo, .int .i64 (s 6).hi, .int .i64 (s 7).lo, .int .i64 (s 7).hi]) := hide rfl
  rw [HST.out]
  go_enter Tryz.func62, Tryz.ntmps62
  go_wp2_with fail
  rw [← HST.out]
  have hb0 := belA1 w (.cells (stC s) 30)
  generalize w.alloc (.cells (stC s) 30) = w1 at *
  have hz1 := hb0.size
  go_loopw [6] (fun j wr => ∃ n : Nat, n ≤ 8 ∧ j = .int .i64 n ∧ (∀ i, i < n → (s i).lo ≤ (s i).hi) ∧ Below w.heap.size w wr) (fun j _ => 8 - (intOf j).toNat)
  case atStart => exact ⟨0, by omega, rfl, fun i hi => by omega, hb0⟩
  case round =>
    clear hb0
    obtain ⟨n, hn, rfl, hall, hbl⟩ := hrel
    have HA := hide hall
    have hzr := hbl.size
    clear hall
    by_cases hlt : n < 8
    · have hx := HI.out n hlt
      by_cases he : (s n).hi < (s n).lo
      · have HE : Hid (isStR s = false) := hide (isStR_no hlt he)
        have hd : decide ((s n).hi < (s n).lo) = true := by simpa using he
        clear he
        go_wp2_with (go_at_call 100; refine (isEmpty_any (s n) _).mono ?_; rintro e w2 ⟨rfl, hb2⟩; rw [hd]; have HB := hide ((hbl.alloc hzr _).trans (hb2.mono (by simp; omega))); clear hb2)
        go_ret
        exact ⟨ret_bool HE.out.symm, HB.out⟩
      · have hle : (s n).lo ≤ (s n).hi := by omega
        have hd : decide ((s n).hi < (s n).lo) = false := by simpa using hle
        have HLE := hide hle
        clear he hle
        go_wp2_with (go_at_call 100; refine (isEmpty_any (s n) _).mono ?_; rintro e w2 ⟨rfl, hb2⟩; rw [hd]; have HB := hide ((hbl.alloc hzr _).trans (hb2.mono (by simp; omega))); clear hb2)
        go_roundw
        case rel => exact ⟨n + 1, by omega, by go_num, fun i hi => by rcases Nat.lt_succ_iff_lt_or_eq.1 hi with h | h; exact HA.out i h; subst h; exact HLE.out, HB.out⟩
        case measure => simp [intOf]; omega
    · have HE : Hid (isStR s = true) := hide (isStR_yes fun i hi => HA.out i (by omega))
      go_wp2
      go_ret
      exact ⟨ret_bool HE.out.symm, hbl⟩
end Go.Proofs.YtamiichlbmllcaaGreatDoor
