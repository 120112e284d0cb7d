/-
  Rows of rows; lists that are made; tests of a type; what lies in old blocks.
-/
import Derived.Test.YtamiichlbmllcaaGreatDoorOrd
import Derived.Laws.MakeOwn
namespace Go.Proofs.YtamiichlbmllcaaGreatDoor
open Go.RowKit
/-- n rows of k cells, one behind the other -/
def rowsA (n k : Nat) (g : Nat → Array Value) : Array Value := Array.ofFn (n := n * k) fun j => (g (j.val / k)).getD (j.val % k) undef
theorem rows_size (n k : Nat) (g : Nat → Array Value) : (rowsA n k g).size = n * k := by unfold rowsA; simp
theorem rows_get {n k : Nat} {g : Nat → Array Value} {j : Nat} (h : j < n * k) : (rowsA n k g)[j]? = some ((g (j / k)).getD (j % k) undef) := by
  unfold rowsA
  rw [Array.getElem?_ofFn, dif_pos h]
theorem rows_at {n k : Nat} {g : Nat → Array Value} {i q : Nat} (hi : i < n) (hq : q < k) (hg : (g i).size = k) : (rowsA n k g)[i * k + q]? = (g i)[q]? := by
  have h : i * k + q < n * k := by
    have : (i + 1) * k ≤ n * k := Nat.mul_le_mul_right k hi
    rw [Nat.add_mul, Nat.one_mul] at this
    omega
  have hk : 0 < k := by omega
  have e1 : (i * k + q) / k = i := by
    rw [Nat.add_comm, Nat.add_mul_div_right _ _ hk, Nat.div_eq_of_lt hq, Nat.zero_add]
  have e2 : (i * k + q) % k = q := by
    rw [Nat.add_comm, Nat.add_mul_mod_self_right, Nat.mod_eq_of_lt hq]
  rw [rows_get h, e1, e2, Array.getD_eq_getD_getElem?, Array.getElem?_eq_getElem (by omega)]
  rfl
theorem rows_ex {n k : Nat} {g : Nat → Array Value} {i : Nat} (hi : i < n) (hg : (g i).size = k) : (rowsA n k g).extract (i * k) (i * k + k) = g i := by
  have hn : i * k + k ≤ n * k := by
    have : (i + 1) * k ≤ n * k := Nat.mul_le_mul_right k hi
    rwa [Nat.add_mul, Nat.one_mul] at this
  apply Array.ext_getElem?
  intro q
  by_cases hq : q < k
  · rw [Array.getElem?_extract, if_pos (by rw [rows_size]; omega)]
    exact rows_at hi hq hg
  · rw [Array.getElem?_eq_none (by rw [Array.size_extract, rows_size]; omega), Array.getElem?_eq_none (by omega)]
theorem rows_put {n k : Nat} {g : Nat → Array Value} {i : Nat} {c : Array Value} (hc : c.size = k) : putA (rowsA n k g) (i * k) c.toList = rowsA n k (fun j => if j = i then c else g j) := by
  apply Array.ext_getElem?
  intro q
  by_cases hq : q < n * k
  · have hk : 0 < k := by
      rcases Nat.eq_zero_or_pos k with h | h
      · subst h; simp at hq
      · exact h
    rw [putA_get _ _ _ _ (by rw [rows_size]; exact hq), rows_get (g := fun j => if j = i then c else g j) hq]
    by_cases h1 : i * k ≤ q ∧ q < i * k + c.toList.length
    · have e1 : q / k = i := by
        rw [Nat.div_eq_iff hk]
        simp only [Array.length_toList, hc] at h1
        omega
      have e2 : q % k = q - i * k := by
        have := Nat.mod_add_div q k
        rw [e1, Nat.mul_comm] at this
        omega
      rw [if_pos h1, e1, e2]
      simp only [if_true]
      simp only [Array.length_toList] at h1
      rw [Array.getD_eq_getD_getElem?, Array.getElem?_toList, Array.getElem?_eq_getElem (by omega)]
      rfl
    · have e1 : q / k ≠ i := by
        intro e
        apply h1
        rw [Nat.div_eq_iff hk] at e
        simp only [Array.length_toList, hc]
        omega
      rw [if_neg h1, rows_get hq, if_neg e1]
  · rw [Array.getElem?_eq_none (by rw [putA_size, rows_size]; omega), Array.getElem?_eq_none (by rw [rows_size]; omega)]
theorem rows_congr {n k : Nat} {g h : Nat → Array Value} (e : ∀ i, i < n → g i = h i) : rowsA n k g = rowsA n k h := by
  apply Array.ext_getElem?
  intro q
  by_cases hq : q < n * k
  · have hk : 0 < k := by
      rcases Nat.eq_zero_or_pos k with h | h
      · subst h; simp at hq
      · exact h
    rw [rows_get hq, rows_get hq, e _ (Nat.div_lt_of_lt_mul (by rw [Nat.mul_comm]; exact hq))]
  · rw [Array.getElem?_eq_none (by rw [rows_size]; omega), Array.getElem?_eq_none (by rw [rows_size]; omega)]
theorem made_rows (n k : Nat) (z : Array Value) (hz : z.size = k) : madeCells z (n * k) = rowsA n k (fun _ => z) := by
  apply Array.ext_getElem?
  intro q
  unfold madeCells
  by_cases hq : q < n * k
  · rw [rows_get hq]
    have hk : 0 < k := by
      rcases Nat.eq_zero_or_pos k with h | h
      · subst h; simp at hq
      · exact h
    have hlt : q % k < z.size := by rw [hz]; exact Nat.mod_lt _ hk
    have e : z[q % k]! = z.getD (q % k) undef := by rw [getElem!_pos z _ hlt, Array.getD_eq_getD_getElem?, Array.getElem?_eq_getElem hlt]; rfl
    rw [Array.getElem?_map, Array.getElem?_eq_getElem (by simpa using hq), Array.getElem_range, Option.map_some, hz, e]
  · rw [Array.getElem?_eq_none (xs := rowsA n k fun _ => z) (by rw [rows_size]; omega), Array.getElem?_eq_none (by simp; omega)]
/-- a type of lists that can be made -/
structure MkT (P : Program) (ty e : TypeId) (k by_ : Nat) (z : Array Value) : Prop where
  hu : P.underlying ty = some (.slice e)
  ex : ∃ zv, (P.info? e).map (fun i => (i.zero, i.size, i.bytes)) = some (some zv, k, by_) ∧ zv.cells = z ∧ z.size = k
/-- a type that is asked for: no interface, and its zero -/
structure AsT (P : Program) (ty : TypeId) (z : Value) : Prop where
  ex : ∃ d, P.underlying ty = some d ∧ ∀ m, d ≠ .interface m
  hz : (P.info? ty).map (·.zero) = some (some z)
section laws
variable {P : Program} {d : Option Tmp} {tt : TypeId} {pos : String} {aft : Array Edge} {g : Option (Nat × Bool)} {a : Act} {w : World} {K : Act → World → Prop} {Q : Exit → Act → World → Prop} {M : List Nat} {w0 : World} {L : RowL} {ty e t : TypeId} {x y : Operand} {A z cs : Array Value} {b j n k by_ : Nat} {v zv : Value}
/-- make([]T, n) -/
theorem oMake (hx : a.eval x = .int .i64 n) (hy : a.eval y = .int .i64 n) (hk : Kn M w0 w L) (hT : MkT P ty e k by_ z) (hb : (by_ : Int) * n ≤ 281474976710656) (hn : (n : Int) ≤ 9223372036854775807)
    (h : ∀ w1, Kn M w0 w1 ((w.heap.size, rowsA n k (fun _ => z), e) :: L) → K (a.put d (.slice (some ⟨w.heap.size, 0, none⟩) n n)) w1) : Oper.wp P ⟨d, .makeSlice ty x y, tt, pos, aft, g⟩ a w K Q := by
  have hu := hT.hu
  obtain ⟨zv, hin, hc, hzs⟩ := hT.ex
  obtain ⟨i, hi, hz, hs, hby⟩ : ∃ i, P.info? e = some i ∧ i.zero = some zv ∧ i.size = k ∧ i.bytes = by_ := by
    cases hq : P.info? e with
    | none => rw [hq] at hin; simp at hin
    | some i => rw [hq] at hin; simp at hin; exact ⟨i, rfl, hin.1, hin.2.1, hin.2.2⟩
  have h1 := h (w.alloc (.cells (rowsA n k (fun _ => z)) e)) (hk.alloc _ e)
  have hr := run_make (P := P) w ty e i zv hu hi hz .i64 .i64 (n : Int) (n : Int) (by omega) (Int.le_refl _) (by rw [hby]; exact hb) hn
  rw [hc, hs, Int.toNat_natCast, made_rows n k z hzs] at hr
  unfold Oper.wp execOp
  simp only [hx, hy, Sem.run_bind, Sem.run_pure, Result.andThen_ok, hr]
  exact h1
/-- the type is the one that is asked for -/
theorem oAssertY (hx : a.eval x = .iface ty v) (hT : AsT P ty zv) (h : K (a.put d (.tuple #[v, .bool true])) w) : Oper.wp P ⟨d, .typeAssert x e ty true, tt, pos, aft, g⟩ a w K Q := by
  obtain ⟨dd, hu, hni⟩ := hT.ex
  unfold Oper.wp execOp
  simp only [hx, Instr.typeAssert, Sem.run_bind, run_underlying hu w, Result.andThen_ok]
  cases dd with
  | interface m => exact absurd rfl (hni m)
  | _ => simpa [Oper.upon] using h
theorem oAssertN (hx : a.eval x = .iface t v) (hne : t ≠ ty) (hT : AsT P ty zv) (h : K (a.put d (.tuple #[zv, .bool false])) w) : Oper.wp P ⟨d, .typeAssert x e ty true, tt, pos, aft, g⟩ a w K Q := by
  obtain ⟨dd, hu, hni⟩ := hT.ex
  have hzz := hT.hz
  obtain ⟨i, hi, hz⟩ : ∃ i, P.info? ty = some i ∧ i.zero = some zv := by
    cases hq : P.info? ty with
    | none => rw [hq] at hzz; simp at hzz
    | some i => rw [hq] at hzz; simp at hzz; exact ⟨i, rfl, hzz⟩
  unfold Oper.wp execOp
  simp only [hx, Instr.typeAssert, Sem.run_bind, run_underlying hu w, Result.andThen_ok]
  cases dd with
  | interface m => exact absurd rfl (hni m)
  | _ => simpa [Oper.upon, hne, zeroValue, typeInfo, hi, hz] using h
theorem old_at (hk : Kn M w0 w L) (hat : At w0 b A t) (hM : b ∉ M) : At w b A t := hat.of (hk.mod.block b hat.lt hM)
theorem oOldR (hx : a.eval x = .pointer (some ⟨b, j, none⟩)) (hk : Kn M w0 w L) (hat : At w0 b A t) (hM : b ∉ M) (hT : RowT P ty n) (hc : A.extract j (j + n) = cs) (hn : cs.size = n) (h : K (a.put d (.agg cs)) w) : Oper.wp P ⟨d, .load ty x, tt, pos, aft, g⟩ a w K Q := by
  unfold Oper.wp execOp
  simp only [hx, Sem.run_bind, Sem.run_pure, Result.andThen_ok, run_loadA (old_at hk hat hM) hT hc hn]
  exact h
theorem oOld1 (hx : a.eval x = .pointer (some ⟨b, j, none⟩)) (hk : Kn M w0 w L) (hat : At w0 b A t) (hM : b ∉ M) (hT : OneT P ty) (hv : A[j]? = some v) (h : K (a.put d v) w) : Oper.wp P ⟨d, .load ty x, tt, pos, aft, g⟩ a w K Q := by
  unfold Oper.wp execOp
  simp only [hx, Sem.run_bind, Sem.run_pure, Result.andThen_ok, run_loadC (by rw [(old_at hk hat hM).cell]; exact hv) hT]
  exact h
end laws
section still
variable {P : Program} {l : List Oper} {Q : Exit → Act → World → Prop} {F : Nat → Bool} {r : OT} {a : Act} {w : World} {i : Nat} {d : Option Tmp} {tt : TypeId} {pos : String} {aft : Array Edge} {g : Option (Nat × Bool)} {M : List Nat} {w0 : World} {L : RowL} {ty t : TypeId} {x : Operand} {A cs : Array Value} {b j n : Nat} {v : Value}
theorem tOldR (ho : nthO i l = some ⟨d, .load ty x, tt, pos, aft, g⟩) (hw : Region.wanted ⟨d, .load ty x, tt, pos, aft, g⟩ (yielded l.toArray a.tmps) = true) (hS : Kn M w0 w L) (hx : a.eval x = .pointer (some ⟨b, j, none⟩)) (hat : At w0 b A t) (hM : b ∉ M) (hT : RowT P ty n) (hc : A.extract j (j + n) = cs) (hn : cs.size = n)
    (h : wpT P l Q F (fun wx => Kn M w0 wx L) r (a.put d (.agg cs)) w) : wpT P l Q F (fun wx => Kn M w0 wx L) (.op i r) a w :=
  tStill ho rfl hw hS (fun wx hk => by unfold execOp; simp only [hx, Sem.run_bind, Sem.run_pure, Result.andThen_ok, run_loadA (old_at hk hat hM) hT hc hn]) h
theorem tOld1 (ho : nthO i l = some ⟨d, .load ty x, tt, pos, aft, g⟩) (hw : Region.wanted ⟨d, .load ty x, tt, pos, aft, g⟩ (yielded l.toArray a.tmps) = true) (hS : Kn M w0 w L) (hx : a.eval x = .pointer (some ⟨b, j, none⟩)) (hat : At w0 b A t) (hM : b ∉ M) (hT : OneT P ty) (hv : A[j]? = some v)
    (h : wpT P l Q F (fun wx => Kn M w0 wx L) r (a.put d v) w) : wpT P l Q F (fun wx => Kn M w0 wx L) (.op i r) a w :=
  tStill ho rfl hw hS (fun wx hk => by unfold execOp; simp only [hx, Sem.run_bind, Sem.run_pure, Result.andThen_ok, run_loadC (by rw [(old_at hk hat hM).cell]; exact hv) hT]) h
end still
end Go.Proofs.YtamiichlbmllcaaGreatDoor
