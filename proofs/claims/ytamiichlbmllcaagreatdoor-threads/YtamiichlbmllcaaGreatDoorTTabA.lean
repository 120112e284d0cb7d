import Derived.Test.YtamiichlbmllcaaGreatDoorTStA
import Derived.Test.YtamiichlbmllcaaGreatDoorTRngE
/-
  The types of the program: their sizes, zeros, fields and elements, by tables.
-/
namespace Go.Proofs.YtamiichlbmllcaaGreatDoor
open Go.RowKit
/-- a place: whether it is reached, and its state -/
def plC (b : Bool) (s : Nat → R2) : Array Value := #[.bool b, .int .i64 (s 0).lo, .int .i64 (s 0).hi, .int .i64 (s 1).lo, .int .i64 (s 1).hi, .int .i64 (s 2).lo, .int .i64 (s 2).hi, .int .i64 (s 3).lo, .int .i64 (s 3).hi, .int .i64 (s 4).lo, .int .i64 (s 4).hi, .int .i64 (s 5).lo, .int .i64 (s 5).hi, .int .i64 (s 6).lo, .int .i64 (s 6).hi, .int .i64 (s 7).lo, .int .i64 (s 7).hi]
/-- a claim -/
def clC (a : Int) (s : Nat → R2) : Array Value := #[.int .i64 a, .int .i64 (s 0).lo, .int .i64 (s 0).hi, .int .i64 (s 1).lo, .int .i64 (s 1).hi, .int .i64 (s 2).lo, .int .i64 (s 2).hi, .int .i64 (s 3).lo, .int .i64 (s 3).hi, .int .i64 (s 4).lo, .int .i64 (s 4).hi, .int .i64 (s 5).lo, .int .i64 (s 5).hi, .int .i64 (s 6).lo, .int .i64 (s 6).hi, .int .i64 (s 7).lo, .int .i64 (s 7).hi]
def rgC (r : R2) : Array Value := #[.int .i64 r.lo, .int .i64 r.hi]
def zeroS : Nat → R2 := fun _ => ⟨0, 0⟩
def updS (s : Nat → R2) (a : Nat) (r : R2) : Nat → R2 := fun j => if j = a then r else s j
/-- the state of a place that may have one -/
def stO (o : Option (Nat → R2)) : Nat → R2 := o.getD zeroS
theorem mixT : Tryz.prog.follows .mixedOrders = true := by kernel_rfl
theorem lt8 {n : Nat} (h : n < 8) : n = 0 ∨ n = 1 ∨ n = 2 ∨ n = 3 ∨ n = 4 ∨ n = 5 ∨ n = 6 ∨ n = 7 := by omega
theorem ex_whole {A : Array Value} {n : Nat} (h : A.size = n) : A.extract 0 (0 + n) = A := by rw [Nat.zero_add, ← h]; exact Array.extract_size
theorem ex_plst (b : Bool) (s : Nat → R2) : (plC b s).extract 1 (1 + 16) = stC s := by kernel_rfl
theorem ex_clst (a : Int) (s : Nat → R2) : (clC a s).extract 1 (1 + 16) = stC s := by kernel_rfl
theorem ex_at (s : Nat → R2) (n : Nat) (h : n < 8) : (stC s).extract (n * 2) (n * 2 + 2) = rgC (s n) := by
  rcases lt8 h with rfl | rfl | rfl | rfl | rfl | rfl | rfl | rfl <;> kernel_rfl
theorem put_st (s : Nat → R2) (n : Nat) (r : R2) (h : n < 8) : putA (stC s) (n * 2) (rgC r).toList = stC (updS s n r) := by
  rcases lt8 h with rfl | rfl | rfl | rfl | rfl | rfl | rfl | rfl <;> kernel_rfl
/-- lists of places, of Bools -/
def plsA (n : Nat) (W : Nat → Option (Nat → R2)) : Array Value := rowsA n 17 fun i => plC (W i).isSome (stO (W i))
def bosA (n : Nat) (f : Nat → Bool) : Array Value := rowsA n 1 fun i => #[.bool (f i)]
def updW (W : Nat → Option (Nat → R2)) (i : Nat) (o : Option (Nat → R2)) : Nat → Option (Nat → R2) := fun j => if j = i then o else W j
def updB (f : Nat → Bool) (i : Nat) (b : Bool) : Nat → Bool := fun j => if j = i then b else f j
theorem plsA_size (n : Nat) (W : Nat → Option (Nat → R2)) : (plsA n W).size = n * 17 := rows_size _ _ _
theorem bosA_size (n : Nat) (f : Nat → Bool) : (bosA n f).size = n := by unfold bosA; rw [rows_size, Nat.mul_one]
theorem ex_pls (n : Nat) (W : Nat → Option (Nat → R2)) (i : Nat) (h : i < n) : (plsA n W).extract (i * 17) (i * 17 + 17) = plC (W i).isSome (stO (W i)) := rows_ex (g := fun i => plC (W i).isSome (stO (W i))) h rfl
theorem put_pls (n : Nat) (W : Nat → Option (Nat → R2)) (i : Nat) (o : Option (Nat → R2)) : putA (plsA n W) (i * 17) (plC o.isSome (stO o)).toList = plsA n (updW W i o) := by
  unfold plsA
  rw [rows_put (n := n) (k := 17) (g := fun i => plC (W i).isSome (stO (W i))) (i := i) (c := plC o.isSome (stO o)) rfl]
  refine rows_congr fun j _ => ?_
  unfold updW
  split <;> rfl
theorem put_plsS (n : Nat) (W : Nat → Option (Nat → R2)) (i : Nat) (s : Nat → R2) : putA (plsA n W) (i * 17) (plC true s).toList = plsA n (updW W i (some s)) := put_pls n W i (some s)
theorem get_bos (n : Nat) (f : Nat → Bool) (i : Nat) (h : i < n) : (bosA n f)[i * 1]? = some (.bool (f i)) := by
  have := rows_at (n := n) (k := 1) (g := fun i => #[.bool (f i)]) (i := i) (q := 0) h (by omega) rfl
  rw [Nat.add_zero] at this
  exact this
theorem set_bos (n : Nat) (f : Nat → Bool) (i : Nat) (b : Bool) : (bosA n f).setIfInBounds (i * 1) (.bool b) = bosA n (updB f i b) := by
  have h := rows_put (n := n) (k := 1) (g := fun i => #[.bool (f i)]) (i := i) (c := #[.bool b]) rfl
  have e : putA (rowsA n 1 fun i => #[.bool (f i)]) (i * 1) (#[Value.bool b]).toList = (bosA n f).setIfInBounds (i * 1) (.bool b) := rfl
  rw [← e, h]
  refine rows_congr fun j _ => ?_
  unfold updB
  split <;> rfl
theorem rg_0 (r : R2) : (rgC r)[0]? = some (.int .i64 r.lo) := rfl
theorem rg_1 (r : R2) : (rgC r)[1]? = some (.int .i64 r.hi) := rfl
theorem pl_0 (b : Bool) (s : Nat → R2) : (plC b s)[0]? = some (.bool b) := rfl
theorem cl_0 (a : Int) (s : Nat → R2) : (clC a s)[0]? = some (.int .i64 a) := rfl
theorem l1_0 (x : Value) : (#[x] : Array Value)[0]? = some x := rfl
theorem l2_0 (x y : Value) : (#[x, y] : Array Value)[0]? = some x := rfl
theorem l2_1 (x y : Value) : (#[x, y] : Array Value)[1]? = some y := rfl
theorem l3_0 (x y z : Value) : (#[x, y, z] : Array Value)[0]? = some x := rfl
theorem l3_1 (x y z : Value) : (#[x, y, z] : Array Value)[1]? = some y := rfl
theorem l3_2 (x y z : Value) : (#[x, y, z] : Array Value)[2]? = some z := rfl
theorem build_pl (b : Bool) (s : Nat → R2) (w : World) : (Instr.build 174 [(0, .bool b), (1, .agg (stC s))].toArray).run Tryz.prog w = .ok (.agg (plC b s)) w := run_build w _ _ _ (by kernel_rfl)
theorem build_pl0 (w : World) : (Instr.build 174 [].toArray).run Tryz.prog w = .ok (.agg (plC false zeroS)) w := run_build w _ _ _ (by kernel_rfl)
theorem build_rg (a b : Int) (w : World) : (Instr.build 28 [(0, .int .i64 a), (1, .int .i64 b)].toArray).run Tryz.prog w = .ok (.agg (rgC ⟨a, b⟩)) w := run_build w _ _ _ (by kernel_rfl)
theorem build_rt (p q r : Option Addr) (a b c e f g : Nat) (w : World) : (Instr.build 119 [(0, .slice p a b), (1, .slice q c e), (2, .slice r f g)].toArray).run Tryz.prog w = .ok (.agg #[.slice p a b, .slice q c e, .slice r f g]) w := run_build w _ _ _ (by kernel_rfl)
theorem build_ck (x y z : Value) (w : World) : (Instr.build 121 [(0, .agg #[x, y, z])].toArray).run Tryz.prog w = .ok (.agg #[x, y, z]) w := run_build w _ _ _ (by kernel_rfl)
/-- eight numbers -/
def rgsC (r : Nat → Int) : Array Value := #[.int .i64 (r 0), .int .i64 (r 1), .int .i64 (r 2), .int .i64 (r 3), .int .i64 (r 4), .int .i64 (r 5), .int .i64 (r 6), .int .i64 (r 7)]
def updI (r : Nat → Int) (a : Nat) (v : Int) : Nat → Int := fun j => if j = a then v else r j
theorem st_lo (s : Nat → R2) (n : Nat) (h : n < 8) : (stC s)[n * 2]? = some (.int .i64 (s n).lo) := (stC_get s n h).1
theorem st_hi (s : Nat → R2) (n : Nat) (h : n < 8) : (stC s)[n * 2 + 1]? = some (.int .i64 (s n).hi) := (stC_get s n h).2
theorem rgs_get (r : Nat → Int) (n : Nat) (h : n < 8) : (rgsC r)[n * 1]? = some (.int .i64 (r n)) := by
  rcases lt8 h with rfl | rfl | rfl | rfl | rfl | rfl | rfl | rfl <;> rfl
theorem pl_lo (b : Bool) (s : Nat → R2) (n : Nat) (h : n < 8) : (plC b s)[1 + n * 2]? = some (.int .i64 (s n).lo) := by
  rcases lt8 h with rfl | rfl | rfl | rfl | rfl | rfl | rfl | rfl <;> rfl
theorem pl_hi (b : Bool) (s : Nat → R2) (n : Nat) (h : n < 8) : (plC b s)[1 + n * 2 + 1]? = some (.int .i64 (s n).hi) := by
  rcases lt8 h with rfl | rfl | rfl | rfl | rfl | rfl | rfl | rfl <;> rfl
theorem ex_plat (b : Bool) (s : Nat → R2) (n : Nat) (h : n < 8) : (plC b s).extract (1 + n * 2) (1 + n * 2 + 2) = rgC (s n) := by
  rcases lt8 h with rfl | rfl | rfl | rfl | rfl | rfl | rfl | rfl <;> kernel_rfl
theorem put_plat (b : Bool) (s : Nat → R2) (n : Nat) (r : R2) (h : n < 8) : putA (plC b s) (1 + n * 2) (rgC r).toList = plC b (updS s n r) := by
  rcases lt8 h with rfl | rfl | rfl | rfl | rfl | rfl | rfl | rfl <;> kernel_rfl
theorem set_pl0 (b : Bool) (s : Nat → R2) (c : Bool) : (plC b s).setIfInBounds 0 (.bool c) = plC c s := by kernel_rfl
theorem set_pllo (b : Bool) (s : Nat → R2) (n : Nat) (v : Int) (h : n < 8) : (plC b s).setIfInBounds (1 + n * 2) (.int .i64 v) = plC b (updS s n ⟨v, (s n).hi⟩) := by
  rcases lt8 h with rfl | rfl | rfl | rfl | rfl | rfl | rfl | rfl <;> kernel_rfl
theorem set_plhi (b : Bool) (s : Nat → R2) (n : Nat) (v : Int) (h : n < 8) : (plC b s).setIfInBounds (1 + n * 2 + 1) (.int .i64 v) = plC b (updS s n ⟨(s n).lo, v⟩) := by
  rcases lt8 h with rfl | rfl | rfl | rfl | rfl | rfl | rfl | rfl <;> kernel_rfl
theorem set_stlo (s : Nat → R2) (n : Nat) (v : Int) (h : n < 8) : (stC s).setIfInBounds (n * 2) (.int .i64 v) = stC (updS s n ⟨v, (s n).hi⟩) := by
  rcases lt8 h with rfl | rfl | rfl | rfl | rfl | rfl | rfl | rfl <;> kernel_rfl
theorem set_sthi (s : Nat → R2) (n : Nat) (v : Int) (h : n < 8) : (stC s).setIfInBounds (n * 2 + 1) (.int .i64 v) = stC (updS s n ⟨(s n).lo, v⟩) := by
  rcases lt8 h with rfl | rfl | rfl | rfl | rfl | rfl | rfl | rfl <;> kernel_rfl
theorem set_rgs (r : Nat → Int) (n : Nat) (v : Int) (h : n < 8) : (rgsC r).setIfInBounds (n * 1) (.int .i64 v) = rgsC (updI r n v) := by
  rcases lt8 h with rfl | rfl | rfl | rfl | rfl | rfl | rfl | rfl <;> kernel_rfl
theorem l4_0 (x y z u : Value) : (#[x, y, z, u] : Array Value)[0]? = some x := rfl
theorem l4_1 (x y z u : Value) : (#[x, y, z, u] : Array Value)[1]? = some y := rfl
theorem l4_2 (x y z u : Value) : (#[x, y, z, u] : Array Value)[2]? = some z := rfl
theorem l4_3 (x y z u : Value) : (#[x, y, z, u] : Array Value)[3]? = some u := rfl
theorem l5_0 (x y z u v : Value) : (#[x, y, z, u, v] : Array Value)[0]? = some x := rfl
theorem l5_1 (x y z u v : Value) : (#[x, y, z, u, v] : Array Value)[1]? = some y := rfl
theorem l5_2 (x y z u v : Value) : (#[x, y, z, u, v] : Array Value)[2]? = some z := rfl
theorem l5_3 (x y z u v : Value) : (#[x, y, z, u, v] : Array Value)[3]? = some u := rfl
theorem l5_4 (x y z u v : Value) : (#[x, y, z, u, v] : Array Value)[4]? = some v := rfl
theorem build_way (b : Bool) (s : Nat → R2) (w : World) : (Instr.build 110 [(0, .bool b), (1, .agg (stC s))].toArray).run Tryz.prog w = .ok (.agg (plC b s)) w := run_build w _ _ _ (by kernel_rfl)
theorem build_way0 (w : World) : (Instr.build 110 [].toArray).run Tryz.prog w = .ok (.agg (plC false zeroS)) w := run_build w _ _ _ (by kernel_rfl)
theorem build_cl (a : Int) (s : Nat → R2) (w : World) : (Instr.build 78 [(0, .int .i64 a), (1, .agg (stC s))].toArray).run Tryz.prog w = .ok (.agg (clC a s)) w := run_build w _ _ _ (by kernel_rfl)
theorem build_cla (a : Int) (w : World) : (Instr.build 78 [(0, .int .i64 a)].toArray).run Tryz.prog w = .ok (.agg (clC a zeroS)) w := run_build w _ _ _ (by kernel_rfl)
section ints
variable (ρ : Operand → Value) (d : Option Tmp) (x y : Operand) (tt t' : TypeId) (pos : String) (aft : Array Edge) (g : Option (Nat × Bool)) (p q : Int) (w : World)
theorem cmp_lss (hx : ρ x = .int .i64 p) (hy : ρ y = .int .i64 q) : (execOp ρ ⟨d, .binOp .lss 3 x y t', tt, pos, aft, g⟩).run Tryz.prog w = .ok (.value (.bool (decide (p < q)))) w := by
  unfold execOp; simp only [hx, hy]; simp [go_sem]
theorem cmp_leq (hx : ρ x = .int .i64 p) (hy : ρ y = .int .i64 q) : (execOp ρ ⟨d, .binOp .leq 3 x y t', tt, pos, aft, g⟩).run Tryz.prog w = .ok (.value (.bool (decide (p ≤ q)))) w := by
  unfold execOp; simp only [hx, hy]; simp [go_sem]
theorem cmp_gtr (hx : ρ x = .int .i64 p) (hy : ρ y = .int .i64 q) : (execOp ρ ⟨d, .binOp .gtr 3 x y t', tt, pos, aft, g⟩).run Tryz.prog w = .ok (.value (.bool (decide (q < p)))) w := by
  unfold execOp; simp only [hx, hy]; simp [go_sem]
theorem cmp_geq (hx : ρ x = .int .i64 p) (hy : ρ y = .int .i64 q) : (execOp ρ ⟨d, .binOp .geq 3 x y t', tt, pos, aft, g⟩).run Tryz.prog w = .ok (.value (.bool (decide (q ≤ p)))) w := by
  unfold execOp; simp only [hx, hy]; simp [go_sem]
theorem cmp_eql (hx : ρ x = .int .i64 p) (hy : ρ y = .int .i64 q) : (execOp ρ ⟨d, .binOp .eql 3 x y t', tt, pos, aft, g⟩).run Tryz.prog w = .ok (.value (.bool (p == q))) w := by
  unfold execOp; simp only [hx, hy]; simp [go_sem]
theorem un_not (b : Bool) (hx : ρ x = .bool b) : (execOp ρ ⟨d, .unOp .not t' x, tt, pos, aft, g⟩).run Tryz.prog w = .ok (.value (.bool (!b))) w := by
  unfold execOp; simp only [hx]; simp [go_sem]
end ints
def rowTab (ty : Nat) : Option Nat :=
  if ty = 30 then some 16 else
  if ty = 174 then some 17 else
  if ty = 28 then some 2 else
  if ty = 78 then some 17 else
  if ty = 62 then some 5 else
  if ty = 110 then some 17 else
  if ty = 119 then some 3 else
  if ty = 121 then some 3 else
  if ty = 181 then some 3 else
  if ty = 199 then some 0 else
  if ty = 183 then some 2 else
  if ty = 185 then some 2 else
  if ty = 187 then some 3 else
  if ty = 188 then some 3 else
  if ty = 189 then some 3 else
  if ty = 190 then some 3 else
  if ty = 191 then some 2 else
  if ty = 192 then some 2 else
  if ty = 194 then some 1 else
  if ty = 196 then some 3 else
  if ty = 197 then some 3 else
  if ty = 53 then some 4 else
  if ty = 42 then some 8 else
  if ty = 64 then some 9 else
  if ty = 97 then some 17 else
  if ty = 137 then some 6 else
  if ty = 204 then some 3 else
  if ty = 206 then some 2 else
  if ty = 208 then some 2 else
  if ty = 108 then some 4 else
  if ty = 130 then some 32 else
  none
theorem rowT_of {ty n : Nat} (h : rowTab ty = some n) : RowT Tryz.prog ty n := by
  unfold rowTab at h
  by_cases e : ty = 30
  · rw [if_pos e] at h; cases h; subst e; exact ⟨⟨_, Tryz.underlying30, rfl⟩, by kernel_rfl⟩
  rw [if_neg e] at h
  by_cases e : ty = 174
  · rw [if_pos e] at h; cases h; subst e; exact ⟨⟨_, Tryz.underlying174, rfl⟩, by kernel_rfl⟩
  rw [if_neg e] at h
  by_cases e : ty = 28
  · rw [if_pos e] at h; cases h; subst e; exact ⟨⟨_, Tryz.underlying28, rfl⟩, by kernel_rfl⟩
  rw [if_neg e] at h
  by_cases e : ty = 78
  · rw [if_pos e] at h; cases h; subst e; exact ⟨⟨_, Tryz.underlying78, rfl⟩, by kernel_rfl⟩
  rw [if_neg e] at h
  by_cases e : ty = 62
  · rw [if_pos e] at h; cases h; subst e; exact ⟨⟨_, Tryz.underlying62, rfl⟩, by kernel_rfl⟩
  rw [if_neg e] at h
  by_cases e : ty = 110
  · rw [if_pos e] at h; cases h; subst e; exact ⟨⟨_, Tryz.underlying110, rfl⟩, by kernel_rfl⟩
  rw [if_neg e] at h
  by_cases e : ty = 119
  · rw [if_pos e] at h; cases h; subst e; exact ⟨⟨_, Tryz.underlying119, rfl⟩, by kernel_rfl⟩
  rw [if_neg e] at h
  by_cases e : ty = 121
  · rw [if_pos e] at h; cases h; subst e; exact ⟨⟨_, Tryz.underlying121, rfl⟩, by kernel_rfl⟩
  rw [if_neg e] at h
  by_cases e : ty = 181
  · rw [if_pos e] at h; cases h; subst e; exact ⟨⟨_, Tryz.underlying181, rfl⟩, by kernel_rfl⟩
  rw [if_neg e] at h
  by_cases e : ty = 199
  · rw [if_pos e] at h; cases h; subst e; exact ⟨⟨_, Tryz.underlying199, rfl⟩, by kernel_rfl⟩
  rw [if_neg e] at h
  by_cases e : ty = 183
  · rw [if_pos e] at h; cases h; subst e; exact ⟨⟨_, Tryz.underlying183, rfl⟩, by kernel_rfl⟩
  rw [if_neg e] at h
  by_cases e : ty = 185
  · rw [if_pos e] at h; cases h; subst e; exact ⟨⟨_, Tryz.underlying185, rfl⟩, by kernel_rfl⟩
  rw [if_neg e] at h
  by_cases e : ty = 187
  · rw [if_pos e] at h; cases h; subst e; exact ⟨⟨_, Tryz.underlying187, rfl⟩, by kernel_rfl⟩
  rw [if_neg e] at h
  by_cases e : ty = 188
  · rw [if_pos e] at h; cases h; subst e; exact ⟨⟨_, Tryz.underlying188, rfl⟩, by kernel_rfl⟩
  rw [if_neg e] at h
  by_cases e : ty = 189
  · rw [if_pos e] at h; cases h; subst e; exact ⟨⟨_, Tryz.underlying189, rfl⟩, by kernel_rfl⟩
  rw [if_neg e] at h
  by_cases e : ty = 190
  · rw [if_pos e] at h; cases h; subst e; exact ⟨⟨_, Tryz.underlying190, rfl⟩, by kernel_rfl⟩
  rw [if_neg e] at h
  by_cases e : ty = 191
  · rw [if_pos e] at h; cases h; subst e; exact ⟨⟨_, Tryz.underlying191, rfl⟩, by kernel_rfl⟩
  rw [if_neg e] at h
  by_cases e : ty = 192
  · rw [if_pos e] at h; cases h; subst e; exact ⟨⟨_, Tryz.underlying192, rfl⟩, by kernel_rfl⟩
  rw [if_neg e] at h
  by_cases e : ty = 194
  · rw [if_pos e] at h; cases h; subst e; exact ⟨⟨_, Tryz.underlying194, rfl⟩, by kernel_rfl⟩
  rw [if_neg e] at h
  by_cases e : ty = 196
  · rw [if_pos e] at h; cases h; subst e; exact ⟨⟨_, Tryz.underlying196, rfl⟩, by kernel_rfl⟩
  rw [if_neg e] at h
  by_cases e : ty = 197
  · rw [if_pos e] at h; cases h; subst e; exact ⟨⟨_, Tryz.underlying197, rfl⟩, by kernel_rfl⟩
  rw [if_neg e] at h
  by_cases e : ty = 53
  · rw [if_pos e] at h; cases h; subst e; exact ⟨⟨_, Tryz.underlying53, rfl⟩, by kernel_rfl⟩
  rw [if_neg e] at h
  by_cases e : ty = 42
  · rw [if_pos e] at h; cases h; subst e; exact ⟨⟨_, Tryz.underlying42, rfl⟩, by kernel_rfl⟩
  rw [if_neg e] at h
  by_cases e : ty = 64
  · rw [if_pos e] at h; cases h; subst e; exact ⟨⟨_, Tryz.underlying64, rfl⟩, by kernel_rfl⟩
  rw [if_neg e] at h
  by_cases e : ty = 97
  · rw [if_pos e] at h; cases h; subst e; exact ⟨⟨_, Tryz.underlying97, rfl⟩, by kernel_rfl⟩
  rw [if_neg e] at h
  by_cases e : ty = 137
  · rw [if_pos e] at h; cases h; subst e; exact ⟨⟨_, Tryz.underlying137, rfl⟩, by kernel_rfl⟩
  rw [if_neg e] at h
  by_cases e : ty = 204
  · rw [if_pos e] at h; cases h; subst e; exact ⟨⟨_, Tryz.underlying204, rfl⟩, by kernel_rfl⟩
  rw [if_neg e] at h
  by_cases e : ty = 206
  · rw [if_pos e] at h; cases h; subst e; exact ⟨⟨_, Tryz.underlying206, rfl⟩, by kernel_rfl⟩
  rw [if_neg e] at h
  by_cases e : ty = 208
  · rw [if_pos e] at h; cases h; subst e; exact ⟨⟨_, Tryz.underlying208, rfl⟩, by kernel_rfl⟩
  rw [if_neg e] at h
  by_cases e : ty = 108
  · rw [if_pos e] at h; cases h; subst e; exact ⟨⟨_, Tryz.underlying108, rfl⟩, by kernel_rfl⟩
  rw [if_neg e] at h
  by_cases e : ty = 130
  · rw [if_pos e] at h; cases h; subst e; exact ⟨⟨_, Tryz.underlying130, rfl⟩, by kernel_rfl⟩
  rw [if_neg e] at h
  cases h
def oneTab (ty : Nat) : Option Nat :=
  if ty = 3 then some 1 else
  if ty = 4 then some 1 else
  if ty = 49 then some 1 else
  if ty = 90 then some 1 else
  if ty = 106 then some 1 else
  if ty = 116 then some 1 else
  if ty = 124 then some 1 else
  if ty = 26 then some 1 else
  if ty = 41 then some 1 else
  if ty = 177 then some 1 else
  if ty = 105 then some 1 else
  if ty = 104 then some 1 else
  if ty = 70 then some 1 else
  if ty = 132 then some 1 else
  if ty = 58 then some 1 else
  if ty = 35 then some 1 else
  if ty = 103 then some 1 else
  if ty = 126 then some 1 else
  none
theorem oneT_of {ty n : Nat} (h : oneTab ty = some n) : OneT Tryz.prog ty := by
  unfold oneTab at h
  by_cases e : ty = 3
  · rw [if_pos e] at h; cases h; subst e; exact ⟨⟨_, Tryz.underlying3, rfl⟩, by kernel_rfl⟩
  rw [if_neg e] at h
  by_cases e : ty = 4
  · rw [if_pos e] at h; cases h; subst e; exact ⟨⟨_, Tryz.underlying4, rfl⟩, by kernel_rfl⟩
  rw [if_neg e] at h
  by_cases e : ty = 49
  · rw [if_pos e] at h; cases h; subst e; exact ⟨⟨_, Tryz.underlying49, rfl⟩, by kernel_rfl⟩
  rw [if_neg e] at h
  by_cases e : ty = 90
  · rw [if_pos e] at h; cases h; subst e; exact ⟨⟨_, Tryz.underlying90, rfl⟩, by kernel_rfl⟩
  rw [if_neg e] at h
  by_cases e : ty = 106
  · rw [if_pos e] at h; cases h; subst e; exact ⟨⟨_, Tryz.underlying106, rfl⟩, by kernel_rfl⟩
  rw [if_neg e] at h
  by_cases e : ty = 116
  · rw [if_pos e] at h; cases h; subst e; exact ⟨⟨_, Tryz.underlying116, rfl⟩, by kernel_rfl⟩
  rw [if_neg e] at h
  by_cases e : ty = 124
  · rw [if_pos e] at h; cases h; subst e; exact ⟨⟨_, Tryz.underlying124, rfl⟩, by kernel_rfl⟩
  rw [if_neg e] at h
  by_cases e : ty = 26
  · rw [if_pos e] at h; cases h; subst e; exact ⟨⟨_, Tryz.underlying26, rfl⟩, by kernel_rfl⟩
  rw [if_neg e] at h
  by_cases e : ty = 41
  · rw [if_pos e] at h; cases h; subst e; exact ⟨⟨_, Tryz.underlying41, rfl⟩, by kernel_rfl⟩
  rw [if_neg e] at h
  by_cases e : ty = 177
  · rw [if_pos e] at h; cases h; subst e; exact ⟨⟨_, Tryz.underlying177, rfl⟩, by kernel_rfl⟩
  rw [if_neg e] at h
  by_cases e : ty = 105
  · rw [if_pos e] at h; cases h; subst e; exact ⟨⟨_, Tryz.underlying105, rfl⟩, by kernel_rfl⟩
  rw [if_neg e] at h
  by_cases e : ty = 104
  · rw [if_pos e] at h; cases h; subst e; exact ⟨⟨_, Tryz.underlying104, rfl⟩, by kernel_rfl⟩
  rw [if_neg e] at h
  by_cases e : ty = 70
  · rw [if_pos e] at h; cases h; subst e; exact ⟨⟨_, Tryz.underlying70, rfl⟩, by kernel_rfl⟩
  rw [if_neg e] at h
  by_cases e : ty = 132
  · rw [if_pos e] at h; cases h; subst e; exact ⟨⟨_, Tryz.underlying132, rfl⟩, by kernel_rfl⟩
  rw [if_neg e] at h
  by_cases e : ty = 58
  · rw [if_pos e] at h; cases h; subst e; exact ⟨⟨_, Tryz.underlying58, rfl⟩, by kernel_rfl⟩
  rw [if_neg e] at h
  by_cases e : ty = 35
  · rw [if_pos e] at h; cases h; subst e; exact ⟨⟨_, Tryz.underlying35, rfl⟩, by kernel_rfl⟩
  rw [if_neg e] at h
  by_cases e : ty = 103
  · rw [if_pos e] at h; cases h; subst e; exact ⟨⟨_, Tryz.underlying103, rfl⟩, by kernel_rfl⟩
  rw [if_neg e] at h
  by_cases e : ty = 126
  · rw [if_pos e] at h; cases h; subst e; exact ⟨⟨_, Tryz.underlying126, rfl⟩, by kernel_rfl⟩
  rw [if_neg e] at h
  cases h
def zeroTab (ty : Nat) : Option (Array Value) :=
  if ty = 30 then some (stC zeroS) else
  if ty = 174 then some (plC false zeroS) else
  if ty = 28 then some (rgC ⟨0, 0⟩) else
  if ty = 78 then some (clC 0 zeroS) else
  if ty = 62 then some (#[.int .i64 0, .int .i64 0, .int .i64 0, .int .i64 0, .int .i64 0]) else
  if ty = 110 then some (plC false zeroS) else
  if ty = 119 then some (#[.slice none 0 0, .slice none 0 0, .slice none 0 0]) else
  if ty = 121 then some (#[.slice none 0 0, .slice none 0 0, .slice none 0 0]) else
  if ty = 181 then some (#[.int .i64 0, .int .i64 0, .int .i64 0]) else
  if ty = 199 then some (#[]) else
  if ty = 183 then some (#[.int .i64 0, .int .i64 0]) else
  if ty = 185 then some (#[.int .i64 0, .int .i64 0]) else
  if ty = 187 then some (#[.int .i64 0, .int .i64 0, .int .i64 0]) else
  if ty = 188 then some (#[.int .i64 0, .int .i64 0, .int .i64 0]) else
  if ty = 189 then some (#[.int .i64 0, .int .i64 0, .int .i64 0]) else
  if ty = 190 then some (#[.int .i64 0, .int .i64 0, .int .i64 0]) else
  if ty = 191 then some (#[.int .i64 0, .int .i64 0]) else
  if ty = 192 then some (#[.int .i64 0, .int .i64 0]) else
  if ty = 194 then some (#[.int .i64 0]) else
  if ty = 196 then some (#[.int .i64 0, .int .i64 0, .int .i64 0]) else
  if ty = 197 then some (#[.int .i64 0, .int .i64 0, .int .i64 0]) else
  if ty = 53 then some (#[.int .i64 0, .int .i64 0, .int .i64 0, .int .i64 0]) else
  if ty = 42 then some (rgsC fun _ => 0) else
  if ty = 64 then some (#[.int .i64 0, .int .i64 0, .int .i64 0, .int .i64 0, .int .i64 0, .int .i64 0, .int .i64 0, .int .i64 0, .int .i64 0]) else
  if ty = 97 then some (#[.slice none 0 0, .int .i64 0, .int .i64 0, .int .i64 0, .int .i64 0, .int .i64 0, .int .i64 0, .int .i64 0, .int .i64 0, .int .i64 0, .int .i64 0, .int .i64 0, .int .i64 0, .int .i64 0, .int .i64 0, .int .i64 0, .int .i64 0]) else
  if ty = 137 then some (#[.slice none 0 0, .slice none 0 0, .slice none 0 0, .slice none 0 0, .slice none 0 0, .slice none 0 0]) else
  if ty = 204 then some (#[.int .i64 0, .int .i64 0, .int .i64 0]) else
  if ty = 206 then some (#[.int .i64 0, .int .i64 0]) else
  if ty = 208 then some (#[.int .i64 0, .int .i64 0]) else
  if ty = 108 then some (#[.slice none 0 0, .slice none 0 0, .slice none 0 0, .slice none 0 0]) else
  if ty = 130 then some (#[.slice none 0 0, .int .i64 0, .int .i64 0, .int .i64 0, .int .i64 0, .int .i64 0, .int .i64 0, .int .i64 0, .int .i64 0, .int .i64 0, .int .i64 0, .int .i64 0, .int .i64 0, .int .i64 0, .int .i64 0, .int .i64 0, .int .i64 0, .int .i64 0, .int .i64 0, .int .i64 0, .int .i64 0, .int .i64 0, .int .i64 0, .int .i64 0, .int .i64 0, .int .i64 0, .int .i64 0, .int .i64 0, .int .i64 0, .int .i64 0, .int .i64 0, .int .i64 0]) else
  none
theorem zeroT_of {ty : Nat} {z : Array Value} (h : zeroTab ty = some z) : (Tryz.prog.info? ty).map (·.zero) = some (some (.agg z)) := by
  unfold zeroTab at h
  by_cases e : ty = 30
  · rw [if_pos e] at h; have h := Option.some.inj h; subst h; subst e; exact (show (Tryz.prog.info? 30).map (·.zero) = some (some (.agg (stC zeroS))) by kernel_rfl)
  rw [if_neg e] at h
  by_cases e : ty = 174
  · rw [if_pos e] at h; have h := Option.some.inj h; subst h; subst e; exact (show (Tryz.prog.info? 174).map (·.zero) = some (some (.agg (plC false zeroS))) by kernel_rfl)
  rw [if_neg e] at h
  by_cases e : ty = 28
  · rw [if_pos e] at h; have h := Option.some.inj h; subst h; subst e; exact (show (Tryz.prog.info? 28).map (·.zero) = some (some (.agg (rgC ⟨0, 0⟩))) by kernel_rfl)
  rw [if_neg e] at h
  by_cases e : ty = 78
  · rw [if_pos e] at h; have h := Option.some.inj h; subst h; subst e; exact (show (Tryz.prog.info? 78).map (·.zero) = some (some (.agg (clC 0 zeroS))) by kernel_rfl)
  rw [if_neg e] at h
  by_cases e : ty = 62
  · rw [if_pos e] at h; have h := Option.some.inj h; subst h; subst e; exact (show (Tryz.prog.info? 62).map (·.zero) = some (some (.agg (#[.int .i64 0, .int .i64 0, .int .i64 0, .int .i64 0, .int .i64 0]))) by kernel_rfl)
  rw [if_neg e] at h
  by_cases e : ty = 110
  · rw [if_pos e] at h; have h := Option.some.inj h; subst h; subst e; exact (show (Tryz.prog.info? 110).map (·.zero) = some (some (.agg (plC false zeroS))) by kernel_rfl)
  rw [if_neg e] at h
  by_cases e : ty = 119
  · rw [if_pos e] at h; have h := Option.some.inj h; subst h; subst e; exact (show (Tryz.prog.info? 119).map (·.zero) = some (some (.agg (#[.slice none 0 0, .slice none 0 0, .slice none 0 0]))) by kernel_rfl)
  rw [if_neg e] at h
  by_cases e : ty = 121
  · rw [if_pos e] at h; have h := Option.some.inj h; subst h; subst e; exact (show (Tryz.prog.info? 121).map (·.zero) = some (some (.agg (#[.slice none 0 0, .slice none 0 0, .slice none 0 0]))) by kernel_rfl)
  rw [if_neg e] at h
  by_cases e : ty = 181
  · rw [if_pos e] at h; have h := Option.some.inj h; subst h; subst e; exact (show (Tryz.prog.info? 181).map (·.zero) = some (some (.agg (#[.int .i64 0, .int .i64 0, .int .i64 0]))) by kernel_rfl)
  rw [if_neg e] at h
  by_cases e : ty = 199
  · rw [if_pos e] at h; have h := Option.some.inj h; subst h; subst e; exact (show (Tryz.prog.info? 199).map (·.zero) = some (some (.agg (#[]))) by kernel_rfl)
  rw [if_neg e] at h
  by_cases e : ty = 183
  · rw [if_pos e] at h; have h := Option.some.inj h; subst h; subst e; exact (show (Tryz.prog.info? 183).map (·.zero) = some (some (.agg (#[.int .i64 0, .int .i64 0]))) by kernel_rfl)
  rw [if_neg e] at h
  by_cases e : ty = 185
  · rw [if_pos e] at h; have h := Option.some.inj h; subst h; subst e; exact (show (Tryz.prog.info? 185).map (·.zero) = some (some (.agg (#[.int .i64 0, .int .i64 0]))) by kernel_rfl)
  rw [if_neg e] at h
  by_cases e : ty = 187
  · rw [if_pos e] at h; have h := Option.some.inj h; subst h; subst e; exact (show (Tryz.prog.info? 187).map (·.zero) = some (some (.agg (#[.int .i64 0, .int .i64 0, .int .i64 0]))) by kernel_rfl)
  rw [if_neg e] at h
  by_cases e : ty = 188
  · rw [if_pos e] at h; have h := Option.some.inj h; subst h; subst e; exact (show (Tryz.prog.info? 188).map (·.zero) = some (some (.agg (#[.int .i64 0, .int .i64 0, .int .i64 0]))) by kernel_rfl)
  rw [if_neg e] at h
  by_cases e : ty = 189
  · rw [if_pos e] at h; have h := Option.some.inj h; subst h; subst e; exact (show (Tryz.prog.info? 189).map (·.zero) = some (some (.agg (#[.int .i64 0, .int .i64 0, .int .i64 0]))) by kernel_rfl)
  rw [if_neg e] at h
  by_cases e : ty = 190
  · rw [if_pos e] at h; have h := Option.some.inj h; subst h; subst e; exact (show (Tryz.prog.info? 190).map (·.zero) = some (some (.agg (#[.int .i64 0, .int .i64 0, .int .i64 0]))) by kernel_rfl)
  rw [if_neg e] at h
  by_cases e : ty = 191
  · rw [if_pos e] at h; have h := Option.some.inj h; subst h; subst e; exact (show (Tryz.prog.info? 191).map (·.zero) = some (some (.agg (#[.int .i64 0, .int .i64 0]))) by kernel_rfl)
  rw [if_neg e] at h
  by_cases e : ty = 192
  · rw [if_pos e] at h; have h := Option.some.inj h; subst h; subst e; exact (show (Tryz.prog.info? 192).map (·.zero) = some (some (.agg (#[.int .i64 0, .int .i64 0]))) by kernel_rfl)
  rw [if_neg e] at h
  by_cases e : ty = 194
  · rw [if_pos e] at h; have h := Option.some.inj h; subst h; subst e; exact (show (Tryz.prog.info? 194).map (·.zero) = some (some (.agg (#[.int .i64 0]))) by kernel_rfl)
  rw [if_neg e] at h
  by_cases e : ty = 196
  · rw [if_pos e] at h; have h := Option.some.inj h; subst h; subst e; exact (show (Tryz.prog.info? 196).map (·.zero) = some (some (.agg (#[.int .i64 0, .int .i64 0, .int .i64 0]))) by kernel_rfl)
  rw [if_neg e] at h
  by_cases e : ty = 197
  · rw [if_pos e] at h; have h := Option.some.inj h; subst h; subst e; exact (show (Tryz.prog.info? 197).map (·.zero) = some (some (.agg (#[.int .i64 0, .int .i64 0, .int .i64 0]))) by kernel_rfl)
  rw [if_neg e] at h
  by_cases e : ty = 53
  · rw [if_pos e] at h; have h := Option.some.inj h; subst h; subst e; exact (show (Tryz.prog.info? 53).map (·.zero) = some (some (.agg (#[.int .i64 0, .int .i64 0, .int .i64 0, .int .i64 0]))) by kernel_rfl)
  rw [if_neg e] at h
  by_cases e : ty = 42
  · rw [if_pos e] at h; have h := Option.some.inj h; subst h; subst e; exact (show (Tryz.prog.info? 42).map (·.zero) = some (some (.agg (rgsC fun _ => 0))) by kernel_rfl)
  rw [if_neg e] at h
  by_cases e : ty = 64
  · rw [if_pos e] at h; have h := Option.some.inj h; subst h; subst e; exact (show (Tryz.prog.info? 64).map (·.zero) = some (some (.agg (#[.int .i64 0, .int .i64 0, .int .i64 0, .int .i64 0, .int .i64 0, .int .i64 0, .int .i64 0, .int .i64 0, .int .i64 0]))) by kernel_rfl)
  rw [if_neg e] at h
  by_cases e : ty = 97
  · rw [if_pos e] at h; have h := Option.some.inj h; subst h; subst e; exact (show (Tryz.prog.info? 97).map (·.zero) = some (some (.agg (#[.slice none 0 0, .int .i64 0, .int .i64 0, .int .i64 0, .int .i64 0, .int .i64 0, .int .i64 0, .int .i64 0, .int .i64 0, .int .i64 0, .int .i64 0, .int .i64 0, .int .i64 0, .int .i64 0, .int .i64 0, .int .i64 0, .int .i64 0]))) by kernel_rfl)
  rw [if_neg e] at h
  by_cases e : ty = 137
  · rw [if_pos e] at h; have h := Option.some.inj h; subst h; subst e; exact (show (Tryz.prog.info? 137).map (·.zero) = some (some (.agg (#[.slice none 0 0, .slice none 0 0, .slice none 0 0, .slice none 0 0, .slice none 0 0, .slice none 0 0]))) by kernel_rfl)
  rw [if_neg e] at h
  by_cases e : ty = 204
  · rw [if_pos e] at h; have h := Option.some.inj h; subst h; subst e; exact (show (Tryz.prog.info? 204).map (·.zero) = some (some (.agg (#[.int .i64 0, .int .i64 0, .int .i64 0]))) by kernel_rfl)
  rw [if_neg e] at h
  by_cases e : ty = 206
  · rw [if_pos e] at h; have h := Option.some.inj h; subst h; subst e; exact (show (Tryz.prog.info? 206).map (·.zero) = some (some (.agg (#[.int .i64 0, .int .i64 0]))) by kernel_rfl)
  rw [if_neg e] at h
  by_cases e : ty = 208
  · rw [if_pos e] at h; have h := Option.some.inj h; subst h; subst e; exact (show (Tryz.prog.info? 208).map (·.zero) = some (some (.agg (#[.int .i64 0, .int .i64 0]))) by kernel_rfl)
  rw [if_neg e] at h
  by_cases e : ty = 108
  · rw [if_pos e] at h; have h := Option.some.inj h; subst h; subst e; exact (show (Tryz.prog.info? 108).map (·.zero) = some (some (.agg (#[.slice none 0 0, .slice none 0 0, .slice none 0 0, .slice none 0 0]))) by kernel_rfl)
  rw [if_neg e] at h
  by_cases e : ty = 130
  · rw [if_pos e] at h; have h := Option.some.inj h; subst h; subst e; exact (show (Tryz.prog.info? 130).map (·.zero) = some (some (.agg (#[.slice none 0 0, .int .i64 0, .int .i64 0, .int .i64 0, .int .i64 0, .int .i64 0, .int .i64 0, .int .i64 0, .int .i64 0, .int .i64 0, .int .i64 0, .int .i64 0, .int .i64 0, .int .i64 0, .int .i64 0, .int .i64 0, .int .i64 0, .int .i64 0, .int .i64 0, .int .i64 0, .int .i64 0, .int .i64 0, .int .i64 0, .int .i64 0, .int .i64 0, .int .i64 0, .int .i64 0, .int .i64 0, .int .i64 0, .int .i64 0, .int .i64 0, .int .i64 0]))) by kernel_rfl)
  rw [if_neg e] at h
  cases h
def zoneTab (ty : Nat) : Option Value :=
  if ty = 3 then some (.int .i64 0) else
  if ty = 4 then some (.bool false) else
  if ty = 49 then some (.int .i64 0) else
  if ty = 90 then some (.slice none 0 0) else
  if ty = 106 then some (.slice none 0 0) else
  if ty = 116 then some (.slice none 0 0) else
  if ty = 124 then some (.nilIface) else
  if ty = 26 then some (.slice none 0 0) else
  if ty = 41 then some (.slice none 0 0) else
  if ty = 177 then some (.nilIface) else
  if ty = 105 then some (.slice none 0 0) else
  if ty = 104 then some (.slice none 0 0) else
  if ty = 70 then some (.pointer none) else
  if ty = 132 then some (.pointer none) else
  if ty = 58 then some (.slice none 0 0) else
  if ty = 35 then some (.slice none 0 0) else
  if ty = 103 then some (.pointer none) else
  if ty = 126 then some (.pointer none) else
  none
theorem zoneT_of {ty : Nat} {z : Value} (h : zoneTab ty = some z) : (Tryz.prog.info? ty).map (·.zero) = some (some z) := by
  unfold zoneTab at h
  by_cases e : ty = 3
  · rw [if_pos e] at h; have h := Option.some.inj h; subst h; subst e; exact (show (Tryz.prog.info? 3).map (·.zero) = some (some (.int .i64 0)) by kernel_rfl)
  rw [if_neg e] at h
  by_cases e : ty = 4
  · rw [if_pos e] at h; have h := Option.some.inj h; subst h; subst e; exact (show (Tryz.prog.info? 4).map (·.zero) = some (some (.bool false)) by kernel_rfl)
  rw [if_neg e] at h
  by_cases e : ty = 49
  · rw [if_pos e] at h; have h := Option.some.inj h; subst h; subst e; exact (show (Tryz.prog.info? 49).map (·.zero) = some (some (.int .i64 0)) by kernel_rfl)
  rw [if_neg e] at h
  by_cases e : ty = 90
  · rw [if_pos e] at h; have h := Option.some.inj h; subst h; subst e; exact (show (Tryz.prog.info? 90).map (·.zero) = some (some (.slice none 0 0)) by kernel_rfl)
  rw [if_neg e] at h
  by_cases e : ty = 106
  · rw [if_pos e] at h; have h := Option.some.inj h; subst h; subst e; exact (show (Tryz.prog.info? 106).map (·.zero) = some (some (.slice none 0 0)) by kernel_rfl)
  rw [if_neg e] at h
  by_cases e : ty = 116
  · rw [if_pos e] at h; have h := Option.some.inj h; subst h; subst e; exact (show (Tryz.prog.info? 116).map (·.zero) = some (some (.slice none 0 0)) by kernel_rfl)
  rw [if_neg e] at h
  by_cases e : ty = 124
  · rw [if_pos e] at h; have h := Option.some.inj h; subst h; subst e; exact (show (Tryz.prog.info? 124).map (·.zero) = some (some (.nilIface)) by kernel_rfl)
  rw [if_neg e] at h
  by_cases e : ty = 26
  · rw [if_pos e] at h; have h := Option.some.inj h; subst h; subst e; exact (show (Tryz.prog.info? 26).map (·.zero) = some (some (.slice none 0 0)) by kernel_rfl)
  rw [if_neg e] at h
  by_cases e : ty = 41
  · rw [if_pos e] at h; have h := Option.some.inj h; subst h; subst e; exact (show (Tryz.prog.info? 41).map (·.zero) = some (some (.slice none 0 0)) by kernel_rfl)
  rw [if_neg e] at h
  by_cases e : ty = 177
  · rw [if_pos e] at h; have h := Option.some.inj h; subst h; subst e; exact (show (Tryz.prog.info? 177).map (·.zero) = some (some (.nilIface)) by kernel_rfl)
  rw [if_neg e] at h
  by_cases e : ty = 105
  · rw [if_pos e] at h; have h := Option.some.inj h; subst h; subst e; exact (show (Tryz.prog.info? 105).map (·.zero) = some (some (.slice none 0 0)) by kernel_rfl)
  rw [if_neg e] at h
  by_cases e : ty = 104
  · rw [if_pos e] at h; have h := Option.some.inj h; subst h; subst e; exact (show (Tryz.prog.info? 104).map (·.zero) = some (some (.slice none 0 0)) by kernel_rfl)
  rw [if_neg e] at h
  by_cases e : ty = 70
  · rw [if_pos e] at h; have h := Option.some.inj h; subst h; subst e; exact (show (Tryz.prog.info? 70).map (·.zero) = some (some (.pointer none)) by kernel_rfl)
  rw [if_neg e] at h
  by_cases e : ty = 132
  · rw [if_pos e] at h; have h := Option.some.inj h; subst h; subst e; exact (show (Tryz.prog.info? 132).map (·.zero) = some (some (.pointer none)) by kernel_rfl)
  rw [if_neg e] at h
  by_cases e : ty = 58
  · rw [if_pos e] at h; have h := Option.some.inj h; subst h; subst e; exact (show (Tryz.prog.info? 58).map (·.zero) = some (some (.slice none 0 0)) by kernel_rfl)
  rw [if_neg e] at h
  by_cases e : ty = 35
  · rw [if_pos e] at h; have h := Option.some.inj h; subst h; subst e; exact (show (Tryz.prog.info? 35).map (·.zero) = some (some (.slice none 0 0)) by kernel_rfl)
  rw [if_neg e] at h
  by_cases e : ty = 103
  · rw [if_pos e] at h; have h := Option.some.inj h; subst h; subst e; exact (show (Tryz.prog.info? 103).map (·.zero) = some (some (.pointer none)) by kernel_rfl)
  rw [if_neg e] at h
  by_cases e : ty = 126
  · rw [if_pos e] at h; have h := Option.some.inj h; subst h; subst e; exact (show (Tryz.prog.info? 126).map (·.zero) = some (some (.pointer none)) by kernel_rfl)
  rw [if_neg e] at h
  cases h
def fldTab (ty f : Nat) : Option Nat :=
  if ty = 174 then (if f = 0 then some 0 else if f = 1 then some 1 else none) else
  if ty = 28 then (if f = 0 then some 0 else if f = 1 then some 1 else none) else
  if ty = 78 then (if f = 0 then some 0 else if f = 1 then some 1 else none) else
  if ty = 110 then (if f = 0 then some 0 else if f = 1 then some 1 else none) else
  if ty = 119 then (if f = 0 then some 0 else if f = 1 then some 1 else if f = 2 then some 2 else none) else
  if ty = 121 then (if f = 0 then some 0 else none) else
  if ty = 62 then (if f = 0 then some 0 else if f = 1 then some 1 else if f = 2 then some 2 else if f = 3 then some 3 else if f = 4 then some 4 else none) else
  if ty = 181 then (if f = 0 then some 0 else if f = 1 then some 1 else if f = 2 then some 2 else none) else
  if ty = 183 then (if f = 0 then some 0 else if f = 1 then some 1 else none) else
  if ty = 185 then (if f = 0 then some 0 else if f = 1 then some 1 else none) else
  if ty = 187 then (if f = 0 then some 0 else none) else
  if ty = 188 then (if f = 0 then some 0 else none) else
  if ty = 189 then (if f = 0 then some 0 else none) else
  if ty = 190 then (if f = 0 then some 0 else if f = 1 then some 1 else if f = 2 then some 2 else none) else
  if ty = 191 then (if f = 0 then some 0 else if f = 1 then some 1 else none) else
  if ty = 192 then (if f = 0 then some 0 else if f = 1 then some 1 else none) else
  if ty = 194 then (if f = 0 then some 0 else none) else
  if ty = 196 then (if f = 0 then some 0 else if f = 1 then some 1 else if f = 2 then some 2 else none) else
  if ty = 197 then (if f = 0 then some 0 else if f = 1 then some 1 else if f = 2 then some 2 else none) else
  if ty = 53 then (if f = 0 then some 0 else if f = 1 then some 1 else if f = 2 then some 2 else if f = 3 then some 3 else none) else
  if ty = 64 then (if f = 0 then some 0 else if f = 1 then some 1 else none) else
  if ty = 97 then (if f = 0 then some 0 else if f = 1 then some 1 else none) else
  if ty = 137 then (if f = 0 then some 0 else if f = 1 then some 3 else if f = 2 then some 4 else if f = 3 then some 5 else none) else
  if ty = 204 then (if f = 0 then some 0 else none) else
  if ty = 206 then (if f = 0 then some 0 else none) else
  if ty = 208 then (if f = 0 then some 0 else none) else
  if ty = 108 then (if f = 0 then some 0 else if f = 1 then some 1 else if f = 2 then some 2 else if f = 3 then some 3 else none) else
  if ty = 130 then (if f = 0 then some 0 else if f = 1 then some 1 else if f = 2 then some 9 else if f = 3 then some 25 else if f = 4 then some 26 else if f = 5 then some 27 else if f = 6 then some 28 else none) else
  none
theorem fldT_of {ty f k : Nat} (h : fldTab ty f = some k) : FldT Tryz.prog ty f k := by
  unfold fldTab at h
  by_cases e : ty = 174
  · rw [if_pos e] at h; subst e
    by_cases e : f = 0
    · rw [if_pos e] at h; cases h; subst e; exact ⟨⟨_, _, Tryz.underlying174, rfl, rfl, fun _ _ _ => by kernel_rfl⟩⟩
    rw [if_neg e] at h
    by_cases e : f = 1
    · rw [if_pos e] at h; cases h; subst e; exact ⟨⟨_, _, Tryz.underlying174, rfl, rfl, fun _ _ _ => by kernel_rfl⟩⟩
    rw [if_neg e] at h
    cases h
  rw [if_neg e] at h
  by_cases e : ty = 28
  · rw [if_pos e] at h; subst e
    by_cases e : f = 0
    · rw [if_pos e] at h; cases h; subst e; exact ⟨⟨_, _, Tryz.underlying28, rfl, rfl, fun _ _ _ => by kernel_rfl⟩⟩
    rw [if_neg e] at h
    by_cases e : f = 1
    · rw [if_pos e] at h; cases h; subst e; exact ⟨⟨_, _, Tryz.underlying28, rfl, rfl, fun _ _ _ => by kernel_rfl⟩⟩
    rw [if_neg e] at h
    cases h
  rw [if_neg e] at h
  by_cases e : ty = 78
  · rw [if_pos e] at h; subst e
    by_cases e : f = 0
    · rw [if_pos e] at h; cases h; subst e; exact ⟨⟨_, _, Tryz.underlying78, rfl, rfl, fun _ _ _ => by kernel_rfl⟩⟩
    rw [if_neg e] at h
    by_cases e : f = 1
    · rw [if_pos e] at h; cases h; subst e; exact ⟨⟨_, _, Tryz.underlying78, rfl, rfl, fun _ _ _ => by kernel_rfl⟩⟩
    rw [if_neg e] at h
    cases h
  rw [if_neg e] at h
  by_cases e : ty = 110
  · rw [if_pos e] at h; subst e
    by_cases e : f = 0
    · rw [if_pos e] at h; cases h; subst e; exact ⟨⟨_, _, Tryz.underlying110, rfl, rfl, fun _ _ _ => by kernel_rfl⟩⟩
    rw [if_neg e] at h
    by_cases e : f = 1
    · rw [if_pos e] at h; cases h; subst e; exact ⟨⟨_, _, Tryz.underlying110, rfl, rfl, fun _ _ _ => by kernel_rfl⟩⟩
    rw [if_neg e] at h
    cases h
  rw [if_neg e] at h
  by_cases e : ty = 119
  · rw [if_pos e] at h; subst e
    by_cases e : f = 0
    · rw [if_pos e] at h; cases h; subst e; exact ⟨⟨_, _, Tryz.underlying119, rfl, rfl, fun _ _ _ => by kernel_rfl⟩⟩
    rw [if_neg e] at h
    by_cases e : f = 1
    · rw [if_pos e] at h; cases h; subst e; exact ⟨⟨_, _, Tryz.underlying119, rfl, rfl, fun _ _ _ => by kernel_rfl⟩⟩
    rw [if_neg e] at h
    by_cases e : f = 2
    · rw [if_pos e] at h; cases h; subst e; exact ⟨⟨_, _, Tryz.underlying119, rfl, rfl, fun _ _ _ => by kernel_rfl⟩⟩
    rw [if_neg e] at h
    cases h
  rw [if_neg e] at h
  by_cases e : ty = 121
  · rw [if_pos e] at h; subst e
    by_cases e : f = 0
    · rw [if_pos e] at h; cases h; subst e; exact ⟨⟨_, _, Tryz.underlying121, rfl, rfl, fun _ _ _ => by kernel_rfl⟩⟩
    rw [if_neg e] at h
    cases h
  rw [if_neg e] at h
  by_cases e : ty = 62
  · rw [if_pos e] at h; subst e
    by_cases e : f = 0
    · rw [if_pos e] at h; cases h; subst e; exact ⟨⟨_, _, Tryz.underlying62, rfl, rfl, fun _ _ _ => by kernel_rfl⟩⟩
    rw [if_neg e] at h
    by_cases e : f = 1
    · rw [if_pos e] at h; cases h; subst e; exact ⟨⟨_, _, Tryz.underlying62, rfl, rfl, fun _ _ _ => by kernel_rfl⟩⟩
    rw [if_neg e] at h
    by_cases e : f = 2
    · rw [if_pos e] at h; cases h; subst e; exact ⟨⟨_, _, Tryz.underlying62, rfl, rfl, fun _ _ _ => by kernel_rfl⟩⟩
    rw [if_neg e] at h
    by_cases e : f = 3
    · rw [if_pos e] at h; cases h; subst e; exact ⟨⟨_, _, Tryz.underlying62, rfl, rfl, fun _ _ _ => by kernel_rfl⟩⟩
    rw [if_neg e] at h
    by_cases e : f = 4
    · rw [if_pos e] at h; cases h; subst e; exact ⟨⟨_, _, Tryz.underlying62, rfl, rfl, fun _ _ _ => by kernel_rfl⟩⟩
    rw [if_neg e] at h
    cases h
  rw [if_neg e] at h
  by_cases e : ty = 181
  · rw [if_pos e] at h; subst e
    by_cases e : f = 0
    · rw [if_pos e] at h; cases h; subst e; exact ⟨⟨_, _, Tryz.underlying181, rfl, rfl, fun _ _ _ => by kernel_rfl⟩⟩
    rw [if_neg e] at h
    by_cases e : f = 1
    · rw [if_pos e] at h; cases h; subst e; exact ⟨⟨_, _, Tryz.underlying181, rfl, rfl, fun _ _ _ => by kernel_rfl⟩⟩
    rw [if_neg e] at h
    by_cases e : f = 2
    · rw [if_pos e] at h; cases h; subst e; exact ⟨⟨_, _, Tryz.underlying181, rfl, rfl, fun _ _ _ => by kernel_rfl⟩⟩
    rw [if_neg e] at h
    cases h
  rw [if_neg e] at h
  by_cases e : ty = 183
  · rw [if_pos e] at h; subst e
    by_cases e : f = 0
    · rw [if_pos e] at h; cases h; subst e; exact ⟨⟨_, _, Tryz.underlying183, rfl, rfl, fun _ _ _ => by kernel_rfl⟩⟩
    rw [if_neg e] at h
    by_cases e : f = 1
    · rw [if_pos e] at h; cases h; subst e; exact ⟨⟨_, _, Tryz.underlying183, rfl, rfl, fun _ _ _ => by kernel_rfl⟩⟩
    rw [if_neg e] at h
    cases h
  rw [if_neg e] at h
  by_cases e : ty = 185
  · rw [if_pos e] at h; subst e
    by_cases e : f = 0
    · rw [if_pos e] at h; cases h; subst e; exact ⟨⟨_, _, Tryz.underlying185, rfl, rfl, fun _ _ _ => by kernel_rfl⟩⟩
    rw [if_neg e] at h
    by_cases e : f = 1
    · rw [if_pos e] at h; cases h; subst e; exact ⟨⟨_, _, Tryz.underlying185, rfl, rfl, fun _ _ _ => by kernel_rfl⟩⟩
    rw [if_neg e] at h
    cases h
  rw [if_neg e] at h
  by_cases e : ty = 187
  · rw [if_pos e] at h; subst e
    by_cases e : f = 0
    · rw [if_pos e] at h; cases h; subst e; exact ⟨⟨_, _, Tryz.underlying187, rfl, rfl, fun _ _ _ => by kernel_rfl⟩⟩
    rw [if_neg e] at h
    cases h
  rw [if_neg e] at h
  by_cases e : ty = 188
  · rw [if_pos e] at h; subst e
    by_cases e : f = 0
    · rw [if_pos e] at h; cases h; subst e; exact ⟨⟨_, _, Tryz.underlying188, rfl, rfl, fun _ _ _ => by kernel_rfl⟩⟩
    rw [if_neg e] at h
    cases h
  rw [if_neg e] at h
  by_cases e : ty = 189
  · rw [if_pos e] at h; subst e
    by_cases e : f = 0
    · rw [if_pos e] at h; cases h; subst e; exact ⟨⟨_, _, Tryz.underlying189, rfl, rfl, fun _ _ _ => by kernel_rfl⟩⟩
    rw [if_neg e] at h
    cases h
  rw [if_neg e] at h
  by_cases e : ty = 190
  · rw [if_pos e] at h; subst e
    by_cases e : f = 0
    · rw [if_pos e] at h; cases h; subst e; exact ⟨⟨_, _, Tryz.underlying190, rfl, rfl, fun _ _ _ => by kernel_rfl⟩⟩
    rw [if_neg e] at h
    by_cases e : f = 1
    · rw [if_pos e] at h; cases h; subst e; exact ⟨⟨_, _, Tryz.underlying190, rfl, rfl, fun _ _ _ => by kernel_rfl⟩⟩
    rw [if_neg e] at h
    by_cases e : f = 2
    · rw [if_pos e] at h; cases h; subst e; exact ⟨⟨_, _, Tryz.underlying190, rfl, rfl, fun _ _ _ => by kernel_rfl⟩⟩
    rw [if_neg e] at h
    cases h
  rw [if_neg e] at h
  by_cases e : ty = 191
  · rw [if_pos e] at h; subst e
    by_cases e : f = 0
    · rw [if_pos e] at h; cases h; subst e; exact ⟨⟨_, _, Tryz.underlying191, rfl, rfl, fun _ _ _ => by kernel_rfl⟩⟩
    rw [if_neg e] at h
    by_cases e : f = 1
    · rw [if_pos e] at h; cases h; subst e; exact ⟨⟨_, _, Tryz.underlying191, rfl, rfl, fun _ _ _ => by kernel_rfl⟩⟩
    rw [if_neg e] at h
    cases h
  rw [if_neg e] at h
  by_cases e : ty = 192
  · rw [if_pos e] at h; subst e
    by_cases e : f = 0
    · rw [if_pos e] at h; cases h; subst e; exact ⟨⟨_, _, Tryz.underlying192, rfl, rfl, fun _ _ _ => by kernel_rfl⟩⟩
    rw [if_neg e] at h
    by_cases e : f = 1
    · rw [if_pos e] at h; cases h; subst e; exact ⟨⟨_, _, Tryz.underlying192, rfl, rfl, fun _ _ _ => by kernel_rfl⟩⟩
    rw [if_neg e] at h
    cases h
  rw [if_neg e] at h
  by_cases e : ty = 194
  · rw [if_pos e] at h; subst e
    by_cases e : f = 0
    · rw [if_pos e] at h; cases h; subst e; exact ⟨⟨_, _, Tryz.underlying194, rfl, rfl, fun _ _ _ => by kernel_rfl⟩⟩
    rw [if_neg e] at h
    cases h
  rw [if_neg e] at h
  by_cases e : ty = 196
  · rw [if_pos e] at h; subst e
    by_cases e : f = 0
    · rw [if_pos e] at h; cases h; subst e; exact ⟨⟨_, _, Tryz.underlying196, rfl, rfl, fun _ _ _ => by kernel_rfl⟩⟩
    rw [if_neg e] at h
    by_cases e : f = 1
    · rw [if_pos e] at h; cases h; subst e; exact ⟨⟨_, _, Tryz.underlying196, rfl, rfl, fun _ _ _ => by kernel_rfl⟩⟩
    rw [if_neg e] at h
    by_cases e : f = 2
    · rw [if_pos e] at h; cases h; subst e; exact ⟨⟨_, _, Tryz.underlying196, rfl, rfl, fun _ _ _ => by kernel_rfl⟩⟩
    rw [if_neg e] at h
    cases h
  rw [if_neg e] at h
  by_cases e : ty = 197
  · rw [if_pos e] at h; subst e
    by_cases e : f = 0
    · rw [if_pos e] at h; cases h; subst e; exact ⟨⟨_, _, Tryz.underlying197, rfl, rfl, fun _ _ _ => by kernel_rfl⟩⟩
    rw [if_neg e] at h
    by_cases e : f = 1
    · rw [if_pos e] at h; cases h; subst e; exact ⟨⟨_, _, Tryz.underlying197, rfl, rfl, fun _ _ _ => by kernel_rfl⟩⟩
    rw [if_neg e] at h
    by_cases e : f = 2
    · rw [if_pos e] at h; cases h; subst e; exact ⟨⟨_, _, Tryz.underlying197, rfl, rfl, fun _ _ _ => by kernel_rfl⟩⟩
    rw [if_neg e] at h
    cases h
  rw [if_neg e] at h
  by_cases e : ty = 53
  · rw [if_pos e] at h; subst e
    by_cases e : f = 0
    · rw [if_pos e] at h; cases h; subst e; exact ⟨⟨_, _, Tryz.underlying53, rfl, rfl, fun _ _ _ => by kernel_rfl⟩⟩
    rw [if_neg e] at h
    by_cases e : f = 1
    · rw [if_pos e] at h; cases h; subst e; exact ⟨⟨_, _, Tryz.underlying53, rfl, rfl, fun _ _ _ => by kernel_rfl⟩⟩
    rw [if_neg e] at h
    by_cases e : f = 2
    · rw [if_pos e] at h; cases h; subst e; exact ⟨⟨_, _, Tryz.underlying53, rfl, rfl, fun _ _ _ => by kernel_rfl⟩⟩
    rw [if_neg e] at h
    by_cases e : f = 3
    · rw [if_pos e] at h; cases h; subst e; exact ⟨⟨_, _, Tryz.underlying53, rfl, rfl, fun _ _ _ => by kernel_rfl⟩⟩
    rw [if_neg e] at h
    cases h
  rw [if_neg e] at h
  by_cases e : ty = 64
  · rw [if_pos e] at h; subst e
    by_cases e : f = 0
    · rw [if_pos e] at h; cases h; subst e; exact ⟨⟨_, _, Tryz.underlying64, rfl, rfl, fun _ _ _ => by kernel_rfl⟩⟩
    rw [if_neg e] at h
    by_cases e : f = 1
    · rw [if_pos e] at h; cases h; subst e; exact ⟨⟨_, _, Tryz.underlying64, rfl, rfl, fun _ _ _ => by kernel_rfl⟩⟩
    rw [if_neg e] at h
    cases h
  rw [if_neg e] at h
  by_cases e : ty = 97
  · rw [if_pos e] at h; subst e
    by_cases e : f = 0
    · rw [if_pos e] at h; cases h; subst e; exact ⟨⟨_, _, Tryz.underlying97, rfl, rfl, fun _ _ _ => by kernel_rfl⟩⟩
    rw [if_neg e] at h
    by_cases e : f = 1
    · rw [if_pos e] at h; cases h; subst e; exact ⟨⟨_, _, Tryz.underlying97, rfl, rfl, fun _ _ _ => by kernel_rfl⟩⟩
    rw [if_neg e] at h
    cases h
  rw [if_neg e] at h
  by_cases e : ty = 137
  · rw [if_pos e] at h; subst e
    by_cases e : f = 0
    · rw [if_pos e] at h; cases h; subst e; exact ⟨⟨_, _, Tryz.underlying137, rfl, rfl, fun _ _ _ => by kernel_rfl⟩⟩
    rw [if_neg e] at h
    by_cases e : f = 1
    · rw [if_pos e] at h; cases h; subst e; exact ⟨⟨_, _, Tryz.underlying137, rfl, rfl, fun _ _ _ => by kernel_rfl⟩⟩
    rw [if_neg e] at h
    by_cases e : f = 2
    · rw [if_pos e] at h; cases h; subst e; exact ⟨⟨_, _, Tryz.underlying137, rfl, rfl, fun _ _ _ => by kernel_rfl⟩⟩
    rw [if_neg e] at h
    by_cases e : f = 3
    · rw [if_pos e] at h; cases h; subst e; exact ⟨⟨_, _, Tryz.underlying137, rfl, rfl, fun _ _ _ => by kernel_rfl⟩⟩
    rw [if_neg e] at h
    cases h
  rw [if_neg e] at h
  by_cases e : ty = 204
  · rw [if_pos e] at h; subst e
    by_cases e : f = 0
    · rw [if_pos e] at h; cases h; subst e; exact ⟨⟨_, _, Tryz.underlying204, rfl, rfl, fun _ _ _ => by kernel_rfl⟩⟩
    rw [if_neg e] at h
    cases h
  rw [if_neg e] at h
  by_cases e : ty = 206
  · rw [if_pos e] at h; subst e
    by_cases e : f = 0
    · rw [if_pos e] at h; cases h; subst e; exact ⟨⟨_, _, Tryz.underlying206, rfl, rfl, fun _ _ _ => by kernel_rfl⟩⟩
    rw [if_neg e] at h
    cases h
  rw [if_neg e] at h
  by_cases e : ty = 208
  · rw [if_pos e] at h; subst e
    by_cases e : f = 0
    · rw [if_pos e] at h; cases h; subst e; exact ⟨⟨_, _, Tryz.underlying208, rfl, rfl, fun _ _ _ => by kernel_rfl⟩⟩
    rw [if_neg e] at h
    cases h
  rw [if_neg e] at h
  by_cases e : ty = 108
  · rw [if_pos e] at h; subst e
    by_cases e : f = 0
    · rw [if_pos e] at h; cases h; subst e; exact ⟨⟨_, _, Tryz.underlying108, rfl, rfl, fun _ _ _ => by kernel_rfl⟩⟩
    rw [if_neg e] at h
    by_cases e : f = 1
    · rw [if_pos e] at h; cases h; subst e; exact ⟨⟨_, _, Tryz.underlying108, rfl, rfl, fun _ _ _ => by kernel_rfl⟩⟩
    rw [if_neg e] at h
    by_cases e : f = 2
    · rw [if_pos e] at h; cases h; subst e; exact ⟨⟨_, _, Tryz.underlying108, rfl, rfl, fun _ _ _ => by kernel_rfl⟩⟩
    rw [if_neg e] at h
    by_cases e : f = 3
    · rw [if_pos e] at h; cases h; subst e; exact ⟨⟨_, _, Tryz.underlying108, rfl, rfl, fun _ _ _ => by kernel_rfl⟩⟩
    rw [if_neg e] at h
    cases h
  rw [if_neg e] at h
  by_cases e : ty = 130
  · rw [if_pos e] at h; subst e
    by_cases e : f = 0
    · rw [if_pos e] at h; cases h; subst e; exact ⟨⟨_, _, Tryz.underlying130, rfl, rfl, fun _ _ _ => by kernel_rfl⟩⟩
    rw [if_neg e] at h
    by_cases e : f = 1
    · rw [if_pos e] at h; cases h; subst e; exact ⟨⟨_, _, Tryz.underlying130, rfl, rfl, fun _ _ _ => by kernel_rfl⟩⟩
    rw [if_neg e] at h
    by_cases e : f = 2
    · rw [if_pos e] at h; cases h; subst e; exact ⟨⟨_, _, Tryz.underlying130, rfl, rfl, fun _ _ _ => by kernel_rfl⟩⟩
    rw [if_neg e] at h
    by_cases e : f = 3
    · rw [if_pos e] at h; cases h; subst e; exact ⟨⟨_, _, Tryz.underlying130, rfl, rfl, fun _ _ _ => by kernel_rfl⟩⟩
    rw [if_neg e] at h
    by_cases e : f = 4
    · rw [if_pos e] at h; cases h; subst e; exact ⟨⟨_, _, Tryz.underlying130, rfl, rfl, fun _ _ _ => by kernel_rfl⟩⟩
    rw [if_neg e] at h
    by_cases e : f = 5
    · rw [if_pos e] at h; cases h; subst e; exact ⟨⟨_, _, Tryz.underlying130, rfl, rfl, fun _ _ _ => by kernel_rfl⟩⟩
    rw [if_neg e] at h
    by_cases e : f = 6
    · rw [if_pos e] at h; cases h; subst e; exact ⟨⟨_, _, Tryz.underlying130, rfl, rfl, fun _ _ _ => by kernel_rfl⟩⟩
    rw [if_neg e] at h
    cases h
  rw [if_neg e] at h
  cases h
def slcTab (ty : Nat) : Option Nat :=
  if ty = 90 then some 1 else
  if ty = 106 then some 1 else
  if ty = 116 then some 17 else
  if ty = 41 then some 17 else
  if ty = 26 then some 5 else
  if ty = 105 then some 1 else
  if ty = 104 then some 17 else
  if ty = 58 then some 9 else
  if ty = 35 then some 1 else
  none
theorem slcT_of {ty n : Nat} (h : slcTab ty = some n) : SlcT Tryz.prog ty n := by
  unfold slcTab at h
  by_cases e : ty = 90
  · rw [if_pos e] at h; cases h; subst e; exact ⟨⟨_, Tryz.underlying90, by kernel_rfl⟩⟩
  rw [if_neg e] at h
  by_cases e : ty = 106
  · rw [if_pos e] at h; cases h; subst e; exact ⟨⟨_, Tryz.underlying106, by kernel_rfl⟩⟩
  rw [if_neg e] at h
  by_cases e : ty = 116
  · rw [if_pos e] at h; cases h; subst e; exact ⟨⟨_, Tryz.underlying116, by kernel_rfl⟩⟩
  rw [if_neg e] at h
  by_cases e : ty = 41
  · rw [if_pos e] at h; cases h; subst e; exact ⟨⟨_, Tryz.underlying41, by kernel_rfl⟩⟩
  rw [if_neg e] at h
  by_cases e : ty = 26
  · rw [if_pos e] at h; cases h; subst e; exact ⟨⟨_, Tryz.underlying26, by kernel_rfl⟩⟩
  rw [if_neg e] at h
  by_cases e : ty = 105
  · rw [if_pos e] at h; cases h; subst e; exact ⟨⟨_, Tryz.underlying105, by kernel_rfl⟩⟩
  rw [if_neg e] at h
  by_cases e : ty = 104
  · rw [if_pos e] at h; cases h; subst e; exact ⟨⟨_, Tryz.underlying104, by kernel_rfl⟩⟩
  rw [if_neg e] at h
  by_cases e : ty = 58
  · rw [if_pos e] at h; cases h; subst e; exact ⟨⟨_, Tryz.underlying58, by kernel_rfl⟩⟩
  rw [if_neg e] at h
  by_cases e : ty = 35
  · rw [if_pos e] at h; cases h; subst e; exact ⟨⟨_, Tryz.underlying35, by kernel_rfl⟩⟩
  rw [if_neg e] at h
  cases h
def arrTab (ty : Nat) : Option (Nat × Nat) :=
  if ty = 30 then some (8, 2) else
  if ty = 42 then some (8, 1) else
  none
theorem arrT_of {ty len n : Nat} (h : arrTab ty = some (len, n)) : ArrT Tryz.prog ty len n := by
  unfold arrTab at h
  by_cases e : ty = 30
  · rw [if_pos e] at h; cases h; subst e; exact ⟨⟨_, Tryz.underlying30, by kernel_rfl⟩⟩
  rw [if_neg e] at h
  by_cases e : ty = 42
  · rw [if_pos e] at h; cases h; subst e; exact ⟨⟨_, Tryz.underlying42, by kernel_rfl⟩⟩
  rw [if_neg e] at h
  cases h
def mkTab (ty : Nat) : Option (Nat × Nat × Nat × Array Value) :=
  if ty = 106 then some (4, 1, 1, #[.bool false]) else
  if ty = 116 then some (174, 17, 136, plC false zeroS) else
  if ty = 41 then some (78, 17, 136, clC 0 zeroS) else
  if ty = 26 then some (62, 5, 40, #[.int .i64 0, .int .i64 0, .int .i64 0, .int .i64 0, .int .i64 0]) else
  if ty = 105 then some (3, 1, 8, #[.int .i64 0]) else
  if ty = 104 then some (110, 17, 136, plC false zeroS) else
  none
theorem mkT_of {ty e k b : Nat} {z : Array Value} (h : mkTab ty = some (e, k, b, z)) : MkT Tryz.prog ty e k b z := by
  unfold mkTab at h
  by_cases e : ty = 106
  · rw [if_pos e] at h; simp only [Option.some.injEq, Prod.mk.injEq] at h; obtain ⟨rfl, rfl, rfl, rfl⟩ := h; subst e; exact ⟨Tryz.underlying106, .bool false, by kernel_rfl, rfl, rfl⟩
  rw [if_neg e] at h
  by_cases e : ty = 116
  · rw [if_pos e] at h; simp only [Option.some.injEq, Prod.mk.injEq] at h; obtain ⟨rfl, rfl, rfl, rfl⟩ := h; subst e; exact ⟨Tryz.underlying116, .agg (plC false zeroS), by kernel_rfl, rfl, rfl⟩
  rw [if_neg e] at h
  by_cases e : ty = 41
  · rw [if_pos e] at h; simp only [Option.some.injEq, Prod.mk.injEq] at h; obtain ⟨rfl, rfl, rfl, rfl⟩ := h; subst e; exact ⟨Tryz.underlying41, .agg (clC 0 zeroS), by kernel_rfl, rfl, rfl⟩
  rw [if_neg e] at h
  by_cases e : ty = 26
  · rw [if_pos e] at h; simp only [Option.some.injEq, Prod.mk.injEq] at h; obtain ⟨rfl, rfl, rfl, rfl⟩ := h; subst e; exact ⟨Tryz.underlying26, .agg (#[.int .i64 0, .int .i64 0, .int .i64 0, .int .i64 0, .int .i64 0]), by kernel_rfl, rfl, rfl⟩
  rw [if_neg e] at h
  by_cases e : ty = 105
  · rw [if_pos e] at h; simp only [Option.some.injEq, Prod.mk.injEq] at h; obtain ⟨rfl, rfl, rfl, rfl⟩ := h; subst e; exact ⟨Tryz.underlying105, .int .i64 0, by kernel_rfl, rfl, rfl⟩
  rw [if_neg e] at h
  by_cases e : ty = 104
  · rw [if_pos e] at h; simp only [Option.some.injEq, Prod.mk.injEq] at h; obtain ⟨rfl, rfl, rfl, rfl⟩ := h; subst e; exact ⟨Tryz.underlying104, .agg (plC false zeroS), by kernel_rfl, rfl, rfl⟩
  rw [if_neg e] at h
  cases h
def asTab (ty : Nat) : Option Value :=
  if ty = 190 then some (.agg (#[.int .i64 0, .int .i64 0, .int .i64 0])) else
  if ty = 191 then some (.agg (#[.int .i64 0, .int .i64 0])) else
  if ty = 192 then some (.agg (#[.int .i64 0, .int .i64 0])) else
  if ty = 194 then some (.agg (#[.int .i64 0])) else
  if ty = 196 then some (.agg (#[.int .i64 0, .int .i64 0, .int .i64 0])) else
  if ty = 197 then some (.agg (#[.int .i64 0, .int .i64 0, .int .i64 0])) else
  none
theorem asT_of {ty : Nat} {z : Value} (h : asTab ty = some z) : AsT Tryz.prog ty z := by
  unfold asTab at h
  by_cases e : ty = 190
  · rw [if_pos e] at h; have h := Option.some.inj h; subst h; subst e; exact ⟨⟨_, Tryz.underlying190, fun m h => by cases h⟩, by kernel_rfl⟩
  rw [if_neg e] at h
  by_cases e : ty = 191
  · rw [if_pos e] at h; have h := Option.some.inj h; subst h; subst e; exact ⟨⟨_, Tryz.underlying191, fun m h => by cases h⟩, by kernel_rfl⟩
  rw [if_neg e] at h
  by_cases e : ty = 192
  · rw [if_pos e] at h; have h := Option.some.inj h; subst h; subst e; exact ⟨⟨_, Tryz.underlying192, fun m h => by cases h⟩, by kernel_rfl⟩
  rw [if_neg e] at h
  by_cases e : ty = 194
  · rw [if_pos e] at h; have h := Option.some.inj h; subst h; subst e; exact ⟨⟨_, Tryz.underlying194, fun m h => by cases h⟩, by kernel_rfl⟩
  rw [if_neg e] at h
  by_cases e : ty = 196
  · rw [if_pos e] at h; have h := Option.some.inj h; subst h; subst e; exact ⟨⟨_, Tryz.underlying196, fun m h => by cases h⟩, by kernel_rfl⟩
  rw [if_neg e] at h
  by_cases e : ty = 197
  · rw [if_pos e] at h; have h := Option.some.inj h; subst h; subst e; exact ⟨⟨_, Tryz.underlying197, fun m h => by cases h⟩, by kernel_rfl⟩
  rw [if_neg e] at h
  cases h
end Go.Proofs.YtamiichlbmllcaaGreatDoor
