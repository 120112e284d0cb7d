/-
  The contracts of suretylaw.lentClaims and suretylaw.backClaims: claims are lent in a list of the caller's own, and looked at and written over behind the call.
-/
import Derived.Test.YtamiichlbmllcaaDoorLent
import Derived.Test.YtamiichlbmllcaaDoorRegL
import Derived.Test.YtamiichlbmllcaaDoorRfG
namespace Go.Proofs.YtamiichlbmllcaaDoor
open Go.RowKit
def clsA (n : Nat) (f : Nat → C2) : Array Value := rowsA n 17 fun i => clC (f i).pl (f i).st
theorem clsA_size (n : Nat) (f : Nat → C2) : (clsA n f).size = n * 17 := rows_size _ _ _
theorem ex_cls (n : Nat) (f : Nat → C2) (i : Nat) (h : i < n) : (clsA n f).extract (i * 17) (i * 17 + 17) = clC (f i).pl (f i).st := rows_ex (g := fun i => clC (f i).pl (f i).st) h rfl
def updC (f : Nat → C2) (i : Nat) (x : C2) : Nat → C2 := fun j => if j = i then x else f j
theorem put_cls (n : Nat) (f : Nat → C2) (i : Nat) (p : Int) (s : St) : putA (clsA n f) (i * 17) (clC p s).toList = clsA n (updC f i ⟨p, s⟩) := by
  refine (rows_put (n := n) (k := 17) (g := fun i => clC (f i).pl (f i).st) (i := i) (c := clC p s) rfl).trans (rows_congr fun j _ => ?_)
  unfold updC
  split <;> rfl
theorem cls_congr {n : Nat} {f g : Nat → C2} (h : ∀ i, i < n → f i = g i) : clsA n f = clsA n g := rows_congr fun i hi => by rw [h i hi]
theorem cls_get {n : Nat} {f : Nat → C2} {i q : Nat} (hi : i < n) (hq : q < 17) : (clsA n f)[i * 17 + q]? = (clC (f i).pl (f i).st)[q]? := rows_at (g := fun i => clC (f i).pl (f i).st) hi hq rfl
theorem clC_one (p : Int) (s : St) : (clC p s).toList.all (·.oneCell') = true := by kernel_rfl
def clCells (c : C2) : List Value := (clC c.pl c.st).toList
theorem clCells_len (c : C2) : (clCells c).length = 17 := rfl
theorem flatC_len (L : List C2) : (L.flatMap clCells).length = L.length * 17 := by
  induction L with
  | nil => rfl
  | cons x r ih => rw [List.flatMap_cons, List.length_append, ih, clCells_len]; simp; omega
theorem flatC_get : ∀ (L : List C2) (i q : Nat), i < L.length → q < 17 → (L.flatMap clCells)[i * 17 + q]? = (clC (clAt L i).pl (clAt L i).st)[q]?
  | [], _, _, hi, _ => by simp at hi
  | x :: r, 0, q, _, hq => by
    rw [List.flatMap_cons, List.getElem?_append_left (by rw [clCells_len]; omega), Nat.zero_mul, Nat.zero_add]
    unfold clCells
    rw [Array.getElem?_toList]
    rfl
  | x :: r, i + 1, q, hi, hq => by
    rw [List.flatMap_cons, List.getElem?_append_right (by rw [clCells_len]; omega), clCells_len, show (i + 1) * 17 + q - 17 = i * 17 + q by omega, flatC_get r i q (by simpa using hi) hq]
    rfl
def zeroC : C2 := ⟨0, zeroS⟩
/-- while the claims are copied and the marks are laid -/
def lentU (cl : List C2) (k : Nat) : Nat → C2 := fun i => if i < cl.length then clAt cl i else if i < k then ⟨77 + i, zeroS⟩ else zeroC
theorem copy_cls (cl : List C2) (N : Nat) (h : cl.length ≤ N) : (cl.flatMap clCells ++ (clsA N (fun _ => zeroC)).toList.drop (cl.flatMap clCells).length).toArray = clsA N (lentU cl cl.length) := by
  have hl := flatC_len cl
  apply Array.ext_getElem?
  intro j
  simp only [List.getElem?_toArray]
  by_cases hj : j < N * 17
  · obtain ⟨i, q, hq, rfl⟩ : ∃ i q, q < 17 ∧ j = i * 17 + q := ⟨j / 17, j % 17, Nat.mod_lt _ (by omega), by omega⟩
    rw [cls_get (by omega) hq]
    by_cases hc : i < cl.length
    · rw [List.getElem?_append_left (by omega), flatC_get cl i q hc hq]
      unfold lentU; rw [if_pos hc]
    · rw [List.getElem?_append_right (by omega), List.getElem?_drop, show (cl.flatMap clCells).length + (i * 17 + q - (cl.flatMap clCells).length) = i * 17 + q by omega, Array.getElem?_toList, cls_get (by omega) hq]
      unfold lentU; rw [if_neg hc, if_neg hc]
  · rw [Array.getElem?_eq_none (by rw [clsA_size]; omega)]
    rw [List.getElem?_append_right (by omega), List.getElem?_drop, Array.getElem?_toList, Array.getElem?_eq_none (by rw [clsA_size]; omega)]
theorem lentU_step (cl : List C2) (N k : Nat) (h : cl.length ≤ k) : clsA N (updC (lentU cl k) k ⟨77 + (k : Int), zeroS⟩) = clsA N (lentU cl (k + 1)) := cls_congr fun i _ => by
  unfold updC lentU
  by_cases h1 : i = k
  · subst h1; rw [if_pos rfl, if_neg (by omega), if_pos (by omega)]
  · rw [if_neg h1]
    by_cases h2 : i < cl.length
    · rw [if_pos h2, if_pos h2]
    · rw [if_neg h2, if_neg h2]
      by_cases h3 : i < k
      · rw [if_pos h3, if_pos (by omega)]
      · rw [if_neg h3, if_neg (by omega)]
/-- a block's row, written anew -/
theorem Kn.row {M : List Nat} {w0 w : World} {L L' : RowL} {b : Nat} {A A' : Array Value} {t : TypeId} (h : Kn M w0 w L) (hm : (b, A, t) ∈ L) (hs : setB b A' L L') : Kn M w0 (w.setRow b A') L' := by
  have hat := (h.has _ hm).1
  have hor := (h.has _ hm).2
  simp only at hat hor
  refine ⟨h.mod.step (N := [b]) ⟨rfl, rfl, rfl, by simp [World.setRow], fun k _ hk => setRow_other w b k _ (fun e => hk (by simp [e]))⟩ (fun c hc => by simp at hc; subst hc; exact hor), fun y hy => ?_, pw_keys (setB_keys hs) h.dis⟩
  rcases setB_mem hs h.dis y hy with ⟨q, h3, h4, h5⟩ | ⟨h1, h2⟩
  · have hq := (h.has q h3).1
    unfold At at hq hat
    rw [h4, hat] at hq
    simp only [Option.some.injEq, Obj.cells.injEq] at hq
    rw [h5, ← hq.2.1]
    exact ⟨setRow_heap w b A _ t _ hat, hor⟩
  · refine ⟨?_, (h.has y h2).2⟩
    have := (h.has y h2).1
    unfold At at this ⊢
    rw [setRow_other w b y.1 _ (fun e => h1 e), this]
theorem wCopyC {ops : Array Oper} {rest : List Oper} {a : Act} {Q : Exit → Act → World → Prop} {w w0 : World} {M : List Nat} {L L' : RowL} {dst : Option Tmp} {tt : TypeId} {pos : String} {aft : Array Edge} {d s : Operand} {g N dCap : Nat} {ad : Addr} {sCap : Nat} {cl : List C2} (hk : Kn M w0 w L) (hm : (g, clsA N (fun _ => zeroC), 60) ∈ L) (hs : setB g (clsA N (lentU cl cl.length)) L L')
    (hd : a.eval d = .slice (some ⟨g, 0, none⟩) N dCap) (hsr : a.eval s = .slice (some ad) cl.length sCap) (hle : cl.length ≤ N) (hsrc : ∀ j v, (cl.flatMap clCells)[j]? = some v → w.cell? (ad.add j) = some v)
    (h : ∀ w1, Kn M w0 w1 L' → wpList Tryd.prog ops Q rest (a.put dst (goInt cl.length)) w1) : wpList Tryd.prog ops Q (⟨dst, .call { callee := .builtin .copy, args := #[d, s], argTypes := #[39, 39] }, tt, pos, aft, none⟩ :: rest) a w := by
  obtain ⟨i, hi, hz⟩ : ∃ i, Tryd.prog.info? 60 = some i ∧ i.size = 17 := by
    obtain ⟨i, hi, h2⟩ := Option.map_eq_some_iff.1 (show (Tryd.prog.info? 60).map (·.size) = some 17 by kernel_rfl)
    exact ⟨i, hi, h2⟩
  refine wpList_plain rfl fun K hK => ?_
  have hrun := run_copy_wide (P := Tryd.prog) w 39 39 tt 60 i g N dCap ad cl.length sCap (clsA N (fun _ => zeroC)) 60 (cl.flatMap clCells) Tryd.underlying39 hi (hk.at hm) (by rw [flatC_len, hz]) hle hsrc (by rw [flatC_len, clsA_size]; omega) (fun v hv => by obtain ⟨c, _, hc⟩ := List.mem_flatMap.1 hv; exact List.all_eq_true.1 (clC_one c.pl c.st) v hc)
  rw [copy_cls cl N hle] at hrun
  unfold Oper.wp
  simp [execOp, resolve, invoke, builtin, hd, hsr, hrun, Result.andThen]
  exact hK _ _ (h _ (hk.row hm hs))
/-- a list of claims as it was lent -/
def LentC (w : World) (base : Nat) (v hv : Value) (cl : List C2) : Prop :=
  (v = .slice none 0 0 ∧ hv = .slice none 0 0 ∧ cl = []) ∨
  ∃ a c g, v = .slice (some a) cl.length c ∧ hv = .slice (some ⟨g, 0, none⟩) cl.length (cl.length + 3) ∧ base ≤ g ∧ At w g (clsA (cl.length + 3) (lentU cl (cl.length + 3))) 60
theorem LentC.below {w w' : World} {base : Nat} {v hv : Value} {cl : List C2} (h : LentC w base v hv cl) (hb : Below w.heap.size w w') : LentC w' base v hv cl := by
  rcases h with h | ⟨a, c, g, h1, h2, h3, h4⟩
  · exact Or.inl h
  · refine Or.inr ⟨a, c, g, h1, h2, h3, ?_⟩
    unfold At at h4 ⊢
    rw [hb.block g (lt_of_block h4), h4]
theorem LentC.slc {w : World} {base : Nat} {v hv : Value} {cl : List C2} (h : LentC w base v hv cl) : SlcC w hv cl := by
  rcases h with ⟨_, rfl, rfl⟩ | ⟨a, c, g, _, rfl, _, h4⟩
  · exact Or.inl ⟨⟨_, _, rfl⟩, rfl⟩
  · refine Or.inr ⟨g, 0, _, rfl, lt_of_block h4, fun i hi j v hj => ?_⟩
    have hj17 : j < 17 := (List.getElem?_eq_some_iff.1 hj).1
    have e := cls_get (n := cl.length + 3) (f := lentU cl (cl.length + 3)) (i := i) (q := j) (by omega) hj17
    have e2 : lentU cl (cl.length + 3) i = clAt cl i := by unfold lentU; rw [if_pos hi]
    rw [e2] at e
    rw [cell_of_row _ _ _ _ _ _ h4, show 0 + i * 17 + j = i * 17 + j by omega, e, ← Array.getElem?_toList]
    exact hj
/-- a slice of claims that came in: nil is nil -/
def ArgC (w : World) (v : Value) (cl : List C2) : Prop := SlcC w v cl ∧ ∀ n c, v = .slice none n c → n = 0 ∧ c = 0
theorem ArgC.below {w w' : World} {v : Value} {cl : List C2} {B : Nat} (h : ArgC w v cl) (hb : Below B w w') (hB : w.heap.size ≤ B) : ArgC w' v cl := ⟨h.1.below hb hB, h.2⟩
theorem ArgC.cells {w : World} {v : Value} {cl : List C2} (h : ArgC w v cl) : (v = .slice none 0 0 ∧ cl = []) ∨ ∃ a c, v = .slice (some a) cl.length c ∧ (∀ j u, (cl.flatMap clCells)[j]? = some u → w.cell? (a.add j) = some u) := by
  obtain ⟨hs, hn⟩ := h
  rcases hs with ⟨⟨a, c, rfl⟩, rfl⟩ | ⟨b, off, cap, rfl, hb, hi⟩
  · cases a with
    | none => obtain ⟨_, rfl⟩ := hn 0 c rfl; exact Or.inl ⟨rfl, rfl⟩
    | some a => exact Or.inr ⟨a, c, rfl, fun j u hj => by simp at hj⟩
  · refine Or.inr ⟨⟨b, off, none⟩, cap, rfl, fun j u hj => ?_⟩
    have hlt := (List.getElem?_eq_some_iff.1 hj).1
    rw [flatC_len] at hlt
    obtain ⟨i, q, hq, rfl⟩ : ∃ i q, q < 17 ∧ j = i * 17 + q := ⟨j / 17, j % 17, Nat.mod_lt _ (by omega), by omega⟩
    rw [flatC_get cl i q (by omega) hq] at hj
    rw [addr_add, ← Nat.add_assoc]
    exact hi i (by omega) q u (by rw [Array.getElem?_toList]; exact hj)
set_option maxHeartbeats 1000000 in
set_option maxRecDepth 100000 in
theorem lentC_some (cl : List C2) (a : Addr) (c : Nat) (w : World) (hcs : ∀ j u, (cl.flatMap clCells)[j]? = some u → w.cell? (a.add j) = some u) (hlen : cl.length * 136 ≤ 140737488351232) :
    Calls Tryd.prog 17 #[.slice (some a) cl.length c] w fun e w' => ∃ hv, e = .returned hv ∧ LentC w' w.heap.size (.slice (some a) cl.length c) hv cl ∧ Below w.heap.size w w' := by
  have hk := Kn.nil [] w
  have hq := fun wx => Lib.run_eql_slice_nil (P := Tryd.prog) wx 39 60 (some a) cl.length c 0 0 Tryd.underlying39
  simp only [Option.isNone_some] at hq
  have HC := hide hcs
  clear hcs
  go_enter Tryd.func17, Tryd.ntmps17
  go_wp2_with (first | (refine wMake (n := cl.length + 3) hk ?_; clear hk; intro w1 hk; simp only [Act.put, List.setIfInBounds_toArray, List.set_cons_succ, List.set_cons_zero]; replace hk : Kn [] w w1 [(w.heap.size, clsA (cl.length + 3) (fun _ => zeroC), 60)] := hk) | (refine wCopyC (cl := cl) hk List.mem_cons_self (setB_here _ _ _ _ _) rfl rfl (by omega) (fun j v hj => ?cc) ?_; rotate_left; clear hk; intro w1 hk; simp only [Act.put, List.setIfInBounds_toArray, List.set_cons_succ, List.set_cons_zero]) | ((with_reducible show wpList _ _ _ _ _ _); (first | ((with_reducible show wpList _ _ _ (⟨_, _, _, _, _, some _⟩ :: _) _ _); refine wpList_skip (by rfl) ?_; simp only [Act.put, List.setIfInBounds_toArray, List.set_cons_succ, List.set_cons_zero]) | ((first | refine wBuild hk ?_ | refine wFieldZ hk ?_ | refine wField0 hk ?_ | refine wField hk ?_ | refine wIndexA0 hk ?_ | refine wIndexS0 hk ?_ | refine wIndexA hk ?_ | refine wIndexS hk ?_ | refine wLoadR hk ?_ | refine wLoad1 hk ?_ | refine wOldR hk ?_ | refine wOld1 hk ?_ | refine wOldC hk ?_ | refine wOldG hk ?_ | refine wAssertY hk ?_ | refine wAssertN hk ?_); simp only [Act.put, List.setIfInBounds_toArray, List.set_cons_succ, List.set_cons_zero]) | ((first | refine wBox hk ?_ | refine wBox1I hk ?_ | refine wBox1B hk ?_ | refine wBox1S hk ?_ | refine wBox1P hk ?_ | refine wBox1F hk ?_ | refine wAllocR hk ?_ | refine wAlloc1 hk ?_ | refine wMake hk ?_); clear hk; intro w1 hk; simp only [Act.put, List.setIfInBounds_toArray, List.set_cons_succ, List.set_cons_zero]) | ((first | refine wStoreR hk ?_ | refine wStore1I hk ?_ | refine wStore1B hk ?_ | refine wStore1S hk ?_ | refine wStore1P hk ?_ | refine wStore1F hk ?_); clear hk; intro w1 hk; simp only [Act.put]))))
  case cc => rw [hk.mod.below.cell (p := a.add j) (World.block_lt_of_cell? w _ (HC.out j v hj))]; exact HC.out j v hj
  go_loopw [4] (fun j wr => ∃ n : Nat, cl.length ≤ n ∧ n ≤ cl.length + 3 ∧ j = .int .i64 n ∧ Kn [] w wr [(w.heap.size, clsA (cl.length + 3) (lentU cl n), 60)]) (fun j _ => cl.length + 3 - (intOf j).toNat)
  case atStart => exact ⟨cl.length, by omega, by omega, rfl, hk⟩
  case round =>
    clear hk
    obtain ⟨n, hn1, hn2, rfl, hk⟩ := hrel
    by_cases hlt : n < cl.length + 3
    · have R := hide (lentU_step cl (cl.length + 3) n hn1)
      go_wp2_with (first | (refine wBuild hk ?_ (hb := build_cla _ _); simp only [Act.put, List.setIfInBounds_toArray, List.set_cons_succ, List.set_cons_zero]) | (refine wStoreR hk ?_ (hj := by simp only [clsA_size]; omega) (hA := put_cls _ _ _ _ _); clear hk; intro w1 hk; simp only [Act.put]) | ((with_reducible show wpList _ _ _ _ _ _); (first | ((with_reducible show wpList _ _ _ (⟨_, _, _, _, _, some _⟩ :: _) _ _); refine wpList_skip (by rfl) ?_; simp only [Act.put, List.setIfInBounds_toArray, List.set_cons_succ, List.set_cons_zero]) | ((first | refine wBuild hk ?_ | refine wFieldZ hk ?_ | refine wField0 hk ?_ | refine wField hk ?_ | refine wIndexA0 hk ?_ | refine wIndexS0 hk ?_ | refine wIndexA hk ?_ | refine wIndexS hk ?_ | refine wLoadR hk ?_ | refine wLoad1 hk ?_ | refine wOldR hk ?_ | refine wOld1 hk ?_ | refine wOldC hk ?_ | refine wOldG hk ?_ | refine wAssertY hk ?_ | refine wAssertN hk ?_); simp only [Act.put, List.setIfInBounds_toArray, List.set_cons_succ, List.set_cons_zero]) | ((first | refine wBox hk ?_ | refine wBox1I hk ?_ | refine wBox1B hk ?_ | refine wBox1S hk ?_ | refine wBox1P hk ?_ | refine wBox1F hk ?_ | refine wAllocR hk ?_ | refine wAlloc1 hk ?_ | refine wMake hk ?_); clear hk; intro w1 hk; simp only [Act.put, List.setIfInBounds_toArray, List.set_cons_succ, List.set_cons_zero]) | ((first | refine wStoreR hk ?_ | refine wStore1I hk ?_ | refine wStore1B hk ?_ | refine wStore1S hk ?_ | refine wStore1P hk ?_ | refine wStore1F hk ?_); clear hk; intro w1 hk; simp only [Act.put]))))
      go_roundw
      case rel => exact ⟨n + 1, by omega, by omega, by go_num, by rw [← R.out]; exact hk⟩
      case measure => simp [intOf]; omega
    · have en : n = cl.length + 3 := by omega
      subst en
      go_wp2_with (first | ((with_reducible show wpList _ _ _ _ _ _); (first | ((with_reducible show wpList _ _ _ (⟨_, _, _, _, _, some _⟩ :: _) _ _); refine wpList_skip (by rfl) ?_; simp only [Act.put, List.setIfInBounds_toArray, List.set_cons_succ, List.set_cons_zero]) | ((first | refine wBuild hk ?_ | refine wFieldZ hk ?_ | refine wField0 hk ?_ | refine wField hk ?_ | refine wIndexA0 hk ?_ | refine wIndexS0 hk ?_ | refine wIndexA hk ?_ | refine wIndexS hk ?_ | refine wLoadR hk ?_ | refine wLoad1 hk ?_ | refine wOldR hk ?_ | refine wOld1 hk ?_ | refine wOldC hk ?_ | refine wOldG hk ?_ | refine wAssertY hk ?_ | refine wAssertN hk ?_); simp only [Act.put, List.setIfInBounds_toArray, List.set_cons_succ, List.set_cons_zero]) | ((first | refine wBox hk ?_ | refine wBox1I hk ?_ | refine wBox1B hk ?_ | refine wBox1S hk ?_ | refine wBox1P hk ?_ | refine wBox1F hk ?_ | refine wAllocR hk ?_ | refine wAlloc1 hk ?_ | refine wMake hk ?_); clear hk; intro w1 hk; simp only [Act.put, List.setIfInBounds_toArray, List.set_cons_succ, List.set_cons_zero]) | ((first | refine wStoreR hk ?_ | refine wStore1I hk ?_ | refine wStore1B hk ?_ | refine wStore1S hk ?_ | refine wStore1P hk ?_ | refine wStore1F hk ?_); clear hk; intro w1 hk; simp only [Act.put]))))
      go_ret
      exact ⟨_, rfl, Or.inr ⟨a, c, _, rfl, rfl, Nat.le_refl _, hk.at List.mem_cons_self⟩, hk.mod.below⟩
end Go.Proofs.YtamiichlbmllcaaDoor
