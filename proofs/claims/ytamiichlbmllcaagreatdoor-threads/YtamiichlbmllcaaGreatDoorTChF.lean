import Derived.Test.YtamiichlbmllcaaGreatDoorTChD
/-
  The contracts of suretylaw.lentClaims and suretylaw.backClaims: claims are lent in a list of the caller's own, and looked at and written over behind the call.
-/
namespace Go.Proofs.YtamiichlbmllcaaGreatDoor
open Go.RowKit
def clsA (n : Nat) (f : Nat → C2) : Array Value := rowsA n 17 fun i => clC (f i).pl (f i).st
theorem clsA_size (n : Nat) (f : Nat → C2) : (clsA n f).size = n * 17 := rows_size _ _ _
theorem ex_cls (n : Nat) (f : Nat → C2) (i : Nat) (h : i < n) : (clsA n f).extract (i * 17) (i * 17 + 17) = clC (f i).pl (f i).st := rows_ex (g := fun i => clC (f i).pl (f i).st) h rfl
def updC (f : Nat → C2) (i : Nat) (x : C2) : Nat → C2 := fun j => if j = i then x else f j
theorem put_cls (n : Nat) (f : Nat → C2) (i : Nat) (p : Int) (s : St) : putA (clsA n f) (i * 17) (clC p s).toList = clsA n (updC f i ⟨p, s⟩) := by
  refine (rows_put (n := n) (k := 17) (g := fun i => clC (f i).pl (f i).st) (i := i) (c := clC p s) rfl).trans (rows_congr fun j _ => ?_)
  unfold updC
  split <;> rfl
theorem cls_congr {n : Nat} {f g : Nat → C2} (h : ∀ i, i < n → f i = g i) : clsA n f = clsA n g := rows_congr fun i hi => by rw [h i hi]
theorem cls_get {n : Nat} {f : Nat → C2} {i q : Nat} (hi : i < n) (hq : q < 17) : (clsA n f)[i * 17 + q]? = (clC (f i).pl (f i).st)[q]? := rows_at (g := fun i => clC (f i).pl (f i).st) hi hq rfl
theorem clC_one (p : Int) (s : St) : (clC p s).toList.all (·.oneCell') = true := by kernel_rfl
def clCells (c : C2) : List Value := (clC c.pl c.st).toList
theorem clCells_len (c : C2) : (clCells c).length = 17 := rfl
theorem flatC_len (L : List C2) : (L.flatMap clCells).length = L.length * 17 := by
  induction L with
  | nil => rfl
  | cons x r ih => rw [List.flatMap_cons, List.length_append, ih, clCells_len]; simp; omega
theorem flatC_get : ∀ (L : List C2) (i q : Nat), i < L.length → q < 17 → (L.flatMap clCells)[i * 17 + q]? = (clC (clAt L i).pl (clAt L i).st)[q]?
  | [], _, _, hi, _ => by simp at hi
  | x :: r, 0, q, _, hq => by
    rw [List.flatMap_cons, List.getElem?_append_left (by rw [clCells_len]; omega), Nat.zero_mul, Nat.zero_add]
    unfold clCells
    rw [Array.getElem?_toList]
    rfl
  | x :: r, i + 1, q, hi, hq => by
    rw [List.flatMap_cons, List.getElem?_append_right (by rw [clCells_len]; omega), clCells_len, show (i + 1) * 17 + q - 17 = i * 17 + q by omega, flatC_get r i q (by simpa using hi) hq]
    rfl
def zeroC : C2 := ⟨0, zeroS⟩
/-- while the claims are copied and the marks are laid -/
def lentU (cl : List C2) (k : Nat) : Nat → C2 := fun i => if i < cl.length then clAt cl i else if i < k then ⟨77 + i, zeroS⟩ else zeroC
theorem copy_cls (cl : List C2) (N : Nat) (h : cl.length ≤ N) : (cl.flatMap clCells ++ (clsA N (fun _ => zeroC)).toList.drop (cl.flatMap clCells).length).toArray = clsA N (lentU cl cl.length) := by
  have hl := flatC_len cl
  apply Array.ext_getElem?
  intro j
  simp only [List.getElem?_toArray]
  by_cases hj : j < N * 17
  · obtain ⟨i, q, hq, rfl⟩ : ∃ i q, q < 17 ∧ j = i * 17 + q := ⟨j / 17, j % 17, Nat.mod_lt _ (by omega), by omega⟩
    rw [cls_get (by omega) hq]
    by_cases hc : i < cl.length
    · rw [List.getElem?_append_left (by omega), flatC_get cl i q hc hq]
      unfold lentU; rw [if_pos hc]
    · rw [List.getElem?_append_right (by omega), List.getElem?_drop, show (cl.flatMap clCells).length + (i * 17 + q - (cl.flatMap clCells).length) = i * 17 + q by omega, Array.getElem?_toList, cls_get (by omega) hq]
      unfold lentU; rw [if_neg hc, if_neg hc]
  · rw [Array.getElem?_eq_none (by rw [clsA_size]; omega)]
    rw [List.getElem?_append_right (by omega), List.getElem?_drop, Array.getElem?_toList, Array.getElem?_eq_none (by rw [clsA_size]; omega)]
theorem lentU_step (cl : List C2) (N k : Nat) (h : cl.length ≤ k) : clsA N (updC (lentU cl k) k ⟨77 + (k : Int), zeroS⟩) = clsA N (lentU cl (k + 1)) := cls_congr fun i _ => by
  unfold updC lentU
  by_cases h1 : i = k
  · subst h1; rw [if_pos rfl, if_neg (by omega), if_pos (by omega)]
  · rw [if_neg h1]
    by_cases h2 : i < cl.length
    · rw [if_pos h2, if_pos h2]
    · rw [if_neg h2, if_neg h2]
      by_cases h3 : i < k
      · rw [if_pos h3, if_pos (by omega)]
      · rw [if_neg h3, if_neg (by omega)]
/-- a block's row, written anew -/
theorem Kn.row {M : List Nat} {w0 w : World} {L L' : RowL} {b : Nat} {A A' : Array Value} {t : TypeId} (h : Kn M w0 w L) (hm : (b, A, t) ∈ L) (hs : setB b A' L L') : Kn M w0 (w.setRow b A') L' := by
  have hat := (h.has _ hm).1
  have hor := (h.has _ hm).2
  simp only at hat hor
  refine ⟨h.mod.step (N := [b]) ⟨rfl, rfl, rfl, by simp [World.setRow], fun k _ hk => setRow_other w b k _ (fun e => hk (by simp [e]))⟩ (fun c hc => by simp at hc; subst hc; exact hor), fun y hy => ?_, pw_keys (setB_keys hs) h.dis⟩
  rcases setB_mem hs h.dis y hy with ⟨q, h3, h4, h5⟩ | ⟨h1, h2⟩
  · have hq := (h.has q h3).1
    unfold At at hq hat
    rw [h4, hat] at hq
    simp only [Option.some.injEq, Obj.cells.injEq] at hq
    rw [h5, ← hq.2.1]
    exact ⟨setRow_heap w b A _ t _ hat, hor⟩
  · refine ⟨?_, (h.has y h2).2⟩
    have := (h.has y h2).1
    unfold At at this ⊢
    rw [setRow_other w b y.1 _ (fun e => h1 e), this]
theorem wCopyC {ops : Array Oper} {rest : List Oper} {a : Act} {Q : Exit → Act → World → Prop} {w w0 : World} {M : List Nat} {L L' : RowL} {dst : Option Tmp} {tt : TypeId} {pos : String} {aft : Array Edge} {d s : Operand} {g N dCap : Nat} {ad : Addr} {sCap : Nat} {cl : List C2} (hk : Kn M w0 w L) (hm : (g, clsA N (fun _ => zeroC), 78) ∈ L) (hs : setB g (clsA N (lentU cl cl.length)) L L')
    (hd : a.eval d = .slice (some ⟨g, 0, none⟩) N dCap) (hsr : a.eval s = .slice (some ad) cl.length sCap) (hle : cl.length ≤ N) (hsrc : ∀ j v, (cl.flatMap clCells)[j]? = some v → w.cell? (ad.add j) = some v)
    (h : ∀ w1, Kn M w0 w1 L' → wpList Tryz.prog ops Q rest (a.put dst (goInt cl.length)) w1) : wpList Tryz.prog ops Q (⟨dst, .call { callee := .builtin .copy, args := #[d, s], argTypes := #[41, 41] }, tt, pos, aft, none⟩ :: rest) a w := by
  obtain ⟨i, hi, hz⟩ : ∃ i, Tryz.prog.info? 78 = some i ∧ i.size = 17 := by
    obtain ⟨i, hi, h2⟩ := Option.map_eq_some_iff.1 (show (Tryz.prog.info? 78).map (·.size) = some 17 by kernel_rfl)
    exact ⟨i, hi, h2⟩
  refine wpList_plain rfl fun K hK => ?_
  have hrun := run_copy_wide (P := Tryz.prog) w 41 41 tt 78 i g N dCap ad cl.length sCap (clsA N (fun _ => zeroC)) 78 (cl.flatMap clCells) Tryz.underlying41 hi (hk.at hm) (by rw [flatC_len, hz]) hle hsrc (by rw [flatC_len, clsA_size]; omega) (fun v hv => by obtain ⟨c, _, hc⟩ := List.mem_flatMap.1 hv; exact List.all_eq_true.1 (clC_one c.pl c.st) v hc)
  rw [copy_cls cl N hle] at hrun
  unfold Oper.wp
  simp [execOp, resolve, invoke, builtin, hd, hsr, hrun, Result.andThen]
  exact hK _ _ (h _ (hk.row hm hs))
/-- a list of claims as it was lent -/
def LentC (w : World) (base : Nat) (v hv : Value) (cl : List C2) : Prop :=
  (v = .slice none 0 0 ∧ hv = .slice none 0 0 ∧ cl = []) ∨
  ∃ a c g, v = .slice (some a) cl.length c ∧ hv = .slice (some ⟨g, 0, none⟩) cl.length (cl.length + 3) ∧ base ≤ g ∧ At w g (clsA (cl.length + 3) (lentU cl (cl.length + 3))) 78
theorem LentC.below {w w' : World} {base : Nat} {v hv : Value} {cl : List C2} (h : LentC w base v hv cl) (hb : Below w.heap.size w w') : LentC w' base v hv cl := by
  rcases h with h | ⟨a, c, g, h1, h2, h3, h4⟩
  · exact Or.inl h
  · refine Or.inr ⟨a, c, g, h1, h2, h3, ?_⟩
    unfold At at h4 ⊢
    rw [hb.block g (lt_of_block h4), h4]
theorem LentC.slc {w : World} {base : Nat} {v hv : Value} {cl : List C2} (h : LentC w base v hv cl) : SlcC w hv cl := by
  rcases h with ⟨_, rfl, rfl⟩ | ⟨a, c, g, _, rfl, _, h4⟩
  · exact Or.inl ⟨⟨_, _, rfl⟩, rfl⟩
  · refine Or.inr ⟨g, 0, _, rfl, lt_of_block h4, fun i hi j v hj => ?_⟩
    have hj17 : j < 17 := (List.getElem?_eq_some_iff.1 hj).1
    have e := cls_get (n := cl.length + 3) (f := lentU cl (cl.length + 3)) (i := i) (q := j) (by omega) hj17
    have e2 : lentU cl (cl.length + 3) i = clAt cl i := by unfold lentU; rw [if_pos hi]
    rw [e2] at e
    rw [cell_of_row _ _ _ _ _ _ h4, show 0 + i * 17 + j = i * 17 + j by omega, e, ← Array.getElem?_toList]
    exact hj
/-- a slice of claims that came in: nil is nil -/
def ArgC (w : World) (v : Value) (cl : List C2) : Prop := SlcC w v cl ∧ ∀ n c, v = .slice none n c → n = 0 ∧ c = 0
theorem ArgC.below {w w' : World} {v : Value} {cl : List C2} {B : Nat} (h : ArgC w v cl) (hb : Below B w w') (hB : w.heap.size ≤ B) : ArgC w' v cl := ⟨h.1.below hb hB, h.2⟩
theorem ArgC.cells {w : World} {v : Value} {cl : List C2} (h : ArgC w v cl) : (v = .slice none 0 0 ∧ cl = []) ∨ ∃ a c, v = .slice (some a) cl.length c ∧ (∀ j u, (cl.flatMap clCells)[j]? = some u → w.cell? (a.add j) = some u) := by
  obtain ⟨hs, hn⟩ := h
  rcases hs with ⟨⟨a, c, rfl⟩, rfl⟩ | ⟨b, off, cap, rfl, hb, hi⟩
  · cases a with
    | none => obtain ⟨_, rfl⟩ := hn 0 c rfl; exact Or.inl ⟨rfl, rfl⟩
    | some a => exact Or.inr ⟨a, c, rfl, fun j u hj => by simp at hj⟩
  · refine Or.inr ⟨⟨b, off, none⟩, cap, rfl, fun j u hj => ?_⟩
    have hlt := (List.getElem?_eq_some_iff.1 hj).1
    rw [flatC_len] at hlt
    obtain ⟨i, q, hq, rfl⟩ : ∃ i q, q < 17 ∧ j = i * 17 + q := ⟨j / 17, j % 17, Nat.mod_lt _ (by omega), by omega⟩
    rw [flatC_get cl i q (by omega) hq] at hj
    rw [addr_add, ← Nat.add_assoc]
    exact hi i (by omega) q u (by rw [Array.getElem?_toList]; exact hj)
set_option maxHeartbeats 4000000 in
set_option maxRecDepth 100000 in
theorem lentC_some (cl : List C2) (a : Addr) (c : Nat) (w : World) (hcs : ∀ j u, (cl.flatMap clCells)[j]? = some u → w.cell? (a.add j) = some u) (hlen : cl.length * 136 ≤ 140737488351232) :
    Calls Tryz.prog 87 #[.slice (some a) cl.length c] w fun e w' => ∃ hv, e = .returned hv ∧ LentC w' w.heap.size (.slice (some a) cl.length c) hv cl ∧ Below w.heap.size w w' := by
  have hk := Kn.nil [] w
  have hq := fun wx => Lib.run_eql_slice_nil (P := Tryz.prog) wx 41 78 (some a) cl.length c 0 0 Tryz.underlying41
  simp only [Option.isNone_some] at hq
  have HC := hide hcs
  clear hcs
  go_enter Tryz.func87, Tryz.ntmps87
  go_wp2_with (first | (refine wMake (n := cl.length + 3) hk ?_; clear hk; intro w1 hk; simp only [Act.put, pw]; replace hk : Kn [] w w1 [(w.heap.size, clsA (cl.length + 3) (fun _ => zeroC), 78)] := hk) | (refine wCopyC (cl := cl) hk List.mem_cons_self (setB_here _ _ _ _ _) rfl rfl (by omega) (fun j v hj => ?cc) ?_; rotate_left; clear hk; intro w1 hk; simp only [Act.put, pw]) | ((with_reducible show wpList _ _ _ _ _ _); (first | (refine wS hk ?_; simp only [Act.put, pw]) | (refine wN hk ?_; clear hk; intro w1 hk; simp only [Act.put, pw]) | (refine wT hk ?_; clear hk; intro w1 hk; simp only [Act.put]))))
  case cc => rw [hk.mod.below.cell (p := a.add j) (World.block_lt_of_cell? w _ (HC.out j v hj))]; exact HC.out j v hj
  go_loopw [4] (fun j wr => ∃ n : Nat, cl.length ≤ n ∧ n ≤ cl.length + 3 ∧ j = .int .i64 n ∧ Kn [] w wr [(w.heap.size, clsA (cl.length + 3) (lentU cl n), 78)]) (fun j _ => cl.length + 3 - (intOf j).toNat)
  case atStart => exact ⟨cl.length, by omega, by omega, rfl, hk⟩
  case round =>
    clear hk
    obtain ⟨n, hn1, hn2, rfl, hk⟩ := hrel
    by_cases hlt : n < cl.length + 3
    · have R := hide (lentU_step cl (cl.length + 3) n hn1)
      go_wp2_with (first | (refine wBuild hk ?_ (hb := build_cla _ _); simp only [Act.put, pw]) | (refine wStoreR hk ?_ (hj := by simp only [clsA_size]; omega) (hA := put_cls _ _ _ _ _); clear hk; intro w1 hk; simp only [Act.put]) | ((with_reducible show wpList _ _ _ _ _ _); (first | (refine wS hk ?_; simp only [Act.put, pw]) | (refine wN hk ?_; clear hk; intro w1 hk; simp only [Act.put, pw]) | (refine wT hk ?_; clear hk; intro w1 hk; simp only [Act.put]))))
      go_roundw
      case rel => exact ⟨n + 1, by omega, by omega, by go_num, by rw [← R.out]; exact hk⟩
      case measure => simp [intOf]; omega
    · have en : n = cl.length + 3 := by omega
      subst en
      go_wp2_with (first | ((with_reducible show wpList _ _ _ _ _ _); (first | (refine wS hk ?_; simp only [Act.put, pw]) | (refine wN hk ?_; clear hk; intro w1 hk; simp only [Act.put, pw]) | (refine wT hk ?_; clear hk; intro w1 hk; simp only [Act.put]))))
      go_ret
      exact ⟨_, rfl, Or.inr ⟨a, c, _, rfl, rfl, Nat.le_refl _, hk.at List.mem_cons_self⟩, hk.mod.below⟩
end Go.Proofs.YtamiichlbmllcaaGreatDoor
/-
  Claims laid out: the contract of proof.layOut; the contract of proof.firstWrong for every list.
-/
namespace Go.Proofs.YtamiichlbmllcaaGreatDoor
open Go.RowKit
/-- what the first i claims say of each instruction -/
def layU (cl : List C2) : Nat → Nat → Option St
  | 0 => fun _ => none
  | i + 1 => updW (layU cl i) (clAt cl i).pl.toNat (some (clAt cl i).st)
def layR (cl : List C2) : Nat → Option St := layU cl cl.length
set_option maxHeartbeats 4000000 in
set_option maxRecDepth 100000 in
theorem firstWrong_nil (n mb mc : Nat) (a : Option Addr) (cap : Nat) (w : World) : Calls Tryz.prog 64 #[.slice (some ⟨mb, 0, none⟩) n mc, .slice a 0 cap] w fun e w' => e = .returned (.int .i64 (0 : Nat)) ∧ Below w.heap.size w w' := by
  have hk := Kn.nil [] w
  go_enter Tryz.func64, Tryz.ntmps64
  go_wp2_with (first | ((with_reducible show wpList _ _ _ _ _ _); (first | (refine wS hk ?_; simp only [Act.put, pw]) | (refine wN hk ?_; clear hk; intro w1 hk; simp only [Act.put, pw]) | (refine wT hk ?_; clear hk; intro w1 hk; simp only [Act.put]))))
  go_loopw [5, 10] (fun _ j wr => j = .int .i64 0 ∧ Kn [] w wr []) (fun _ _ _ => 0)
  case atStart => exact ⟨rfl, hk⟩
  case round =>
    clear hk
    obtain ⟨rfl, hk⟩ := hrel
    go_wp2_with (first | ((with_reducible show wpList _ _ _ _ _ _); (first | (refine wS hk ?_; simp only [Act.put, pw]) | (refine wN hk ?_; clear hk; intro w1 hk; simp only [Act.put, pw]) | (refine wT hk ?_; clear hk; intro w1 hk; simp only [Act.put]))))
    go_ret
    exact ⟨rfl, hk.mod.below⟩
theorem firstWrong_any (mk : Nat → Bool) (n : Nat) (mb mc : Nat) (cl : List C2) (hcl : cl.length < 4000000000000) (v : Value) (w : World) (hm : At w mb (bosA n mk) 4) (hs : SlcC w v cl) :
    Calls Tryz.prog 64 #[.slice (some ⟨mb, 0, none⟩) n mc, v] w fun e w' => e = .returned (.int .i64 (fwR mk n cl (-1) 0 : Nat)) ∧ Below w.heap.size w w' := by
  rcases hs with ⟨⟨a, cap, rfl⟩, rfl⟩ | ⟨b, off, cap, rfl, hb, hc⟩
  · exact firstWrong_nil n mb mc a cap w
  · exact firstWrong_some mk n mb mc cl hcl b off cap w hm hb hc
set_option maxHeartbeats 4000000 in
set_option maxRecDepth 100000 in
theorem layOut_some (n : Nat) (hn : n ≤ 64) (cl : List C2) (hcl : cl.length < 4000000000000) (hg : ∀ i, i < cl.length → ∃ k : Nat, (clAt cl i).pl = k ∧ k < n) (b off cap : Nat) (w : World) (hb : b < w.heap.size) (hc : ∀ i, i < cl.length → w.rangeAt b (off + i * 17) (clC (clAt cl i).pl (clAt cl i).st).toList) :
    Calls Tryz.prog 65 #[.int .i64 n, .slice (some ⟨b, off, none⟩) cl.length cap] w fun e w' => ∃ sb, e = .returned (.slice (some ⟨sb, 0, none⟩) n n) ∧ At w' sb (plsA n (layR cl)) 174 ∧ w.heap.size ≤ sb ∧ Below w.heap.size w w' := by
  have hk := Kn.nil [] w
  have HC := hide hc
  have HG := hide hg
  clear hc hg
  go_enter Tryz.func65, Tryz.ntmps65
  go_wp2_with (first | ((with_reducible show wpList _ _ _ _ _ _); (first | (refine wS hk ?_; simp only [Act.put, pw]) | (refine wN hk ?_; clear hk; intro w1 hk; simp only [Act.put, pw]) | (refine wT hk ?_; clear hk; intro w1 hk; simp only [Act.put]))))
  replace hk : Kn [] w w1 [(w.heap.size, plsA n (layU cl 0), 174)] := hk
  go_loopw [12] (fun j wr => ∃ i : Nat, i ≤ cl.length ∧ j = .int .i64 i ∧ Kn [] w wr [(w.heap.size, plsA n (layU cl i), 174)]) (fun j _ => cl.length - (intOf j).toNat)
  case atStart => exact ⟨0, by omega, rfl, hk⟩
  case round =>
    clear hk
    obtain ⟨i, hi, rfl, hk⟩ := hrel
    by_cases hlt : i < cl.length
    · have hci := HC.out i hlt
      obtain ⟨k, hk1, hk2⟩ := HG.out i hlt
      have R : Hid (layU cl (i + 1) = updW (layU cl i) k (some (clAt cl i).st)) := hide (by rw [layU, hk1, Int.toNat_natCast])
      obtain ⟨st, hst⟩ : ∃ st, st = (clAt cl i).st := ⟨_, rfl⟩
      rw [hk1, ← hst] at hci
      rw [← hst] at R
      clear hst hk1
      go_wp2_with (first | ((with_reducible show wpList _ _ _ _ _ _); (first | (refine wS hk ?_; simp only [Act.put, pw]) | (refine wN hk ?_; clear hk; intro w1 hk; simp only [Act.put, pw]) | (refine wT hk ?_; clear hk; intro w1 hk; simp only [Act.put]))))
      (refine wp_regK hk (.op 0 (.op 1 (.op 2 (.op 3 (.op 4 (.op 5 (.op 6 (.op 7 .nil)))))))) (fun i => decide (i < 6)) mixT (by decide) (by kernel_rfl) (by kernel_rfl) ?_; clear hk; intro w1 hk)
      (repeat (refine sS hk ?_; simp only [Act.put, pw]))
      (refine sCall ?_; intro K hK; go_step; go_at_call 102; refine (with_any _ _).mono ?_; rintro e w1 ⟨rfl, hb⟩; replace hk := hk.call hb; clear hb; refine hK _ _ (fun _ => by first | exact hk | exact hk.drop | exact hk.drop.drop | exact hk.mid | exact hk.pick13 | exact hk.pick4) ?_; clear hK K)
      (repeat (refine sS hk ?_; simp only [Act.put, pw]))
      (refine sStore hk ?_; clear hk; intro w1 hk; refine ⟨fun h => absurd h (by decide), ?_⟩; simp only [Act.put])
      refine tNil ?_
      go_wp2_with (first | ((with_reducible show wpList _ _ _ _ _ _); (first | (refine wS hk ?_; simp only [Act.put, pw]) | (refine wN hk ?_; clear hk; intro w1 hk; simp only [Act.put, pw]) | (refine wT hk ?_; clear hk; intro w1 hk; simp only [Act.put]))))
      go_roundw
      case rel => exact ⟨i + 1, by omega, by go_num, by rw [R.out]; exact hk.drop⟩
      case measure => simp [intOf]; omega
    · have e : i = cl.length := by omega
      subst e
      go_wp2_with (first | ((with_reducible show wpList _ _ _ _ _ _); (first | (refine wS hk ?_; simp only [Act.put, pw]) | (refine wN hk ?_; clear hk; intro w1 hk; simp only [Act.put, pw]) | (refine wT hk ?_; clear hk; intro w1 hk; simp only [Act.put]))))
      go_ret
      have hat := hk.at (A := plsA n (layU cl cl.length)) (by with_reducible repeat (first | exact List.mem_cons_self | apply List.mem_cons_of_mem))
      exact ⟨_, rfl, hat, Nat.le_refl _, hk.mod.below⟩
set_option maxHeartbeats 4000000 in
set_option maxRecDepth 100000 in
theorem layOut_nil (n : Nat) (hn : n ≤ 64) (a : Option Addr) (cap : Nat) (w : World) :
    Calls Tryz.prog 65 #[.int .i64 n, .slice a 0 cap] w fun e w' => ∃ sb, e = .returned (.slice (some ⟨sb, 0, none⟩) n n) ∧ At w' sb (plsA n (layR [])) 174 ∧ w.heap.size ≤ sb ∧ Below w.heap.size w w' := by
  have hk := Kn.nil [] w
  go_enter Tryz.func65, Tryz.ntmps65
  go_wp2_with (first | ((with_reducible show wpList _ _ _ _ _ _); (first | (refine wS hk ?_; simp only [Act.put, pw]) | (refine wN hk ?_; clear hk; intro w1 hk; simp only [Act.put, pw]) | (refine wT hk ?_; clear hk; intro w1 hk; simp only [Act.put]))))
  replace hk : Kn [] w w1 [(w.heap.size, plsA n (layR []), 174)] := hk
  go_loopw [12] (fun j wr => j = .int .i64 0 ∧ Kn [] w wr [(w.heap.size, plsA n (layR []), 174)]) (fun _ _ => 0)
  case atStart => exact ⟨rfl, hk⟩
  case round =>
    clear hk
    obtain ⟨rfl, hk⟩ := hrel
    go_wp2_with (first | ((with_reducible show wpList _ _ _ _ _ _); (first | (refine wS hk ?_; simp only [Act.put, pw]) | (refine wN hk ?_; clear hk; intro w1 hk; simp only [Act.put, pw]) | (refine wT hk ?_; clear hk; intro w1 hk; simp only [Act.put]))))
    go_ret
    exact ⟨_, rfl, hk.at (by with_reducible repeat (first | exact List.mem_cons_self | apply List.mem_cons_of_mem)), Nat.le_refl _, hk.mod.below⟩
theorem layOut_any (n : Nat) (hn : n ≤ 64) (cl : List C2) (hcl : cl.length < 4000000000000) (hg : ∀ i, i < cl.length → ∃ k : Nat, (clAt cl i).pl = k ∧ k < n) (v : Value) (w : World) (hs : SlcC w v cl) :
    Calls Tryz.prog 65 #[.int .i64 n, v] w fun e w' => ∃ sb, e = .returned (.slice (some ⟨sb, 0, none⟩) n n) ∧ At w' sb (plsA n (layR cl)) 174 ∧ w.heap.size ≤ sb ∧ Below w.heap.size w w' := by
  rcases hs with ⟨⟨a, cap, rfl⟩, rfl⟩ | ⟨b, off, cap, rfl, hb, hc⟩
  · exact layOut_nil n hn a cap w
  · exact layOut_some n hn cl hcl hg b off cap w hb hc
end Go.Proofs.YtamiichlbmllcaaGreatDoor
/-
  One step of a pass that checks: the contracts of (proof.checker).takes, danger and (proof.route).step.
-/
namespace Go.Proofs.YtamiichlbmllcaaGreatDoor
open Go.RowKit
def liesP (b : Bool) (s : St) (y : Option St) : Bool := if b then liesO (some s) y else true
theorem liesP_eq (x y : Option St) : liesP x.isSome (stO x) y = liesO x y := by cases x <;> rfl
theorem liesPl_any (b : Bool) (s : St) (y : Option St) (w : World) : Calls Tryz.prog 149 #[.agg (plC b s), .agg (plC y.isSome (stO y))] w fun e w' => e = .returned (.bool (liesP b s y)) ∧ Below w.heap.size w w' := by
  cases b with
  | false => exact lies_un _ _ _ w
  | true => exact lies_any (some s) y w
theorem flow_c (i : I5) (N : Nat) (hfit : i.fits N = true) (pb cap n at_ : Nat) (hat : at_ < n) (s : St) (hok : s.ok) (h64 : s.in64) (w : World) (hi : w.cell? ⟨pb, at_ * 1, none⟩ = some (iVal i)) : Calls Tryz.prog 119 #[.slice (some ⟨pb, 0, none⟩) n cap, .int .i64 at_, .agg (stC s)] w fun e w' => e = .returned (.tuple #[.agg (plC (flowOn i s).isSome (stO (flowOn i s))), .agg (plC (flowFar i s).isSome (stO (flowFar i s)))]) ∧ Below w.heap.size w w' := flow_any i N hfit pb cap n at_ hat s hok h64 w hi
abbrev rtC (pb pc mb sb n : Nat) : Array Value := #[.slice (some ⟨pb, 0, none⟩) n pc, .slice (some ⟨mb, 0, none⟩) n n, .slice (some ⟨sb, 0, none⟩) n n]
set_option maxHeartbeats 4000000 in
set_option maxRecDepth 100000 in
theorem takes_ck (n pb pc mb sb : Nat) (cl : Nat → Option St) (m : Nat) (hm : m < n) (b : Bool) (s : St) (w : World) (hS : At w sb (plsA n cl) 174) : Calls Tryz.prog 147 #[.agg #[.slice (some ⟨pb, 0, none⟩) n pc, .slice (some ⟨mb, 0, none⟩) n n, .slice (some ⟨sb, 0, none⟩) n n], .int .i64 m, .agg (plC b s)] w fun e w' => e = .returned (.bool (liesP b s (cl m))) ∧ Below w.heap.size w w' := by
  have hk := Kn.nil [] w
  go_enter Tryz.func147, Tryz.ntmps147
  go_wp2_with (first | ((with_reducible show wpList _ _ _ _ _ _); (first | (refine wS hk ?_; simp only [Act.put, pw]) | (refine wN hk ?_; clear hk; intro w1 hk; simp only [Act.put, pw]) | (refine wT hk ?_; clear hk; intro w1 hk; simp only [Act.put]))))
  (refine wp_regK hk (.op 0 (.op 1 (.op 2 (.op 3 (.op 4 (.op 5 (.op 6 (.op 7 (.op 8 .nil))))))))) (fun i => decide (i < 9)) mixT (by decide) (by kernel_rfl) (by kernel_rfl) ?_; clear hk; intro w1 hk)
  (repeat (refine sS hk ?_; simp only [Act.put, pw]))
  (refine sCall ?_; intro K hK; go_step; go_at_call 149; refine (liesPl_any _ _ _ _).mono ?_; rintro e w1 ⟨rfl, hb⟩; replace hk := hk.call hb; clear hb; refine hK _ _ (fun _ => by first | exact hk | exact hk.drop | exact hk.drop.drop | exact hk.mid | exact hk.pick13 | exact hk.pick4) ?_; clear hK K)
  (repeat (refine sS hk ?_; simp only [Act.put, pw]))
  refine tNil ?_
  go_wp2_with (first | ((with_reducible show wpList _ _ _ _ _ _); (first | (refine wS hk ?_; simp only [Act.put, pw]) | (refine wN hk ?_; clear hk; intro w1 hk; simp only [Act.put, pw]) | (refine wT hk ?_; clear hk; intro w1 hk; simp only [Act.put]))))
  go_ret
  exact ⟨rfl, hk.mod.below⟩
set_option maxHeartbeats 4000000 in
set_option maxRecDepth 100000 in
theorem danger_ck (l : List I5) (hl : AllFit l) (pb pc mb sb : Nat) (m : Nat) (hm : m < l.length) (s : St) (w : World) (hi : w.cell? ⟨pb, m * 1, none⟩ = some (iVal (insAt l m))) : Calls Tryz.prog 146 #[.agg #[.slice (some ⟨pb, 0, none⟩) l.length pc, .slice (some ⟨mb, 0, none⟩) l.length l.length, .slice (some ⟨sb, 0, none⟩) l.length l.length], .int .i64 m, .agg (stC s)] w fun e w' => e = .returned (.int .i64 (dangR (insAt l m) s)) ∧ Below w.heap.size w w' := by
  have hk := Kn.nil [] w
  have HI : Hid (∀ wx, Below w.heap.size w wx → wx.cell? ⟨pb, m * 1, none⟩ = some (iVal (insAt l m))) := hide (fun wx hb => by rw [hb.cell (p := ⟨pb, m * 1, none⟩) (World.block_lt_of_cell? w _ hi)]; exact hi)
  go_enter Tryz.func146, Tryz.ntmps146
  go_wp2_with (first | (go_at_call 148; refine (danger_any _ _ (hl.fit hm) _ _ _ _ hm _ _ (HI.out _ hk.mod.below)).mono ?_; rintro e w1 ⟨rfl, hb⟩; replace hk := hk.call hb; clear hb) | ((with_reducible show wpList _ _ _ _ _ _); (first | (refine wS hk ?_; simp only [Act.put, pw]) | (refine wN hk ?_; clear hk; intro w1 hk; simp only [Act.put, pw]) | (refine wT hk ?_; clear hk; intro w1 hk; simp only [Act.put]))))
  go_ret
  exact ⟨rfl, hk.mod.below⟩
theorem mTakes (x y z : Value) (w : World) : (method 367 121 (.agg #[x, y, z]) "surety/proof.takes").run Tryz.prog w = .ok (147, .agg #[x, y, z]) w := by kernel_rfl
theorem mDanger (x y z : Value) (w : World) : (method 367 121 (.agg #[x, y, z]) "surety/proof.danger").run Tryz.prog w = .ok (146, .agg #[x, y, z]) w := by kernel_rfl
theorem cTakes (args : Array Value) (w : World) : (callFunc 147 args).run Tryz.prog w = .ok (.enter 147 args) w := by kernel_rfl
theorem cDanger (args : Array Value) (w : World) : (callFunc 146 args).run Tryz.prog w = .ok (.enter 146 args) w := by kernel_rfl
end Go.Proofs.YtamiichlbmllcaaGreatDoor
