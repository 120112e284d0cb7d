import Derived.Test.YtamiichlbmllcaaGreatDoorQLent
import Derived.Test.YtamiichlbmllcaaGreatDoorQRegL
import Derived.Test.YtamiichlbmllcaaGreatDoorQChF
import Derived.Great.BuildSlice
/-
  The contracts of suretylaw.lentClaims and suretylaw.backClaims: claims are lent in a list of the caller's own, and looked at and written over behind the call.
-/
namespace Go.Proofs.YtamiichlbmllcaaGreatDoor
open Go.RowKit
def clsA (n : Nat) (f : Nat → C2) : Array Value := rowsA n 17 fun i => clC (f i).pl (f i).st
theorem clsA_size (n : Nat) (f : Nat → C2) : (clsA n f).size = n * 17 := rows_size _ _ _
theorem ex_cls (n : Nat) (f : Nat → C2) (i : Nat) (h : i < n) : (clsA n f).extract (i * 17) (i * 17 + 17) = clC (f i).pl (f i).st := rows_ex (g := fun i => clC (f i).pl (f i).st) h rfl
def updC (f : Nat → C2) (i : Nat) (x : C2) : Nat → C2 := fun j => if j = i then x else f j
theorem put_cls (n : Nat) (f : Nat → C2) (i : Nat) (p : Int) (s : St) : putA (clsA n f) (i * 17) (clC p s).toList = clsA n (updC f i ⟨p, s⟩) := by
  refine (rows_put (n := n) (k := 17) (g := fun i => clC (f i).pl (f i).st) (i := i) (c := clC p s) rfl).trans (rows_congr fun j _ => ?_)
  unfold updC
  split <;> rfl
theorem cls_congr {n : Nat} {f g : Nat → C2} (h : ∀ i, i < n → f i = g i) : clsA n f = clsA n g := rows_congr fun i hi => by rw [h i hi]
theorem cls_get {n : Nat} {f : Nat → C2} {i q : Nat} (hi : i < n) (hq : q < 17) : (clsA n f)[i * 17 + q]? = (clC (f i).pl (f i).st)[q]? := rows_at (g := fun i => clC (f i).pl (f i).st) hi hq rfl
theorem clC_one (p : Int) (s : St) : (clC p s).toList.all (·.oneCell') = true := by kernel_rfl
def clCells (c : C2) : List Value := (clC c.pl c.st).toList
theorem clCells_len (c : C2) : (clCells c).length = 17 := rfl
theorem flatC_len (L : List C2) : (L.flatMap clCells).length = L.length * 17 := by
  induction L with
  | nil => rfl
  | cons x r ih => rw [List.flatMap_cons, List.length_append, ih, clCells_len]; simp; omega
theorem flatC_get : ∀ (L : List C2) (i q : Nat), i < L.length → q < 17 → (L.flatMap clCells)[i * 17 + q]? = (clC (clAt L i).pl (clAt L i).st)[q]?
  | [], _, _, hi, _ => by simp at hi
  | x :: r, 0, q, _, hq => by
    rw [List.flatMap_cons, List.getElem?_append_left (by rw [clCells_len]; omega), Nat.zero_mul, Nat.zero_add]
    unfold clCells
    rw [Array.getElem?_toList]
    rfl
  | x :: r, i + 1, q, hi, hq => by
    rw [List.flatMap_cons, List.getElem?_append_right (by rw [clCells_len]; omega), clCells_len, show (i + 1) * 17 + q - 17 = i * 17 + q by omega, flatC_get r i q (by simpa using hi) hq]
    rfl
def zeroC : C2 := ⟨0, zeroS⟩
/-- while the claims are copied and the marks are laid -/
def lentU (cl : List C2) (k : Nat) : Nat → C2 := fun i => if i < cl.length then clAt cl i else if i < k then ⟨77 + i, zeroS⟩ else zeroC
theorem copy_cls (cl : List C2) (N : Nat) (h : cl.length ≤ N) : (cl.flatMap clCells ++ (clsA N (fun _ => zeroC)).toList.drop (cl.flatMap clCells).length).toArray = clsA N (lentU cl cl.length) := by
  have hl := flatC_len cl
  apply Array.ext_getElem?
  intro j
  simp only [List.getElem?_toArray]
  by_cases hj : j < N * 17
  · obtain ⟨i, q, hq, rfl⟩ : ∃ i q, q < 17 ∧ j = i * 17 + q := ⟨j / 17, j % 17, Nat.mod_lt _ (by omega), by omega⟩
    rw [cls_get (by omega) hq]
    by_cases hc : i < cl.length
    · rw [List.getElem?_append_left (by omega), flatC_get cl i q hc hq]
      unfold lentU; rw [if_pos hc]
    · rw [List.getElem?_append_right (by omega), List.getElem?_drop, show (cl.flatMap clCells).length + (i * 17 + q - (cl.flatMap clCells).length) = i * 17 + q by omega, Array.getElem?_toList, cls_get (by omega) hq]
      unfold lentU; rw [if_neg hc, if_neg hc]
  · rw [Array.getElem?_eq_none (by rw [clsA_size]; omega)]
    rw [List.getElem?_append_right (by omega), List.getElem?_drop, Array.getElem?_toList, Array.getElem?_eq_none (by rw [clsA_size]; omega)]
theorem lentU_step (cl : List C2) (N k : Nat) (h : cl.length ≤ k) : clsA N (updC (lentU cl k) k ⟨77 + (k : Int), zeroS⟩) = clsA N (lentU cl (k + 1)) := cls_congr fun i _ => by
  unfold updC lentU
  by_cases h1 : i = k
  · subst h1; rw [if_pos rfl, if_neg (by omega), if_pos (by omega)]
  · rw [if_neg h1]
    by_cases h2 : i < cl.length
    · rw [if_pos h2, if_pos h2]
    · rw [if_neg h2, if_neg h2]
      by_cases h3 : i < k
      · rw [if_pos h3, if_pos (by omega)]
      · rw [if_neg h3, if_neg (by omega)]
/-- a block's row, written anew -/
theorem Kn.row {M : List Nat} {w0 w : World} {L L' : RowL} {b : Nat} {A A' : Array Value} {t : TypeId} (h : Kn M w0 w L) (hm : (b, A, t) ∈ L) (hs : setB b A' L L') : Kn M w0 (w.setRow b A') L' := by
  have hat := (h.has _ hm).1
  have hor := (h.has _ hm).2
  simp only at hat hor
  refine ⟨h.mod.step (N := [b]) ⟨rfl, rfl, rfl, by simp [World.setRow], fun k _ hk => setRow_other w b k _ (fun e => hk (by simp [e]))⟩ (fun c hc => by simp at hc; subst hc; exact hor), fun y hy => ?_, pw_keys (setB_keys hs) h.dis⟩
  rcases setB_mem hs h.dis y hy with ⟨q, h3, h4, h5⟩ | ⟨h1, h2⟩
  · have hq := (h.has q h3).1
    unfold At at hq hat
    rw [h4, hat] at hq
    simp only [Option.some.injEq, Obj.cells.injEq] at hq
    rw [h5, ← hq.2.1]
    exact ⟨setRow_heap w b A _ t _ hat, hor⟩
  · refine ⟨?_, (h.has y h2).2⟩
    have := (h.has y h2).1
    unfold At at this ⊢
    rw [setRow_other w b y.1 _ (fun e => h1 e), this]
theorem wCopyC {ops : Array Oper} {rest : List Oper} {a : Act} {Q : Exit → Act → World → Prop} {w w0 : World} {M : List Nat} {L L' : RowL} {dst : Option Tmp} {tt : TypeId} {pos : String} {aft : Array Edge} {d s : Operand} {g N dCap : Nat} {ad : Addr} {sCap : Nat} {cl : List C2} (hk : Kn M w0 w L) (hm : (g, clsA N (fun _ => zeroC), 78) ∈ L) (hs : setB g (clsA N (lentU cl cl.length)) L L')
    (hd : a.eval d = .slice (some ⟨g, 0, none⟩) N dCap) (hsr : a.eval s = .slice (some ad) cl.length sCap) (hle : cl.length ≤ N) (hsrc : ∀ j v, (cl.flatMap clCells)[j]? = some v → w.cell? (ad.add j) = some v)
    (h : ∀ w1, Kn M w0 w1 L' → wpList Tryz.prog ops Q rest (a.put dst (goInt cl.length)) w1) : wpList Tryz.prog ops Q (⟨dst, .call { callee := .builtin .copy, args := #[d, s], argTypes := #[41, 41] }, tt, pos, aft, none⟩ :: rest) a w := by
  obtain ⟨i, hi, hz⟩ : ∃ i, Tryz.prog.info? 78 = some i ∧ i.size = 17 := by
    obtain ⟨i, hi, h2⟩ := Option.map_eq_some_iff.1 (show (Tryz.prog.info? 78).map (·.size) = some 17 by kernel_rfl)
    exact ⟨i, hi, h2⟩
  refine wpList_plain rfl fun K hK => ?_
  have hrun := run_copy_wide (P := Tryz.prog) w 41 41 tt 78 i g N dCap ad cl.length sCap (clsA N (fun _ => zeroC)) 78 (cl.flatMap clCells) Tryz.underlying41 hi (hk.at hm) (by rw [flatC_len, hz]) hle hsrc (by rw [flatC_len, clsA_size]; omega) (fun v hv => by obtain ⟨c, _, hc⟩ := List.mem_flatMap.1 hv; exact List.all_eq_true.1 (clC_one c.pl c.st) v hc)
  rw [copy_cls cl N hle] at hrun
  unfold Oper.wp
  simp [execOp, resolve, invoke, builtin, hd, hsr, hrun, Result.andThen]
  exact hK _ _ (h _ (hk.row hm hs))
/-- a list of claims as it was lent -/
def LentC (w : World) (base : Nat) (v hv : Value) (cl : List C2) : Prop :=
  (v = .slice none 0 0 ∧ hv = .slice none 0 0 ∧ cl = []) ∨
  ∃ a c g, v = .slice (some a) cl.length c ∧ hv = .slice (some ⟨g, 0, none⟩) cl.length (cl.length + 3) ∧ base ≤ g ∧ At w g (clsA (cl.length + 3) (lentU cl (cl.length + 3))) 78
theorem LentC.below {w w' : World} {base : Nat} {v hv : Value} {cl : List C2} (h : LentC w base v hv cl) (hb : Below w.heap.size w w') : LentC w' base v hv cl := by
  rcases h with h | ⟨a, c, g, h1, h2, h3, h4⟩
  · exact Or.inl h
  · refine Or.inr ⟨a, c, g, h1, h2, h3, ?_⟩
    unfold At at h4 ⊢
    rw [hb.block g (lt_of_block h4), h4]
theorem LentC.slc {w : World} {base : Nat} {v hv : Value} {cl : List C2} (h : LentC w base v hv cl) : SlcC w hv cl := by
  rcases h with ⟨_, rfl, rfl⟩ | ⟨a, c, g, _, rfl, _, h4⟩
  · exact Or.inl ⟨⟨_, _, rfl⟩, rfl⟩
  · refine Or.inr ⟨g, 0, _, rfl, lt_of_block h4, fun i hi j v hj => ?_⟩
    have hj17 : j < 17 := (List.getElem?_eq_some_iff.1 hj).1
    have e := cls_get (n := cl.length + 3) (f := lentU cl (cl.length + 3)) (i := i) (q := j) (by omega) hj17
    have e2 : lentU cl (cl.length + 3) i = clAt cl i := by unfold lentU; rw [if_pos hi]
    rw [e2] at e
    rw [cell_of_row _ _ _ _ _ _ h4, show 0 + i * 17 + j = i * 17 + j by omega, e, ← Array.getElem?_toList]
    exact hj
/-- a slice of claims that came in: nil is nil -/
def ArgC (w : World) (v : Value) (cl : List C2) : Prop := SlcC w v cl ∧ ∀ n c, v = .slice none n c → n = 0 ∧ c = 0
theorem ArgC.below {w w' : World} {v : Value} {cl : List C2} {B : Nat} (h : ArgC w v cl) (hb : Below B w w') (hB : w.heap.size ≤ B) : ArgC w' v cl := ⟨h.1.below hb hB, h.2⟩
theorem ArgC.cells {w : World} {v : Value} {cl : List C2} (h : ArgC w v cl) : (v = .slice none 0 0 ∧ cl = []) ∨ ∃ a c, v = .slice (some a) cl.length c ∧ (∀ j u, (cl.flatMap clCells)[j]? = some u → w.cell? (a.add j) = some u) := by
  obtain ⟨hs, hn⟩ := h
  rcases hs with ⟨⟨a, c, rfl⟩, rfl⟩ | ⟨b, off, cap, rfl, hb, hi⟩
  · cases a with
    | none => obtain ⟨_, rfl⟩ := hn 0 c rfl; exact Or.inl ⟨rfl, rfl⟩
    | some a => exact Or.inr ⟨a, c, rfl, fun j u hj => by simp at hj⟩
  · refine Or.inr ⟨⟨b, off, none⟩, cap, rfl, fun j u hj => ?_⟩
    have hlt := (List.getElem?_eq_some_iff.1 hj).1
    rw [flatC_len] at hlt
    obtain ⟨i, q, hq, rfl⟩ : ∃ i q, q < 17 ∧ j = i * 17 + q := ⟨j / 17, j % 17, Nat.mod_lt _ (by omega), by omega⟩
    rw [flatC_get cl i q (by omega) hq] at hj
    rw [addr_add, ← Nat.add_assoc]
    exact hi i (by omega) q u (by rw [Array.getElem?_toList]; exact hj)
set_option maxHeartbeats 4000000 in
set_option maxRecDepth 100000 in
theorem lentC_some (cl : List C2) (a : Addr) (c : Nat) (w : World) (hcs : ∀ j u, (cl.flatMap clCells)[j]? = some u → w.cell? (a.add j) = some u) (hlen : cl.length * 136 ≤ 140737488351232) :
    Calls Tryz.prog 87 #[.slice (some a) cl.length c] w fun e w' => ∃ hv, e = .returned hv ∧ LentC w' w.heap.size (.slice (some a) cl.length c) hv cl ∧ Below w.heap.size w w' := by
  have hk := Kn.nil [] w
  have hq := fun wx => Lib.run_eql_slice_nil (P := Tryz.prog) wx 41 78 (some a) cl.length c 0 0 Tryz.underlying41
  simp only [Option.isNone_some] at hq
  have HC := hide hcs
  clear hcs
  go_enter Tryz.func87, Tryz.ntmps87
  go_wp2_with (first | (refine wMake (n := cl.length + 3) hk ?_; clear hk; intro w1 hk; simp only [Act.put, pw]; replace hk : Kn [] w w1 [(w.heap.size, clsA (cl.length + 3) (fun _ => zeroC), 78)] := hk) | (refine wCopyC (cl := cl) hk List.mem_cons_self (setB_here _ _ _ _ _) rfl rfl (by omega) (fun j v hj => ?cc) ?_; rotate_left; clear hk; intro w1 hk; simp only [Act.put, pw]) | ((with_reducible show wpList _ _ _ _ _ _); (first | (refine wS hk ?_; simp only [Act.put, pw]) | (refine wN hk ?_; clear hk; intro w1 hk; simp only [Act.put, pw]) | (refine wT hk ?_; clear hk; intro w1 hk; simp only [Act.put]))))
  case cc => rw [hk.mod.below.cell (p := a.add j) (World.block_lt_of_cell? w _ (HC.out j v hj))]; exact HC.out j v hj
  go_loopw [4] (fun j wr => ∃ n : Nat, cl.length ≤ n ∧ n ≤ cl.length + 3 ∧ j = .int .i64 n ∧ Kn [] w wr [(w.heap.size, clsA (cl.length + 3) (lentU cl n), 78)]) (fun j _ => cl.length + 3 - (intOf j).toNat)
  case atStart => exact ⟨cl.length, by omega, by omega, rfl, hk⟩
  case round =>
    clear hk
    obtain ⟨n, hn1, hn2, rfl, hk⟩ := hrel
    by_cases hlt : n < cl.length + 3
    · have R := hide (lentU_step cl (cl.length + 3) n hn1)
      go_wp2_with (first | (refine wBuild hk ?_ (hb := build_cla _ _); simp only [Act.put, pw]) | (refine wStoreR hk ?_ (hj := by simp only [clsA_size]; omega) (hA := put_cls _ _ _ _ _); clear hk; intro w1 hk; simp only [Act.put]) | ((with_reducible show wpList _ _ _ _ _ _); (first | (refine wS hk ?_; simp only [Act.put, pw]) | (refine wN hk ?_; clear hk; intro w1 hk; simp only [Act.put, pw]) | (refine wT hk ?_; clear hk; intro w1 hk; simp only [Act.put]))))
      go_roundw
      case rel => exact ⟨n + 1, by omega, by omega, by go_num, by rw [← R.out]; exact hk⟩
      case measure => simp [intOf]; omega
    · have en : n = cl.length + 3 := by omega
      subst en
      go_wp2_with (first | ((with_reducible show wpList _ _ _ _ _ _); (first | (refine wS hk ?_; simp only [Act.put, pw]) | (refine wN hk ?_; clear hk; intro w1 hk; simp only [Act.put, pw]) | (refine wT hk ?_; clear hk; intro w1 hk; simp only [Act.put]))))
      go_ret
      exact ⟨_, rfl, Or.inr ⟨a, c, _, rfl, rfl, Nat.le_refl _, hk.at List.mem_cons_self⟩, hk.mod.below⟩
end Go.Proofs.YtamiichlbmllcaaGreatDoor
/-
  proof.claimsOf: a claim for each place that has a state.
-/
namespace Go.Proofs.YtamiichlbmllcaaGreatDoor
open Go.RowKit
def clsW (n : Nat) (W : Nat → Option St) : List C2 := (List.range n).filterMap fun i => (W i).map fun s => ⟨(i : Int), s⟩
theorem clsW_none {n : Nat} {W : Nat → Option St} (h : W n = none) : clsW (n + 1) W = clsW n W := by
  unfold clsW; rw [List.range_succ, List.filterMap_append]; simp [h]
theorem clsW_some {n : Nat} {W : Nat → Option St} {s : St} (h : W n = some s) : clsW (n + 1) W = clsW n W ++ [⟨(n : Int), s⟩] := by
  unfold clsW; rw [List.range_succ, List.filterMap_append]; simp [h]
theorem clsW_len (n : Nat) (W : Nat → Option St) : (clsW n W).length ≤ n := by
  unfold clsW
  exact Nat.le_trans (List.length_filterMap_le _ _) (by simp)
theorem Mod.grown {w w' : World} (h : Mod [] w w') : w.grownBy w' none := ⟨h.os, h.tape, h.output, h.size, fun k hk _ => h.block k hk (by simp)⟩
def ownM (v : Value) : List Nat := v.ownBlock.toList
theorem grown_mod {w w' : World} {v : Value} (h : w.grownBy w' v.ownBlock) : Mod (ownM v) w w' := ⟨h.os, h.tape, h.output, h.size, fun k hk hn => h.block k hk (by
  intro e; apply hn; unfold ownM; rw [← e]; simp)⟩
theorem Kn.weak {M : List Nat} {w0 w : World} {L : RowL} (h : Kn [] w0 w L) : Kn M w0 w L := ⟨⟨h.mod.os, h.mod.tape, h.mod.output, h.mod.size, fun k hk _ => h.mod.block k hk (by simp)⟩, fun x hx => ⟨(h.has x hx).1, by rcases (h.has x hx).2 with h | h; exact Or.inl h; cases h⟩, h.dis⟩
/-- behind a write to blocks of M alone -/
theorem Kn.grow {M : List Nat} {w0 w w' : World} {L : RowL} (h : Kn M w0 w L) (hm : Mod M w w') (hL : ∀ x, x ∈ L → x.1 ∉ M) : Kn M w0 w' L :=
  ⟨h.mod.trans hm, fun x hx => ⟨(h.has x hx).1.mod hm (hL x hx), (h.has x hx).2⟩, h.dis⟩
section
variable {l : List Oper} {Q : Exit → Act → World → Prop} {F : Nat → Bool} {S : World → Prop} {i : Nat} {r : OT} {a : Act} {w w0 : World} {M : List Nat} {L L' : RowL} {d : Option Tmp} {x y : Operand} {t tt ty : TypeId} {pos : String} {aft : Array Edge} {g : Option (Nat × Bool)}
set_option maxRecDepth 100000 in
theorem sBuildCl {p : Int} {s : St} (hk : Kn M w0 w L) (h : ∀ w1, w1 = w.alloc (.cells (clC p s) 78) → Kn M w0 w1 ((w.heap.size, clC p s, 78) :: L) → (F i = true → S w1) ∧ wpT Tryz.prog l Q F S r (a.put d (.slice (some ⟨w.heap.size, 0, none⟩) 1 1)) w1) (ho : nthO i l = some ⟨d, .buildSlice 41 1 #[(0, x)], tt, pos, aft, g⟩ := by rfl) (hw : Region.wanted ⟨d, .buildSlice 41 1 #[(0, x)], tt, pos, aft, g⟩ (yielded l.toArray a.tmps) = true := by rfl) (hx : a.eval x = .agg (clC p s) := by rfl) : wpT Tryz.prog l Q F S (.op i r) a w := by
  obtain ⟨ie, hie, hz⟩ : ∃ ie, Tryz.prog.info? 78 = some ie ∧ (ie.size = 17 ∧ ie.zero = some (.agg (clC 0 zeroS))) := by
    obtain ⟨ie, hi, h2⟩ := Option.map_eq_some_iff.1 (show (Tryz.prog.info? 78).map (fun i => (i.size, i.zero)) = some (17, some (.agg (clC 0 zeroS))) by kernel_rfl)
    simp only [Prod.mk.injEq] at h2
    exact ⟨ie, hi, h2⟩
  refine tActK ho rfl hw fun K hK => wp_buildSlice 41 78 1 _ rfl (clC p s) ie _ Tryz.underlying41 hie hz.2 (by rw [hz.1]; omega) (by rw [hz.1]; omega) ?_ ?_
  · rw [hz.1]
    have e : (#[(0, x)].map fun (i, x) => (i, a.eval x)).toList = [(0, Value.agg (clC p s))] := by simp [hx]
    rw [e]
    have e2 : Instr.fill (fun i => some (i * 17, 17)) ((Array.range (1 * 17)).map ((Value.agg (clC 0 zeroS)).cells[· % (Value.agg (clC 0 zeroS)).cells.size]!)) [(0, Value.agg (clC p s))] = some (clC p s) := by kernel_rfl
    exact e2
  · have := h _ rfl (hk.alloc (clC p s) 78)
    exact hK _ _ this.1 this.2
end
theorem own_mod {w w' : World} {base e size n : Nat} {v : Value} {xs : List Value} (h : w.ownsRow base e size v n xs) (hm : Mod [] w w') : w'.ownsRow base e size v n xs := h.kept hm.grown (by cases v.ownBlock <;> simp)
theorem Tryz.infoClaim : (Tryz.prog.info? 78).map (fun i => (i.zero, i.size, i.bytes)) = some (some (.agg (clC 0 zeroS)), 17, 136) := by kernel_rfl
set_option maxHeartbeats 8000000 in
set_option maxRecDepth 100000 in
theorem claimsOf_any (n : Nat) (hn : n ≤ 64) (W : Nat → Option St) (sb cap : Nat) (w : World) (hS : At w sb (plsA n W) 174) : Calls Tryz.prog 73 #[.slice (some ⟨sb, 0, none⟩) n cap] w fun e w' => ∃ v, e = .returned v ∧ w'.ownsRow w.heap.size 78 17 v (clsW n W).length ((clsW n W).flatMap clCells) ∧ Below w.heap.size w w' := by
  obtain ⟨i0, ihi, ih0, ihs, ih2⟩ := info_parts Tryz.infoClaim
  have HS := hide hS
  have hsb := hS.lt
  clear hS
  go_enter Tryz.func73, Tryz.ntmps73
  go_wp2_with fail
  go_loopw [3, 8] (fun u3 j wr => ∃ i : Nat, i ≤ n ∧ j = .int .i64 i ∧ wr.ownsRow w.heap.size 78 17 u3 (clsW i W).length ((clsW i W).flatMap clCells) ∧ Below w.heap.size w wr) (fun _ j _ => n - (intOf j).toNat)
  case atStart => exact ⟨0, by omega, rfl, World.ownsRow_nil _ _ _ _, Below.refl _ _⟩
  case round =>
    obtain ⟨i, hi, rfl, hown, hbl⟩ := hrel
    have hSr : At wr sb (plsA n W) 174 := HS.out.of (hbl.block sb hsb)
    have hk := Kn.nil [] wr
    have HO := hide hown
    have HBL := hide hbl
    have hcl := clsW_len i W
    clear hown hbl
    by_cases hlt : i < n
    · cases hWi : W i with
      | none =>
        have R := hide (clsW_none hWi)
        go_wp2_with (first | ((with_reducible show wpList _ _ _ _ _ _); (first | (refine wS hk ?_; simp only [Act.put, pw]; (try rw [hWi])) | (refine wN hk ?_; clear hk; intro w1 hk; simp only [Act.put, pw]) | (refine wT hk ?_; clear hk; intro w1 hk; simp only [Act.put]))))
        go_roundw
        case rel => exact ⟨i + 1, by omega, by go_num, by rw [R.out]; exact own_mod HO.out hk.mod, HBL.out.trans (hk.mod.below.mono HBL.out.size)⟩
        case measure => simp [intOf]; omega
      | some s =>
        have R := hide (clsW_some hWi)
        go_upto_region 6 with (first | ((with_reducible show wpList _ _ _ _ _ _); (first | (refine wS hk ?_; simp only [Act.put, pw]; (try rw [hWi])) | (refine wN hk ?_; clear hk; intro w1 hk; simp only [Act.put, pw]) | (refine wT hk ?_; clear hk; intro w1 hk; simp only [Act.put]))))
        have HM := hide hk.mod
        have hown1 := own_mod HO.out hk.mod
        replace hk := hk.weak (M := ownM u3)
        (refine wp_regLK hk (.op 0 (.op 1 (.op 2 (.op 3 (.op 4 (.op 5 (.op 6 (.op 7 .nil)))))))) (by rfl) ?_)
        refine sMove hk ?_; simp only [Act.put, pw]
        iterate 3 (first | (refine vMoveI hk ?_; simp only [Act.put, pw]) | (refine sField0 hk ?_; simp only [Act.put, pw]) | (refine sLoadR hk ?_; simp only [Act.put, pw]))
        refine sBuild hk ?_ (hb := fun wx => build_cl _ _ wx); simp only [Act.put, pw]
        refine sBuildCl hk ?_; intro w2 hw2 hk3; refine ⟨fun h => absurd h (by decide), ?_⟩; simp only [Act.put, pw]
        have hown2 : w2.ownsRow w.heap.size 78 17 u3 (clsW i W).length ((clsW i W).flatMap clCells) := by rw [hw2]; exact own_mod hown1 (Mod.alloc _ _ _)
        have hat2 : At w2 w1.heap.size (clC (i : Int) s) 78 := hk3.at List.mem_cons_self
        have hz2 : w.heap.size ≤ w2.heap.size := by have h1 := HBL.out.size; have h2 := hk3.mod.size; omega
        have hgw : ∀ k, u3.ownBlock = some k → w.heap.size ≤ k ∧ k < wr.heap.size := HO.out.lt
        have hb2 : Below w.heap.size w w2 := by
          have h1 : Mod [] wr w2 := by rw [hw2]; exact HM.out.trans (Mod.alloc _ _ _)
          exact HBL.out.trans (h1.below.mono HBL.out.size)
        clear hw2 hown1
        refine tActK (by rfl) (by rfl) (by rfl) (fun K hK => wp_append_own w2 (.tmp 15) (.tmp 20) 41 rfl w.heap.size 78 i0 _ 17 136 Tryz.underlying41 ihi ih0 ihs ih2 rfl (by decide) u3 (clsW i W).length _ (by rfl) hown2 ⟨w1.heap.size, 0, none⟩ 1 1 (clCells ⟨(i : Int), s⟩) (by rfl) rfl (fun j u hj => ?_) (fun u hu => List.all_eq_true.1 (clC_one (i : Int) s) u hu) (by unfold maxLen; omega) (by omega) hz2 (fun v' w' hown' hg _ => hK _ _ (fun h => absurd h (by decide)) ?_))
        · rw [addr_add, cell_of_row _ _ _ _ _ _ hat2, Nat.zero_add, ← Array.getElem?_toList]; exact hj
        · have hk4 := hk3.drop.grow (grown_mod hg) (fun x hx => by
            simp only [List.mem_cons, List.not_mem_nil, or_false] at hx
            subst hx
            intro hm
            unfold ownM at hm
            have := hgw _ (by simpa using hm)
            exact absurd this.2 (Nat.lt_irrefl _))
          have hb4 : Below w.heap.size w w' := hb2.grown hg hz2 (fun k hk => (hgw k hk).1)
          have HOW : Hid (w'.ownsRow w.heap.size 78 17 v' (clsW (i + 1) W).length ((clsW (i + 1) W).flatMap clCells)) := hide (by
            rw [R.out, List.flatMap_append, List.length_append]
            simpa using hown')
          simp only [Act.put, pw]
          refine sAssign hk4 ?_; simp only [Act.put, pw]
          refine tNil ?_
          clear hk hk3 hk4 hown' hg
          go_wp2_with fail
          go_roundw
          case rel => exact ⟨i + 1, by omega, by go_num, HOW.out, hb4⟩
          case measure => simp [intOf]; omega
    · have e : i = n := by omega
      subst e
      go_wp2_with fail
      go_ret
      exact ⟨_, rfl, HO.out, HBL.out⟩
end Go.Proofs.YtamiichlbmllcaaGreatDoor
