/-
  PROVED HERE: for every raw list of instructions, every raw state, every list of claims, every list of registers and every fuel, 'suretykeep.Alike' returns true and leaves its arguments as they read before: Compile answers as Check does; a thread runs as the program does, as often as it is run, and refuses what is not within the entry. Its condition: the table 'shapes' of package code holds what its own initialiser lays (the card ties that to the program's text).
-/
import Derived.Test.YtamiichlbmllcaaGreatDoorQOpenT
import Derived.Test.YtamiichlbmllcaaGreatDoorQPrI
import Derived.Test.YtamiichlbmllcaaGreatDoorQChL
import Derived.SizedLaws
import Derived.Test.YtamiichlbmllcaaGreatDoorCards
import Derived.Test.YtamiichlbmllcaaGreatDoorTie
/-
  suretykeep.both: the raw claims, and those that Prove finds, if it does.
-/
namespace Go.Proofs.YtamiichlbmllcaaGreatDoor
open Go.RowKit
theorem Tryz.infoCls : (Tryz.prog.info? 41).map (fun i => (i.zero, i.size, i.bytes)) = some (some (.slice none 0 0), 1, 24) := by kernel_rfl
/-- lists of claims, each with what it holds -/
def BothL (w : World) (vs : List Value) (cs : List (List C2)) : Prop := vs.length = cs.length ∧ ∀ i (h : i < vs.length) (h' : i < cs.length), SlcC w vs[i] cs[i]
theorem BothL.below {w w' : World} {vs : List Value} {cs : List (List C2)} (h : BothL w vs cs) (hb : Below w.heap.size w w') : BothL w' vs cs := ⟨h.1, fun i h1 h2 => (h.2 i h1 h2).below hb (Nat.le_refl _)⟩
theorem both_one {w : World} {v : Value} {c : List C2} (h : SlcC w v c) : BothL w [v] [c] := ⟨rfl, fun i h1 _ => by
  match i, h1 with
  | 0, _ => exact h
  | j + 1, hj => simp at hj⟩
theorem both_two {w : World} {v u : Value} {c d : List C2} (h : SlcC w v c) (k : SlcC w u d) : BothL w [v, u] [c, d] := ⟨rfl, fun i h1 _ => by
  match i, h1 with
  | 0, _ => exact h
  | 1, _ => exact k
  | j + 2, hj => exact absurd hj (by simp)⟩
/-- what both answers -/
def BothV (w w' : World) (l : List I5) (e : St) (cr : List C2) (r : Ending) : Prop := ∃ lv vs cs, r = .returned lv ∧ w'.ownsRow w.heap.size 41 1 lv vs.length vs ∧ BothL w' vs cs ∧ (cs = [cr] ∨ ∃ cl, cs = [cr, cl] ∧ In64 l e cl ∧ cl.length ≤ 64) ∧ Below w.heap.size w w'
set_option maxHeartbeats 2000000 in
set_option maxRecDepth 100000 in
theorem both_any (l : List I5) (hl : AllFit l) (hr : rightR l = (0, 0)) (h64 : ∀ i, i < l.length → I64 (insAt l i).k) (e : St) (hst : isStR e = true) (he : e.in64) (cr : List C2) (b cap : Nat) (ra : Option Addr) (rc : Nat) (w : World) (hs : Shapes w) (h : Slc w (.slice (some ⟨b, 0, none⟩) l.length cap) l) (hc : SlcC w (.slice ra cr.length rc) cr) :
    Calls Tryz.prog 21 #[.slice (some ⟨b, 0, none⟩) l.length cap, .agg (stC e), .slice ra cr.length rc] w fun r w' => BothV w w' l e cr r := by
  obtain ⟨i0, ihi, ih0, ihs, ih2⟩ := info_parts Tryz.infoCls
  have hk := Kn.nil [] w
  have HS := hide hs
  have HV := hide h
  have HC := hide hc
  have HL := hide hl
  have HR := hide hr
  have H64 := hide h64
  have HE := hide hst
  have HEI := hide he
  clear hs h hc hl hr h64 hst he
  go_enter Tryz.func21, Tryz.ntmps21
  go_wp2_with (first | (have HW1 := hide hk.mod.size; refine wKnAlloc hk ?_; clear hk; intro wq hk) | ((with_reducible show wpList _ _ _ _ _ _); (first | ((with_reducible show wpList _ _ _ (⟨_, _, _, _, _, some _⟩ :: _) _ _); refine wpList_skip (by rfl) ?_; simp only [Act.put, List.setIfInBounds_toArray, List.set_cons_succ, List.set_cons_zero]) | ((first | refine wBuild hk ?_ | refine wFieldZ hk ?_ | refine wField0 hk ?_ | refine wField hk ?_ | refine wIndexA0 hk ?_ | refine wIndexS0 hk ?_ | refine wIndexA hk ?_ | refine wIndexS hk ?_ | refine wLoadR hk ?_ | refine wLoad1 hk ?_ | refine wOldR hk ?_ | refine wOld1 hk ?_ | refine wOldC hk ?_ | refine wOldG hk ?_ | refine wAssertY hk ?_ | refine wAssertN hk ?_); simp only [Act.put, List.setIfInBounds_toArray, List.set_cons_succ, List.set_cons_zero]) | ((first | refine wBox hk ?_ | refine wBox1I hk ?_ | refine wBox1B hk ?_ | refine wBox1S hk ?_ | refine wBox1P hk ?_ | refine wBox1F hk ?_ | refine wAllocR hk ?_ | refine wAlloc1 hk ?_ | refine wMake hk ?_); clear hk; intro w1 hk; simp only [Act.put, List.setIfInBounds_toArray, List.set_cons_succ, List.set_cons_zero]) | ((first | refine wStoreR hk ?_ | refine wStore1I hk ?_ | refine wStore1B hk ?_ | refine wStore1S hk ?_ | refine wStore1P hk ?_ | refine wStore1F hk ?_); clear hk; intro w1 hk; simp only [Act.put]))))
  have hk0 := hk.mod.below
  have HWQ : Hid (w1.heap.size < wq.heap.size) := hide (lt_of_block (hk.at (A := #[.slice ra cr.length rc]) (by with_reducible repeat (first | exact List.mem_cons_self | apply List.mem_cons_of_mem))))
  refine (SProve_any l H64.out e HEI.out _ wq (HS.out.below hk0 HS.out.1) (HV.out.below hk0 (Nat.le_refl _))).mono ?_
  rintro x w3 ⟨cv, er, pl, cl, rfl, hP, hown, hb⟩
  replace hk := hk.call hb
  have hb3 := hk.mod.below
  have hw1 : w.heap.size ≤ w1.heap.size := HW1.out
  have HOL : Hid (w3.ownsRow w.heap.size 41 1 (.slice (some ⟨w1.heap.size, 0, none⟩) 1 1) 1 [.slice ra cr.length rc]) := hide ⟨rfl, Or.inr ⟨w1.heap.size, 1, _, rfl, hw1, hk.at (A := #[.slice ra cr.length rc]) (by with_reducible repeat (first | exact List.mem_cons_self | apply List.mem_cons_of_mem)), by omega, by unfold maxLen; omega, rfl, rfl⟩⟩
  have hz3 := hb3.size
  rcases prove_is HL.out H64.out HE.out HEI.out HR.out hP with ⟨h0, rfl, _, _, _⟩ | ⟨rfl, rfl, _, hin, hcl⟩
  · have hq : (er == 0) = false := by rw [beq_eq_false_iff_ne]; exact h0
    obtain ⟨ca, cc, rfl⟩ : ∃ a c, cv = .slice a 0 c := by
      rcases hown.2 with ⟨h1, _⟩ | ⟨g, cap, cur, h1, _⟩
      · exact ⟨_, _, h1⟩
      · exact ⟨_, _, h1⟩
    clear hown hP hb
    have HCR := hide (HC.out.below hb3 (Nat.le_refl _))
    go_wp2_with (first | ((with_reducible show wpList _ _ _ _ _ _); (first | ((with_reducible show wpList _ _ _ (⟨_, _, _, _, _, some _⟩ :: _) _ _); refine wpList_skip (by rfl) ?_; simp only [Act.put, List.setIfInBounds_toArray, List.set_cons_succ, List.set_cons_zero]) | ((first | refine wBuild hk ?_ | refine wFieldZ hk ?_ | refine wField0 hk ?_ | refine wField hk ?_ | refine wIndexA0 hk ?_ | refine wIndexS0 hk ?_ | refine wIndexA hk ?_ | refine wIndexS hk ?_ | refine wLoadR hk ?_ | refine wLoad1 hk ?_ | refine wOldR hk ?_ | refine wOld1 hk ?_ | refine wOldC hk ?_ | refine wOldG hk ?_ | refine wAssertY hk ?_ | refine wAssertN hk ?_); simp only [Act.put, List.setIfInBounds_toArray, List.set_cons_succ, List.set_cons_zero]) | ((first | refine wBox hk ?_ | refine wBox1I hk ?_ | refine wBox1B hk ?_ | refine wBox1S hk ?_ | refine wBox1P hk ?_ | refine wBox1F hk ?_ | refine wAllocR hk ?_ | refine wAlloc1 hk ?_ | refine wMake hk ?_); clear hk; intro w1 hk; simp only [Act.put, List.setIfInBounds_toArray, List.set_cons_succ, List.set_cons_zero]) | ((first | refine wStoreR hk ?_ | refine wStore1I hk ?_ | refine wStore1B hk ?_ | refine wStore1S hk ?_ | refine wStore1P hk ?_ | refine wStore1F hk ?_); clear hk; intro w1 hk; simp only [Act.put]))))
    go_ret
    exact ⟨_, [.slice ra cr.length rc], [cr], rfl, HOL.out, both_one HCR.out, Or.inl rfl, hb3⟩
  · have HLT : Hid (∀ k, cv.ownBlock = some k → w1.heap.size < k) := hide fun k hk => by have h1 := (hown.lt k hk).1; have h2 := HWQ.out; omega
    have HOWN := hide hown
    obtain ⟨ca, cc, rfl⟩ : ∃ a c, cv = .slice a cl.length c := by
      rcases hown.2 with ⟨h1, h2⟩ | ⟨g, cap, cur, h1, _⟩
      · exact ⟨none, 0, by rw [h1, h2]⟩
      · exact ⟨_, _, h1⟩
    have HIN := hide hin
    have HB3 := hide hb3
    clear hown hP hin hb hk hk0 hb3
    go_wp2_with (at_builtin; go_must (refine wpList_append_own _ rfl (.tmp 22) (.tmp 24) 35 rfl w.heap.size 41 i0 _ 1 24 Tryz.underlying35 ihi ih0 ihs ih2 rfl (by decide) (.slice (some ⟨w1.heap.size, 0, none⟩) 1 1) 1 [.slice ra cr.length rc] rfl ?o1 ⟨w3.heap.size, 0, none⟩ 1 1 [.slice ca cl.length cc] rfl rfl ?n1 ?u1 ?m1 ?b1 ?s1 ?_))
    case o1 => exact World.ownsRow.alloc HOL.out _
    case n1 => exact one_new _ _ _ _ rfl
    case u1 => intro u hu; simp at hu; rw [hu]; rfl
    case m1 => unfold maxLen; omega
    case b1 => omega
    case s1 => simp; omega
    intro v4 w4 hown4 hg4 _
    have hb4 : Below w.heap.size w w4 := (HB3.out.alloc hz3 _).grown hg4 (by simp; omega) (fun k hk => by simp [Value.ownBlock] at hk; omega)
    have HO4 := hide hown4
    have HSC4 : Hid (SlcC w4 (.slice ca cl.length cc) cl) := hide (own_slcC ((World.ownsRow.alloc HOWN.out _).kept hg4 (Or.inr fun e => by have := HLT.out w1.heap.size e; omega)) rfl)
    have HCR := hide (HC.out.below hb4 (Nat.le_refl _))
    clear hg4 hown4
    go_wp2
    go_ret
    exact ⟨_, [.slice ra cr.length rc, .slice ca cl.length cc], [cr, cl], rfl, HO4.out, both_two HCR.out HSC4.out, Or.inr ⟨cl, rfl, HIN.out, hcl⟩, hb4⟩
end Go.Proofs.YtamiichlbmllcaaGreatDoor
/-
  The lists that both answers: each with what a check wants of it.
-/
namespace Go.Proofs.YtamiichlbmllcaaGreatDoor
open Go.RowKit
def csAt (cs : List (List C2)) (i : Nat) : List C2 := cs.getD i []
theorem own_at {w : World} {base : Nat} {lv : Value} {vs : List Value} (h : w.ownsRow base 41 1 lv vs.length vs) (hp : 0 < vs.length) : ∃ g cap A, lv = .slice (some ⟨g, 0, none⟩) vs.length cap ∧ base ≤ g ∧ At w g A 41 ∧ ∀ i (h : i < vs.length), A[i * 1]? = some vs[i] := by
  rcases h.2 with ⟨_, h0⟩ | ⟨g, cap, cur, rfl, hb, hg, _, _, _, ht⟩
  · omega
  · refine ⟨g, cap, cur, rfl, hb, hg, fun i hi => ?_⟩
    have : (cur.toList.take (vs.length * 1))[i]? = vs[i]? := by rw [ht]
    rw [List.getElem?_take, if_pos (by omega), Array.getElem?_toList, List.getElem?_eq_getElem hi] at this
    rw [Nat.mul_one]; exact this
theorem SlcC.len {w : World} {v : Value} {cl : List C2} (h : SlcC w v cl) : ∃ a c, v = .slice a cl.length c := by
  rcases h with ⟨⟨a, c, rfl⟩, rfl⟩ | ⟨b, off, cap, rfl, _⟩
  · exact ⟨a, c, rfl⟩
  · exact ⟨_, _, rfl⟩
/-- one of the lists: where it lies, what it holds, what a check wants -/
def LstOk (w : World) (P : List I5) (e : St) (A : Array Value) (cs : List (List C2)) (i : Nat) : Prop := ∃ ca cc, A[i * 1]? = some (.slice ca (csAt cs i).length cc) ∧ SlcC w (.slice ca (csAt cs i).length cc) (csAt cs i) ∧ In64 P e (csAt cs i) ∧ (csAt cs i).length < 4000000000000
theorem both_lists {w w1 : World} {P : List I5} {e : St} {cr : List C2} {lv : Value} {vs : List Value} {cs : List (List C2)} (hK : ∀ i, i < P.length → I64 (insAt P i).k) (hE : e.in64) (hC : ∀ i, i < cr.length → St.in64 (clAt cr i).st) (hl : cr.length < 4000000000000)
    (hown : w.ownsRow w1.heap.size 41 1 lv vs.length vs) (hB : BothL w vs cs) (hcs : cs = [cr] ∨ ∃ cl, cs = [cr, cl] ∧ In64 P e cl ∧ cl.length ≤ 64) :
    ∃ g cap A, lv = .slice (some ⟨g, 0, none⟩) cs.length cap ∧ w1.heap.size ≤ g ∧ At w g A 41 ∧ cs.length ≤ 2 ∧ ∀ i, i < cs.length → LstOk w P e A cs i := by
  have hp : 0 < vs.length := by rw [hB.1]; rcases hcs with h | ⟨cl, h, _⟩ <;> rw [h] <;> simp
  obtain ⟨g, cap, A, rfl, hg, hat, hA⟩ := own_at hown hp
  refine ⟨g, cap, A, by rw [hB.1], hg, hat, by rcases hcs with h | ⟨cl, h, _⟩ <;> rw [h] <;> simp, fun i hi => ?_⟩
  have hv : i < vs.length := by rw [hB.1]; exact hi
  have h1 := hB.2 i hv hi
  have h2 := hA i hv
  have hc : csAt cs i = cs[i] := by unfold csAt; simp [List.getD, hi]
  obtain ⟨a, c, hs⟩ := h1.len
  refine ⟨a, c, ?_, ?_, ?_⟩
  · rw [h2, hs, hc]
  · rw [hc, ← hs]; exact h1
  · rw [hc]
    rcases hcs with rfl | ⟨cl, rfl, hin, hcl⟩
    · match i, hi with
      | 0, _ => exact ⟨⟨hK, hE, hC⟩, hl⟩
      | j + 1, hj => exact absurd hj (by simp)
    · match i, hi with
      | 0, _ => exact ⟨⟨hK, hE, hC⟩, hl⟩
      | 1, _ => exact ⟨hin, by show cl.length < _; omega⟩
      | j + 2, hj => exact absurd hj (by simp)
theorem scheck_fst {l : List I5} {e : St} {cl : List C2} (hr : rightR l = (0, 0))   : scheckR l e cl = ((checkR l e cl).1, ((checkR l e cl).2 : Int)) := by unfold scheckR; rw [if_pos hr]
theorem Kn.none {M : List Nat} {w0 w : World} {L : RowL} (h : Kn M w0 w L) : Kn M w0 w [] := h.sub (List.nil_sublist _)
end Go.Proofs.YtamiichlbmllcaaGreatDoor
/-
  Threads and what is not within the entry: what Alike reckons.
-/
namespace Go.Proofs.YtamiichlbmllcaaGreatDoor
open Go.RowKit
theorem are_cho {s : St} (hs : s.ok) (r : Nat → Int) : areR r s = true ↔ ∀ j, j < 8 → choR s r j = r j := by
  rw [areR_iff]
  constructor
  · intro h j hj
    exact insI_same (h j hj)
  · intro h j hj
    have := insI_in (hs j hj) (r j)
    have e : insI (s j) (r j) = r j := h j hj
    rw [e] at this
    exact this
def sameB (a b : Nat → Int) : Bool := (List.range 8).all fun j => decide (a j = b j)
theorem same_iff {a b : Nat → Int} : sameB a b = true ↔ ∀ j, j < 8 → a j = b j := by
  unfold sameB
  rw [List.all_eq_true]
  simp
theorem are_same {s : St} (hs : s.ok) (r : Nat → Int) : sameB r (choR s r) = areR r s := by
  rw [Bool.eq_iff_iff, same_iff, are_cho hs]
  exact ⟨fun h j hj => (h j hj).symm, fun h j hj => (h j hj).symm⟩
theorem are_chosen {s : St} (hs : s.ok) (r : Nat → Int) : areR (choR s r) s = true := areR_iff.2 fun j hj => insI_in (hs j hj) (r j)
/-- a list of registers, wherever it lies -/
def rgAt (rs : List (Nat → Int)) (i : Nat) : Nat → Int := (rs[i]?).getD (fun _ => 0)
theorem rgAt_get {rs : List (Nat → Int)} {i : Nat} (h : i < rs.length) : rgAt rs i = rs[i] := by unfold rgAt; rw [List.getElem?_eq_getElem h]; rfl
def SlcG (w : World) (v : Value) (rs : List (Nat → Int)) : Prop :=
  ((∃ a cap, v = .slice a 0 cap) ∧ rs = []) ∨ ∃ b off cap, v = .slice (some ⟨b, off, none⟩) rs.length cap ∧ b < w.heap.size ∧ ∀ i, i < rs.length → w.rangeAt b (off + i * 8) (rgsC (rgAt rs i)).toList
theorem SlcG.len {w : World} {v : Value} {rs : List (Nat → Int)} (h : SlcG w v rs) : ∃ a c, v = .slice a rs.length c := by
  rcases h with ⟨⟨a, c, rfl⟩, rfl⟩ | ⟨b, off, cap, rfl, _⟩
  · exact ⟨a, c, rfl⟩
  · exact ⟨_, _, rfl⟩
theorem SlcG.at {w : World} {a : Option Addr} {c : Nat} {rs : List (Nat → Int)} (h : SlcG w (.slice a rs.length c) rs) (hp : 0 < rs.length) : ∃ b off, a = some ⟨b, off, none⟩ ∧ b < w.heap.size ∧ ∀ i, i < rs.length → w.rangeAt b (off + i * 8) (rgsC (rgAt rs i)).toList := by
  rcases h with ⟨_, rfl⟩ | ⟨b, off, cap, e, h1, h2⟩
  · simp at hp
  · simp only [Value.slice.injEq] at e
    exact ⟨b, off, e.1, h1, h2⟩
end Go.Proofs.YtamiichlbmllcaaGreatDoor
/-
  Registers that are compared; tests of errors and of booleans.
-/
namespace Go.Proofs.YtamiichlbmllcaaGreatDoor
open Go.RowKit
theorem check_zero {l : List I5} (hl : AllFit l) {e : St} {cl : List C2} (h64 : In64 l e cl) (h : (checkR l e cl).1 = 0) : checkR l e cl = (0, 0) := by
  obtain ⟨ht, hst, hfw⟩ := hl.taken h64 h
  unfold checkR
  rw [if_pos hst, if_neg (by omega)]
  exact ht.pass
theorem eqIn_int (d : Nat) (p q : Int) (w : World) : (Op.equalIn (d + 1) 3 (.int .i64 p) (.int .i64 q)).run Tryz.prog w = .ok (p == q) w := by
  simp [go_sem]
theorem part_rgs (s : Nat → Int) (i : Nat) (hi : i < 8) (w : World) : (part 3 (rgsC s) (i * 1)).run Tryz.prog w = .ok (.int .i64 (s i)) w := by
  have : i = 0 ∨ i = 1 ∨ i = 2 ∨ i = 3 ∨ i = 4 ∨ i = 5 ∨ i = 6 ∨ i = 7 := by omega
  rcases this with rfl | rfl | rfl | rfl | rfl | rfl | rfl | rfl <;> (unfold rgsC; simp [go_sem])
theorem eqItems_rgs (d : Nat) (s t : Nat → Int) (w : World) : ∀ (is : List Nat), (∀ i, i ∈ is → i < 8) → (Op.eqItems (d + 1) 3 1 (rgsC s) (rgsC t) is).run Tryz.prog w = .ok (is.all fun j => s j == t j) w
  | [], _ => by simp [Op.eqItems]
  | i :: is, h => by
    have h0 := h i List.mem_cons_self
    have ih := eqItems_rgs d s t w is fun j hj => h j (List.mem_cons_of_mem _ hj)
    simp only [Op.eqItems, Sem.run_bind, part_rgs s i h0, part_rgs t i h0, Result.andThen_ok, eqIn_int, List.all_cons]
    cases (s i == t i)
    · simp
    · simpa using ih
theorem eqIn_rgs (s t : Nat → Int) (w : World) : (Op.equalIn 10000 42 (.agg (rgsC s)) (.agg (rgsC t))).run Tryz.prog w = .ok (sameB s t) w := by
  obtain ⟨i, hi, hz⟩ : ∃ i, Tryz.prog.info? 3 = some i ∧ i.size = 1 := by
    obtain ⟨i, hi, h2⟩ := Option.map_eq_some_iff.1 (show (Tryz.prog.info? 3).map (·.size) = some 1 by kernel_rfl)
    exact ⟨i, hi, h2⟩
  rw [run_equalIn_array w 9999 (rgsC s) (rgsC t) Tryz.underlying42 hi, show Tryz.prog.cellsOf 3 = 1 by kernel_rfl]
  exact eqItems_rgs 9998 s t w (List.range 8) fun i hi => List.mem_range.1 hi
set_option maxHeartbeats 2000000 in
set_option maxRecDepth 100000 in
theorem eql_rgs (ρ : Operand → Value) (d : Option Tmp) (x y : Operand) (tt : TypeId) (pos : String) (aft : Array Edge) (g : Option (Nat × Bool)) (s t : Nat → Int) (w : World) (hx : ρ x = .agg (rgsC s)) (hy : ρ y = .agg (rgsC t)) :
    (execOp ρ ⟨d, .binOp .eql 42 x y 42, tt, pos, aft, g⟩).run Tryz.prog w = .ok (.value (.bool (sameB s t))) w := by
  unfold execOp
  simp only [hx, hy]
  have := fun w => eqIn_rgs s t w
  simp [go_sem, this]
theorem eql_err (ρ : Operand → Value) (d : Option Tmp) (x y : Operand) (tt : TypeId) (pos : String) (aft : Array Edge) (g : Option (Nat × Bool)) (p q : Int) (w : World) (hx : ρ x = .int .i64 p) (hy : ρ y = .int .i64 q) :
    (execOp ρ ⟨d, .binOp .eql 49 x y 49, tt, pos, aft, g⟩).run Tryz.prog w = .ok (.value (.bool (p == q))) w := by
  unfold execOp
  simp only [hx, hy]
  simp [go_sem]
theorem neq_err (ρ : Operand → Value) (d : Option Tmp) (x y : Operand) (tt : TypeId) (pos : String) (aft : Array Edge) (g : Option (Nat × Bool)) (p q : Int) (w : World) (hx : ρ x = .int .i64 p) (hy : ρ y = .int .i64 q) :
    (execOp ρ ⟨d, .binOp .neq 49 x y 49, tt, pos, aft, g⟩).run Tryz.prog w = .ok (.value (.bool (!(p == q)))) w := by
  unfold execOp
  simp only [hx, hy]
  simp [go_sem]
  rfl
theorem neq_bool (ρ : Operand → Value) (d : Option Tmp) (x y : Operand) (tt : TypeId) (pos : String) (aft : Array Edge) (g : Option (Nat × Bool)) (p q : Bool) (w : World) (hx : ρ x = .bool p) (hy : ρ y = .bool q) :
    (execOp ρ ⟨d, .binOp .neq 4 x y 4, tt, pos, aft, g⟩).run Tryz.prog w = .ok (.value (.bool (!(p == q)))) w := by
  unfold execOp
  simp only [hx, hy]
  simp [go_sem]
theorem slcG : SlcT Tryz.prog 69 8 := ⟨⟨_, Tryz.underlying69, by kernel_rfl⟩⟩
section
variable {l : List Oper} {Q : Exit → Act → World → Prop} {F : Nat → Bool} {S : World → Prop} {i : Nat} {r : OT} {a : Act} {w : World} {d : Option Tmp} {x y : Operand} {t tt : TypeId} {pos : String} {aft : Array Edge} {g : Option (Nat × Bool)}
set_option maxRecDepth 100000 in
theorem sEqlG {s u : Nat → Int} (hk : S w) (h : wpT Tryz.prog l Q F S r (a.put d (.bool (sameB s u))) w) (ho : nthO i l = some ⟨d, .binOp .eql 42 x y 42, tt, pos, aft, g⟩ := by rfl) (hw : Region.wanted ⟨d, .binOp .eql 42 x y 42, tt, pos, aft, g⟩ (yielded l.toArray a.tmps) = true := by rfl) (hx : a.eval x = .agg (rgsC s) := by rfl) (hy : a.eval y = .agg (rgsC u) := by rfl) : wpT Tryz.prog l Q F S (.op i r) a w :=
  tRun ho rfl hw hk (fun wx => eql_rgs _ _ _ _ _ _ _ _ s u wx hx hy) h
set_option maxRecDepth 100000 in
theorem sEqlE {p q : Int} (hk : S w) (h : wpT Tryz.prog l Q F S r (a.put d (.bool (p == q))) w) (ho : nthO i l = some ⟨d, .binOp .eql 49 x y 49, tt, pos, aft, g⟩ := by rfl) (hw : Region.wanted ⟨d, .binOp .eql 49 x y 49, tt, pos, aft, g⟩ (yielded l.toArray a.tmps) = true := by rfl) (hx : a.eval x = .int .i64 p := by rfl) (hy : a.eval y = .int .i64 q := by rfl) : wpT Tryz.prog l Q F S (.op i r) a w :=
  tRun ho rfl hw hk (fun wx => eql_err _ _ _ _ _ _ _ _ p q wx hx hy) h
set_option maxRecDepth 100000 in
theorem sNeqE {p q : Int} {b : Bool} (hk : S w) (h : wpT Tryz.prog l Q F S r (a.put d (.bool b)) w) (hb : (!(p == q)) = b := by rfl) (ho : nthO i l = some ⟨d, .binOp .neq 49 x y 49, tt, pos, aft, g⟩ := by rfl) (hw : Region.wanted ⟨d, .binOp .neq 49 x y 49, tt, pos, aft, g⟩ (yielded l.toArray a.tmps) = true := by rfl) (hx : a.eval x = .int .i64 p := by rfl) (hy : a.eval y = .int .i64 q := by rfl) : wpT Tryz.prog l Q F S (.op i r) a w :=
  tRun ho rfl hw hk (fun wx => (neq_err _ _ _ _ _ _ _ _ p q wx hx hy).trans (by rw [hb])) h
set_option maxRecDepth 100000 in
theorem sNeqB {p q : Bool} {b : Bool} (hk : S w) (h : wpT Tryz.prog l Q F S r (a.put d (.bool b)) w) (hb : (!(p == q)) = b := by rfl) (ho : nthO i l = some ⟨d, .binOp .neq 4 x y 4, tt, pos, aft, g⟩ := by rfl) (hw : Region.wanted ⟨d, .binOp .neq 4 x y 4, tt, pos, aft, g⟩ (yielded l.toArray a.tmps) = true := by rfl) (hx : a.eval x = .bool p := by rfl) (hy : a.eval y = .bool q := by rfl) : wpT Tryz.prog l Q F S (.op i r) a w :=
  tRun ho rfl hw hk (fun wx => (neq_bool _ _ _ _ _ _ _ _ p q wx hx hy).trans (by rw [hb])) h
set_option maxRecDepth 100000 in
theorem vAssignP {p : Option Addr} (hk : S w) (h : wpT Tryz.prog l Q F S r (a.put d (.pointer p)) w) (ho : nthO i l = some ⟨d, .assign x, tt, pos, aft, g⟩ := by rfl) (hw : Region.wanted ⟨d, .assign x, tt, pos, aft, g⟩ (yielded l.toArray a.tmps) = true := by rfl) (hx : a.eval x = .pointer p := by rfl) : wpT Tryz.prog l Q F S (.op i r) a w := sAssign hk (by rw [hx]; exact h) ho hw
set_option maxRecDepth 100000 in
theorem sIndexG {b j c len cap : Nat} (hk : S w) (h : wpT Tryz.prog l Q F S r (a.put d (.pointer (some ⟨b, j + c * 8, none⟩))) w) (ho : nthO i l = some ⟨d, .indexAddr 69 x y, tt, pos, aft, g⟩ := by rfl) (hw : Region.wanted ⟨d, .indexAddr 69 x y, tt, pos, aft, g⟩ (yielded l.toArray a.tmps) = true := by rfl) (hx : a.eval x = .slice (some ⟨b, j, none⟩) len cap := by rfl) (hy : a.eval y = .int .i64 c := by rfl) (hc : c < len := by first | assumption | omega) : wpT Tryz.prog l Q F S (.op i r) a w := tIndexS ho hw hk hx hy slcG hc h
end
section
variable {ops : Array Oper} {rest : List Oper} {Q : Exit → Act → World → Prop} {M : List Nat} {w0 : World} {L : RowL} {a : Act} {w : World} {d : Option Tmp} {x y : Operand} {tt : TypeId} {pos : String} {aft : Array Edge} {g : Option (Nat × Bool)}
set_option maxRecDepth 100000 in
theorem wIndexG {b j c len cap : Nat} (_ : Kn M w0 w L) (h : wpList Tryz.prog ops Q rest (a.put d (.pointer (some ⟨b, j + c * 8, none⟩))) w) (hw : Region.wanted ⟨d, .indexAddr 69 x y, tt, pos, aft, g⟩ (yielded ops a.tmps) = true := by rfl) (hx : a.eval x = .slice (some ⟨b, j, none⟩) len cap := by rfl) (hy : a.eval y = .int .i64 c := by rfl) (hc : c < len := by first | assumption | omega) : wpList Tryz.prog ops Q (⟨d, .indexAddr 69 x y, tt, pos, aft, g⟩ :: rest) a w := wl1 hw (oIndexS hx hy slcG hc h)
end
theorem At.belowA {w w' : World} {b : Nat} {A : Array Value} {t : TypeId} (h : At w b A t) (hb : Below w.heap.size w w') : At w' b A t := h.of (hb.block _ h.lt)
theorem SlcG.below {w w' : World} {v : Value} {rs : List (Nat → Int)} {B : Nat} (h : SlcG w v rs) (hb : Below B w w') (hB : w.heap.size ≤ B) : SlcG w' v rs := by
  rcases h with h | ⟨b, off, cap, h1, h2, h3⟩
  · exact Or.inl h
  · refine Or.inr ⟨b, off, cap, h1, Nat.lt_of_lt_of_le h2 hb.size, fun i hi j u hu => ?_⟩
    rw [hb.cell (p := ⟨b, _, none⟩) (show b < B by omega)]
    exact h3 i hi j u hu
end Go.Proofs.YtamiichlbmllcaaGreatDoor
/-
  Moves and assignments whose value is read at once: lists, pointers, pairs.
-/
namespace Go.Proofs.YtamiichlbmllcaaGreatDoor
open Go.RowKit
section
variable {l : List Oper} {Q : Exit → Act → World → Prop} {F : Nat → Bool} {S : World → Prop} {i : Nat} {r : OT} {a : Act} {w : World} {d : Option Tmp} {x y : Operand} {t tt : TypeId} {pos : String} {aft : Array Edge} {g : Option (Nat × Bool)}
set_option maxRecDepth 100000 in
theorem uMoveS {p : Option Addr} {n c : Nat} (hk : S w) (h : wpT Tryz.prog l Q F S r (a.put d (.slice p n c)) w) (ho : nthO i l = some ⟨d, .move x, tt, pos, aft, g⟩ := by rfl) (hw : Region.wanted ⟨d, .move x, tt, pos, aft, g⟩ (yielded l.toArray a.tmps) = true := by rfl) (hx : a.eval x = .slice p n c := by rfl) : wpT Tryz.prog l Q F S (.op i r) a w := sMove hk (by rw [hx]; exact h) ho hw
set_option maxRecDepth 100000 in
theorem uAssignS {p : Option Addr} {n c : Nat} (hk : S w) (h : wpT Tryz.prog l Q F S r (a.put d (.slice p n c)) w) (ho : nthO i l = some ⟨d, .assign x, tt, pos, aft, g⟩ := by rfl) (hw : Region.wanted ⟨d, .assign x, tt, pos, aft, g⟩ (yielded l.toArray a.tmps) = true := by rfl) (hx : a.eval x = .slice p n c := by rfl) : wpT Tryz.prog l Q F S (.op i r) a w := sAssign hk (by rw [hx]; exact h) ho hw
set_option maxRecDepth 100000 in
theorem uMoveP {p : Option Addr} (hk : S w) (h : wpT Tryz.prog l Q F S r (a.put d (.pointer p)) w) (ho : nthO i l = some ⟨d, .move x, tt, pos, aft, g⟩ := by rfl) (hw : Region.wanted ⟨d, .move x, tt, pos, aft, g⟩ (yielded l.toArray a.tmps) = true := by rfl) (hx : a.eval x = .pointer p := by rfl) : wpT Tryz.prog l Q F S (.op i r) a w := sMove hk (by rw [hx]; exact h) ho hw
set_option maxRecDepth 100000 in
theorem uAssignP {p : Option Addr} (hk : S w) (h : wpT Tryz.prog l Q F S r (a.put d (.pointer p)) w) (ho : nthO i l = some ⟨d, .assign x, tt, pos, aft, g⟩ := by rfl) (hw : Region.wanted ⟨d, .assign x, tt, pos, aft, g⟩ (yielded l.toArray a.tmps) = true := by rfl) (hx : a.eval x = .pointer p := by rfl) : wpT Tryz.prog l Q F S (.op i r) a w := sAssign hk (by rw [hx]; exact h) ho hw
set_option maxRecDepth 100000 in
theorem uMoveT {xs : Array Value} (hk : S w) (h : wpT Tryz.prog l Q F S r (a.put d (.tuple xs)) w) (ho : nthO i l = some ⟨d, .move x, tt, pos, aft, g⟩ := by rfl) (hw : Region.wanted ⟨d, .move x, tt, pos, aft, g⟩ (yielded l.toArray a.tmps) = true := by rfl) (hx : a.eval x = .tuple xs := by rfl) : wpT Tryz.prog l Q F S (.op i r) a w := sMove hk (by rw [hx]; exact h) ho hw
end
end Go.Proofs.YtamiichlbmllcaaGreatDoor
/-
  suretykeep.Alike.
-/
namespace Go.Proofs.YtamiichlbmllcaaGreatDoor
open Go.RowKit
set_option maxHeartbeats 16000000 in
set_option maxRecDepth 100000 in
theorem alike_any (l : List I5) (v : Value) (w : World) (hs : Shapes w) (h : Slc w v l) (hlen : l.length < 9223372036854775808) (h64 : ∀ i (h : i < l.length), l[i].in64) (e : St) (he : e.in64) (cr : List C2) (ra : Option Addr) (rc : Nat) (hcr : SlcC w (.slice ra cr.length rc) cr) (hcl : cr.length < 4000000000000) (c64 : ∀ i, i < cr.length → St.in64 (clAt cr i).st) (rs : List (Nat → Int)) (ga : Option Addr) (gcap : Nat) (hrs : SlcG w (.slice ga rs.length gcap) rs) (hrl : rs.length < 9000000000000) (f : Int) :
    Calls Tryz.prog 10 #[v, .agg (stC e), .slice ra cr.length rc, .slice ga rs.length gcap, .int .i64 f] w fun x w' => x = .returned (.bool true) ∧ Below w.heap.size w w' := by
  have hk := Kn.nil [] w
  have HS := hide hs
  have HV := hide h
  have H64 := hide h64
  have HCR := hide hcr
  have HRS := hide hrs
  have HC64 := hide c64
  obtain ⟨a, cap, rfl⟩ := h.len
  have HK := hide (progL_k h64)
  have HR := hide (progL_right l)
  have HF := hide (right_fit (progL_right l))
  have HSO := hide (ordS_ok e)
  have HST := hide (isSt_iffK.2 (ordS_ok e))
  have HSI := hide (ordS_in64 he)
  have hP64 : (progL l).length ≤ 64 := HF.out.2.1
  clear hs h h64 he hcr c64 hrs
  go_enter Tryz.func10, Tryz.ntmps10
  go_wp2_with (first | (go_at_call 18; refine (awake_any _ (HS.out.below hk.mod.below HS.out.1)).mono ?_; rintro x w1 ⟨rfl, hb⟩; replace hk := hk.call hb; clear hb) | ((with_reducible show wpList _ _ _ _ _ _); (first | ((with_reducible show wpList _ _ _ (⟨_, _, _, _, _, some _⟩ :: _) _ _); refine wpList_skip (by rfl) ?_; simp only [Act.put, List.setIfInBounds_toArray, List.set_cons_succ, List.set_cons_zero]) | ((first | refine wBuild hk ?_ | refine wFieldZ hk ?_ | refine wField0 hk ?_ | refine wField hk ?_ | refine wIndexA0 hk ?_ | refine wIndexS0 hk ?_ | refine wIndexA hk ?_ | refine wIndexS hk ?_ | refine wLoadR hk ?_ | refine wLoad1 hk ?_ | refine wOldR hk ?_ | refine wOld1 hk ?_ | refine wOldC hk ?_ | refine wOldG hk ?_ | refine wAssertY hk ?_ | refine wAssertN hk ?_); simp only [Act.put, List.setIfInBounds_toArray, List.set_cons_succ, List.set_cons_zero]) | ((first | refine wBox hk ?_ | refine wBox1I hk ?_ | refine wBox1B hk ?_ | refine wBox1S hk ?_ | refine wBox1P hk ?_ | refine wBox1F hk ?_ | refine wAllocR hk ?_ | refine wAlloc1 hk ?_ | refine wMake hk ?_); clear hk; intro w1 hk; simp only [Act.put, List.setIfInBounds_toArray, List.set_cons_succ, List.set_cons_zero]) | ((first | refine wStoreR hk ?_ | refine wStore1I hk ?_ | refine wStore1B hk ?_ | refine wStore1S hk ?_ | refine wStore1P hk ?_ | refine wStore1F hk ?_); clear hk; intro w1 hk; simp only [Act.put]))))
  go_at_call 19
  refine (program_any l _ _ (HV.out.below hk.mod.below (Nat.le_refl _)) hlen H64.out).mono ?_
  rintro x w2 ⟨pv, rfl, hown, hb⟩
  obtain ⟨P, hP⟩ : ∃ P, progL l = P := ⟨_, rfl⟩
  rw [hP] at hown hP64 HK HR HF
  clear hP
  obtain ⟨pb, pc, A, rfl, hat, hge, hsl⟩ := own_rowI hown HF.out.1
  replace hk := hk.make hb hat hge
  have HSL := hide hsl
  clear hb hat hge hown hsl
  go_wp2_with (first | (go_at_call 20; refine (kState_any _ _).mono ?_; rintro x wk ⟨rfl, hb⟩; replace hk := hk.call hb; clear hb) | ((with_reducible show wpList _ _ _ _ _ _); (first | ((with_reducible show wpList _ _ _ (⟨_, _, _, _, _, some _⟩ :: _) _ _); refine wpList_skip (by rfl) ?_; simp only [Act.put, List.setIfInBounds_toArray, List.set_cons_succ, List.set_cons_zero]) | ((first | refine wBuild hk ?_ | refine wFieldZ hk ?_ | refine wField0 hk ?_ | refine wField hk ?_ | refine wIndexA0 hk ?_ | refine wIndexS0 hk ?_ | refine wIndexA hk ?_ | refine wIndexS hk ?_ | refine wLoadR hk ?_ | refine wLoad1 hk ?_ | refine wOldR hk ?_ | refine wOld1 hk ?_ | refine wOldC hk ?_ | refine wOldG hk ?_ | refine wAssertY hk ?_ | refine wAssertN hk ?_); simp only [Act.put, List.setIfInBounds_toArray, List.set_cons_succ, List.set_cons_zero]) | ((first | refine wBox hk ?_ | refine wBox1I hk ?_ | refine wBox1B hk ?_ | refine wBox1S hk ?_ | refine wBox1P hk ?_ | refine wBox1F hk ?_ | refine wAllocR hk ?_ | refine wAlloc1 hk ?_ | refine wMake hk ?_); clear hk; intro w1 hk; simp only [Act.put, List.setIfInBounds_toArray, List.set_cons_succ, List.set_cons_zero]) | ((first | refine wStoreR hk ?_ | refine wStore1I hk ?_ | refine wStore1B hk ?_ | refine wStore1S hk ?_ | refine wStore1P hk ?_ | refine wStore1F hk ?_); clear hk; intro w1 hk; simp only [Act.put]))))
  obtain ⟨s, hsE⟩ : ∃ s, ordS e = s := ⟨_, rfl⟩
  rw [hsE] at HSO HST HSI
  simp only [hsE] at hk ⊢
  clear hsE
  go_at_call 21
  refine (both_any P HF.out HR.out HK.out s HST.out HSI.out cr pb pc ra rc _ (HS.out.below hk.mod.below HS.out.1) (HSL.out _ (hk.at (by with_reducible repeat (first | exact List.mem_cons_self | apply List.mem_cons_of_mem)))) (HCR.out.below hk.mod.below (Nat.le_refl _))).mono ?_
  rintro x w3 ⟨lv, vs, cs, rfl, hown, hB, hcs, hb⟩
  obtain ⟨g, gc, G, rfl, hg, hatG, hc2, hL⟩ := both_lists HK.out HSI.out HC64.out hcl hown hB hcs
  replace hk := hk.make hb hatG hg
  have HLS := hide hL
  have HB3 := hide hk.mod.below
  have HS3 := hide (HS.out.below hk.mod.below HS.out.1)
  have HP3 := hide (HSL.out _ (hk.at (by with_reducible repeat (first | exact List.mem_cons_self | apply List.mem_cons_of_mem))))
  have HR3 := hide (HRS.out.below hk.mod.below (Nat.le_refl _))
  have hat13 : At w3 wk.heap.size (stC s) 30 := hk.at (by with_reducible repeat (first | exact List.mem_cons_self | apply List.mem_cons_of_mem))
  clear hk hown hB hcs hb hg hL HS HV HCR HC64 H64 HSL HRS
  have hk := Kn.nil [] w3
  go_wp2_with (first | ((with_reducible show wpList _ _ _ _ _ _); (first | ((with_reducible show wpList _ _ _ (⟨_, _, _, _, _, some _⟩ :: _) _ _); refine wpList_skip (by rfl) ?_; simp only [Act.put, List.setIfInBounds_toArray, List.set_cons_succ, List.set_cons_zero]) | ((first | refine wBuild hk ?_ | refine wFieldZ hk ?_ | refine wField0 hk ?_ | refine wField hk ?_ | refine wIndexA0 hk ?_ | refine wIndexS0 hk ?_ | refine wIndexA hk ?_ | refine wIndexS hk ?_ | refine wLoadR hk ?_ | refine wLoad1 hk ?_ | refine wOldR hk ?_ | refine wOld1 hk ?_ | refine wOldC hk ?_ | refine wOldG hk ?_ | refine wAssertY hk ?_ | refine wAssertN hk ?_); simp only [Act.put, List.setIfInBounds_toArray, List.set_cons_succ, List.set_cons_zero]) | ((first | refine wBox hk ?_ | refine wBox1I hk ?_ | refine wBox1B hk ?_ | refine wBox1S hk ?_ | refine wBox1P hk ?_ | refine wBox1F hk ?_ | refine wAllocR hk ?_ | refine wAlloc1 hk ?_ | refine wMake hk ?_); clear hk; intro w1 hk; simp only [Act.put, List.setIfInBounds_toArray, List.set_cons_succ, List.set_cons_zero]) | ((first | refine wStoreR hk ?_ | refine wStore1I hk ?_ | refine wStore1B hk ?_ | refine wStore1S hk ?_ | refine wStore1P hk ?_ | refine wStore1F hk ?_); clear hk; intro w1 hk; simp only [Act.put]))))
  go_loopw [15] (fun j wr => ∃ i : Nat, i ≤ cs.length ∧ j = .int .i64 i ∧ Kn [] w3 wr []) (fun j _ => cs.length - (intOf j).toNat)
  case atStart => exact ⟨0, by omega, rfl, hk⟩
  case round =>
    clear hk
    obtain ⟨i, hi, rfl, hk⟩ := hrel
    by_cases hlt : i < cs.length
    · obtain ⟨ca, cc, hG, hC, hin, hcl2⟩ := HLS.out i hlt
      obtain ⟨cl, hcq⟩ : ∃ cl, csAt cs i = cl := ⟨_, rfl⟩
      rw [hcq] at hG hC hin hcl2
      have HC := hide hC
      have HIN := hide hin
      clear hcq hC hin
      by_cases hz : (checkR P s cl).1 = 0
      · have HZ : Hid (scheckR P s cl = (0, 0)) := hide (by rw [scheck_fst HR.out, check_zero HF.out HIN.out hz]; rfl)
        have HT := hide (HF.out.taken HIN.out hz).1
        clear hz
        go_wp2_with (first | ((with_reducible show wpList _ _ _ _ _ _); (first | ((with_reducible show wpList _ _ _ (⟨_, _, _, _, _, some _⟩ :: _) _ _); refine wpList_skip (by rfl) ?_; simp only [Act.put, List.setIfInBounds_toArray, List.set_cons_succ, List.set_cons_zero]) | ((first | refine wBuild hk ?_ | refine wFieldZ hk ?_ | refine wField0 hk ?_ | refine wField hk ?_ | refine wIndexA0 hk ?_ | refine wIndexS0 hk ?_ | refine wIndexA hk ?_ | refine wIndexS hk ?_ | refine wLoadR hk ?_ | refine wLoad1 hk ?_ | refine wOldR hk ?_ | refine wOld1 hk ?_ | refine wOldC hk ?_ | refine wOldG hk ?_ | refine wAssertY hk ?_ | refine wAssertN hk ?_); simp only [Act.put, List.setIfInBounds_toArray, List.set_cons_succ, List.set_cons_zero]) | ((first | refine wBox hk ?_ | refine wBox1I hk ?_ | refine wBox1B hk ?_ | refine wBox1S hk ?_ | refine wBox1P hk ?_ | refine wBox1F hk ?_ | refine wAllocR hk ?_ | refine wAlloc1 hk ?_ | refine wMake hk ?_); clear hk; intro w1 hk; simp only [Act.put, List.setIfInBounds_toArray, List.set_cons_succ, List.set_cons_zero]) | ((first | refine wStoreR hk ?_ | refine wStore1I hk ?_ | refine wStore1B hk ?_ | refine wStore1S hk ?_ | refine wStore1P hk ?_ | refine wStore1F hk ?_); clear hk; intro w1 hk; simp only [Act.put]))))
        (refine wp_regK hk (.op 0 (.op 1 (.op 2 (.op 3 (.op 4 (.op 5 (.op 6 (.op 7 (.op 8 (.op 9 (.op 10 (.op 11 .nil)))))))))))) (fun i => decide (i < 11)) mixT (by decide) (by kernel_rfl) (by kernel_rfl) ?_; clear hk; intro w1 hk)
        (repeat ((first | refine vMoveI hk ?_ | refine vMoveB hk ?_ | refine uMoveS hk ?_ | refine uMoveP hk ?_ | refine uMoveT hk ?_ | refine vAssignI hk ?_ | refine vAssignB hk ?_ | refine uAssignS hk ?_ | refine uAssignP hk ?_ | refine sMove hk ?_ | refine sAssign hk ?_ | refine sExtract hk ?_ | refine sFieldZ hk ?_ | refine sField0 hk ?_ | refine sField hk ?_ | refine sIndexA0 hk ?_ | refine sIndexS0 hk ?_ | refine sIndexA hk ?_ | refine sIndexS hk ?_ | refine sLoadR hk ?_ | refine sLoad1 hk ?_ | refine sOldR hk ?_ | refine sOld1 hk ?_ | refine sOldC hk ?_ | refine sOldG hk ?_ | refine sBuild hk ?_ | refine sPickT hk ?_ | refine sPickF hk ?_ | refine sLss hk ?_ | refine sLeq hk ?_ | refine sGtr hk ?_ | refine sGeq hk ?_ | refine sEql hk ?_ | refine sNot hk ?_ | refine sSkip hk ?_ | refine sSkipA hk ?_); simp only [Act.put, List.setIfInBounds_toArray, List.set_cons_succ, List.set_cons_zero]))
        refine sOld1 hk ?_ (hat := hatG) (hv := hG); simp only [Act.put, List.setIfInBounds_toArray, List.set_cons_succ, List.set_cons_zero]
        refine sCall ?_; intro K hK; go_step; go_at_call 22
        refine (SCheck_any P s cl HIN.out hcl2 _ _ _ (HS3.out.below hk.mod.below HS3.out.1) (HP3.out.below hk.mod.below (Nat.le_refl _)) (HC.out.below hk.mod.below (Nat.le_refl _))).mono ?_
        rintro x w4 ⟨rfl, hb⟩
        replace hk := hk.call hb
        refine hK _ _ (fun _ => hk) ?_
        clear hK K hb
        rw [HZ.out]
        (repeat ((first | refine vMoveI hk ?_ | refine vMoveB hk ?_ | refine uMoveS hk ?_ | refine uMoveP hk ?_ | refine uMoveT hk ?_ | refine vAssignI hk ?_ | refine vAssignB hk ?_ | refine uAssignS hk ?_ | refine uAssignP hk ?_ | refine sMove hk ?_ | refine sAssign hk ?_ | refine sExtract hk ?_ | refine sFieldZ hk ?_ | refine sField0 hk ?_ | refine sField hk ?_ | refine sIndexA0 hk ?_ | refine sIndexS0 hk ?_ | refine sIndexA hk ?_ | refine sIndexS hk ?_ | refine sLoadR hk ?_ | refine sLoad1 hk ?_ | refine sOldR hk ?_ | refine sOld1 hk ?_ | refine sOldC hk ?_ | refine sOldG hk ?_ | refine sBuild hk ?_ | refine sPickT hk ?_ | refine sPickF hk ?_ | refine sLss hk ?_ | refine sLeq hk ?_ | refine sGtr hk ?_ | refine sGeq hk ?_ | refine sEql hk ?_ | refine sNot hk ?_ | refine sSkip hk ?_ | refine sSkipA hk ?_); simp only [Act.put, List.setIfInBounds_toArray, List.set_cons_succ, List.set_cons_zero]))
        refine tNil ?_
        go_wp2_with (first | ((with_reducible show wpList _ _ _ _ _ _); (first | ((with_reducible show wpList _ _ _ (⟨_, _, _, _, _, some _⟩ :: _) _ _); refine wpList_skip (by rfl) ?_; simp only [Act.put, List.setIfInBounds_toArray, List.set_cons_succ, List.set_cons_zero]) | ((first | refine wBuild hk ?_ | refine wFieldZ hk ?_ | refine wField0 hk ?_ | refine wField hk ?_ | refine wIndexA0 hk ?_ | refine wIndexS0 hk ?_ | refine wIndexA hk ?_ | refine wIndexS hk ?_ | refine wLoadR hk ?_ | refine wLoad1 hk ?_ | refine wOldR hk ?_ | refine wOld1 hk ?_ | refine wOldC hk ?_ | refine wOldG hk ?_ | refine wAssertY hk ?_ | refine wAssertN hk ?_); simp only [Act.put, List.setIfInBounds_toArray, List.set_cons_succ, List.set_cons_zero]) | ((first | refine wBox hk ?_ | refine wBox1I hk ?_ | refine wBox1B hk ?_ | refine wBox1S hk ?_ | refine wBox1P hk ?_ | refine wBox1F hk ?_ | refine wAllocR hk ?_ | refine wAlloc1 hk ?_ | refine wMake hk ?_); clear hk; intro w1 hk; simp only [Act.put, List.setIfInBounds_toArray, List.set_cons_succ, List.set_cons_zero]) | ((first | refine wStoreR hk ?_ | refine wStore1I hk ?_ | refine wStore1B hk ?_ | refine wStore1S hk ?_ | refine wStore1P hk ?_ | refine wStore1F hk ?_); clear hk; intro w1 hk; simp only [Act.put]))))
        (refine wp_regK hk (.op 0 (.op 1 (.op 2 (.op 3 (.op 4 (.op 5 (.op 6 (.op 7 (.op 8 (.op 9 (.op 10 (.op 11 (.op 12 (.op 13 .nil)))))))))))))) (fun i => decide (i < 13)) mixT (by decide) (by kernel_rfl) (by kernel_rfl) ?_; clear hk; intro w1 hk)
        (repeat ((first | refine vMoveI hk ?_ | refine vMoveB hk ?_ | refine uMoveS hk ?_ | refine uMoveP hk ?_ | refine uMoveT hk ?_ | refine vAssignI hk ?_ | refine vAssignB hk ?_ | refine uAssignS hk ?_ | refine uAssignP hk ?_ | refine sMove hk ?_ | refine sAssign hk ?_ | refine sExtract hk ?_ | refine sFieldZ hk ?_ | refine sField0 hk ?_ | refine sField hk ?_ | refine sIndexA0 hk ?_ | refine sIndexS0 hk ?_ | refine sIndexA hk ?_ | refine sIndexS hk ?_ | refine sLoadR hk ?_ | refine sLoad1 hk ?_ | refine sOldR hk ?_ | refine sOld1 hk ?_ | refine sOldC hk ?_ | refine sOldG hk ?_ | refine sBuild hk ?_ | refine sPickT hk ?_ | refine sPickF hk ?_ | refine sLss hk ?_ | refine sLeq hk ?_ | refine sGtr hk ?_ | refine sGeq hk ?_ | refine sEql hk ?_ | refine sNot hk ?_ | refine sSkip hk ?_ | refine sSkipA hk ?_); simp only [Act.put, List.setIfInBounds_toArray, List.set_cons_succ, List.set_cons_zero]))
        refine sOld1 hk ?_ (hat := hatG) (hv := hG); simp only [Act.put, List.setIfInBounds_toArray, List.set_cons_succ, List.set_cons_zero]
        refine sCall ?_; intro K hK; go_step; go_at_call 28
        refine (compile_ok P s cl HIN.out hcl2 _ _ _ (HS3.out.below hk.mod.below HS3.out.1) (HP3.out.below hk.mod.below (Nat.le_refl _)) (HC.out.below hk.mod.below (Nat.le_refl _)) HZ.out HF.out).mono ?_
        rintro x w5 ⟨t, rfl, hT, hb⟩
        replace hk := hk.call hb
        refine hK _ _ (fun _ => hk) ?_
        clear hK K hb hG
        obtain ⟨⟨tb, tc, hT1, hT2, _, _⟩, _⟩ := hT
        have HT2 := hide hT2
        clear hT2
        (repeat ((first | refine vMoveI hk ?_ | refine vMoveB hk ?_ | refine uMoveS hk ?_ | refine uMoveP hk ?_ | refine uMoveT hk ?_ | refine vAssignI hk ?_ | refine vAssignB hk ?_ | refine uAssignS hk ?_ | refine uAssignP hk ?_ | refine sMove hk ?_ | refine sAssign hk ?_ | refine sExtract hk ?_ | refine sFieldZ hk ?_ | refine sField0 hk ?_ | refine sField hk ?_ | refine sIndexA0 hk ?_ | refine sIndexS0 hk ?_ | refine sIndexA hk ?_ | refine sIndexS hk ?_ | refine sLoadR hk ?_ | refine sLoad1 hk ?_ | refine sOldR hk ?_ | refine sOld1 hk ?_ | refine sOldC hk ?_ | refine sOldG hk ?_ | refine sBuild hk ?_ | refine sPickT hk ?_ | refine sPickF hk ?_ | refine sLss hk ?_ | refine sLeq hk ?_ | refine sGtr hk ?_ | refine sGeq hk ?_ | refine sEql hk ?_ | refine sNot hk ?_ | refine sSkip hk ?_ | refine sSkipA hk ?_); simp only [Act.put, List.setIfInBounds_toArray, List.set_cons_succ, List.set_cons_zero]))
        refine tNil ?_
        have HK5 := hide hk
        have HS5 := hide (HS3.out.below hk.mod.below HS3.out.1)
        have HP5 := hide (HP3.out.below hk.mod.below (Nat.le_refl _))
        have HR5 := hide (HR3.out.below hk.mod.below (Nat.le_refl _))
        have hat5 := hat13.belowA hk.mod.below
        clear hk
        have hk := Kn.nil [] w5
        go_wp2_with (first | ((with_reducible show wpList _ _ _ _ _ _); (first | ((with_reducible show wpList _ _ _ (⟨_, _, _, _, _, some _⟩ :: _) _ _); refine wpList_skip (by rfl) ?_; simp only [Act.put, List.setIfInBounds_toArray, List.set_cons_succ, List.set_cons_zero]) | ((first | refine wBuild hk ?_ | refine wFieldZ hk ?_ | refine wField0 hk ?_ | refine wField hk ?_ | refine wIndexA0 hk ?_ | refine wIndexS0 hk ?_ | refine wIndexA hk ?_ | refine wIndexS hk ?_ | refine wLoadR hk ?_ | refine wLoad1 hk ?_ | refine wOldR hk ?_ | refine wOld1 hk ?_ | refine wOldC hk ?_ | refine wOldG hk ?_ | refine wAssertY hk ?_ | refine wAssertN hk ?_); simp only [Act.put, List.setIfInBounds_toArray, List.set_cons_succ, List.set_cons_zero]) | ((first | refine wBox hk ?_ | refine wBox1I hk ?_ | refine wBox1B hk ?_ | refine wBox1S hk ?_ | refine wBox1P hk ?_ | refine wBox1F hk ?_ | refine wAllocR hk ?_ | refine wAlloc1 hk ?_ | refine wMake hk ?_); clear hk; intro w1 hk; simp only [Act.put, List.setIfInBounds_toArray, List.set_cons_succ, List.set_cons_zero]) | ((first | refine wStoreR hk ?_ | refine wStore1I hk ?_ | refine wStore1B hk ?_ | refine wStore1S hk ?_ | refine wStore1P hk ?_ | refine wStore1F hk ?_); clear hk; intro w1 hk; simp only [Act.put]))))
        simp only [Nat.mul_one]
        go_loopw [21] (fun j wr => ∃ k : Nat, k ≤ rs.length ∧ j = .int .i64 k ∧ Kn [] w5 wr []) (fun j _ => rs.length - (intOf j).toNat)
        case atStart => exact ⟨0, by omega, rfl, hk⟩
        case round =>
          clear hk
          obtain ⟨k, hkl, rfl, hk⟩ := hrel
          by_cases hlk : k < rs.length
          · obtain ⟨gb, goff, rfl, hgb, hrows⟩ := HR5.out.at (by omega)
            have hrow := hrows k hlk
            obtain ⟨q, hq⟩ : ∃ q, rgAt rs k = q := ⟨_, rfl⟩
            rw [hq] at hrow
            clear hq hrows
            obtain ⟨⟨k1, po, va, st⟩, ho⟩ : ∃ o, runO P (choR s q) f = o := ⟨_, rfl⟩
            have HO := hide ho
            have HRO : Hid (runOE P (choR s q) f = ⟨k1, po, va, st⟩) := hide (by unfold runOE; rw [if_pos HR.out]; exact ho)
            clear ho
            go_wp2_with (first | ((with_reducible show wpList _ _ _ _ _ _); (first | ((with_reducible show wpList _ _ _ (⟨_, _, _, _, _, some _⟩ :: _) _ _); refine wpList_skip (by rfl) ?_; simp only [Act.put, List.setIfInBounds_toArray, List.set_cons_succ, List.set_cons_zero]) | ((first | refine wBuild hk ?_ | refine wFieldZ hk ?_ | refine wField0 hk ?_ | refine wField hk ?_ | refine wIndexA0 hk ?_ | refine wIndexS0 hk ?_ | refine wIndexA hk ?_ | refine wIndexS hk ?_ | refine wLoadR hk ?_ | refine wLoad1 hk ?_ | refine wOldR hk ?_ | refine wOld1 hk ?_ | refine wOldC hk ?_ | refine wOldG hk ?_ | refine wAssertY hk ?_ | refine wAssertN hk ?_); simp only [Act.put, List.setIfInBounds_toArray, List.set_cons_succ, List.set_cons_zero]) | ((first | refine wBox hk ?_ | refine wBox1I hk ?_ | refine wBox1B hk ?_ | refine wBox1S hk ?_ | refine wBox1P hk ?_ | refine wBox1F hk ?_ | refine wAllocR hk ?_ | refine wAlloc1 hk ?_ | refine wMake hk ?_); clear hk; intro w1 hk; simp only [Act.put, List.setIfInBounds_toArray, List.set_cons_succ, List.set_cons_zero]) | ((first | refine wStoreR hk ?_ | refine wStore1I hk ?_ | refine wStore1B hk ?_ | refine wStore1S hk ?_ | refine wStore1P hk ?_ | refine wStore1F hk ?_); clear hk; intro w1 hk; simp only [Act.put]))))
            (refine wp_regK hk (.op 0 (.op 1 (.op 2 (.op 3 (.op 4 (.either 5 6 (.op 6 (.op 7 .nil)) (.op 5 (.op 7 .nil)))))))) (fun i => decide (i < 7)) mixT (by decide) (by kernel_rfl) (by kernel_rfl) ?_; clear hk; intro w1 hk)
            (repeat ((first | refine vMoveI hk ?_ | refine vMoveB hk ?_ | refine uMoveS hk ?_ | refine uMoveP hk ?_ | refine uMoveT hk ?_ | refine vAssignI hk ?_ | refine vAssignB hk ?_ | refine uAssignS hk ?_ | refine uAssignP hk ?_ | refine sMove hk ?_ | refine sAssign hk ?_ | refine sExtract hk ?_ | refine sFieldZ hk ?_ | refine sField0 hk ?_ | refine sField hk ?_ | refine sIndexA0 hk ?_ | refine sIndexS0 hk ?_ | refine sIndexA hk ?_ | refine sIndexS hk ?_ | refine sLoadR hk ?_ | refine sLoad1 hk ?_ | refine sOldR hk ?_ | refine sOld1 hk ?_ | refine sOldC hk ?_ | refine sOldG hk ?_ | refine sBuild hk ?_ | refine sPickT hk ?_ | refine sPickF hk ?_ | refine sLss hk ?_ | refine sLeq hk ?_ | refine sGtr hk ?_ | refine sGeq hk ?_ | refine sEql hk ?_ | refine sNot hk ?_ | refine sSkip hk ?_ | refine sSkipA hk ?_); simp only [Act.put, List.setIfInBounds_toArray, List.set_cons_succ, List.set_cons_zero]))
            refine sIndexG hk ?_; simp only [Act.put, List.setIfInBounds_toArray, List.set_cons_succ, List.set_cons_zero]
            (repeat ((first | refine vMoveI hk ?_ | refine vMoveB hk ?_ | refine uMoveS hk ?_ | refine uMoveP hk ?_ | refine uMoveT hk ?_ | refine vAssignI hk ?_ | refine vAssignB hk ?_ | refine uAssignS hk ?_ | refine uAssignP hk ?_ | refine sMove hk ?_ | refine sAssign hk ?_ | refine sExtract hk ?_ | refine sFieldZ hk ?_ | refine sField0 hk ?_ | refine sField hk ?_ | refine sIndexA0 hk ?_ | refine sIndexS0 hk ?_ | refine sIndexA hk ?_ | refine sIndexS hk ?_ | refine sLoadR hk ?_ | refine sLoad1 hk ?_ | refine sOldR hk ?_ | refine sOld1 hk ?_ | refine sOldC hk ?_ | refine sOldG hk ?_ | refine sBuild hk ?_ | refine sPickT hk ?_ | refine sPickF hk ?_ | refine sLss hk ?_ | refine sLeq hk ?_ | refine sGtr hk ?_ | refine sGeq hk ?_ | refine sEql hk ?_ | refine sNot hk ?_ | refine sSkip hk ?_ | refine sSkipA hk ?_); simp only [Act.put, List.setIfInBounds_toArray, List.set_cons_succ, List.set_cons_zero]))
            refine tEitherK (by rfl) (by rfl) (by rfl) (by rfl) ?_ ?_
            · intro K hK
              go_step; go_at_call 24
              refine (chosen_any s HSO.out HSI.out q _).mono ?_
              rintro x w6 ⟨rfl, hb⟩
              replace hk := hk.call hb
              clear hb
              refine hK _ _ (fun _ => hk) ?_
              clear hK K
              refine tActK (by rfl) rfl (by rfl) ?_
              intro K hK
              refine oAllocR (zeroT_of (by rfl)) hk ?_
              clear hk
              intro w1 hk
              simp only [Act.put, List.setIfInBounds_toArray, List.set_cons_succ, List.set_cons_zero]
              refine hK _ _ (fun _ => hk.drop) ?_
              clear hK K
              (refine sStore hk ?_; clear hk; intro w1 hk; refine ⟨fun h => absurd h (by decide), ?_⟩; simp only [Act.put])
              refine tNil ?_
              go_upto_region 20 with (first | (go_at_call 23; refine (Run_any P _ (choR s q) f _ (HS5.out.below hk.mod.below HS5.out.1) (HP5.out.below hk.mod.below (Nat.le_refl _))).mono ?_; rintro x w7 ⟨rfl, hb⟩; replace hk := hk.call hb; clear hb; rw [HRO.out, HR.out]) | (go_at_call 29; refine (thread_ok t tb tc P HF.out s (layR cl) HT.out (choR s q) f _ (hT1.belowA hk.mod.below) (HT2.out.mod hk.mod) (are_chosen HSO.out q) (cho_in HSO.out q)).mono ?_; rintro x w8 ⟨rfl, hb⟩; replace hk := hk.call hb; clear hb; rw [HO.out]) | ((with_reducible show wpList _ _ _ _ _ _); (first | ((with_reducible show wpList _ _ _ (⟨_, _, _, _, _, some _⟩ :: _) _ _); refine wpList_skip (by rfl) ?_; simp only [Act.put, List.setIfInBounds_toArray, List.set_cons_succ, List.set_cons_zero]) | ((first | refine wBuild hk ?_ | refine wFieldZ hk ?_ | refine wField0 hk ?_ | refine wField hk ?_ | refine wIndexA0 hk ?_ | refine wIndexS0 hk ?_ | refine wIndexA hk ?_ | refine wIndexS hk ?_ | refine wLoadR hk ?_ | refine wLoad1 hk ?_ | refine wOldR hk ?_ | refine wOld1 hk ?_ | refine wOldC hk ?_ | refine wOldG hk ?_ | refine wAssertY hk ?_ | refine wAssertN hk ?_); simp only [Act.put, List.setIfInBounds_toArray, List.set_cons_succ, List.set_cons_zero]) | ((first | refine wBox hk ?_ | refine wBox1I hk ?_ | refine wBox1B hk ?_ | refine wBox1S hk ?_ | refine wBox1P hk ?_ | refine wBox1F hk ?_ | refine wAllocR hk ?_ | refine wAlloc1 hk ?_ | refine wMake hk ?_); clear hk; intro w1 hk; simp only [Act.put, List.setIfInBounds_toArray, List.set_cons_succ, List.set_cons_zero]) | ((first | refine wStoreR hk ?_ | refine wStore1I hk ?_ | refine wStore1B hk ?_ | refine wStore1S hk ?_ | refine wStore1P hk ?_ | refine wStore1F hk ?_); clear hk; intro w1 hk; simp only [Act.put]))))
              cases hq : areR q s with
              | true =>
                have E := hide (are_same HSO.out q)
                rw [hq] at E
                have HQ := hide hq
                clear hq
                go_upto_region 21 with (first | (refine wIndexG hk ?_; simp only [Act.put, List.setIfInBounds_toArray, List.set_cons_succ, List.set_cons_zero]) | (go_at_call 29; refine (thread_ok t tb tc P HF.out s (layR cl) HT.out q f _ (hT1.belowA hk.mod.below) (HT2.out.mod hk.mod) HQ.out (areR_iff.1 HQ.out)).mono ?_; rintro x w9 ⟨rfl, hb⟩; replace hk := hk.call hb; clear hb; obtain ⟨⟨k2, po2, va2, st2⟩, ho2⟩ : ∃ o, runO P q f = o := ⟨_, rfl⟩; rw [ho2]; clear ho2) | ((with_reducible show wpList _ _ _ _ _ _); (first | ((with_reducible show wpList _ _ _ (⟨_, _, _, _, _, some _⟩ :: _) _ _); refine wpList_skip (by rfl) ?_; simp only [Act.put, List.setIfInBounds_toArray, List.set_cons_succ, List.set_cons_zero]) | ((first | refine wBuild hk ?_ | refine wFieldZ hk ?_ | refine wField0 hk ?_ | refine wField hk ?_ | refine wIndexA0 hk ?_ | refine wIndexS0 hk ?_ | refine wIndexA hk ?_ | refine wIndexS hk ?_ | refine wLoadR hk ?_ | refine wLoad1 hk ?_ | refine wOldR hk ?_ | refine wOld1 hk ?_ | refine wOldC hk ?_ | refine wOldG hk ?_ | refine wAssertY hk ?_ | refine wAssertN hk ?_); simp only [Act.put, List.setIfInBounds_toArray, List.set_cons_succ, List.set_cons_zero]) | ((first | refine wBox hk ?_ | refine wBox1I hk ?_ | refine wBox1B hk ?_ | refine wBox1S hk ?_ | refine wBox1P hk ?_ | refine wBox1F hk ?_ | refine wAllocR hk ?_ | refine wAlloc1 hk ?_ | refine wMake hk ?_); clear hk; intro w1 hk; simp only [Act.put, List.setIfInBounds_toArray, List.set_cons_succ, List.set_cons_zero]) | ((first | refine wStoreR hk ?_ | refine wStore1I hk ?_ | refine wStore1B hk ?_ | refine wStore1S hk ?_ | refine wStore1P hk ?_ | refine wStore1F hk ?_); clear hk; intro w1 hk; simp only [Act.put]))))
                (refine wp_regK hk (.op 0 (.op 1 (.op 2 (.op 3 (.op 4 (.op 5 (.op 6 (.op 7 (.op 8 (.op 9 (.op 10 (.op 11 (.op 12 (.op 13 (.op 14 (.op 15 (.op 16 .nil))))))))))))))))) (fun i => decide (i < 17)) mixT (by decide) (by kernel_rfl) (by kernel_rfl) ?_; clear hk; intro w1 hk)
                (repeat ((first | refine vMoveI hk ?_ | refine vMoveB hk ?_ | refine uMoveS hk ?_ | refine uMoveP hk ?_ | refine uMoveT hk ?_ | refine vAssignI hk ?_ | refine vAssignB hk ?_ | refine uAssignS hk ?_ | refine uAssignP hk ?_ | refine sMove hk ?_ | refine sAssign hk ?_ | refine sExtract hk ?_ | refine sFieldZ hk ?_ | refine sField0 hk ?_ | refine sField hk ?_ | refine sIndexA0 hk ?_ | refine sIndexS0 hk ?_ | refine sIndexA hk ?_ | refine sIndexS hk ?_ | refine sLoadR hk ?_ | refine sLoad1 hk ?_ | refine sOldR hk ?_ | refine sOld1 hk ?_ | refine sOldC hk ?_ | refine sOldG hk ?_ | refine sBuild hk ?_ | refine sPickT hk ?_ | refine sPickF hk ?_ | refine sLss hk ?_ | refine sLeq hk ?_ | refine sGtr hk ?_ | refine sGeq hk ?_ | refine sEql hk ?_ | refine sNot hk ?_ | refine sSkip hk ?_ | refine sSkipA hk ?_); simp only [Act.put, List.setIfInBounds_toArray, List.set_cons_succ, List.set_cons_zero]))
                refine sEqlE hk ?_; simp only [Act.put, List.setIfInBounds_toArray, List.set_cons_succ, List.set_cons_zero]
                (repeat ((first | refine vMoveI hk ?_ | refine vMoveB hk ?_ | refine uMoveS hk ?_ | refine uMoveP hk ?_ | refine uMoveT hk ?_ | refine vAssignI hk ?_ | refine vAssignB hk ?_ | refine uAssignS hk ?_ | refine uAssignP hk ?_ | refine sMove hk ?_ | refine sAssign hk ?_ | refine sExtract hk ?_ | refine sFieldZ hk ?_ | refine sField0 hk ?_ | refine sField hk ?_ | refine sIndexA0 hk ?_ | refine sIndexS0 hk ?_ | refine sIndexA hk ?_ | refine sIndexS hk ?_ | refine sLoadR hk ?_ | refine sLoad1 hk ?_ | refine sOldR hk ?_ | refine sOld1 hk ?_ | refine sOldC hk ?_ | refine sOldG hk ?_ | refine sBuild hk ?_ | refine sPickT hk ?_ | refine sPickF hk ?_ | refine sLss hk ?_ | refine sLeq hk ?_ | refine sGtr hk ?_ | refine sGeq hk ?_ | refine sEql hk ?_ | refine sNot hk ?_ | refine sSkip hk ?_ | refine sSkipA hk ?_); simp only [Act.put, List.setIfInBounds_toArray, List.set_cons_succ, List.set_cons_zero]))
                refine sIndexG hk ?_; simp only [Act.put, List.setIfInBounds_toArray, List.set_cons_succ, List.set_cons_zero]
                (repeat ((first | refine vMoveI hk ?_ | refine vMoveB hk ?_ | refine uMoveS hk ?_ | refine uMoveP hk ?_ | refine uMoveT hk ?_ | refine vAssignI hk ?_ | refine vAssignB hk ?_ | refine uAssignS hk ?_ | refine uAssignP hk ?_ | refine sMove hk ?_ | refine sAssign hk ?_ | refine sExtract hk ?_ | refine sFieldZ hk ?_ | refine sField0 hk ?_ | refine sField hk ?_ | refine sIndexA0 hk ?_ | refine sIndexS0 hk ?_ | refine sIndexA hk ?_ | refine sIndexS hk ?_ | refine sLoadR hk ?_ | refine sLoad1 hk ?_ | refine sOldR hk ?_ | refine sOld1 hk ?_ | refine sOldC hk ?_ | refine sOldG hk ?_ | refine sBuild hk ?_ | refine sPickT hk ?_ | refine sPickF hk ?_ | refine sLss hk ?_ | refine sLeq hk ?_ | refine sGtr hk ?_ | refine sGeq hk ?_ | refine sEql hk ?_ | refine sNot hk ?_ | refine sSkip hk ?_ | refine sSkipA hk ?_); simp only [Act.put, List.setIfInBounds_toArray, List.set_cons_succ, List.set_cons_zero]))
                refine sEqlG hk ?_; simp only [Act.put, List.setIfInBounds_toArray, List.set_cons_succ, List.set_cons_zero]
                rw [E.out]
                refine sNeqB hk ?_; simp only [Act.put, List.setIfInBounds_toArray, List.set_cons_succ, List.set_cons_zero]
                (repeat ((first | refine vMoveI hk ?_ | refine vMoveB hk ?_ | refine uMoveS hk ?_ | refine uMoveP hk ?_ | refine uMoveT hk ?_ | refine vAssignI hk ?_ | refine vAssignB hk ?_ | refine uAssignS hk ?_ | refine uAssignP hk ?_ | refine sMove hk ?_ | refine sAssign hk ?_ | refine sExtract hk ?_ | refine sFieldZ hk ?_ | refine sField0 hk ?_ | refine sField hk ?_ | refine sIndexA0 hk ?_ | refine sIndexS0 hk ?_ | refine sIndexA hk ?_ | refine sIndexS hk ?_ | refine sLoadR hk ?_ | refine sLoad1 hk ?_ | refine sOldR hk ?_ | refine sOld1 hk ?_ | refine sOldC hk ?_ | refine sOldG hk ?_ | refine sBuild hk ?_ | refine sPickT hk ?_ | refine sPickF hk ?_ | refine sLss hk ?_ | refine sLeq hk ?_ | refine sGtr hk ?_ | refine sGeq hk ?_ | refine sEql hk ?_ | refine sNot hk ?_ | refine sSkip hk ?_ | refine sSkipA hk ?_); simp only [Act.put, List.setIfInBounds_toArray, List.set_cons_succ, List.set_cons_zero]))
                refine sNeqE hk ?_; simp only [Act.put, List.setIfInBounds_toArray, List.set_cons_succ, List.set_cons_zero]
                (repeat ((first | refine vMoveI hk ?_ | refine vMoveB hk ?_ | refine uMoveS hk ?_ | refine uMoveP hk ?_ | refine uMoveT hk ?_ | refine vAssignI hk ?_ | refine vAssignB hk ?_ | refine uAssignS hk ?_ | refine uAssignP hk ?_ | refine sMove hk ?_ | refine sAssign hk ?_ | refine sExtract hk ?_ | refine sFieldZ hk ?_ | refine sField0 hk ?_ | refine sField hk ?_ | refine sIndexA0 hk ?_ | refine sIndexS0 hk ?_ | refine sIndexA hk ?_ | refine sIndexS hk ?_ | refine sLoadR hk ?_ | refine sLoad1 hk ?_ | refine sOldR hk ?_ | refine sOld1 hk ?_ | refine sOldC hk ?_ | refine sOldG hk ?_ | refine sBuild hk ?_ | refine sPickT hk ?_ | refine sPickF hk ?_ | refine sLss hk ?_ | refine sLeq hk ?_ | refine sGtr hk ?_ | refine sGeq hk ?_ | refine sEql hk ?_ | refine sNot hk ?_ | refine sSkip hk ?_ | refine sSkipA hk ?_); simp only [Act.put, List.setIfInBounds_toArray, List.set_cons_succ, List.set_cons_zero]))
                refine tNil ?_
                go_wp2_with (first | ((with_reducible show wpList _ _ _ _ _ _); (first | ((with_reducible show wpList _ _ _ (⟨_, _, _, _, _, some _⟩ :: _) _ _); refine wpList_skip (by rfl) ?_; simp only [Act.put, List.setIfInBounds_toArray, List.set_cons_succ, List.set_cons_zero]) | ((first | refine wBuild hk ?_ | refine wFieldZ hk ?_ | refine wField0 hk ?_ | refine wField hk ?_ | refine wIndexA0 hk ?_ | refine wIndexS0 hk ?_ | refine wIndexA hk ?_ | refine wIndexS hk ?_ | refine wLoadR hk ?_ | refine wLoad1 hk ?_ | refine wOldR hk ?_ | refine wOld1 hk ?_ | refine wOldC hk ?_ | refine wOldG hk ?_ | refine wAssertY hk ?_ | refine wAssertN hk ?_); simp only [Act.put, List.setIfInBounds_toArray, List.set_cons_succ, List.set_cons_zero]) | ((first | refine wBox hk ?_ | refine wBox1I hk ?_ | refine wBox1B hk ?_ | refine wBox1S hk ?_ | refine wBox1P hk ?_ | refine wBox1F hk ?_ | refine wAllocR hk ?_ | refine wAlloc1 hk ?_ | refine wMake hk ?_); clear hk; intro w1 hk; simp only [Act.put, List.setIfInBounds_toArray, List.set_cons_succ, List.set_cons_zero]) | ((first | refine wStoreR hk ?_ | refine wStore1I hk ?_ | refine wStore1B hk ?_ | refine wStore1S hk ?_ | refine wStore1P hk ?_ | refine wStore1F hk ?_); clear hk; intro w1 hk; simp only [Act.put]))))
                go_roundw
                case rel => (repeat apply Exists.intro); exact ⟨⟨k + 1, by omega, by go_num, hk.none⟩, rfl⟩
                case measure => simp [intOf]; omega
              | false =>
                have E := hide (are_same HSO.out q)
                rw [hq] at E
                have HQ := hide hq
                clear hq
                go_upto_region 21 with (first | (refine wIndexG hk ?_; simp only [Act.put, List.setIfInBounds_toArray, List.set_cons_succ, List.set_cons_zero]) | (go_at_call 29; refine (thread_no t tb tc P.length s q f _ (hT1.belowA hk.mod.below) HQ.out).mono ?_; rintro x w9 ⟨rfl, hb⟩; replace hk := hk.call hb; clear hb) | ((with_reducible show wpList _ _ _ _ _ _); (first | ((with_reducible show wpList _ _ _ (⟨_, _, _, _, _, some _⟩ :: _) _ _); refine wpList_skip (by rfl) ?_; simp only [Act.put, List.setIfInBounds_toArray, List.set_cons_succ, List.set_cons_zero]) | ((first | refine wBuild hk ?_ | refine wFieldZ hk ?_ | refine wField0 hk ?_ | refine wField hk ?_ | refine wIndexA0 hk ?_ | refine wIndexS0 hk ?_ | refine wIndexA hk ?_ | refine wIndexS hk ?_ | refine wLoadR hk ?_ | refine wLoad1 hk ?_ | refine wOldR hk ?_ | refine wOld1 hk ?_ | refine wOldC hk ?_ | refine wOldG hk ?_ | refine wAssertY hk ?_ | refine wAssertN hk ?_); simp only [Act.put, List.setIfInBounds_toArray, List.set_cons_succ, List.set_cons_zero]) | ((first | refine wBox hk ?_ | refine wBox1I hk ?_ | refine wBox1B hk ?_ | refine wBox1S hk ?_ | refine wBox1P hk ?_ | refine wBox1F hk ?_ | refine wAllocR hk ?_ | refine wAlloc1 hk ?_ | refine wMake hk ?_); clear hk; intro w1 hk; simp only [Act.put, List.setIfInBounds_toArray, List.set_cons_succ, List.set_cons_zero]) | ((first | refine wStoreR hk ?_ | refine wStore1I hk ?_ | refine wStore1B hk ?_ | refine wStore1S hk ?_ | refine wStore1P hk ?_ | refine wStore1F hk ?_); clear hk; intro w1 hk; simp only [Act.put]))))
                (refine wp_regK hk (.op 0 (.op 1 (.op 2 (.op 3 (.op 4 (.op 5 (.op 6 (.op 7 (.op 8 (.op 9 (.op 10 (.op 11 (.op 12 (.op 13 (.op 14 (.op 15 (.op 16 .nil))))))))))))))))) (fun i => decide (i < 17)) mixT (by decide) (by kernel_rfl) (by kernel_rfl) ?_; clear hk; intro w1 hk)
                (repeat ((first | refine vMoveI hk ?_ | refine vMoveB hk ?_ | refine uMoveS hk ?_ | refine uMoveP hk ?_ | refine uMoveT hk ?_ | refine vAssignI hk ?_ | refine vAssignB hk ?_ | refine uAssignS hk ?_ | refine uAssignP hk ?_ | refine sMove hk ?_ | refine sAssign hk ?_ | refine sExtract hk ?_ | refine sFieldZ hk ?_ | refine sField0 hk ?_ | refine sField hk ?_ | refine sIndexA0 hk ?_ | refine sIndexS0 hk ?_ | refine sIndexA hk ?_ | refine sIndexS hk ?_ | refine sLoadR hk ?_ | refine sLoad1 hk ?_ | refine sOldR hk ?_ | refine sOld1 hk ?_ | refine sOldC hk ?_ | refine sOldG hk ?_ | refine sBuild hk ?_ | refine sPickT hk ?_ | refine sPickF hk ?_ | refine sLss hk ?_ | refine sLeq hk ?_ | refine sGtr hk ?_ | refine sGeq hk ?_ | refine sEql hk ?_ | refine sNot hk ?_ | refine sSkip hk ?_ | refine sSkipA hk ?_); simp only [Act.put, List.setIfInBounds_toArray, List.set_cons_succ, List.set_cons_zero]))
                refine sEqlE hk ?_; simp only [Act.put, List.setIfInBounds_toArray, List.set_cons_succ, List.set_cons_zero]
                (repeat ((first | refine vMoveI hk ?_ | refine vMoveB hk ?_ | refine uMoveS hk ?_ | refine uMoveP hk ?_ | refine uMoveT hk ?_ | refine vAssignI hk ?_ | refine vAssignB hk ?_ | refine uAssignS hk ?_ | refine uAssignP hk ?_ | refine sMove hk ?_ | refine sAssign hk ?_ | refine sExtract hk ?_ | refine sFieldZ hk ?_ | refine sField0 hk ?_ | refine sField hk ?_ | refine sIndexA0 hk ?_ | refine sIndexS0 hk ?_ | refine sIndexA hk ?_ | refine sIndexS hk ?_ | refine sLoadR hk ?_ | refine sLoad1 hk ?_ | refine sOldR hk ?_ | refine sOld1 hk ?_ | refine sOldC hk ?_ | refine sOldG hk ?_ | refine sBuild hk ?_ | refine sPickT hk ?_ | refine sPickF hk ?_ | refine sLss hk ?_ | refine sLeq hk ?_ | refine sGtr hk ?_ | refine sGeq hk ?_ | refine sEql hk ?_ | refine sNot hk ?_ | refine sSkip hk ?_ | refine sSkipA hk ?_); simp only [Act.put, List.setIfInBounds_toArray, List.set_cons_succ, List.set_cons_zero]))
                refine sIndexG hk ?_; simp only [Act.put, List.setIfInBounds_toArray, List.set_cons_succ, List.set_cons_zero]
                (repeat ((first | refine vMoveI hk ?_ | refine vMoveB hk ?_ | refine uMoveS hk ?_ | refine uMoveP hk ?_ | refine uMoveT hk ?_ | refine vAssignI hk ?_ | refine vAssignB hk ?_ | refine uAssignS hk ?_ | refine uAssignP hk ?_ | refine sMove hk ?_ | refine sAssign hk ?_ | refine sExtract hk ?_ | refine sFieldZ hk ?_ | refine sField0 hk ?_ | refine sField hk ?_ | refine sIndexA0 hk ?_ | refine sIndexS0 hk ?_ | refine sIndexA hk ?_ | refine sIndexS hk ?_ | refine sLoadR hk ?_ | refine sLoad1 hk ?_ | refine sOldR hk ?_ | refine sOld1 hk ?_ | refine sOldC hk ?_ | refine sOldG hk ?_ | refine sBuild hk ?_ | refine sPickT hk ?_ | refine sPickF hk ?_ | refine sLss hk ?_ | refine sLeq hk ?_ | refine sGtr hk ?_ | refine sGeq hk ?_ | refine sEql hk ?_ | refine sNot hk ?_ | refine sSkip hk ?_ | refine sSkipA hk ?_); simp only [Act.put, List.setIfInBounds_toArray, List.set_cons_succ, List.set_cons_zero]))
                refine sEqlG hk ?_; simp only [Act.put, List.setIfInBounds_toArray, List.set_cons_succ, List.set_cons_zero]
                rw [E.out]
                refine sNeqB hk ?_; simp only [Act.put, List.setIfInBounds_toArray, List.set_cons_succ, List.set_cons_zero]
                (repeat ((first | refine vMoveI hk ?_ | refine vMoveB hk ?_ | refine uMoveS hk ?_ | refine uMoveP hk ?_ | refine uMoveT hk ?_ | refine vAssignI hk ?_ | refine vAssignB hk ?_ | refine uAssignS hk ?_ | refine uAssignP hk ?_ | refine sMove hk ?_ | refine sAssign hk ?_ | refine sExtract hk ?_ | refine sFieldZ hk ?_ | refine sField0 hk ?_ | refine sField hk ?_ | refine sIndexA0 hk ?_ | refine sIndexS0 hk ?_ | refine sIndexA hk ?_ | refine sIndexS hk ?_ | refine sLoadR hk ?_ | refine sLoad1 hk ?_ | refine sOldR hk ?_ | refine sOld1 hk ?_ | refine sOldC hk ?_ | refine sOldG hk ?_ | refine sBuild hk ?_ | refine sPickT hk ?_ | refine sPickF hk ?_ | refine sLss hk ?_ | refine sLeq hk ?_ | refine sGtr hk ?_ | refine sGeq hk ?_ | refine sEql hk ?_ | refine sNot hk ?_ | refine sSkip hk ?_ | refine sSkipA hk ?_); simp only [Act.put, List.setIfInBounds_toArray, List.set_cons_succ, List.set_cons_zero]))
                refine sNeqE hk ?_; simp only [Act.put, List.setIfInBounds_toArray, List.set_cons_succ, List.set_cons_zero]
                (repeat ((first | refine vMoveI hk ?_ | refine vMoveB hk ?_ | refine uMoveS hk ?_ | refine uMoveP hk ?_ | refine uMoveT hk ?_ | refine vAssignI hk ?_ | refine vAssignB hk ?_ | refine uAssignS hk ?_ | refine uAssignP hk ?_ | refine sMove hk ?_ | refine sAssign hk ?_ | refine sExtract hk ?_ | refine sFieldZ hk ?_ | refine sField0 hk ?_ | refine sField hk ?_ | refine sIndexA0 hk ?_ | refine sIndexS0 hk ?_ | refine sIndexA hk ?_ | refine sIndexS hk ?_ | refine sLoadR hk ?_ | refine sLoad1 hk ?_ | refine sOldR hk ?_ | refine sOld1 hk ?_ | refine sOldC hk ?_ | refine sOldG hk ?_ | refine sBuild hk ?_ | refine sPickT hk ?_ | refine sPickF hk ?_ | refine sLss hk ?_ | refine sLeq hk ?_ | refine sGtr hk ?_ | refine sGeq hk ?_ | refine sEql hk ?_ | refine sNot hk ?_ | refine sSkip hk ?_ | refine sSkipA hk ?_); simp only [Act.put, List.setIfInBounds_toArray, List.set_cons_succ, List.set_cons_zero]))
                refine sNeqE hk ?_; simp only [Act.put, List.setIfInBounds_toArray, List.set_cons_succ, List.set_cons_zero]
                (repeat ((first | refine vMoveI hk ?_ | refine vMoveB hk ?_ | refine uMoveS hk ?_ | refine uMoveP hk ?_ | refine uMoveT hk ?_ | refine vAssignI hk ?_ | refine vAssignB hk ?_ | refine uAssignS hk ?_ | refine uAssignP hk ?_ | refine sMove hk ?_ | refine sAssign hk ?_ | refine sExtract hk ?_ | refine sFieldZ hk ?_ | refine sField0 hk ?_ | refine sField hk ?_ | refine sIndexA0 hk ?_ | refine sIndexS0 hk ?_ | refine sIndexA hk ?_ | refine sIndexS hk ?_ | refine sLoadR hk ?_ | refine sLoad1 hk ?_ | refine sOldR hk ?_ | refine sOld1 hk ?_ | refine sOldC hk ?_ | refine sOldG hk ?_ | refine sBuild hk ?_ | refine sPickT hk ?_ | refine sPickF hk ?_ | refine sLss hk ?_ | refine sLeq hk ?_ | refine sGtr hk ?_ | refine sGeq hk ?_ | refine sEql hk ?_ | refine sNot hk ?_ | refine sSkip hk ?_ | refine sSkipA hk ?_); simp only [Act.put, List.setIfInBounds_toArray, List.set_cons_succ, List.set_cons_zero]))
                refine tNil ?_
                go_wp2_with (first | ((with_reducible show wpList _ _ _ _ _ _); (first | ((with_reducible show wpList _ _ _ (⟨_, _, _, _, _, some _⟩ :: _) _ _); refine wpList_skip (by rfl) ?_; simp only [Act.put, List.setIfInBounds_toArray, List.set_cons_succ, List.set_cons_zero]) | ((first | refine wBuild hk ?_ | refine wFieldZ hk ?_ | refine wField0 hk ?_ | refine wField hk ?_ | refine wIndexA0 hk ?_ | refine wIndexS0 hk ?_ | refine wIndexA hk ?_ | refine wIndexS hk ?_ | refine wLoadR hk ?_ | refine wLoad1 hk ?_ | refine wOldR hk ?_ | refine wOld1 hk ?_ | refine wOldC hk ?_ | refine wOldG hk ?_ | refine wAssertY hk ?_ | refine wAssertN hk ?_); simp only [Act.put, List.setIfInBounds_toArray, List.set_cons_succ, List.set_cons_zero]) | ((first | refine wBox hk ?_ | refine wBox1I hk ?_ | refine wBox1B hk ?_ | refine wBox1S hk ?_ | refine wBox1P hk ?_ | refine wBox1F hk ?_ | refine wAllocR hk ?_ | refine wAlloc1 hk ?_ | refine wMake hk ?_); clear hk; intro w1 hk; simp only [Act.put, List.setIfInBounds_toArray, List.set_cons_succ, List.set_cons_zero]) | ((first | refine wStoreR hk ?_ | refine wStore1I hk ?_ | refine wStore1B hk ?_ | refine wStore1S hk ?_ | refine wStore1P hk ?_ | refine wStore1F hk ?_); clear hk; intro w1 hk; simp only [Act.put]))))
                go_roundw
                case rel => (repeat apply Exists.intro); exact ⟨⟨k + 1, by omega, by go_num, hk.none⟩, rfl⟩
                case measure => simp [intOf]; omega
            · intro K hK
              refine oAllocR (zeroT_of (by rfl)) hk ?_
              clear hk
              intro w1 hk
              simp only [Act.put, List.setIfInBounds_toArray, List.set_cons_succ, List.set_cons_zero]
              refine hK _ _ (fun _ => hk.drop) ?_
              clear hK K
              refine sCall ?_; intro K hK; go_step; go_at_call 24
              refine (chosen_any s HSO.out HSI.out q _).mono ?_
              rintro x w6 ⟨rfl, hb⟩
              replace hk := hk.call hb
              clear hb
              refine hK _ _ (fun _ => hk.drop) ?_
              clear hK K
              (refine sStore hk ?_; clear hk; intro w1 hk; refine ⟨fun h => absurd h (by decide), ?_⟩; simp only [Act.put])
              refine tNil ?_
              go_upto_region 20 with (first | (go_at_call 23; refine (Run_any P _ (choR s q) f _ (HS5.out.below hk.mod.below HS5.out.1) (HP5.out.below hk.mod.below (Nat.le_refl _))).mono ?_; rintro x w7 ⟨rfl, hb⟩; replace hk := hk.call hb; clear hb; rw [HRO.out, HR.out]) | (go_at_call 29; refine (thread_ok t tb tc P HF.out s (layR cl) HT.out (choR s q) f _ (hT1.belowA hk.mod.below) (HT2.out.mod hk.mod) (are_chosen HSO.out q) (cho_in HSO.out q)).mono ?_; rintro x w8 ⟨rfl, hb⟩; replace hk := hk.call hb; clear hb; rw [HO.out]) | ((with_reducible show wpList _ _ _ _ _ _); (first | ((with_reducible show wpList _ _ _ (⟨_, _, _, _, _, some _⟩ :: _) _ _); refine wpList_skip (by rfl) ?_; simp only [Act.put, List.setIfInBounds_toArray, List.set_cons_succ, List.set_cons_zero]) | ((first | refine wBuild hk ?_ | refine wFieldZ hk ?_ | refine wField0 hk ?_ | refine wField hk ?_ | refine wIndexA0 hk ?_ | refine wIndexS0 hk ?_ | refine wIndexA hk ?_ | refine wIndexS hk ?_ | refine wLoadR hk ?_ | refine wLoad1 hk ?_ | refine wOldR hk ?_ | refine wOld1 hk ?_ | refine wOldC hk ?_ | refine wOldG hk ?_ | refine wAssertY hk ?_ | refine wAssertN hk ?_); simp only [Act.put, List.setIfInBounds_toArray, List.set_cons_succ, List.set_cons_zero]) | ((first | refine wBox hk ?_ | refine wBox1I hk ?_ | refine wBox1B hk ?_ | refine wBox1S hk ?_ | refine wBox1P hk ?_ | refine wBox1F hk ?_ | refine wAllocR hk ?_ | refine wAlloc1 hk ?_ | refine wMake hk ?_); clear hk; intro w1 hk; simp only [Act.put, List.setIfInBounds_toArray, List.set_cons_succ, List.set_cons_zero]) | ((first | refine wStoreR hk ?_ | refine wStore1I hk ?_ | refine wStore1B hk ?_ | refine wStore1S hk ?_ | refine wStore1P hk ?_ | refine wStore1F hk ?_); clear hk; intro w1 hk; simp only [Act.put]))))
              cases hq : areR q s with
              | true =>
                have E := hide (are_same HSO.out q)
                rw [hq] at E
                have HQ := hide hq
                clear hq
                go_upto_region 21 with (first | (refine wIndexG hk ?_; simp only [Act.put, List.setIfInBounds_toArray, List.set_cons_succ, List.set_cons_zero]) | (go_at_call 29; refine (thread_ok t tb tc P HF.out s (layR cl) HT.out q f _ (hT1.belowA hk.mod.below) (HT2.out.mod hk.mod) HQ.out (areR_iff.1 HQ.out)).mono ?_; rintro x w9 ⟨rfl, hb⟩; replace hk := hk.call hb; clear hb; obtain ⟨⟨k2, po2, va2, st2⟩, ho2⟩ : ∃ o, runO P q f = o := ⟨_, rfl⟩; rw [ho2]; clear ho2) | ((with_reducible show wpList _ _ _ _ _ _); (first | ((with_reducible show wpList _ _ _ (⟨_, _, _, _, _, some _⟩ :: _) _ _); refine wpList_skip (by rfl) ?_; simp only [Act.put, List.setIfInBounds_toArray, List.set_cons_succ, List.set_cons_zero]) | ((first | refine wBuild hk ?_ | refine wFieldZ hk ?_ | refine wField0 hk ?_ | refine wField hk ?_ | refine wIndexA0 hk ?_ | refine wIndexS0 hk ?_ | refine wIndexA hk ?_ | refine wIndexS hk ?_ | refine wLoadR hk ?_ | refine wLoad1 hk ?_ | refine wOldR hk ?_ | refine wOld1 hk ?_ | refine wOldC hk ?_ | refine wOldG hk ?_ | refine wAssertY hk ?_ | refine wAssertN hk ?_); simp only [Act.put, List.setIfInBounds_toArray, List.set_cons_succ, List.set_cons_zero]) | ((first | refine wBox hk ?_ | refine wBox1I hk ?_ | refine wBox1B hk ?_ | refine wBox1S hk ?_ | refine wBox1P hk ?_ | refine wBox1F hk ?_ | refine wAllocR hk ?_ | refine wAlloc1 hk ?_ | refine wMake hk ?_); clear hk; intro w1 hk; simp only [Act.put, List.setIfInBounds_toArray, List.set_cons_succ, List.set_cons_zero]) | ((first | refine wStoreR hk ?_ | refine wStore1I hk ?_ | refine wStore1B hk ?_ | refine wStore1S hk ?_ | refine wStore1P hk ?_ | refine wStore1F hk ?_); clear hk; intro w1 hk; simp only [Act.put]))))
                (refine wp_regK hk (.op 0 (.op 1 (.op 2 (.op 3 (.op 4 (.op 5 (.op 6 (.op 7 (.op 8 (.op 9 (.op 10 (.op 11 (.op 12 (.op 13 (.op 14 (.op 15 (.op 16 .nil))))))))))))))))) (fun i => decide (i < 17)) mixT (by decide) (by kernel_rfl) (by kernel_rfl) ?_; clear hk; intro w1 hk)
                (repeat ((first | refine vMoveI hk ?_ | refine vMoveB hk ?_ | refine uMoveS hk ?_ | refine uMoveP hk ?_ | refine uMoveT hk ?_ | refine vAssignI hk ?_ | refine vAssignB hk ?_ | refine uAssignS hk ?_ | refine uAssignP hk ?_ | refine sMove hk ?_ | refine sAssign hk ?_ | refine sExtract hk ?_ | refine sFieldZ hk ?_ | refine sField0 hk ?_ | refine sField hk ?_ | refine sIndexA0 hk ?_ | refine sIndexS0 hk ?_ | refine sIndexA hk ?_ | refine sIndexS hk ?_ | refine sLoadR hk ?_ | refine sLoad1 hk ?_ | refine sOldR hk ?_ | refine sOld1 hk ?_ | refine sOldC hk ?_ | refine sOldG hk ?_ | refine sBuild hk ?_ | refine sPickT hk ?_ | refine sPickF hk ?_ | refine sLss hk ?_ | refine sLeq hk ?_ | refine sGtr hk ?_ | refine sGeq hk ?_ | refine sEql hk ?_ | refine sNot hk ?_ | refine sSkip hk ?_ | refine sSkipA hk ?_); simp only [Act.put, List.setIfInBounds_toArray, List.set_cons_succ, List.set_cons_zero]))
                refine sEqlE hk ?_; simp only [Act.put, List.setIfInBounds_toArray, List.set_cons_succ, List.set_cons_zero]
                (repeat ((first | refine vMoveI hk ?_ | refine vMoveB hk ?_ | refine uMoveS hk ?_ | refine uMoveP hk ?_ | refine uMoveT hk ?_ | refine vAssignI hk ?_ | refine vAssignB hk ?_ | refine uAssignS hk ?_ | refine uAssignP hk ?_ | refine sMove hk ?_ | refine sAssign hk ?_ | refine sExtract hk ?_ | refine sFieldZ hk ?_ | refine sField0 hk ?_ | refine sField hk ?_ | refine sIndexA0 hk ?_ | refine sIndexS0 hk ?_ | refine sIndexA hk ?_ | refine sIndexS hk ?_ | refine sLoadR hk ?_ | refine sLoad1 hk ?_ | refine sOldR hk ?_ | refine sOld1 hk ?_ | refine sOldC hk ?_ | refine sOldG hk ?_ | refine sBuild hk ?_ | refine sPickT hk ?_ | refine sPickF hk ?_ | refine sLss hk ?_ | refine sLeq hk ?_ | refine sGtr hk ?_ | refine sGeq hk ?_ | refine sEql hk ?_ | refine sNot hk ?_ | refine sSkip hk ?_ | refine sSkipA hk ?_); simp only [Act.put, List.setIfInBounds_toArray, List.set_cons_succ, List.set_cons_zero]))
                refine sIndexG hk ?_; simp only [Act.put, List.setIfInBounds_toArray, List.set_cons_succ, List.set_cons_zero]
                (repeat ((first | refine vMoveI hk ?_ | refine vMoveB hk ?_ | refine uMoveS hk ?_ | refine uMoveP hk ?_ | refine uMoveT hk ?_ | refine vAssignI hk ?_ | refine vAssignB hk ?_ | refine uAssignS hk ?_ | refine uAssignP hk ?_ | refine sMove hk ?_ | refine sAssign hk ?_ | refine sExtract hk ?_ | refine sFieldZ hk ?_ | refine sField0 hk ?_ | refine sField hk ?_ | refine sIndexA0 hk ?_ | refine sIndexS0 hk ?_ | refine sIndexA hk ?_ | refine sIndexS hk ?_ | refine sLoadR hk ?_ | refine sLoad1 hk ?_ | refine sOldR hk ?_ | refine sOld1 hk ?_ | refine sOldC hk ?_ | refine sOldG hk ?_ | refine sBuild hk ?_ | refine sPickT hk ?_ | refine sPickF hk ?_ | refine sLss hk ?_ | refine sLeq hk ?_ | refine sGtr hk ?_ | refine sGeq hk ?_ | refine sEql hk ?_ | refine sNot hk ?_ | refine sSkip hk ?_ | refine sSkipA hk ?_); simp only [Act.put, List.setIfInBounds_toArray, List.set_cons_succ, List.set_cons_zero]))
                refine sEqlG hk ?_; simp only [Act.put, List.setIfInBounds_toArray, List.set_cons_succ, List.set_cons_zero]
                rw [E.out]
                refine sNeqB hk ?_; simp only [Act.put, List.setIfInBounds_toArray, List.set_cons_succ, List.set_cons_zero]
                (repeat ((first | refine vMoveI hk ?_ | refine vMoveB hk ?_ | refine uMoveS hk ?_ | refine uMoveP hk ?_ | refine uMoveT hk ?_ | refine vAssignI hk ?_ | refine vAssignB hk ?_ | refine uAssignS hk ?_ | refine uAssignP hk ?_ | refine sMove hk ?_ | refine sAssign hk ?_ | refine sExtract hk ?_ | refine sFieldZ hk ?_ | refine sField0 hk ?_ | refine sField hk ?_ | refine sIndexA0 hk ?_ | refine sIndexS0 hk ?_ | refine sIndexA hk ?_ | refine sIndexS hk ?_ | refine sLoadR hk ?_ | refine sLoad1 hk ?_ | refine sOldR hk ?_ | refine sOld1 hk ?_ | refine sOldC hk ?_ | refine sOldG hk ?_ | refine sBuild hk ?_ | refine sPickT hk ?_ | refine sPickF hk ?_ | refine sLss hk ?_ | refine sLeq hk ?_ | refine sGtr hk ?_ | refine sGeq hk ?_ | refine sEql hk ?_ | refine sNot hk ?_ | refine sSkip hk ?_ | refine sSkipA hk ?_); simp only [Act.put, List.setIfInBounds_toArray, List.set_cons_succ, List.set_cons_zero]))
                refine sNeqE hk ?_; simp only [Act.put, List.setIfInBounds_toArray, List.set_cons_succ, List.set_cons_zero]
                (repeat ((first | refine vMoveI hk ?_ | refine vMoveB hk ?_ | refine uMoveS hk ?_ | refine uMoveP hk ?_ | refine uMoveT hk ?_ | refine vAssignI hk ?_ | refine vAssignB hk ?_ | refine uAssignS hk ?_ | refine uAssignP hk ?_ | refine sMove hk ?_ | refine sAssign hk ?_ | refine sExtract hk ?_ | refine sFieldZ hk ?_ | refine sField0 hk ?_ | refine sField hk ?_ | refine sIndexA0 hk ?_ | refine sIndexS0 hk ?_ | refine sIndexA hk ?_ | refine sIndexS hk ?_ | refine sLoadR hk ?_ | refine sLoad1 hk ?_ | refine sOldR hk ?_ | refine sOld1 hk ?_ | refine sOldC hk ?_ | refine sOldG hk ?_ | refine sBuild hk ?_ | refine sPickT hk ?_ | refine sPickF hk ?_ | refine sLss hk ?_ | refine sLeq hk ?_ | refine sGtr hk ?_ | refine sGeq hk ?_ | refine sEql hk ?_ | refine sNot hk ?_ | refine sSkip hk ?_ | refine sSkipA hk ?_); simp only [Act.put, List.setIfInBounds_toArray, List.set_cons_succ, List.set_cons_zero]))
                refine tNil ?_
                go_wp2_with (first | ((with_reducible show wpList _ _ _ _ _ _); (first | ((with_reducible show wpList _ _ _ (⟨_, _, _, _, _, some _⟩ :: _) _ _); refine wpList_skip (by rfl) ?_; simp only [Act.put, List.setIfInBounds_toArray, List.set_cons_succ, List.set_cons_zero]) | ((first | refine wBuild hk ?_ | refine wFieldZ hk ?_ | refine wField0 hk ?_ | refine wField hk ?_ | refine wIndexA0 hk ?_ | refine wIndexS0 hk ?_ | refine wIndexA hk ?_ | refine wIndexS hk ?_ | refine wLoadR hk ?_ | refine wLoad1 hk ?_ | refine wOldR hk ?_ | refine wOld1 hk ?_ | refine wOldC hk ?_ | refine wOldG hk ?_ | refine wAssertY hk ?_ | refine wAssertN hk ?_); simp only [Act.put, List.setIfInBounds_toArray, List.set_cons_succ, List.set_cons_zero]) | ((first | refine wBox hk ?_ | refine wBox1I hk ?_ | refine wBox1B hk ?_ | refine wBox1S hk ?_ | refine wBox1P hk ?_ | refine wBox1F hk ?_ | refine wAllocR hk ?_ | refine wAlloc1 hk ?_ | refine wMake hk ?_); clear hk; intro w1 hk; simp only [Act.put, List.setIfInBounds_toArray, List.set_cons_succ, List.set_cons_zero]) | ((first | refine wStoreR hk ?_ | refine wStore1I hk ?_ | refine wStore1B hk ?_ | refine wStore1S hk ?_ | refine wStore1P hk ?_ | refine wStore1F hk ?_); clear hk; intro w1 hk; simp only [Act.put]))))
                go_roundw
                case rel => (repeat apply Exists.intro); exact ⟨⟨k + 1, by omega, by go_num, hk.none⟩, rfl⟩
                case measure => simp [intOf]; omega
              | false =>
                have E := hide (are_same HSO.out q)
                rw [hq] at E
                have HQ := hide hq
                clear hq
                go_upto_region 21 with (first | (refine wIndexG hk ?_; simp only [Act.put, List.setIfInBounds_toArray, List.set_cons_succ, List.set_cons_zero]) | (go_at_call 29; refine (thread_no t tb tc P.length s q f _ (hT1.belowA hk.mod.below) HQ.out).mono ?_; rintro x w9 ⟨rfl, hb⟩; replace hk := hk.call hb; clear hb) | ((with_reducible show wpList _ _ _ _ _ _); (first | ((with_reducible show wpList _ _ _ (⟨_, _, _, _, _, some _⟩ :: _) _ _); refine wpList_skip (by rfl) ?_; simp only [Act.put, List.setIfInBounds_toArray, List.set_cons_succ, List.set_cons_zero]) | ((first | refine wBuild hk ?_ | refine wFieldZ hk ?_ | refine wField0 hk ?_ | refine wField hk ?_ | refine wIndexA0 hk ?_ | refine wIndexS0 hk ?_ | refine wIndexA hk ?_ | refine wIndexS hk ?_ | refine wLoadR hk ?_ | refine wLoad1 hk ?_ | refine wOldR hk ?_ | refine wOld1 hk ?_ | refine wOldC hk ?_ | refine wOldG hk ?_ | refine wAssertY hk ?_ | refine wAssertN hk ?_); simp only [Act.put, List.setIfInBounds_toArray, List.set_cons_succ, List.set_cons_zero]) | ((first | refine wBox hk ?_ | refine wBox1I hk ?_ | refine wBox1B hk ?_ | refine wBox1S hk ?_ | refine wBox1P hk ?_ | refine wBox1F hk ?_ | refine wAllocR hk ?_ | refine wAlloc1 hk ?_ | refine wMake hk ?_); clear hk; intro w1 hk; simp only [Act.put, List.setIfInBounds_toArray, List.set_cons_succ, List.set_cons_zero]) | ((first | refine wStoreR hk ?_ | refine wStore1I hk ?_ | refine wStore1B hk ?_ | refine wStore1S hk ?_ | refine wStore1P hk ?_ | refine wStore1F hk ?_); clear hk; intro w1 hk; simp only [Act.put]))))
                (refine wp_regK hk (.op 0 (.op 1 (.op 2 (.op 3 (.op 4 (.op 5 (.op 6 (.op 7 (.op 8 (.op 9 (.op 10 (.op 11 (.op 12 (.op 13 (.op 14 (.op 15 (.op 16 .nil))))))))))))))))) (fun i => decide (i < 17)) mixT (by decide) (by kernel_rfl) (by kernel_rfl) ?_; clear hk; intro w1 hk)
                (repeat ((first | refine vMoveI hk ?_ | refine vMoveB hk ?_ | refine uMoveS hk ?_ | refine uMoveP hk ?_ | refine uMoveT hk ?_ | refine vAssignI hk ?_ | refine vAssignB hk ?_ | refine uAssignS hk ?_ | refine uAssignP hk ?_ | refine sMove hk ?_ | refine sAssign hk ?_ | refine sExtract hk ?_ | refine sFieldZ hk ?_ | refine sField0 hk ?_ | refine sField hk ?_ | refine sIndexA0 hk ?_ | refine sIndexS0 hk ?_ | refine sIndexA hk ?_ | refine sIndexS hk ?_ | refine sLoadR hk ?_ | refine sLoad1 hk ?_ | refine sOldR hk ?_ | refine sOld1 hk ?_ | refine sOldC hk ?_ | refine sOldG hk ?_ | refine sBuild hk ?_ | refine sPickT hk ?_ | refine sPickF hk ?_ | refine sLss hk ?_ | refine sLeq hk ?_ | refine sGtr hk ?_ | refine sGeq hk ?_ | refine sEql hk ?_ | refine sNot hk ?_ | refine sSkip hk ?_ | refine sSkipA hk ?_); simp only [Act.put, List.setIfInBounds_toArray, List.set_cons_succ, List.set_cons_zero]))
                refine sEqlE hk ?_; simp only [Act.put, List.setIfInBounds_toArray, List.set_cons_succ, List.set_cons_zero]
                (repeat ((first | refine vMoveI hk ?_ | refine vMoveB hk ?_ | refine uMoveS hk ?_ | refine uMoveP hk ?_ | refine uMoveT hk ?_ | refine vAssignI hk ?_ | refine vAssignB hk ?_ | refine uAssignS hk ?_ | refine uAssignP hk ?_ | refine sMove hk ?_ | refine sAssign hk ?_ | refine sExtract hk ?_ | refine sFieldZ hk ?_ | refine sField0 hk ?_ | refine sField hk ?_ | refine sIndexA0 hk ?_ | refine sIndexS0 hk ?_ | refine sIndexA hk ?_ | refine sIndexS hk ?_ | refine sLoadR hk ?_ | refine sLoad1 hk ?_ | refine sOldR hk ?_ | refine sOld1 hk ?_ | refine sOldC hk ?_ | refine sOldG hk ?_ | refine sBuild hk ?_ | refine sPickT hk ?_ | refine sPickF hk ?_ | refine sLss hk ?_ | refine sLeq hk ?_ | refine sGtr hk ?_ | refine sGeq hk ?_ | refine sEql hk ?_ | refine sNot hk ?_ | refine sSkip hk ?_ | refine sSkipA hk ?_); simp only [Act.put, List.setIfInBounds_toArray, List.set_cons_succ, List.set_cons_zero]))
                refine sIndexG hk ?_; simp only [Act.put, List.setIfInBounds_toArray, List.set_cons_succ, List.set_cons_zero]
                (repeat ((first | refine vMoveI hk ?_ | refine vMoveB hk ?_ | refine uMoveS hk ?_ | refine uMoveP hk ?_ | refine uMoveT hk ?_ | refine vAssignI hk ?_ | refine vAssignB hk ?_ | refine uAssignS hk ?_ | refine uAssignP hk ?_ | refine sMove hk ?_ | refine sAssign hk ?_ | refine sExtract hk ?_ | refine sFieldZ hk ?_ | refine sField0 hk ?_ | refine sField hk ?_ | refine sIndexA0 hk ?_ | refine sIndexS0 hk ?_ | refine sIndexA hk ?_ | refine sIndexS hk ?_ | refine sLoadR hk ?_ | refine sLoad1 hk ?_ | refine sOldR hk ?_ | refine sOld1 hk ?_ | refine sOldC hk ?_ | refine sOldG hk ?_ | refine sBuild hk ?_ | refine sPickT hk ?_ | refine sPickF hk ?_ | refine sLss hk ?_ | refine sLeq hk ?_ | refine sGtr hk ?_ | refine sGeq hk ?_ | refine sEql hk ?_ | refine sNot hk ?_ | refine sSkip hk ?_ | refine sSkipA hk ?_); simp only [Act.put, List.setIfInBounds_toArray, List.set_cons_succ, List.set_cons_zero]))
                refine sEqlG hk ?_; simp only [Act.put, List.setIfInBounds_toArray, List.set_cons_succ, List.set_cons_zero]
                rw [E.out]
                refine sNeqB hk ?_; simp only [Act.put, List.setIfInBounds_toArray, List.set_cons_succ, List.set_cons_zero]
                (repeat ((first | refine vMoveI hk ?_ | refine vMoveB hk ?_ | refine uMoveS hk ?_ | refine uMoveP hk ?_ | refine uMoveT hk ?_ | refine vAssignI hk ?_ | refine vAssignB hk ?_ | refine uAssignS hk ?_ | refine uAssignP hk ?_ | refine sMove hk ?_ | refine sAssign hk ?_ | refine sExtract hk ?_ | refine sFieldZ hk ?_ | refine sField0 hk ?_ | refine sField hk ?_ | refine sIndexA0 hk ?_ | refine sIndexS0 hk ?_ | refine sIndexA hk ?_ | refine sIndexS hk ?_ | refine sLoadR hk ?_ | refine sLoad1 hk ?_ | refine sOldR hk ?_ | refine sOld1 hk ?_ | refine sOldC hk ?_ | refine sOldG hk ?_ | refine sBuild hk ?_ | refine sPickT hk ?_ | refine sPickF hk ?_ | refine sLss hk ?_ | refine sLeq hk ?_ | refine sGtr hk ?_ | refine sGeq hk ?_ | refine sEql hk ?_ | refine sNot hk ?_ | refine sSkip hk ?_ | refine sSkipA hk ?_); simp only [Act.put, List.setIfInBounds_toArray, List.set_cons_succ, List.set_cons_zero]))
                refine sNeqE hk ?_; simp only [Act.put, List.setIfInBounds_toArray, List.set_cons_succ, List.set_cons_zero]
                (repeat ((first | refine vMoveI hk ?_ | refine vMoveB hk ?_ | refine uMoveS hk ?_ | refine uMoveP hk ?_ | refine uMoveT hk ?_ | refine vAssignI hk ?_ | refine vAssignB hk ?_ | refine uAssignS hk ?_ | refine uAssignP hk ?_ | refine sMove hk ?_ | refine sAssign hk ?_ | refine sExtract hk ?_ | refine sFieldZ hk ?_ | refine sField0 hk ?_ | refine sField hk ?_ | refine sIndexA0 hk ?_ | refine sIndexS0 hk ?_ | refine sIndexA hk ?_ | refine sIndexS hk ?_ | refine sLoadR hk ?_ | refine sLoad1 hk ?_ | refine sOldR hk ?_ | refine sOld1 hk ?_ | refine sOldC hk ?_ | refine sOldG hk ?_ | refine sBuild hk ?_ | refine sPickT hk ?_ | refine sPickF hk ?_ | refine sLss hk ?_ | refine sLeq hk ?_ | refine sGtr hk ?_ | refine sGeq hk ?_ | refine sEql hk ?_ | refine sNot hk ?_ | refine sSkip hk ?_ | refine sSkipA hk ?_); simp only [Act.put, List.setIfInBounds_toArray, List.set_cons_succ, List.set_cons_zero]))
                refine sNeqE hk ?_; simp only [Act.put, List.setIfInBounds_toArray, List.set_cons_succ, List.set_cons_zero]
                (repeat ((first | refine vMoveI hk ?_ | refine vMoveB hk ?_ | refine uMoveS hk ?_ | refine uMoveP hk ?_ | refine uMoveT hk ?_ | refine vAssignI hk ?_ | refine vAssignB hk ?_ | refine uAssignS hk ?_ | refine uAssignP hk ?_ | refine sMove hk ?_ | refine sAssign hk ?_ | refine sExtract hk ?_ | refine sFieldZ hk ?_ | refine sField0 hk ?_ | refine sField hk ?_ | refine sIndexA0 hk ?_ | refine sIndexS0 hk ?_ | refine sIndexA hk ?_ | refine sIndexS hk ?_ | refine sLoadR hk ?_ | refine sLoad1 hk ?_ | refine sOldR hk ?_ | refine sOld1 hk ?_ | refine sOldC hk ?_ | refine sOldG hk ?_ | refine sBuild hk ?_ | refine sPickT hk ?_ | refine sPickF hk ?_ | refine sLss hk ?_ | refine sLeq hk ?_ | refine sGtr hk ?_ | refine sGeq hk ?_ | refine sEql hk ?_ | refine sNot hk ?_ | refine sSkip hk ?_ | refine sSkipA hk ?_); simp only [Act.put, List.setIfInBounds_toArray, List.set_cons_succ, List.set_cons_zero]))
                refine tNil ?_
                go_wp2_with (first | ((with_reducible show wpList _ _ _ _ _ _); (first | ((with_reducible show wpList _ _ _ (⟨_, _, _, _, _, some _⟩ :: _) _ _); refine wpList_skip (by rfl) ?_; simp only [Act.put, List.setIfInBounds_toArray, List.set_cons_succ, List.set_cons_zero]) | ((first | refine wBuild hk ?_ | refine wFieldZ hk ?_ | refine wField0 hk ?_ | refine wField hk ?_ | refine wIndexA0 hk ?_ | refine wIndexS0 hk ?_ | refine wIndexA hk ?_ | refine wIndexS hk ?_ | refine wLoadR hk ?_ | refine wLoad1 hk ?_ | refine wOldR hk ?_ | refine wOld1 hk ?_ | refine wOldC hk ?_ | refine wOldG hk ?_ | refine wAssertY hk ?_ | refine wAssertN hk ?_); simp only [Act.put, List.setIfInBounds_toArray, List.set_cons_succ, List.set_cons_zero]) | ((first | refine wBox hk ?_ | refine wBox1I hk ?_ | refine wBox1B hk ?_ | refine wBox1S hk ?_ | refine wBox1P hk ?_ | refine wBox1F hk ?_ | refine wAllocR hk ?_ | refine wAlloc1 hk ?_ | refine wMake hk ?_); clear hk; intro w1 hk; simp only [Act.put, List.setIfInBounds_toArray, List.set_cons_succ, List.set_cons_zero]) | ((first | refine wStoreR hk ?_ | refine wStore1I hk ?_ | refine wStore1B hk ?_ | refine wStore1S hk ?_ | refine wStore1P hk ?_ | refine wStore1F hk ?_); clear hk; intro w1 hk; simp only [Act.put]))))
                go_roundw
                case rel => (repeat apply Exists.intro); exact ⟨⟨k + 1, by omega, by go_num, hk.none⟩, rfl⟩
                case measure => simp [intOf]; omega
          · go_wp2_with (first | ((with_reducible show wpList _ _ _ _ _ _); (first | ((with_reducible show wpList _ _ _ (⟨_, _, _, _, _, some _⟩ :: _) _ _); refine wpList_skip (by rfl) ?_; simp only [Act.put, List.setIfInBounds_toArray, List.set_cons_succ, List.set_cons_zero]) | ((first | refine wBuild hk ?_ | refine wFieldZ hk ?_ | refine wField0 hk ?_ | refine wField hk ?_ | refine wIndexA0 hk ?_ | refine wIndexS0 hk ?_ | refine wIndexA hk ?_ | refine wIndexS hk ?_ | refine wLoadR hk ?_ | refine wLoad1 hk ?_ | refine wOldR hk ?_ | refine wOld1 hk ?_ | refine wOldC hk ?_ | refine wOldG hk ?_ | refine wAssertY hk ?_ | refine wAssertN hk ?_); simp only [Act.put, List.setIfInBounds_toArray, List.set_cons_succ, List.set_cons_zero]) | ((first | refine wBox hk ?_ | refine wBox1I hk ?_ | refine wBox1B hk ?_ | refine wBox1S hk ?_ | refine wBox1P hk ?_ | refine wBox1F hk ?_ | refine wAllocR hk ?_ | refine wAlloc1 hk ?_ | refine wMake hk ?_); clear hk; intro w1 hk; simp only [Act.put, List.setIfInBounds_toArray, List.set_cons_succ, List.set_cons_zero]) | ((first | refine wStoreR hk ?_ | refine wStore1I hk ?_ | refine wStore1B hk ?_ | refine wStore1S hk ?_ | refine wStore1P hk ?_ | refine wStore1F hk ?_); clear hk; intro w1 hk; simp only [Act.put]))))
            go_roundw
            case rel => exact ⟨i + 1, by omega, by go_num, HK5.out.call hk.mod.below⟩
            case measure => simp [intOf]; omega
      · have hne : (scheckR P s cl).1 ≠ 0 := by rw [scheck_fst HR.out]; exact hz
        have HNE := hide hne
        obtain ⟨er, her⟩ : ∃ er, (checkR P s cl).1 = er := ⟨_, rfl⟩
        obtain ⟨pl, hpl⟩ : ∃ pl, (checkR P s cl).2 = pl := ⟨_, rfl⟩
        have HE : Hid (scheckR P s cl = (er, (pl : Int))) := hide (by rw [scheck_fst HR.out, her, hpl])
        have hq : (er == 0) = false := by rw [beq_eq_false_iff_ne, ← her]; exact hz
        have hq2 : (!(er != 0)) = false := by rw [bne, hq]; rfl
        clear her hpl hz hne
        go_wp2_with (first | ((with_reducible show wpList _ _ _ _ _ _); (first | ((with_reducible show wpList _ _ _ (⟨_, _, _, _, _, some _⟩ :: _) _ _); refine wpList_skip (by rfl) ?_; simp only [Act.put, List.setIfInBounds_toArray, List.set_cons_succ, List.set_cons_zero]) | ((first | refine wBuild hk ?_ | refine wFieldZ hk ?_ | refine wField0 hk ?_ | refine wField hk ?_ | refine wIndexA0 hk ?_ | refine wIndexS0 hk ?_ | refine wIndexA hk ?_ | refine wIndexS hk ?_ | refine wLoadR hk ?_ | refine wLoad1 hk ?_ | refine wOldR hk ?_ | refine wOld1 hk ?_ | refine wOldC hk ?_ | refine wOldG hk ?_ | refine wAssertY hk ?_ | refine wAssertN hk ?_); simp only [Act.put, List.setIfInBounds_toArray, List.set_cons_succ, List.set_cons_zero]) | ((first | refine wBox hk ?_ | refine wBox1I hk ?_ | refine wBox1B hk ?_ | refine wBox1S hk ?_ | refine wBox1P hk ?_ | refine wBox1F hk ?_ | refine wAllocR hk ?_ | refine wAlloc1 hk ?_ | refine wMake hk ?_); clear hk; intro w1 hk; simp only [Act.put, List.setIfInBounds_toArray, List.set_cons_succ, List.set_cons_zero]) | ((first | refine wStoreR hk ?_ | refine wStore1I hk ?_ | refine wStore1B hk ?_ | refine wStore1S hk ?_ | refine wStore1P hk ?_ | refine wStore1F hk ?_); clear hk; intro w1 hk; simp only [Act.put]))))
        (refine wp_regK hk (.op 0 (.op 1 (.op 2 (.op 3 (.op 4 (.op 5 (.op 6 (.op 7 (.op 8 (.op 9 (.op 10 (.op 11 .nil)))))))))))) (fun i => decide (i < 11)) mixT (by decide) (by kernel_rfl) (by kernel_rfl) ?_; clear hk; intro w1 hk)
        (repeat ((first | refine vMoveI hk ?_ | refine vMoveB hk ?_ | refine uMoveS hk ?_ | refine uMoveP hk ?_ | refine uMoveT hk ?_ | refine vAssignI hk ?_ | refine vAssignB hk ?_ | refine uAssignS hk ?_ | refine uAssignP hk ?_ | refine sMove hk ?_ | refine sAssign hk ?_ | refine sExtract hk ?_ | refine sFieldZ hk ?_ | refine sField0 hk ?_ | refine sField hk ?_ | refine sIndexA0 hk ?_ | refine sIndexS0 hk ?_ | refine sIndexA hk ?_ | refine sIndexS hk ?_ | refine sLoadR hk ?_ | refine sLoad1 hk ?_ | refine sOldR hk ?_ | refine sOld1 hk ?_ | refine sOldC hk ?_ | refine sOldG hk ?_ | refine sBuild hk ?_ | refine sPickT hk ?_ | refine sPickF hk ?_ | refine sLss hk ?_ | refine sLeq hk ?_ | refine sGtr hk ?_ | refine sGeq hk ?_ | refine sEql hk ?_ | refine sNot hk ?_ | refine sSkip hk ?_ | refine sSkipA hk ?_); simp only [Act.put, List.setIfInBounds_toArray, List.set_cons_succ, List.set_cons_zero]))
        refine sOld1 hk ?_ (hat := hatG) (hv := hG); simp only [Act.put, List.setIfInBounds_toArray, List.set_cons_succ, List.set_cons_zero]
        refine sCall ?_; intro K hK; go_step; go_at_call 22
        refine (SCheck_any P s cl HIN.out hcl2 _ _ _ (HS3.out.below hk.mod.below HS3.out.1) (HP3.out.below hk.mod.below (Nat.le_refl _)) (HC.out.below hk.mod.below (Nat.le_refl _))).mono ?_
        rintro x w4 ⟨rfl, hb⟩
        replace hk := hk.call hb
        refine hK _ _ (fun _ => hk) ?_
        clear hK K hb
        rw [HE.out]
        (repeat ((first | refine vMoveI hk ?_ | refine vMoveB hk ?_ | refine uMoveS hk ?_ | refine uMoveP hk ?_ | refine uMoveT hk ?_ | refine vAssignI hk ?_ | refine vAssignB hk ?_ | refine uAssignS hk ?_ | refine uAssignP hk ?_ | refine sMove hk ?_ | refine sAssign hk ?_ | refine sExtract hk ?_ | refine sFieldZ hk ?_ | refine sField0 hk ?_ | refine sField hk ?_ | refine sIndexA0 hk ?_ | refine sIndexS0 hk ?_ | refine sIndexA hk ?_ | refine sIndexS hk ?_ | refine sLoadR hk ?_ | refine sLoad1 hk ?_ | refine sOldR hk ?_ | refine sOld1 hk ?_ | refine sOldC hk ?_ | refine sOldG hk ?_ | refine sBuild hk ?_ | refine sPickT hk ?_ | refine sPickF hk ?_ | refine sLss hk ?_ | refine sLeq hk ?_ | refine sGtr hk ?_ | refine sGeq hk ?_ | refine sEql hk ?_ | refine sNot hk ?_ | refine sSkip hk ?_ | refine sSkipA hk ?_); simp only [Act.put, List.setIfInBounds_toArray, List.set_cons_succ, List.set_cons_zero]))
        refine tNil ?_
        go_wp2_with (first | ((with_reducible show wpList _ _ _ _ _ _); (first | ((with_reducible show wpList _ _ _ (⟨_, _, _, _, _, some _⟩ :: _) _ _); refine wpList_skip (by rfl) ?_; simp only [Act.put, List.setIfInBounds_toArray, List.set_cons_succ, List.set_cons_zero]) | ((first | refine wBuild hk ?_ | refine wFieldZ hk ?_ | refine wField0 hk ?_ | refine wField hk ?_ | refine wIndexA0 hk ?_ | refine wIndexS0 hk ?_ | refine wIndexA hk ?_ | refine wIndexS hk ?_ | refine wLoadR hk ?_ | refine wLoad1 hk ?_ | refine wOldR hk ?_ | refine wOld1 hk ?_ | refine wOldC hk ?_ | refine wOldG hk ?_ | refine wAssertY hk ?_ | refine wAssertN hk ?_); simp only [Act.put, List.setIfInBounds_toArray, List.set_cons_succ, List.set_cons_zero]) | ((first | refine wBox hk ?_ | refine wBox1I hk ?_ | refine wBox1B hk ?_ | refine wBox1S hk ?_ | refine wBox1P hk ?_ | refine wBox1F hk ?_ | refine wAllocR hk ?_ | refine wAlloc1 hk ?_ | refine wMake hk ?_); clear hk; intro w1 hk; simp only [Act.put, List.setIfInBounds_toArray, List.set_cons_succ, List.set_cons_zero]) | ((first | refine wStoreR hk ?_ | refine wStore1I hk ?_ | refine wStore1B hk ?_ | refine wStore1S hk ?_ | refine wStore1P hk ?_ | refine wStore1F hk ?_); clear hk; intro w1 hk; simp only [Act.put]))))
        (refine wp_regK hk (.op 0 (.op 1 (.op 2 (.op 3 (.op 4 (.op 5 (.op 6 (.op 7 (.op 8 (.op 9 (.op 10 (.op 11 (.op 12 (.op 13 .nil)))))))))))))) (fun i => decide (i < 13)) mixT (by decide) (by kernel_rfl) (by kernel_rfl) ?_; clear hk; intro w1 hk)
        (repeat ((first | refine vMoveI hk ?_ | refine vMoveB hk ?_ | refine uMoveS hk ?_ | refine uMoveP hk ?_ | refine uMoveT hk ?_ | refine vAssignI hk ?_ | refine vAssignB hk ?_ | refine uAssignS hk ?_ | refine uAssignP hk ?_ | refine sMove hk ?_ | refine sAssign hk ?_ | refine sExtract hk ?_ | refine sFieldZ hk ?_ | refine sField0 hk ?_ | refine sField hk ?_ | refine sIndexA0 hk ?_ | refine sIndexS0 hk ?_ | refine sIndexA hk ?_ | refine sIndexS hk ?_ | refine sLoadR hk ?_ | refine sLoad1 hk ?_ | refine sOldR hk ?_ | refine sOld1 hk ?_ | refine sOldC hk ?_ | refine sOldG hk ?_ | refine sBuild hk ?_ | refine sPickT hk ?_ | refine sPickF hk ?_ | refine sLss hk ?_ | refine sLeq hk ?_ | refine sGtr hk ?_ | refine sGeq hk ?_ | refine sEql hk ?_ | refine sNot hk ?_ | refine sSkip hk ?_ | refine sSkipA hk ?_); simp only [Act.put, List.setIfInBounds_toArray, List.set_cons_succ, List.set_cons_zero]))
        refine sOld1 hk ?_ (hat := hatG) (hv := hG); simp only [Act.put, List.setIfInBounds_toArray, List.set_cons_succ, List.set_cons_zero]
        refine sCall ?_; intro K hK; go_step; go_at_call 28
        refine (compile_no P s cl HIN.out hcl2 _ _ _ (HS3.out.below hk.mod.below HS3.out.1) (HP3.out.below hk.mod.below (Nat.le_refl _)) (HC.out.below hk.mod.below (Nat.le_refl _)) HNE.out).mono ?_
        rintro x w5 ⟨rfl, hb⟩
        replace hk := hk.call hb
        refine hK _ _ (fun _ => hk) ?_
        clear hK K hb hG
        rw [HE.out]
        (repeat ((first | refine vMoveI hk ?_ | refine vMoveB hk ?_ | refine uMoveS hk ?_ | refine uMoveP hk ?_ | refine uMoveT hk ?_ | refine vAssignI hk ?_ | refine vAssignB hk ?_ | refine uAssignS hk ?_ | refine uAssignP hk ?_ | refine sMove hk ?_ | refine sAssign hk ?_ | refine sExtract hk ?_ | refine sFieldZ hk ?_ | refine sField0 hk ?_ | refine sField hk ?_ | refine sIndexA0 hk ?_ | refine sIndexS0 hk ?_ | refine sIndexA hk ?_ | refine sIndexS hk ?_ | refine sLoadR hk ?_ | refine sLoad1 hk ?_ | refine sOldR hk ?_ | refine sOld1 hk ?_ | refine sOldC hk ?_ | refine sOldG hk ?_ | refine sBuild hk ?_ | refine sPickT hk ?_ | refine sPickF hk ?_ | refine sLss hk ?_ | refine sLeq hk ?_ | refine sGtr hk ?_ | refine sGeq hk ?_ | refine sEql hk ?_ | refine sNot hk ?_ | refine sSkip hk ?_ | refine sSkipA hk ?_); simp only [Act.put, List.setIfInBounds_toArray, List.set_cons_succ, List.set_cons_zero]))
        refine tNil ?_
        go_wp2_with (first | ((with_reducible show wpList _ _ _ _ _ _); (first | ((with_reducible show wpList _ _ _ (⟨_, _, _, _, _, some _⟩ :: _) _ _); refine wpList_skip (by rfl) ?_; simp only [Act.put, List.setIfInBounds_toArray, List.set_cons_succ, List.set_cons_zero]) | ((first | refine wBuild hk ?_ | refine wFieldZ hk ?_ | refine wField0 hk ?_ | refine wField hk ?_ | refine wIndexA0 hk ?_ | refine wIndexS0 hk ?_ | refine wIndexA hk ?_ | refine wIndexS hk ?_ | refine wLoadR hk ?_ | refine wLoad1 hk ?_ | refine wOldR hk ?_ | refine wOld1 hk ?_ | refine wOldC hk ?_ | refine wOldG hk ?_ | refine wAssertY hk ?_ | refine wAssertN hk ?_); simp only [Act.put, List.setIfInBounds_toArray, List.set_cons_succ, List.set_cons_zero]) | ((first | refine wBox hk ?_ | refine wBox1I hk ?_ | refine wBox1B hk ?_ | refine wBox1S hk ?_ | refine wBox1P hk ?_ | refine wBox1F hk ?_ | refine wAllocR hk ?_ | refine wAlloc1 hk ?_ | refine wMake hk ?_); clear hk; intro w1 hk; simp only [Act.put, List.setIfInBounds_toArray, List.set_cons_succ, List.set_cons_zero]) | ((first | refine wStoreR hk ?_ | refine wStore1I hk ?_ | refine wStore1B hk ?_ | refine wStore1S hk ?_ | refine wStore1P hk ?_ | refine wStore1F hk ?_); clear hk; intro w1 hk; simp only [Act.put]))))
        go_loopw [21] (fun j wr => j = .int .i64 0 ∧ Kn [] w3 wr []) (fun _ _ => 0)
        case atStart => exact ⟨rfl, hk⟩
        case round =>
          clear hk
          obtain ⟨rfl, hk⟩ := hrel
          by_cases hr0 : 0 < rs.length
          · go_wp2_with (first | ((with_reducible show wpList _ _ _ _ _ _); (first | ((with_reducible show wpList _ _ _ (⟨_, _, _, _, _, some _⟩ :: _) _ _); refine wpList_skip (by rfl) ?_; simp only [Act.put, List.setIfInBounds_toArray, List.set_cons_succ, List.set_cons_zero]) | ((first | refine wBuild hk ?_ | refine wFieldZ hk ?_ | refine wField0 hk ?_ | refine wField hk ?_ | refine wIndexA0 hk ?_ | refine wIndexS0 hk ?_ | refine wIndexA hk ?_ | refine wIndexS hk ?_ | refine wLoadR hk ?_ | refine wLoad1 hk ?_ | refine wOldR hk ?_ | refine wOld1 hk ?_ | refine wOldC hk ?_ | refine wOldG hk ?_ | refine wAssertY hk ?_ | refine wAssertN hk ?_); simp only [Act.put, List.setIfInBounds_toArray, List.set_cons_succ, List.set_cons_zero]) | ((first | refine wBox hk ?_ | refine wBox1I hk ?_ | refine wBox1B hk ?_ | refine wBox1S hk ?_ | refine wBox1P hk ?_ | refine wBox1F hk ?_ | refine wAllocR hk ?_ | refine wAlloc1 hk ?_ | refine wMake hk ?_); clear hk; intro w1 hk; simp only [Act.put, List.setIfInBounds_toArray, List.set_cons_succ, List.set_cons_zero]) | ((first | refine wStoreR hk ?_ | refine wStore1I hk ?_ | refine wStore1B hk ?_ | refine wStore1S hk ?_ | refine wStore1P hk ?_ | refine wStore1F hk ?_); clear hk; intro w1 hk; simp only [Act.put]))))
            go_roundw
            case rel => exact ⟨i + 1, by omega, by go_num, hk.none⟩
            case measure => simp [intOf]; omega
          · go_wp2_with (first | ((with_reducible show wpList _ _ _ _ _ _); (first | ((with_reducible show wpList _ _ _ (⟨_, _, _, _, _, some _⟩ :: _) _ _); refine wpList_skip (by rfl) ?_; simp only [Act.put, List.setIfInBounds_toArray, List.set_cons_succ, List.set_cons_zero]) | ((first | refine wBuild hk ?_ | refine wFieldZ hk ?_ | refine wField0 hk ?_ | refine wField hk ?_ | refine wIndexA0 hk ?_ | refine wIndexS0 hk ?_ | refine wIndexA hk ?_ | refine wIndexS hk ?_ | refine wLoadR hk ?_ | refine wLoad1 hk ?_ | refine wOldR hk ?_ | refine wOld1 hk ?_ | refine wOldC hk ?_ | refine wOldG hk ?_ | refine wAssertY hk ?_ | refine wAssertN hk ?_); simp only [Act.put, List.setIfInBounds_toArray, List.set_cons_succ, List.set_cons_zero]) | ((first | refine wBox hk ?_ | refine wBox1I hk ?_ | refine wBox1B hk ?_ | refine wBox1S hk ?_ | refine wBox1P hk ?_ | refine wBox1F hk ?_ | refine wAllocR hk ?_ | refine wAlloc1 hk ?_ | refine wMake hk ?_); clear hk; intro w1 hk; simp only [Act.put, List.setIfInBounds_toArray, List.set_cons_succ, List.set_cons_zero]) | ((first | refine wStoreR hk ?_ | refine wStore1I hk ?_ | refine wStore1B hk ?_ | refine wStore1S hk ?_ | refine wStore1P hk ?_ | refine wStore1F hk ?_); clear hk; intro w1 hk; simp only [Act.put]))))
            go_roundw
            case rel => exact ⟨i + 1, by omega, by go_num, hk.none⟩
            case measure => simp [intOf]; omega
    · go_wp2_with (first | ((with_reducible show wpList _ _ _ _ _ _); (first | ((with_reducible show wpList _ _ _ (⟨_, _, _, _, _, some _⟩ :: _) _ _); refine wpList_skip (by rfl) ?_; simp only [Act.put, List.setIfInBounds_toArray, List.set_cons_succ, List.set_cons_zero]) | ((first | refine wBuild hk ?_ | refine wFieldZ hk ?_ | refine wField0 hk ?_ | refine wField hk ?_ | refine wIndexA0 hk ?_ | refine wIndexS0 hk ?_ | refine wIndexA hk ?_ | refine wIndexS hk ?_ | refine wLoadR hk ?_ | refine wLoad1 hk ?_ | refine wOldR hk ?_ | refine wOld1 hk ?_ | refine wOldC hk ?_ | refine wOldG hk ?_ | refine wAssertY hk ?_ | refine wAssertN hk ?_); simp only [Act.put, List.setIfInBounds_toArray, List.set_cons_succ, List.set_cons_zero]) | ((first | refine wBox hk ?_ | refine wBox1I hk ?_ | refine wBox1B hk ?_ | refine wBox1S hk ?_ | refine wBox1P hk ?_ | refine wBox1F hk ?_ | refine wAllocR hk ?_ | refine wAlloc1 hk ?_ | refine wMake hk ?_); clear hk; intro w1 hk; simp only [Act.put, List.setIfInBounds_toArray, List.set_cons_succ, List.set_cons_zero]) | ((first | refine wStoreR hk ?_ | refine wStore1I hk ?_ | refine wStore1B hk ?_ | refine wStore1S hk ?_ | refine wStore1P hk ?_ | refine wStore1F hk ?_); clear hk; intro w1 hk; simp only [Act.put]))))
      go_ret
      exact ⟨rfl, HB3.out.trans (hk.mod.below.mono HB3.out.size)⟩
end Go.Proofs.YtamiichlbmllcaaGreatDoor
/-
  What the given readings of a program, a state and a list of claims tell.
-/
namespace Go.Proofs.YtamiichlbmllcaaGreatDoor
open Go.ChangeShapes Go.WideShapes Go.ChangeAt Go.RowKit Go.Deep
theorem cClaim : Tryz.prog.cellsOf 78 = 17 := by kernel_rfl
theorem byInsC : Tryz.prog.bytesOf 62 = 40 := by kernel_rfl
theorem byClaim : Tryz.prog.bytesOf 78 = 136 := by kernel_rfl
/-- all that is read lies within the reach -/
def FitsC (t : TypeId) {H : Type} (d : DataW H) : Prop := ∀ n ∈ DataW.weights Tryz.prog t d, n ≤ reachBytes
section
variable {H : Type} {enc : TypeId × Value → H} {W : World} {base : Nat} {spare : Nat → Bool} {held : Bool}
set_option maxRecDepth 10000 in
theorem read_cl {n : Nat} {cs : List Value} {x : DataW H × List MemPlace} (h : DataW.trod enc Tryz.prog W base spare held n 78 cs = some x) : ∃ c : C2, cs = (clC c.pl c.st).toList ∧ St.in64 c.st := by
  obtain ⟨xs, m, _, _, hl, hlen, hf⟩ := DataW.trod_struct Tryz.underlying78 h
  rw [cClaim] at hl
  replace hlen : xs.length = 2 := hlen
  have g0 : DataW.trod enc Tryz.prog W base spare held m 3 ((cs.drop 0).take (Tryz.prog.cellsOf 3)) = xs[0]? := hf 0 _ rfl
  have g1 : DataW.trod enc Tryz.prog W base spare held m 30 ((cs.drop 1).take (Tryz.prog.cellsOf 30)) = xs[1]? := hf 1 _ rfl
  rw [cInt, List.getElem?_eq_getElem (by omega)] at g0
  rw [cState, List.getElem?_eq_getElem (by omega)] at g1
  obtain ⟨a0, e0, _, _⟩ := DataW.trod_int Tryz.underlying3 g0
  obtain ⟨s, e1, h64⟩ := read_st g1
  refine ⟨⟨a0, s⟩, ?_, h64⟩
  cases cs with
  | nil => simp at hl
  | cons y r =>
    simp at e0 hl
    rw [List.drop_succ_cons, List.drop_zero, List.take_of_length_le (by omega)] at e1
    rw [e1, e0]
    rfl
/-- A PROGRAM THAT CAME IN, NIL AS NIL. -/
theorem open_insA {v : Value} {d : DataW H} {ps : List MemPlace} (hv : ∃ a len cap, v = .slice a len cap) (h : DataW.Trod enc Tryz.prog W base spare held 26 v d ps) (hfit : FitsC 26 d) :
    ∃ l : List I5, Arg W v l ∧ (∀ i (h : i < l.length), l[i].in64) ∧ l.length * 40 ≤ 140737488351232 := by
  obtain ⟨l, hS, _, h64⟩ := open_ins hv h
  obtain ⟨a0, len0, cap0, rfl⟩ := hv
  obtain ⟨fuel, hf⟩ := h
  rcases open_slice Tryz.underlying26 hf with ⟨hcs, _⟩ | ⟨a, len, cap, m, n, D, Pl, hcs, _, hl, hm, hmm, hd, _⟩
  · simp [Value.cells] at hcs
    obtain ⟨rfl, rfl, rfl⟩ := hcs
    have hlen : l.length = 0 := by
      obtain ⟨a', c', e⟩ := hS.len
      simp at e; exact e.2.1.symm
    exact ⟨l, ⟨hS, fun n c hh => by simp at hh; omega⟩, h64, by rw [hlen]; omega⟩
  · simp [Value.cells] at hcs
    obtain ⟨rfl, rfl, rfl⟩ := hcs
    have hlen : l.length = len0 := by
      obtain ⟨a', c', e⟩ := hS.len
      simp at e; exact e.2.1.symm
    refine ⟨l, ⟨hS, fun n c hh => by simp at hh⟩, h64, ?_⟩
    simp only [Prod.mk.injEq] at hd
    obtain ⟨rfl, _⟩ := hd
    have := hfit _ (by simp only [DataW.weights, Tryz.underlying26]; exact List.mem_cons_self)
    rw [byInsC] at this
    simp only [List.length_map, List.length_range, reachBytes] at this
    omega
/-- CLAIMS THAT CAME IN. -/
theorem open_cls {v : Value} {d : DataW H} {ps : List MemPlace} (hv : ∃ a len cap, v = .slice a len cap) (h : DataW.Trod enc Tryz.prog W base spare held 41 v d ps) (hfit : FitsC 41 d) :
    ∃ cl : List C2, ArgC W v cl ∧ (∀ i, i < cl.length → St.in64 (clAt cl i).st) ∧ cl.length * 136 ≤ 140737488351232 := by
  obtain ⟨a0, len0, cap0, rfl⟩ := hv
  obtain ⟨fuel, hf⟩ := h
  rcases open_slice Tryz.underlying41 hf with ⟨hcs, _⟩ | ⟨a, len, cap, m, n, D, Pl, hcs, _, hl, hm, hmm, hd, hx⟩
  · simp [Value.cells] at hcs
    obtain ⟨rfl, rfl, rfl⟩ := hcs
    exact ⟨[], ⟨Or.inl ⟨⟨_, _, rfl⟩, rfl⟩, fun n c hh => by simp at hh; omega⟩, fun i h => by simp at h, by simp⟩
  · simp [Value.cells] at hcs
    obtain ⟨rfl, rfl, rfl⟩ := hcs
    have hlm : len0 ≤ m := by rw [hmm]; split <;> omega
    have hsz : len0 * 136 ≤ 140737488351232 := by
      simp only [Prod.mk.injEq] at hd
      obtain ⟨rfl, _⟩ := hd
      have := hfit _ (by simp only [DataW.weights, Tryz.underlying41]; exact List.mem_cons_self)
      rw [byClaim] at this
      simp only [List.length_map, List.length_range, reachBytes] at this
      omega
    have each : ∀ i, i < len0 → ∃ x : C2, St.in64 x.st ∧ ∀ f, f < 17 → W.cell? (a.add (i * 17 + f)) = (clC x.pl x.st).toList[f]? := by
      intro i hi
      obtain ⟨cs', h1, h2⟩ := hx i (by omega)
      obtain ⟨x, rfl, hx64⟩ := read_cl h2
      rw [cClaim] at h1
      obtain ⟨_, _, hcell⟩ := World.cells?_some h1
      exact ⟨x, hx64, fun f hf => by rw [← add_add]; exact hcell f hf⟩
    have : Inhabited C2 := ⟨zeroC⟩
    obtain ⟨q, hq⟩ := choose_lt each
    have hat : ∀ i, i < len0 → clAt ((List.range len0).map q) i = q i := fun i hi => by rw [clAt_get (by simpa using hi)]; simp
    refine ⟨(List.range len0).map q, ⟨?_, fun n c hh => by simp at hh⟩, fun i hi => by simp at hi; rw [hat i hi]; exact (hq i hi).1, by simpa using hsz⟩
    by_cases h0 : len0 = 0
    · subst h0
      exact Or.inl ⟨⟨_, _, rfl⟩, rfl⟩
    · obtain ⟨b, off, spot⟩ := a
      have hc := (hq 0 (by omega)).2 0 (by omega)
      have hspot : spot = none := by
        have e : (clC (q 0).pl (q 0).st).toList[0]? = some (.int .i64 (q 0).pl) := rfl
        rw [e] at hc
        simpa [Addr.add] using World.cell?_spot hc
      subst hspot
      have hadd : ∀ k, (⟨b, off, none⟩ : Addr).add k = ⟨b, off + k, none⟩ := fun k => add_plain _ _ _
      have hcl : ∀ i (hi : i < len0) f, f < 17 → W.cell? ⟨b, off + i * 17 + f, none⟩ = (clC (q i).pl (q i).st).toList[f]? := by
        intro i hi f hf
        have := (hq i hi).2 f hf
        rw [hadd, ← Nat.add_assoc] at this
        exact this
      refine Or.inr ⟨b, off, cap0, by simp, ?_, fun i hi => ?_⟩
      · have := hcl 0 (by omega) 0 (by omega)
        exact World.block_lt_of_cell? W ⟨b, _, none⟩ this
      · simp at hi
        rw [hat i hi]
        intro j u hj
        rw [hcl i hi j (by have := (List.getElem?_eq_some_iff.1 hj).1; exact this)]
        exact hj
end
end Go.Proofs.YtamiichlbmllcaaGreatDoor
/-
  What the given readings of eight registers and of a number tell.
-/
namespace Go.Proofs.YtamiichlbmllcaaGreatDoor
open Go.ChangeShapes Go.WideShapes Go.ChangeAt Go.RowKit Go.Deep
theorem cRegs : Tryz.prog.cellsOf 42 = 8 := by kernel_rfl
section
variable {H : Type} {enc : TypeId × Value → H} {W : World} {base : Nat} {spare : Nat → Bool} {held : Bool}
set_option maxRecDepth 10000 in
theorem read_regs {n : Nat} {cs : List Value} {x : DataW H × List MemPlace} (h : DataW.trod enc Tryz.prog W base spare held n 42 cs = some x) : ∃ r : Nat → Int, cs = (rgsC r).toList ∧ ∀ j, j < 8 → I64 (r j) := by
  obtain ⟨xs, m, _, _, hl, hlen, hf⟩ := DataW.trod_array Tryz.underlying42 h
  rw [cRegs] at hl
  have each : ∀ j, j < 8 → ∃ z : Int, I64 z ∧ cs[j]? = some (.int .i64 z) := by
    intro j hj
    have := hf j hj
    rw [cInt, List.getElem?_eq_getElem (by omega)] at this
    obtain ⟨z, e, _, w64⟩ := DataW.trod_int Tryz.underlying3 this
    refine ⟨z, wf64 w64, ?_⟩
    have c := congrArg (fun l => l[0]?) e
    simp only [Nat.mul_one, List.getElem?_take, List.getElem?_drop] at c
    rw [if_pos (by omega)] at c
    simpa using c
  obtain ⟨q, hq⟩ := choose_lt each
  refine ⟨q, ?_, fun j hj => (hq j hj).1⟩
  have hcs : cs.length = 8 := hl
  apply List.ext_getElem?
  intro j
  by_cases hj : j < 8
  · have h0 := (hq j hj).2
    rw [h0]
    match j, hj with
    | 0, _ => rfl
    | 1, _ => rfl
    | 2, _ => rfl
    | 3, _ => rfl
    | 4, _ => rfl
    | 5, _ => rfl
    | 6, _ => rfl
    | 7, _ => rfl
    | j + 8, hj => exact absurd hj (by omega)
  · rw [List.getElem?_eq_none (by omega), List.getElem?_eq_none (by show 8 ≤ j; omega)]
set_option maxRecDepth 100000 in
/-- REGISTERS THAT CAME IN. -/
theorem open_regs {r : Reach} {b0 : Nat} {v : Value} {d : DataW H} {ps : List MemPlace} (hv : Value.okWide Tryz.prog W r b0 42 v) (h : DataW.Trod enc Tryz.prog W base spare held 42 v d ps) : ∃ q : Nat → Int, v = .agg (rgsC q) ∧ ∀ j, j < 8 → I64 (q j) := by
  have hag : ∃ cs, v = .agg cs := by
    simp only [Value.okWide, Tryz.underlying42] at hv
    obtain ⟨cs, h1, _⟩ := hv
    exact ⟨cs, h1⟩
  obtain ⟨cs, rfl⟩ := hag
  obtain ⟨fuel, hf⟩ := h
  obtain ⟨s, e, h64⟩ := read_regs hf
  refine ⟨s, ?_, h64⟩
  have e' : cs.toList = (rgsC s).toList := e
  rw [Array.toList_inj.1 e']
end
end Go.Proofs.YtamiichlbmllcaaGreatDoor
/-
  What the given reading of a list of registers tells.
-/
namespace Go.Proofs.YtamiichlbmllcaaGreatDoor
open Go.ChangeShapes Go.WideShapes Go.ChangeAt Go.RowKit Go.Deep
theorem byRegs : Tryz.prog.bytesOf 42 = 64 := by kernel_rfl
section
variable {H : Type} {enc : TypeId × Value → H} {W : World} {base : Nat} {spare : Nat → Bool} {held : Bool}
/-- REGISTERS THAT CAME IN, A LIST. -/
theorem open_rgl {v : Value} {d : DataW H} {ps : List MemPlace} (hv : ∃ a len cap, v = .slice a len cap) (h : DataW.Trod enc Tryz.prog W base spare held 69 v d ps) (hfit : FitsC 69 d) :
    ∃ rs : List (Nat → Int), SlcG W v rs ∧ (∀ i, i < rs.length → ∀ j, j < 8 → I64 (rgAt rs i j)) ∧ rs.length * 64 ≤ 140737488351232 := by
  obtain ⟨a0, len0, cap0, rfl⟩ := hv
  obtain ⟨fuel, hf⟩ := h
  rcases open_slice Tryz.underlying69 hf with ⟨hcs, _⟩ | ⟨a, len, cap, m, n, D, Pl, hcs, _, hl, hm, hmm, hd, hx⟩
  · simp [Value.cells] at hcs
    obtain ⟨rfl, rfl, rfl⟩ := hcs
    exact ⟨[], Or.inl ⟨⟨_, _, rfl⟩, rfl⟩, fun i h => by simp at h, by simp⟩
  · simp [Value.cells] at hcs
    obtain ⟨rfl, rfl, rfl⟩ := hcs
    have hlm : len0 ≤ m := by rw [hmm]; split <;> omega
    have hsz : len0 * 64 ≤ 140737488351232 := by
      simp only [Prod.mk.injEq] at hd
      obtain ⟨rfl, _⟩ := hd
      have := hfit _ (by simp only [DataW.weights, Tryz.underlying69]; exact List.mem_cons_self)
      rw [byRegs] at this
      simp only [List.length_map, List.length_range, reachBytes] at this
      omega
    have each : ∀ i, i < len0 → ∃ x : Nat → Int, (∀ j, j < 8 → I64 (x j)) ∧ ∀ f, f < 8 → W.cell? (a.add (i * 8 + f)) = (rgsC x).toList[f]? := by
      intro i hi
      obtain ⟨cs', h1, h2⟩ := hx i (by omega)
      obtain ⟨x, rfl, hx64⟩ := read_regs h2
      rw [cRegs] at h1
      obtain ⟨_, _, hcell⟩ := World.cells?_some h1
      exact ⟨x, hx64, fun f hf => by rw [← add_add]; exact hcell f hf⟩
    obtain ⟨q, hq⟩ := choose_lt each
    have hat : ∀ i, i < len0 → rgAt ((List.range len0).map q) i = q i := fun i hi => by rw [rgAt_get (by simpa using hi)]; simp
    refine ⟨(List.range len0).map q, ?_, fun i hi => by simp at hi; rw [hat i hi]; exact (hq i hi).1, by simpa using hsz⟩
    by_cases h0 : len0 = 0
    · subst h0
      exact Or.inl ⟨⟨_, _, rfl⟩, rfl⟩
    · obtain ⟨b, off, spot⟩ := a
      have hc := (hq 0 (by omega)).2 0 (by omega)
      have hspot : spot = none := by
        have e : (rgsC (q 0)).toList[0]? = some (.int .i64 (q 0 0)) := rfl
        rw [e] at hc
        simpa [Addr.add] using World.cell?_spot hc
      subst hspot
      have hadd : ∀ k, (⟨b, off, none⟩ : Addr).add k = ⟨b, off + k, none⟩ := fun k => add_plain _ _ _
      have hcl : ∀ i (hi : i < len0) f, f < 8 → W.cell? ⟨b, off + i * 8 + f, none⟩ = (rgsC (q i)).toList[f]? := by
        intro i hi f hf
        have := (hq i hi).2 f hf
        rw [hadd, ← Nat.add_assoc] at this
        exact this
      refine Or.inr ⟨b, off, cap0, by simp, ?_, fun i hi => ?_⟩
      · have := hcl 0 (by omega) 0 (by omega)
        exact World.block_lt_of_cell? W ⟨b, _, none⟩ this
      · simp at hi
        rw [hat i hi]
        intro j u hj
        rw [hcl i hi j (by have := (List.getElem?_eq_some_iff.1 hj).1; exact this)]
        exact hj
end
end Go.Proofs.YtamiichlbmllcaaGreatDoor
namespace Go.Proofs.YtamiichlbmllcaaGreatDoor
open Go.ChangeShapes Go.WideShapes Go.ChangeAt Go.RowKit Go.Deep
/-- The door's own heap meets the condition. -/
theorem alike_door (os : Os) (args : Array Value) : laidMetH Tryz.prog Rows.alikeRow.laid ((World.doorLaid Tryz.prog 241 os).forCall (fun _ _ => 0) ⟨#[], args, []⟩).memory :=
  laidMetH_of_parts3 (fuel := 8) (laidMet_of_run' 8 (by kernel_rfl) (by kernel_rfl)) (by kernel_rfl) (by kernel_rfl)
set_option maxRecDepth 100000 in
theorem alike_lifted (os : Os) (started : os.Started) (H : Type) (enc : TypeId × Value → H) :
    ReturnsInHanded {} Tryz.checked os 10 .any (fun w args => (Rows.alikeSpec.pre enc Tryz.prog Tryz.f10 [] false w args ∧ laidMetH Tryz.prog Rows.alikeRow.laid w) ∧ sizedMet enc Tryz.prog Tryz.f10 (OpenSpec.ofChange Rows.alikeSpec) false w args)
      (Rows.alikeSpec.post enc Tryz.prog Tryz.f10 false true false false) := by
  refine returnsInHanded_of_change_and (C := Tryz.checked) (X := fun w _ => laidMetH Tryz.prog Rows.alikeRow.laid w) (fun _ _ _ hh h => h.of_heap hh) own started (by kernel_rfl) Tryz.func10
    (ChangeSpec.witness_shaped (enc := enc) (C := Tryz.checked) (os := os) (X := fun w _ => laidMetH Tryz.prog Rows.alikeRow.laid w) false (World.doorLaid Tryz.prog 241 os) #[.slice none 0 0, .agg (stC zeroS), .slice none 0 0, .slice none 0 0, .int .i64 0] 8 rfl (World.shaped_of_RefB (by kernel_rfl) (by kernel_rfl)) (by kernel_rfl) (by kernel_rfl) (by kernel_rfl) (alike_door os _)) ?_
  intro W base args ds gs before hval0 hW _ hsz0 hL _
  have hval : ∀ (j : Nat) t v, Tryz.f10.params[j]? = some t → args[j]? = some v → Value.okWide Tryz.prog W .any base t v := hval0
  have hW' := hW
  obtain ⟨p, q, hA0, hV, rfl, hfz, hnd⟩ := hW
  have hA : DataW.TrodAll enc Tryz.prog W 0 (fun _ => true) true Tryz.f10.params.toList args.toList ds p := hA0
  have hsz : (DataW.weightsEach Tryz.prog (Tryz.f10.params.toList ++ Rows.alikeSpec.plain.varTypes Tryz.prog) (ds ++ gs)).all (· ≤ reachBytes) = true := hsz0
  rw [Tryz.params10] at hA hval hsz
  obtain ⟨v0, vs0, d0, ds0, p0, q0, hargs, rfl, rfl, h0, r0⟩ := trodAll_cons hA
  obtain ⟨v1, vs1, d1, ds1, p1, q1, rfl, rfl, rfl, h1, r1⟩ := trodAll_cons r0
  obtain ⟨v2, vs2, d2, ds2, p2, q2, rfl, rfl, rfl, h2, r2⟩ := trodAll_cons r1
  obtain ⟨v3, vs3, d3, ds3, p3, q3, rfl, rfl, rfl, h3, r3⟩ := trodAll_cons r2
  obtain ⟨v4, vs4, d4, ds4, p4, q4, rfl, rfl, rfl, h4, r4⟩ := trodAll_cons r3
  obtain ⟨rfl, rfl, rfl⟩ := trodAll_nil r4
  obtain rfl : args = #[v0, v1, v2, v3, v4] := by cases args; simp_all
  obtain ⟨rfl, rfl⟩ := trodVars_none hV
  have lt0 : ∀ x ∈ p0, x.block < W.heap.size := by obtain ⟨m, hm⟩ := h0; exact DataW.trod_lt m _ _ _ hm
  have lt1 : ∀ x ∈ p1, x.block < W.heap.size := by obtain ⟨m, hm⟩ := h1; exact DataW.trod_lt m _ _ _ hm
  have lt2 : ∀ x ∈ p2, x.block < W.heap.size := by obtain ⟨m, hm⟩ := h2; exact DataW.trod_lt m _ _ _ hm
  have lt3 : ∀ x ∈ p3, x.block < W.heap.size := by obtain ⟨m, hm⟩ := h3; exact DataW.trod_lt m _ _ _ hm
  have lt4 : ∀ x ∈ p4, x.block < W.heap.size := by obtain ⟨m, hm⟩ := h4; exact DataW.trod_lt m _ _ _ hm
  have hv0 := okWide_slice Tryz.underlying26 (hval 0 26 v0 rfl rfl)
  have hfit2 : FitsC 41 d2 := fun n hn => by
    have := List.all_eq_true.1 hsz n (DataW.weights_mem_each (j := 2) (t := 41) (d := d2) rfl rfl n hn)
    simpa using this
  have hv2 := okWide_slice Tryz.underlying41 (hval 2 41 v2 rfl rfl)
  have hfit3 : FitsC 69 d3 := fun n hn => by
    have := List.all_eq_true.1 hsz n (DataW.weights_mem_each (j := 3) (t := 69) (d := d3) rfl rfl n hn)
    simpa using this
  have hv3 := okWide_slice Tryz.underlying69 (hval 3 69 v3 rfl rfl)
  obtain ⟨l0, hS0, hlen0, h640⟩ := open_ins hv0 h0
  obtain ⟨s1, rfl, s641⟩ := open_st (hval 1 30 v1 rfl rfl) h1
  obtain ⟨cl2, hC2, c642, hcl2⟩ := open_cls hv2 h2 hfit2
  obtain ⟨ra2, rc2, rfl⟩ := hC2.1.len
  obtain ⟨rs3, hR3, r643, hrl3⟩ := open_rgl hv3 h3 hfit3
  obtain ⟨ga3, gc3, rfl⟩ := hR3.len
  obtain ⟨z4, rfl, rfl, rfl, wz4⟩ := open_int Tryz.underlying3 (hval 4 3 v4 rfl rfl) h4
  clear hA0 hval0
  refine (alike_any l0 v0 W (shapes_of_laid hL) hS0 hlen0 h640 s1 s641 cl2 ra2 rc2 hC2.1 (by omega) c642 rs3 ga3 gc3 hR3 (by omega) z4).mono fun e W' ⟨he, bel⟩ => ?_
  subst he
  exact ⟨_, rfl, _, _, _, [], _, [], hW', trodAll_mk1 (shut_bool Tryz.underlying4 _), trodAll_cons_mk (Below.trod laidOut (by kernel_rfl) (of_decide_eq_true (by kernel_rfl)) h0 bel lt0) (trodAll_cons_mk (Below.trod laidOut (by kernel_rfl) (of_decide_eq_true (by kernel_rfl)) h1 bel lt1) (trodAll_cons_mk (Below.trod laidOut (by kernel_rfl) (of_decide_eq_true (by kernel_rfl)) h2 bel lt2) (trodAll_cons_mk (Below.trod laidOut (by kernel_rfl) (of_decide_eq_true (by kernel_rfl)) h3 bel lt3) (trodAll_cons_mk (Below.trod laidOut (by kernel_rfl) (of_decide_eq_true (by kernel_rfl)) h4 bel lt4) trodAll_mk0)))), rfl, bel.frame _, fun h => by cases h⟩
theorem alike_said : Rows.AlikeSaid :=
  OpenClaim.holds_of_wide 10 Tryz.f10 rfl rfl rfl rfl rfl rfl rfl ⟨rfl, rfl, rfl, rfl, rfl⟩ rfl rfl rfl rfl rfl (by kernel_rfl) Tryz.func10 (by kernel_rfl)
    (of_decide_eq_true (by kernel_rfl)) (by unfold Func.isWrapper; first | (rw [if_pos (by decide +kernel)]; kernel_rfl) | (rw [if_neg (by decide +kernel)]; exact ⟨rfl, rfl⟩))
    (fun os started H enc _ => alike_lifted os started H enc)
theorem alike_plain (f : FuncId) (fn : Func) (hf : Tryz.pinned.checked.prog.funcNamed "surety/suretykeep.Alike" = some f) (hfn : Tryz.pinned.checked.prog.funcs[f]? = some fn) :
    true = Tryz.pinned.checked.prog.looks [] ∧ ∀ (j : Nat) t, fn.params[j]? = some t → Tryz.pinned.checked.prog.wantsStandIn t = false := by
  obtain rfl : f = 10 := Option.some.inj ((show Tryz.prog.funcNamed "surety/suretykeep.Alike" = some 10 by kernel_rfl).symm.trans hf) |>.symm
  obtain rfl : fn = Tryz.f10 := (Option.some.inj (Tryz.func10.symm.trans hfn)).symm
  refine ⟨by kernel_rfl, fun j t ht => ?_⟩
  rw [Tryz.params10] at ht
  have hm : t ∈ [26, 30, 41, 69, 3] := by simpa using Array.mem_of_getElem? ht
  have hall : ([26, 30, 41, 69, 3].all fun u => !Tryz.prog.wantsStandIn u) = true := by kernel_rfl
  exact (show Tryz.prog.wantsStandIn t = false by simpa using List.all_eq_true.1 hall t hm)
/-- THE CARD. -/
theorem alike_card : Rows.AlikeCardSaid :=
  Claim7.holds_tied_plain_at .later [] _ _ _ _ alike_said (fun _ h => by cases h) (by kernel_rfl) (fun _ h => by cases h) alike_row_tie rfl ⟨rfl, rfl⟩ (by kernel_rfl) rfl alike_plain (by kernel_rfl)
#print axioms alike_card
end Go.Proofs.YtamiichlbmllcaaGreatDoor
