import Derived.Test.YtamiichlbmllcabGreatDoorQThTab
import Derived.Great.BuildSlice
import Derived.Test.YtamiichlbmllcabGreatDoorQChF
import Derived.Test.YtamiichlbmllcabGreatDoorQArmW
import Derived.Test.YtamiichlbmllcabGreatDoorQPrI
import Derived.Test.YtamiichlbmllcabGreatDoorQSetW
set_option maxRecDepth 100000
set_option maxHeartbeats 32000000
namespace Go.Proofs.YtamiichlbmllcabGreatDoor
open Go.RowKit
theorem Tryz.infoL : (Tryz.prog.info? 71).map (fun i => (i.zero, i.size, i.bytes)) = some (some (.agg #[.int .i64 0, .int .i64 0, .int .i64 0, .int .i64 0, .int .i64 0, .int .i64 0, .int .i64 0, .int .i64 0, .int .i64 0, .int .i64 0, .int .i64 0, .int .i64 0, .int .i64 0, .int .i64 0, .int .i64 0, .int .i64 0, .int .i64 0]), 17, 136) := by kernel_rfl
theorem Tryz.infoLS : (Tryz.prog.info? 51).map (fun i => (i.zero, i.size, i.bytes)) = some (some (.slice none 0 0), 1, 24) := by kernel_rfl
def XL (M : Int) : List Value := [.int .i64 M, .int .i64 0, .int .i64 0, .int .i64 0, .int .i64 0, .int .i64 0, .int .i64 0, .int .i64 0, .int .i64 0, .int .i64 0, .int .i64 0, .int .i64 0, .int .i64 0, .int .i64 0, .int .i64 0, .int .i64 0, .int .i64 0]
def markL (k : Nat) : List Value := XL (mrkI k)
def repL (M : Int) (n : Nat) : List Value := (List.replicate n (XL M)).flatten
theorem repL_len (M : Int) (n : Nat) : (repL M n).length = n * 17 := by simp [repL, XL]
theorem repL_add (M : Int) (n m : Nat) : repL M n ++ repL M m = repL M (n + m) := by unfold repL; rw [<- List.flatten_append, List.replicate_append_replicate]
theorem repL_one (M : Int) (n : Nat) : ∀ u ∈ repL M n, u.oneCell' = true := by
 intro u hu
 simp only [repL, List.mem_flatten, List.mem_replicate] at hu
 obtain ⟨l, ⟨_, rfl⟩, hu⟩ := hu
 simp [XL] at hu
 rcases hu with rfl | rfl <;> rfl
theorem L_parts (l : List Value) (h : 17 <= l.length) : ∃ c0 c1 c2 c3 c4 c5 c6 c7 c8 c9 c10 c11 c12 c13 c14 c15 c16 t, l = c0 :: c1 :: c2 :: c3 :: c4 :: c5 :: c6 :: c7 :: c8 :: c9 :: c10 :: c11 :: c12 :: c13 :: c14 :: c15 :: c16 :: t := by
 rcases l with _ | ⟨c0, _ | ⟨c1, _ | ⟨c2, _ | ⟨c3, _ | ⟨c4, _ | ⟨c5, _ | ⟨c6, _ | ⟨c7, _ | ⟨c8, _ | ⟨c9, _ | ⟨c10, _ | ⟨c11, _ | ⟨c12, _ | ⟨c13, _ | ⟨c14, _ | ⟨c15, _ | ⟨c16, t⟩⟩⟩⟩⟩⟩⟩⟩⟩⟩⟩⟩⟩⟩⟩⟩⟩
 all_goals first | (exact ⟨c0, c1, c2, c3, c4, c5, c6, c7, c8, c9, c10, c11, c12, c13, c14, c15, c16, t, rfl⟩) | (exfalso; simp at h)
theorem L_app (A B : List Value) (k : Nat) (v : Value) : (A ++ B).set (A.length + k) v = A ++ B.set k v := by
 rw [List.set_append_right _ _ (by omega), Nat.add_sub_cancel_left]
theorem L_set (M : Int) (cs : List Value) (n N : Nat) (hl : cs.length = N * 17) (hn : n < N) : ((((((((((((((((((repL M n ++ cs.drop (n * 17)).set (n * 17) (.int .i64 M)).set (n * 17 + 1) (.int .i64 0)).set (n * 17 + 2) (.int .i64 0)).set (n * 17 + 3) (.int .i64 0)).set (n * 17 + 4) (.int .i64 0)).set (n * 17 + 5) (.int .i64 0)).set (n * 17 + 6) (.int .i64 0)).set (n * 17 + 7) (.int .i64 0)).set (n * 17 + 8) (.int .i64 0)).set (n * 17 + 9) (.int .i64 0)).set (n * 17 + 10) (.int .i64 0)).set (n * 17 + 11) (.int .i64 0)).set (n * 17 + 12) (.int .i64 0)).set (n * 17 + 13) (.int .i64 0)).set (n * 17 + 14) (.int .i64 0)).set (n * 17 + 15) (.int .i64 0)).set (n * 17 + 16) (.int .i64 0)) = repL M (n + 1) ++ cs.drop ((n + 1) * 17) := by
 obtain ⟨c0, c1, c2, c3, c4, c5, c6, c7, c8, c9, c10, c11, c12, c13, c14, c15, c16, t, ht⟩ := L_parts (cs.drop (n * 17)) (by rw [List.length_drop, hl]; omega)
 have h2 : cs.drop ((n + 1) * 17) = t := by
  have := congrArg (List.drop 17) ht
  rw [List.drop_drop] at this
  rw [Nat.add_mul, Nat.one_mul]
  rw [this]; rfl
 have hA := repL_len M n
 have h3 : repL M (n + 1) = repL M n ++ XL M := by rw [<- repL_add]; simp [repL]
 rw [ht, h2, h3, <- hA]
 have h0 : ∀ (B : List Value) (v : Value), (repL M n ++ B).set (repL M n).length v = repL M n ++ B.set 0 v := fun B v => L_app _ B 0 v
 rw [h0]
 simp only [L_app]
 rw [List.append_assoc]
 rfl
structure StL (w wr : World) (base xb : Nat) (M : Int) (vl : Value) (N : Nat) : Prop where
 own : wr.ownsRow base 71 17 vl N (repL M N)
 box : wr.heap[xb]? = some (.cells #[.int .i64 M, .int .i64 0, .int .i64 0, .int .i64 0, .int .i64 0, .int .i64 0, .int .i64 0, .int .i64 0, .int .i64 0, .int .i64 0, .int .i64 0, .int .i64 0, .int .i64 0, .int .i64 0, .int .i64 0, .int .i64 0, .int .i64 0] 71 (0, 0))
 bel : Below base w wr
 hbx : base <= xb
 hne : ∀ k, vl.ownBlock = some k -> k < xb
 hbs : base <= wr.heap.size
theorem StL.step {w wr w' : World} {base xb : Nat} {M : Int} {vl v' : Value} {N m : Nat} {o : Obj} (h : StL w wr base xb M vl N) (hown : w'.ownsRow base 71 17 v' (N + m) (repL M N ++ repL M m)) (hg : (wr.alloc o).grownBy w' vl.ownBlock)
 (hS : AppRoom (wr.alloc o) w' vl v' N m) :
 StL w w' base xb M vl N /\ w'.ownsRow base 71 17 v' (N + m) (repL M (N + m)) /\ ∀ (u : Value) (k : Nat), wr.ownsRow base 71 17 u k (repL M k) -> (u.ownBlock = vl.ownBlock -> k <= N + m) -> w'.ownsRow base 71 17 u k (repL M k) := by
 rw [repL_add] at hown
 have hk : ∀ (u : Value) (k : Nat), wr.ownsRow base 71 17 u k (repL M k) -> (u.ownBlock = vl.ownBlock -> k <= N + m) -> w'.ownsRow base 71 17 u k (repL M k) :=
  fun u k hu hle => keep_same (X := XL M) rfl (World.ownsRow.alloc h.own o) hown hg hS (World.ownsRow.alloc hu o) hle
 have hbx := lt_of_block h.box
 refine ⟨⟨hk vl N h.own (fun _ => by omega), ?_, (h.bel.alloc h.hbs o).grown hg (by have := h.hbs; simp; omega) (fun k hk => (World.ownsRow.lt h.own k hk).1), h.hbx, h.hne, ?_⟩, hown, hk⟩
 · rw [hg.block xb (by simp; omega) (fun e => by have := h.hne xb e.symm; omega), Below.heap_alloc _ _ _ hbx]; exact h.box
 · have h1 := hg.size; have h2 := h.hbs; simp at h1; omega
theorem L_own2 {w w1 : World} {base g N cap n : Nat} {M : Int} {cs : List Value} {cur : Array Value} (h : w.ownsRow base 71 17 (.slice (some ⟨g, 0, none⟩) N cap) N (repL M n ++ cs.drop (n * 17))) (hl : cs.length = N * 17) (hn : n < N) (hcur : At w g cur 71) (hat : At w1 g (putA cur (n * 17) (clC M zeroS).toList) 71) : w1.ownsRow base 71 17 (.slice (some ⟨g, 0, none⟩) N cap) N (repL M (n + 1) ++ cs.drop ((n + 1) * 17)) := by
 rw [<- L_set M cs n N hl hn]
 rcases h.2 with ⟨e, h2⟩ | ⟨g', cap', cur', e, hb, hh, h3, h4, h5, h6⟩
 · omega
 · simp only [Value.slice.injEq, Option.some.injEq, Addr.mk.injEq] at e
   obtain ⟨⟨rfl, _, _⟩, _, rfl⟩ := e
   have ec : cur' = cur := by
    unfold At at hcur
    rw [hcur] at hh
    simp at hh
    exact hh.symm
   subst ec
   refine ⟨by simp only [List.length_set]; exact h.1, Or.inr ⟨g, cap, putA cur' (n * 17) (clC M zeroS).toList, rfl, hb, hat, h3, h4, by rw [putA_size]; exact h5, ?_⟩⟩
   have ecl : (clC M zeroS).toList = XL M := rfl
   rw [ecl]
   unfold XL
   simp only [putA, Array.toList_setIfInBounds, List.take_set, h6, Nat.add_assoc, Nat.reduceAdd]
def XA (M : Int) (k : Nat) : Array Value := (repL M k).toArray
theorem wp_append_strong {P : Program} (w : World) {o : Oper} {a : Act} {K : Act -> World -> Prop} {Q : Exit -> Act -> World -> Prop} (s x : Operand) (t : TypeId)
 (ho : o.op = .call { callee := .builtin .append, args := #[s, x], argTypes := #[t, t] })
 (base : Nat) (e : TypeId) (i : TypeInfo) (z : Value) (size bytes : Nat) (ht : P.underlying t = some (.slice e)) (hi : P.info? e = some i) (hz : i.zero = some z)
 (hsize : i.size = size) (hby : i.bytes = bytes) (hzs : z.cells.size = size) (hsz : 0 < size)
 (v : Value) (n : Nat) (xs : List Value) (hs : a.eval s = v) (hown : w.ownsRow base e size v n xs)
 (ad : Addr) (m c : Nat) (news : List Value) (hx : a.eval x = .slice (some ad) m c) (hl : news.length = m * size) (hnews : ∀ j u, news[j]? = some u -> w.cell? (ad.add j) = some u) (h1 : ∀ u ∈ news, u.oneCell' = true)
 (hm : 0 < m) (h63 : n + m <= maxLen) (hbytes : (n + m) * bytes <= 140737488355328) (hbase : base <= w.heap.size)
 (h : ∀ v' w', w'.ownsRow base e size v' (n + m) (xs ++ news) -> w.grownBy w' v.ownBlock -> AppRoom w w' v v' n m -> K (a.put o.dst v') w') : o.wp P a w K Q := by
 obtain ⟨v', w', hr, h2, h3, h4⟩ := run_append_strong (P := P) w base t o.type e i z size bytes ht hi hz hsize hby hzs hsz v n xs hown ad m c news hl hnews h1 hm h63 hbytes hbase
 unfold Oper.wp execOp
 simp only [ho, resolve, invoke, builtin, Sem.run_bind, Sem.run_pure, Result.andThen_ok, List.map_toArray, List.map_cons, List.map_nil, hs, hx, hr]
 exact h v' w' h2 h3 h4
section
variable {l : List Oper} {Q : Exit -> Act -> World -> Prop} {F : Nat -> Bool} {S : World -> Prop} {i : Nat} {r : OT} {a : Act} {w : World} {d : Option Tmp} {x y z : Operand} {tt : TypeId} {pos : String} {aft : Array Edge} {g : Option (Nat × Bool)}
theorem sBuildL1 {M : Int} {C : Array Value} (hC : C = clC M zeroS) (h : ∀ w1, w1 = w.alloc (.cells (XA M 1) 71) -> (F i = true -> S w1) /\ wpT Tryz.prog l Q F S r (a.put d (.slice (some ⟨w.heap.size, 0, none⟩) 1 1)) w1) (ho : nthO i l = some ⟨d, .buildSlice 51 1 #[(0, x)], tt, pos, aft, g⟩ := by rfl) (hw : Region.wanted ⟨d, .buildSlice 51 1 #[(0, x)], tt, pos, aft, g⟩ (yielded l.toArray a.tmps) = true := by rfl) (hx0 : a.eval x = .agg C := by rfl) : wpT Tryz.prog l Q F S (.op i r) a w := by
 subst hC
 obtain ⟨ie, hie, hz⟩ : ∃ ie, Tryz.prog.info? 71 = some ie /\ (ie.size = 17 /\ ie.zero = some (.agg (clC 0 zeroS))) := by
  obtain ⟨ie, hi, h2⟩ := Option.map_eq_some_iff.1 (show (Tryz.prog.info? 71).map (fun i => (i.size, i.zero)) = some (17, some (.agg (clC 0 zeroS))) by kernel_rfl)
  simp only [Prod.mk.injEq] at h2
  exact ⟨ie, hi, h2⟩
 refine tActK ho rfl hw fun K hK => wp_buildSlice 51 71 1 _ rfl (XA M 1) ie _ Tryz.underlying51 hie hz.2 (by rw [hz.1]; omega) (by rw [hz.1]; omega) ?_ ?_
 · rw [hz.1]
   have e : (#[(0, x)].map fun (i, x) => (i, a.eval x)).toList = [(0, Value.agg (clC M zeroS))] := by simp [hx0]
   rw [e]
   have e2 : Instr.fill (fun i => some (i * 17, 17)) ((Array.range (1 * 17)).map ((Value.agg (clC 0 zeroS)).cells[· % (Value.agg (clC 0 zeroS)).cells.size]!)) [(0, Value.agg (clC M zeroS))] = some (XA M 1) := by kernel_rfl
   exact e2
 · have := h _ rfl
   exact hK _ _ this.1 this.2
theorem sBuildL2 {M : Int} {C : Array Value} (hC : C = clC M zeroS) (h : ∀ w1, w1 = w.alloc (.cells (XA M 2) 71) -> (F i = true -> S w1) /\ wpT Tryz.prog l Q F S r (a.put d (.slice (some ⟨w.heap.size, 0, none⟩) 2 2)) w1) (ho : nthO i l = some ⟨d, .buildSlice 51 2 #[(0, x), (1, y)], tt, pos, aft, g⟩ := by rfl) (hw : Region.wanted ⟨d, .buildSlice 51 2 #[(0, x), (1, y)], tt, pos, aft, g⟩ (yielded l.toArray a.tmps) = true := by rfl) (hx0 : a.eval x = .agg C := by rfl) (hx1 : a.eval y = .agg C := by rfl) : wpT Tryz.prog l Q F S (.op i r) a w := by
 subst hC
 obtain ⟨ie, hie, hz⟩ : ∃ ie, Tryz.prog.info? 71 = some ie /\ (ie.size = 17 /\ ie.zero = some (.agg (clC 0 zeroS))) := by
  obtain ⟨ie, hi, h2⟩ := Option.map_eq_some_iff.1 (show (Tryz.prog.info? 71).map (fun i => (i.size, i.zero)) = some (17, some (.agg (clC 0 zeroS))) by kernel_rfl)
  simp only [Prod.mk.injEq] at h2
  exact ⟨ie, hi, h2⟩
 refine tActK ho rfl hw fun K hK => wp_buildSlice 51 71 2 _ rfl (XA M 2) ie _ Tryz.underlying51 hie hz.2 (by rw [hz.1]; omega) (by rw [hz.1]; omega) ?_ ?_
 · rw [hz.1]
   have e : (#[(0, x), (1, y)].map fun (i, x) => (i, a.eval x)).toList = [(0, Value.agg (clC M zeroS)), (1, Value.agg (clC M zeroS))] := by simp [hx0, hx1]
   rw [e]
   have e2 : Instr.fill (fun i => some (i * 17, 17)) ((Array.range (2 * 17)).map ((Value.agg (clC 0 zeroS)).cells[· % (Value.agg (clC 0 zeroS)).cells.size]!)) [(0, Value.agg (clC M zeroS)), (1, Value.agg (clC M zeroS))] = some (XA M 2) := by kernel_rfl
   exact e2
 · have := h _ rfl
   exact hK _ _ this.1 this.2
theorem sBuildL3 {M : Int} {C : Array Value} (hC : C = clC M zeroS) (h : ∀ w1, w1 = w.alloc (.cells (XA M 3) 71) -> (F i = true -> S w1) /\ wpT Tryz.prog l Q F S r (a.put d (.slice (some ⟨w.heap.size, 0, none⟩) 3 3)) w1) (ho : nthO i l = some ⟨d, .buildSlice 51 3 #[(0, x), (1, y), (2, z)], tt, pos, aft, g⟩ := by rfl) (hw : Region.wanted ⟨d, .buildSlice 51 3 #[(0, x), (1, y), (2, z)], tt, pos, aft, g⟩ (yielded l.toArray a.tmps) = true := by rfl) (hx0 : a.eval x = .agg C := by rfl) (hx1 : a.eval y = .agg C := by rfl) (hx2 : a.eval z = .agg C := by rfl) : wpT Tryz.prog l Q F S (.op i r) a w := by
 subst hC
 obtain ⟨ie, hie, hz⟩ : ∃ ie, Tryz.prog.info? 71 = some ie /\ (ie.size = 17 /\ ie.zero = some (.agg (clC 0 zeroS))) := by
  obtain ⟨ie, hi, h2⟩ := Option.map_eq_some_iff.1 (show (Tryz.prog.info? 71).map (fun i => (i.size, i.zero)) = some (17, some (.agg (clC 0 zeroS))) by kernel_rfl)
  simp only [Prod.mk.injEq] at h2
  exact ⟨ie, hi, h2⟩
 refine tActK ho rfl hw fun K hK => wp_buildSlice 51 71 3 _ rfl (XA M 3) ie _ Tryz.underlying51 hie hz.2 (by rw [hz.1]; omega) (by rw [hz.1]; omega) ?_ ?_
 · rw [hz.1]
   have e : (#[(0, x), (1, y), (2, z)].map fun (i, x) => (i, a.eval x)).toList = [(0, Value.agg (clC M zeroS)), (1, Value.agg (clC M zeroS)), (2, Value.agg (clC M zeroS))] := by simp [hx0, hx1, hx2]
   rw [e]
   have e2 : Instr.fill (fun i => some (i * 17, 17)) ((Array.range (3 * 17)).map ((Value.agg (clC 0 zeroS)).cells[· % (Value.agg (clC 0 zeroS)).cells.size]!)) [(0, Value.agg (clC M zeroS)), (1, Value.agg (clC M zeroS)), (2, Value.agg (clC M zeroS))] = some (XA M 3) := by kernel_rfl
   exact e2
 · have := h _ rfl
   exact hK _ _ this.1 this.2
end
theorem claim_any (wb B base : Nat) (vd vl lv vi vv : Value) (xs : List Value) (N : Nat) (cs : List Value) (w : World) (hw : w.heap[wb]? = some (.cells #[lv, vi, vv, vd] 50 (0, 0)))
 (hd : DList w B 51 71 17 markL vd xs) (hn : xs.length < 5000000000000) (hl : w.ownsRow base 71 17 vl N cs) (hB : B <= base) (hbs : base <= w.heap.size) (hwb : wb < base) (hvd : ∀ k, vd.ownBlock = some k -> k < base) (hold : ∀ k (h : k < xs.length) b, xs[k].ownBlock = some b -> b < base) (hL : N <= 900) :
 Calls Tryz.prog 54 #[.pointer (some ⟨wb, 1, none⟩), vl] w fun e w' => e = .returned (.tuple #[]) /\ ∃ vd' xs', xs'.length = xs.length + 4 /\ w'.heap[wb]? = some (.cells #[lv, vi, vv, vd'] 50 (0, 0)) /\ DList w' B 51 71 17 markL vd' xs' /\ Fr w w' base wb vd.ownBlock := by
 obtain ⟨i0, ihi, ih0, ihs, ih2⟩ := info_parts Tryz.infoL
 obtain ⟨j0, jhi, jh0, jhs, jh2⟩ := info_parts Tryz.infoLS
 have q1 : w.cell? ⟨wb, 3, none⟩ = some vd := by rw [cell_of_row _ _ _ _ _ _ hw]; rfl
 obtain ⟨hd1, hd2, hd3⟩ := hd
 obtain ⟨ad, cd, hvde⟩ := own_len hd1
 obtain ⟨al, cl, hvl⟩ := own_len hl
 have HVD := hide hvde
 rw [hvde] at q1
 clear hvde
 subst hvl
 have hcl : cs.length = N * 17 := hl.1
 go_enter Tryz.func54, Tryz.ntmps54
 go_wp2_with fail
 refine (mark_any _ _ (by omega)).mono ?_
 rintro e w' ⟨rfl, rfl⟩
 obtain ⟨M, hM⟩ : ∃ M, M = mrkI xs.length := ⟨_, rfl⟩
 rw [<- hM]
 have HM := hide hM
 clear hM
 go_wp2_with fail
 generalize hW : w.alloc (.cells #[.int .i64 M, .int .i64 0, .int .i64 0, .int .i64 0, .int .i64 0, .int .i64 0, .int .i64 0, .int .i64 0, .int .i64 0, .int .i64 0, .int .i64 0, .int .i64 0, .int .i64 0, .int .i64 0, .int .i64 0, .int .i64 0, .int .i64 0] 71) = w1
 have hX1 : w1.heap[w.heap.size]? = some (.cells #[.int .i64 M, .int .i64 0, .int .i64 0, .int .i64 0, .int .i64 0, .int .i64 0, .int .i64 0, .int .i64 0, .int .i64 0, .int .i64 0, .int .i64 0, .int .i64 0, .int .i64 0, .int .i64 0, .int .i64 0, .int .i64 0, .int .i64 0] 71 (0, 0)) := by rw [<- hW]; exact heap_alloc_new _ _
 have hb1 : Below base w w1 := by rw [<- hW]; exact (Below.refl _ _).alloc hbs _
 have hl1 : w1.ownsRow base 71 17 (.slice al N cl) N cs := by rw [<- hW]; exact World.ownsRow.alloc hl _
 have hs1 : w.heap.size + 1 <= w1.heap.size := by rw [<- hW]; simp
 have hlt1 : ∀ k, (Value.slice al N cl).ownBlock = some k -> k < w.heap.size := fun k hk => (World.ownsRow.lt hl k hk).2
 have HLT := hide hlt1
 have HCL := hide hcl
 clear hW hlt1 hl q1 hcl
 go_loopw [5] (fun j wr => ∃ n : Nat, n <= N /\ j = .int .i64 n /\ wr.ownsRow base 71 17 (.slice al N cl) N (repL M n ++ cs.drop (n * 17)) /\ wr.heap[w.heap.size]? = some (.cells #[.int .i64 M, .int .i64 0, .int .i64 0, .int .i64 0, .int .i64 0, .int .i64 0, .int .i64 0, .int .i64 0, .int .i64 0, .int .i64 0, .int .i64 0, .int .i64 0, .int .i64 0, .int .i64 0, .int .i64 0, .int .i64 0, .int .i64 0] 71 (0, 0)) /\ Below base w wr /\ w.heap.size + 1 <= wr.heap.size) (fun j _ => N - (intOf j).toNat)
 case atStart => exact ⟨0, by omega, rfl, by simpa [repL] using hl1, hX1, hb1, hs1⟩
 case round =>
  clear hl1 hX1 hb1 hs1
  obtain ⟨n, hnl, rfl, hown, hX, hbl, hsz⟩ := hrel
  by_cases hlt : n < N
  · have hg : ∃ g cur, al = some ⟨g, 0, none⟩ /\ base <= g /\ At wr g cur 71 /\ N * 17 <= cur.size /\ cur.toList.take (N * 17) = repL M n ++ cs.drop (n * 17) := by
     rcases hown.2 with ⟨h, h2⟩ | ⟨g, cap, cur, h, hb, hh, h3, h4, h5, h6⟩
     · omega
     · simp only [Value.slice.injEq] at h
       refine ⟨g, cur, h.1, hb, hh, ?_, h6⟩
       have := congrArg List.length h6
       rw [List.length_take, hown.1, Array.length_toList] at this
       omega
    obtain ⟨g, cur, rfl, hbg, hcur, hcs, htk⟩ := hg
    have hgx : g < w.heap.size := HLT.out g rfl
    have hgm : w.heap.size ∉ [g] := by simp; omega
    obtain ⟨C, hC⟩ : ∃ C, C = clC M zeroS := ⟨_, rfl⟩
    have hCn : C.size = 17 := by rw [hC]; rfl
    have hCx : C.extract 0 (0 + 17) = C := by rw [hC]; rfl
    have hbx : At wr w.heap.size C 71 := by rw [hC]; exact hX
    have hC1 : C.toList.all (·.oneCell') = true := by rw [hC]; rfl
    have HC := hide hC
    clear hC
    have hk : Kn [g] wr wr [(g, cur, 71)] := ⟨Mod.refl _ _, fun x hx => by simp at hx; subst hx; exact ⟨hcur, Or.inr (by simp)⟩, by simp⟩
    have HX := hide hX
    have HBL := hide hbl
    have HO := hide hown
    have hj : n * 17 + 17 <= cur.size := by have : (n + 1) * 17 <= N * 17 := Nat.mul_le_mul_right _ hlt; omega
    clear hX hbl hown
    go_wp2_with (first | ((with_reducible show wpList _ _ _ (⟨some 24, _, _, _, _, _⟩ :: _) _ _); refine wOldR hk ?_ (hc := hCx) (hn := hCn); simp only [pw]) | ((with_reducible show wpList _ _ _ (⟨none, _, _, _, _, _⟩ :: _) _ _); refine wStoreR hk ?_ (hn := hCn) (hj := hj) (h1 := hC1) (hA := rfl); clear hk; intro w1 hk; simp only [pw]) | ((with_reducible apply gL); (first | refine wS hk ?_ | (refine wN hk ?_; clear hk; intro w1 hk)); simp only [pw]))
    have hat : At w1 g (putA cur (n * 17) (clC M zeroS).toList) 71 := by rw [<- HC.out]; exact (hk.has _ List.mem_cons_self).1
    have HO2 := hide (L_own2 HO.out HCL.out hlt hcur hat)
    have HM2 := hide hk.mod
    clear hat
    go_roundw
    case rel => exact ⟨n + 1, by omega, by go_num, HO2.out, by rw [HM2.out.block _ (by omega) hgm]; exact HX.out, ⟨HM2.out.os.trans HBL.out.os, HM2.out.tape.trans HBL.out.tape, HM2.out.output.trans HBL.out.output, Nat.le_trans HBL.out.size HM2.out.size, fun k hk' => (HM2.out.block k (by omega) (by simp; omega)).trans (HBL.out.block k hk')⟩, by have := HM2.out.size; omega⟩
    case measure => simp [intOf]; omega
  · have P0 : StL w wr base w.heap.size M (.slice al N cl) N := by
     refine ⟨?_, hX, hbl, hbs, HLT.out, by omega⟩
     have en : n = N := by omega
     subst en
     rw [List.drop_of_length_le (by rw [HCL.out]; exact Nat.le_refl _), List.append_nil] at hown
     exact hown
    clear hown hX hbl
    obtain ⟨C, hC⟩ : ∃ C, C = clC M zeroS := ⟨_, rfl⟩
    have hCn : C.size = 17 := by rw [hC]; rfl
    have hCx : C.extract 0 (0 + 17) = C := by rw [hC]; rfl
    have hMX : w.heap.size ∉ ownM (.slice al N cl) := fun h => by unfold ownM at h; have := HLT.out w.heap.size (by simpa using h); omega
    have hX0 : At wr w.heap.size C 71 := by rw [hC]; exact P0.box
    have hk := Kn.nil (ownM (.slice al N cl)) wr
    have HC := hide hC
    clear hC
    have HP := hide P0
    clear P0
    go_upto_region 5 with ((with_reducible apply gL); (first | refine wS hk ?_ | (refine wN hk ?_; clear hk; intro w1 hk)); simp only [pw])
    (refine wp_regLK hk (.op 0 (.op 1 (.op 2 (.op 3 (.op 4 .nil))))) (by rfl) ?_)
    refine uMoveS hk ?_; simp only [pw]
    refine sOldR hk ?_ (hc := hCx) (hn := hCn); simp only [pw]
    refine sBuildL1 HC.out ?_; intro w2 hw2; refine ⟨fun h => absurd h (by decide), ?_⟩; simp only [pw]
    subst hw2
    refine tActK (by rfl) (by rfl) (by rfl) (fun K hK => wp_append_strong _ (.tmp 26) (.tmp 28) 51 rfl base 71 i0 _ 17 136 Tryz.underlying51 ihi ih0 ihs ih2 rfl (by decide) (.slice al N cl) N (repL M N) (by rfl) (World.ownsRow.alloc HP.out.own _) ⟨wr.heap.size, 0, none⟩ 1 1 (repL M 1) (by rfl) rfl (row_new _ _ _ _ _ rfl rfl) (repL_one M 1) (by omega) (by unfold maxLen; omega) (by omega) (by have := HP.out.hbs; simp; omega) (fun va wa hva hga hSa => hK _ _ (fun h => absurd h (by decide)) ?_))
    have P1 := HP.out.step hva hga hSa
    obtain ⟨ava, cva, rfl⟩ := own_len P1.2.1
    have hOva := P1.2.1
    have hm4 : Mod (ownM (.slice al N cl)) wr wa := (Mod.weak (M := []) (Mod.alloc _ _ _) (fun _ h => (by cases h))).trans (grown_mod hga)
    replace hk := hk.grow hm4 (fun x hx => (by cases hx))
    clear HP hva hga hSa hm4
    have HP := hide P1.1
    clear P1
    simp only [pw]
    refine uAssignS hk ?_; simp only [pw]
    refine tNil ?_
    clear hX0 hk
    have hX0 : At wa w.heap.size C 71 := by rw [HC.out]; exact HP.out.box
    have hk := Kn.nil (ownM (.slice al N cl)) wa
    go_upto_region 6 with ((with_reducible apply gL); (first | refine wS hk ?_ | (refine wN hk ?_; clear hk; intro w1 hk)); simp only [pw])
    (refine wp_regLK hk (.op 0 (.op 1 (.op 2 (.op 3 (.op 4 (.op 5 .nil)))))) (by rfl) ?_)
    refine uMoveS hk ?_; simp only [pw]
    refine sOldR hk ?_ (hc := hCx) (hn := hCn); simp only [pw]
    refine sOldR hk ?_ (hc := hCx) (hn := hCn); simp only [pw]
    refine sBuildL2 HC.out ?_; intro w2 hw2; refine ⟨fun h => absurd h (by decide), ?_⟩; simp only [pw]
    subst hw2
    refine tActK (by rfl) (by rfl) (by rfl) (fun K hK => wp_append_strong _ (.tmp 30) (.tmp 33) 51 rfl base 71 i0 _ 17 136 Tryz.underlying51 ihi ih0 ihs ih2 rfl (by decide) (.slice al N cl) N (repL M N) (by rfl) (World.ownsRow.alloc HP.out.own _) ⟨wa.heap.size, 0, none⟩ 2 2 (repL M 2) (by rfl) rfl (row_new _ _ _ _ _ rfl rfl) (repL_one M 2) (by omega) (by unfold maxLen; omega) (by omega) (by have := HP.out.hbs; simp; omega) (fun vb wb2 hva hga hSa => hK _ _ (fun h => absurd h (by decide)) ?_))
    have P1 := HP.out.step hva hga hSa
    obtain ⟨avb, cvb, rfl⟩ := own_len P1.2.1
    have hOvb := P1.2.1
    replace hOva := P1.2.2 _ (N + 1) hOva (fun _ => by omega)
    have hm4 : Mod (ownM (.slice al N cl)) wa wb2 := (Mod.weak (M := []) (Mod.alloc _ _ _) (fun _ h => (by cases h))).trans (grown_mod hga)
    replace hk := hk.grow hm4 (fun x hx => (by cases hx))
    clear HP hva hga hSa hm4
    have HP := hide P1.1
    clear P1
    simp only [pw]
    refine uAssignS hk ?_; simp only [pw]
    refine tNil ?_
    clear hX0 hk
    have hX0 : At wb2 w.heap.size C 71 := by rw [HC.out]; exact HP.out.box
    have hk := Kn.nil (ownM (.slice al N cl)) wb2
    go_upto_region 7 with ((with_reducible apply gL); (first | refine wS hk ?_ | (refine wN hk ?_; clear hk; intro w1 hk)); simp only [pw])
    (refine wp_regLK hk (.op 0 (.op 1 (.op 2 (.op 3 (.op 4 (.op 5 (.op 6 .nil))))))) (by rfl) ?_)
    refine uMoveS hk ?_; simp only [pw]
    refine sOldR hk ?_ (hc := hCx) (hn := hCn); simp only [pw]
    refine sOldR hk ?_ (hc := hCx) (hn := hCn); simp only [pw]
    refine sOldR hk ?_ (hc := hCx) (hn := hCn); simp only [pw]
    refine sBuildL3 HC.out ?_; intro w2 hw2; refine ⟨fun h => absurd h (by decide), ?_⟩; simp only [pw]
    subst hw2
    refine tActK (by rfl) (by rfl) (by rfl) (fun K hK => wp_append_strong _ (.tmp 35) (.tmp 39) 51 rfl base 71 i0 _ 17 136 Tryz.underlying51 ihi ih0 ihs ih2 rfl (by decide) (.slice al N cl) N (repL M N) (by rfl) (World.ownsRow.alloc HP.out.own _) ⟨wb2.heap.size, 0, none⟩ 3 3 (repL M 3) (by rfl) rfl (row_new _ _ _ _ _ rfl rfl) (repL_one M 3) (by omega) (by unfold maxLen; omega) (by omega) (by have := HP.out.hbs; simp; omega) (fun vc wc hva hga hSa => hK _ _ (fun h => absurd h (by decide)) ?_))
    have P1 := HP.out.step hva hga hSa
    obtain ⟨avc, cvc, rfl⟩ := own_len P1.2.1
    have hOvc := P1.2.1
    replace hOva := P1.2.2 _ (N + 1) hOva (fun _ => by omega)
    replace hOvb := P1.2.2 _ (N + 2) hOvb (fun _ => by omega)
    have hm4 : Mod (ownM (.slice al N cl)) wb2 wc := (Mod.weak (M := []) (Mod.alloc _ _ _) (fun _ h => (by cases h))).trans (grown_mod hga)
    replace hk := hk.grow hm4 (fun x hx => (by cases hx))
    clear HP hva hga hSa hm4
    have HP := hide P1.1
    clear P1
    simp only [pw]
    refine uAssignS hk ?_; simp only [pw]
    refine tNil ?_
    clear hX0 hk
    have hX0 : At wc w.heap.size C 71 := by rw [HC.out]; exact HP.out.box
    have hk := Kn.nil (ownM (.slice al N cl)) wc
    clear hk hX0 hMX hCn hCx
    have P3 := HP.out
    have hbs3 := P3.hbs
    have hwc : wc.heap[wb]? = some (.cells #[lv, vi, vv, vd] 50 (0, 0)) := by rw [P3.bel.block wb hwb]; exact hw
    have hwlt := lt_of_block hwc
    have q1 : wc.cell? ⟨wb, 3, none⟩ = some (.slice ad xs.length cd) := by rw [cell_of_row _ _ _ _ _ _ hwc, <- HVD.out]; rfl
    have fz : wc.frozen? ⟨wb, 3, none⟩ = false := by simp [World.frozen?, hwc]
    have hdc : wc.ownsRow B 51 1 (.slice ad xs.length cd) xs.length xs := by
     rw [<- HVD.out]; exact own_block hd1 (fun k hk _ => P3.bel.block k (hvd k hk))
    go_wp2_with (at_builtin; go_must (refine wpList_append_own _ rfl (.tmp 45) (.tmp 50) 46 rfl B 51 j0 _ 1 24 Tryz.underlying46 jhi jh0 jhs jh2 rfl (by decide) (.slice ad xs.length cd) xs.length xs rfl ?o4 ⟨wc.heap.size, 0, none⟩ 4 4 [.slice al N cl, .slice ava (N + 1) cva, .slice avb (N + 2) cvb, .slice avc (N + 3) cvc] rfl rfl ?n4 ?u4 ?m4 ?b4 ?s4 ?_))
    case o4 => exact World.ownsRow.alloc hdc _
    case n4 => exact row_new _ _ _ _ _ rfl rfl
    case u4 => intro u hu; simp at hu; rcases hu with rfl | rfl | rfl | rfl <;> rfl
    case m4 => unfold maxLen; omega
    case b4 => omega
    case s4 => simp; omega
    intro vd' wd hvd' hgd' _
    obtain ⟨ad', cd', rfl⟩ := own_len hvd'
    have hneb : ∀ (k : Nat) (A : Array Value), wc.heap[k]? = some (Obj.cells A 71 (0, 0)) -> wd.heap[k]? = wc.heap[k]? := by
     intro k A hk
     have hlt := lt_of_block hk
     rw [hgd'.block k (by simp; omega) ?_, Below.heap_alloc _ _ _ hlt]
     intro hx
     rcases hdc.2 with ⟨h, _⟩ | ⟨g, cap, cur, h, _, hh, _⟩
     · rw [h] at hx; cases hx
     · rw [h] at hx
       simp [Value.ownBlock] at hx
       subst hx
       rw [hk] at hh; simp at hh
    have hwd : wd.heap[wb]? = some (.cells #[lv, vi, vv, vd] 50 (0, 0)) := by
     rw [hgd'.block wb (by simp; omega) ?_, Below.heap_alloc _ _ _ hwlt]
     · exact hwc
     · intro hx
       rcases hdc.2 with ⟨h, _⟩ | ⟨g, cap, cur, h, _, hh, _⟩
       · rw [h] at hx; cases hx
       · rw [h] at hx
         simp [Value.ownBlock] at hx
         subst hx
         rw [hwc] at hh; simp at hh
    have q2 : wd.cell? ⟨wb, 3, none⟩ = some vd := by rw [cell_of_row _ _ _ _ _ _ hwd]; rfl
    have fz2 : wd.frozen? ⟨wb, 3, none⟩ = false := by simp [World.frozen?, hwd]
    have hsd := hgd'.size
    simp at hsd
    clear q1 fz
    have HN := hide hneb
    have HP3 := hide P3
    clear hneb P3
    go_wp2
    go_end0
    have P3 := HP3.out
    have keep : ∀ (k : Nat) (A : Array Value), wc.heap[k]? = some (Obj.cells A 71 (0, 0)) -> (wd.setCell ⟨wb, 3, none⟩ (.slice ad' (xs.length + 4) cd')).heap[k]? = wc.heap[k]? := by
     intro k A hk
     rw [Below.heap_setCell _ _ _ _ (fun e => by simp at e; subst e; rw [hwc] at hk; simp at hk)]
     exact HN.out k A hk
    have kl : ∀ (u : Value) (m : Nat), wc.ownsRow base 71 17 u m (repL M m) -> (wd.setCell ⟨wb, 3, none⟩ (.slice ad' (xs.length + 4) cd')).ownsRow B 71 17 u m (repL M m) := fun u m hu =>
     own_base (own_block hu (fun k _ ⟨A, hA⟩ => keep k A hA)) hB
    refine ⟨rfl, .slice ad' (xs.length + 4) cd', xs ++ [.slice al N cl, .slice ava (N + 1) cva, .slice avb (N + 2) cvb, .slice avc (N + 3) cvc], by simp, ?_, ⟨?_, ?_, ?_⟩, ?_⟩
    · rw [set_block hwd]; rfl
    · rw [List.length_append]
      refine own_block hvd' (fun k hk ⟨A, hA⟩ => Below.heap_setCell _ _ _ _ (fun e => ?_))
      simp at e
      subst e
      rw [hwd] at hA; simp at hA
    · simp; omega
    · intro k hk
      by_cases hk2 : k < xs.length
      · obtain ⟨m, hm, ho⟩ := hd3 k hk2
        refine ⟨m, hm, ?_⟩
        rw [List.getElem_append_left hk2]
        exact own_block ho (fun b hb ⟨A, hA⟩ => (keep b A (by rw [P3.bel.block b (hold k hk2 b hb)]; exact hA)).trans (P3.bel.block b (hold k hk2 b hb)))
      · have hmk : markL k = XL M := by
         have := mrkI_same xs.length k hd2 (by omega) (by simp at hk; omega)
         unfold markL; rw [this, HM.out]
        rw [hmk]
        simp at hk
        have : k = xs.length \/ k = xs.length + 1 \/ k = xs.length + 2 \/ k = xs.length + 3 := by omega
        rcases this with rfl | rfl | rfl | rfl
        · refine ⟨N, by omega, ?_⟩
          rw [List.getElem_append_right (by omega)]
          simpa [repL] using kl _ _ P3.own
        · refine ⟨N + 1, by omega, ?_⟩
          rw [List.getElem_append_right (by omega)]
          simpa [repL] using kl _ _ hOva
        · refine ⟨N + 2, by omega, ?_⟩
          rw [List.getElem_append_right (by omega)]
          simpa [repL] using kl _ _ hOvb
        · refine ⟨N + 3, by omega, ?_⟩
          rw [List.getElem_append_right (by omega)]
          simpa [repL] using kl _ _ hOvc
    · refine ⟨hgd'.os.trans P3.bel.os, hgd'.tape.trans P3.bel.tape, hgd'.output.trans P3.bel.output, ?_, fun k hk1 hk2 hk3 => ?_⟩
      · have := P3.bel.size; simp [World.setCell]; omega
      · rw [Below.heap_setCell _ _ _ _ (by exact hk2), hgd'.block k (by simp; omega) (by rw [<- HVD.out]; exact hk3), Below.heap_alloc _ _ _ (by omega)]
        exact P3.bel.block k hk1
end Go.Proofs.YtamiichlbmllcabGreatDoor
