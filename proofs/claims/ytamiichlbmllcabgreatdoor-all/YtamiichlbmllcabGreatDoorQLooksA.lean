import Derived.Test.YtamiichlbmllcabGreatDoorQThTab
import Derived.Test.YtamiichlbmllcabGreatDoorQSamC
import Derived.Test.YtamiichlbmllcabGreatDoorQClaimed
import Derived.Test.YtamiichlbmllcabGreatDoorQLawA
import Derived.Test.YtamiichlbmllcabGreatDoorQRefRunA
import Derived.Deep.RegionHeld3
set_option maxRecDepth 100000
set_option maxHeartbeats 32000000
namespace Go.Proofs.YtamiichlbmllcabGreatDoor
open Go.RowKit
theorem mark_q (n : Nat) (w : World) (h : n < 1000000000000000) :
 Calls Tryz.prog 23 #[.int .i64 n] w fun e w' => e = .returned (.int .i64 (mrkI n)) /\ w' = w :=
 (mark_any n w h).mono fun _ _ ⟨h1, h2⟩ => ⟨h1, h2.symm⟩
theorem DList.below {w w' : World} {B st et size : Nat} {X : Nat -> List Value} {v : Value} {xs : List Value} (h : DList w B st et size X v xs) (hb : Below w.heap.size w w') : DList w' B st et size X v xs := by
 obtain ⟨h1, h2, h3⟩ := h
 refine ⟨own_block h1 (fun k hk _ => hb.block k (World.ownsRow.lt h1 k hk).2), h2, fun k hk => ?_⟩
 obtain ⟨m, hm, ho⟩ := h3 k hk
 exact ⟨m, hm, own_block ho (fun b hb' _ => hb.block b (World.ownsRow.lt ho b hb').2)⟩
theorem rep_get (Y : List Value) (size m i f : Nat) (hY : Y.length = size) (hi : i < m) (hf : f < Y.length) : ((List.replicate m Y).flatten)[i * size + f]? = Y[f]? := by
 induction m generalizing i with
 | zero => omega
 | succ m ih =>
   rw [List.replicate_succ, List.flatten_cons]
   match i with
   | 0 => rw [Nat.zero_mul, Nat.zero_add, List.getElem?_append_left hf]
   | i + 1 =>
     rw [List.getElem?_append_right (by rw [hY, Nat.add_mul]; omega), show (i + 1) * size + f - Y.length = i * size + f by rw [hY, Nat.add_mul]; omega]
     exact ih i (by omega)
theorem DList.len {w : World} {B st et size : Nat} {X : Nat -> List Value} {v : Value} {xs : List Value} (h : DList w B st et size X v xs) : ∃ a c, v = .slice a xs.length c := own_len h.1
theorem DList.at {w : World} {B st et size : Nat} {X : Nat -> List Value} {v : Value} {xs : List Value} (h : DList w B st et size X v xs) (k : Nat) (hk : k < xs.length) :
 ∃ g c a m c2, v = .slice (some ⟨g, 0, none⟩) xs.length c /\ w.cell? ⟨g, k, none⟩ = some (.slice a m c2) /\ m <= 1000 /\ ∀ i, i < m -> ∃ g2, a = some ⟨g2, 0, none⟩ /\ ∀ f u, (X k)[f]? = some u -> (X k).length = size -> w.cell? ⟨g2, i * size + f, none⟩ = some u := by
 obtain ⟨h1, h2, h3⟩ := h
 obtain ⟨m, hm, ho⟩ := h3 k hk
 obtain ⟨a, c2, he⟩ := own_len ho
 have h1' := h1
 rcases h1.2 with ⟨_, hz⟩ | ⟨g, cap, cur, rfl, _⟩
 · omega
 · refine ⟨g, cap, a, m, c2, rfl, ?_, hm, fun i hi => ?_⟩
   · have := World.ownsRow.cells h1' rfl k (xs[k]) (List.getElem?_eq_getElem hk)
     rw [addr_add, Nat.zero_add] at this
     rw [this, he]
   · have ho' := ho
     rcases ho.2 with ⟨_, hz⟩ | ⟨g2, cap2, cur2, he2, _⟩
     · omega
     · rw [he] at he2
       simp only [Value.slice.injEq] at he2
       refine ⟨g2, he2.1, fun f u hf hX => ?_⟩
       have hfl := (List.getElem?_eq_some_iff.1 hf).1
       have hown : (xs[k]).ownBlock = some g2 := by rw [he, he2.1]; rfl
       have hflat : ((List.replicate m (X k)).flatten)[i * size + f]? = some u := by rw [rep_get (X k) size m i f hX hi hfl]; exact hf
       have := World.ownsRow.cells ho' hown (i * size + f) u hflat
       rw [addr_add, Nat.zero_add] at this
       exact this
theorem proved_any (l : List I5) (e : St) (h64 : ∀ i, i < l.length -> I64 (insAt l i).k) (he : e.in64) (k on fu sv : Value) (r : Nat -> Value) (pv cv : Value) (wb B : Nat) (lv vi vv vd : Value) (xs : List Value) (w : World) (hs : Shapes w) (hp : Arg w pv l) (hlen : l.length * 40 <= 140737488351232) (hw : w.heap[wb]? = some (.cells #[lv, vi, vv, vd] 50 (0, 0))) (hd : DList w B 51 71 17 markL vd xs) (hB : B <= w.heap.size) (hn : xs.length < 5000000000000) :
 Calls Tryz.prog 20 #[.pointer (some ⟨wb, 0, none⟩), .agg (opC k on fu pv sv e cv r)] w fun x w' => x = .returned (.bool true) /\ ∃ vd' xs', xs'.length = xs.length + 4 /\ w'.heap[wb]? = some (.cells #[lv, vi, vv, vd'] 50 (0, 0)) /\ DList w' B 51 71 17 markL vd' xs' /\ Fr w w' w.heap.size wb vd.ownBlock := by
 have hk := Kn.nil [] w
 have HS := hide hs
 have HP := hide hp
 have H64 := hide h64
 have HEI := hide he
 have HW := hide hw
 have HD := hide hd
 have hwl := lt_of_block hw
 clear hs hp h64 he hw hd
 go_enter Tryz.func20, Tryz.ntmps20
 go_wp2_with (first | (refine wLoad1 hk ?_ (hv := op_3 _ _ _ _ _ _ _ _); simp only [pw]) | (refine wLoadR hk ?_ (hc := ex_op _ _ _ _ _ _ _ _); simp only [pw]) | ((with_reducible apply gL); (first | refine wS hk ?_ | (refine wN hk ?_; clear hk; intro w1 hk)); simp only [pw]))
 go_at_call 32
 have hb1 := hk.mod.below
 have hn1 : w.heap.size < w1.heap.size := lt_of_block (hk.at List.mem_cons_self)
 have HP1 := hide (HP.out.below hb1 (Nat.le_refl _))
 refine (lent_any l pv w1 HP1.out hlen).mono ?_
 rintro x w2 ⟨hv, rfl, hL2, hb2⟩
 have hs2 : Shapes w2 := HS.out.below (hb1.trans (hb2.mono hb1.size)) HS.out.1
 have HLT : Hid (∀ k, hv.ownBlock = some k -> k < w2.heap.size) := hide hL2.lt
 replace hk := hk.call hb2
 go_wp2_with (first | (refine wLoad1 hk ?_ (hv := op_3 _ _ _ _ _ _ _ _); simp only [pw]) | (refine wLoadR hk ?_ (hc := ex_op _ _ _ _ _ _ _ _); simp only [pw]) | ((with_reducible apply gL); (first | refine wS hk ?_ | (refine wN hk ?_; clear hk; intro w1 hk)); simp only [pw]))
 go_at_call 51
 refine (SProve_any l H64.out e HEI.out hv w2 hs2 hL2.slc).mono ?_
 rintro x w3 ⟨c1, er, pl, cl, rfl, hP1, hown, hb3⟩
 obtain ⟨ca, cc, rfl⟩ := own_len hown
 have hb13 : Below w1.heap.size w1 w3 := hb2.trans (hb3.mono hb2.size)
 have HL3 := hide (hL2.below hb3)
 have HPP := hide hP1
 have H12 := hide hb2.size
 have HOW := hide hown
 replace hk := hk.call hb3
 clear hL2 hs2 hP1 hown
 go_wp2_with (first | (refine wLoad1 hk ?_ (hv := op_3 _ _ _ _ _ _ _ _); simp only [pw]) | (refine wLoadR hk ?_ (hc := ex_op _ _ _ _ _ _ _ _); simp only [pw]) | ((with_reducible apply gL); (first | refine wS hk ?_ | (refine wN hk ?_; clear hk; intro w1 hk)); simp only [pw]))
 go_at_call 35
 refine (lawBack2 l pv hv w1.heap.size w1 w3 HL3.out HP1.out (Nat.le_refl _) hb13 hlen).mono ?_
 rintro x w4 ⟨rfl, hb4, hk4⟩
 have hb14 : Below w1.heap.size w1 w4 := hb13.trans hb4
 have HO4 : Hid (w4.ownsRow w2.heap.size 71 17 (.slice ca cl.length cc) cl.length (cl.flatMap clCells)) := hide (by
  refine ⟨HOW.out.1, ?_⟩
  rcases HOW.out.2 with h2 | ⟨g2, cap, cur, h3, h4, hh, rr⟩
  · exact Or.inl h2
  · exact Or.inr ⟨g2, cap, cur, h3, h4, by rw [hk4 g2 (lt_of_block hh) (fun e => by have := HLT.out _ e.symm; omega)]; exact hh, rr⟩)
 replace hk := hk.callB hb4 (by omega) (fun x hx => by simp at hx; subst hx; exact hn1)
 clear hk4
 go_wp2_with (first | (refine wLoad1 hk ?_ (hv := op_3 _ _ _ _ _ _ _ _); simp only [pw]) | (refine wLoadR hk ?_ (hc := ex_op _ _ _ _ _ _ _ _); simp only [pw]) | ((with_reducible apply gL); (first | refine wS hk ?_ | (refine wN hk ?_; clear hk; intro w1 hk)); simp only [pw]))
 go_at_call 52
 refine (rf_Prove l H64.out e HEI.out pv w4 (HP1.out.below hb14 (Nat.le_refl _)).1).mono ?_
 rintro x w5 ⟨c2, er2, pl2, cl2, rfl, hP2, hown2, hb5⟩
 obtain ⟨rfl, rfl, rfl⟩ := SProveP_det HPP.out hP2
 obtain ⟨da, dc, rfl⟩ := own_len hown2
 have HLE := hide (SProveP_len hP2)
 have hb15 : Below w1.heap.size w1 w5 := hb14.trans (hb5.mono hb14.size)
 have HO5 := hide (own_bel HO4.out hb5)
 have HQ5 := hide hown2
 replace hk := hk.call hb5
 clear hP2 hown2
 go_wp2_with ((with_reducible apply gL); (first | refine wS hk ?_ | (refine wN hk ?_; clear hk; intro w1 hk)); simp only [pw])
 go_at_call 53
 refine (sameC_any cl (by have := HLE.out; omega) ca da cc dc w5 (own_slcC HO5.out rfl) (own_slcC HQ5.out rfl)).mono ?_
 rintro x w6 ⟨rfl, hb6⟩
 have hb16 : Below w1.heap.size w1 w6 := hb15.trans (hb6.mono hb15.size)
 have HO6 := hide (own_bel HO5.out hb6)
 have HB01 := hide hb1
 have HB16 := hide hb16
 replace hk := hk.call hb6
 clear hb1 hb2 hb3 hb4 hb5 hb6 hb13 hb14 hb15 hb16
 go_wp2_with ((with_reducible apply gL); (first | refine wS hk ?_ | (refine wN hk ?_; clear hk; intro w1 hk)); simp only [pw])
 go_at_call 54
 have hb06 : Below w.heap.size w w6 := HB01.out.trans (HB16.out.mono HB01.out.size)
 have hw6 : w6.heap[wb]? = some (.cells #[lv, vi, vv, vd] 50 (0, 0)) := by rw [hb06.block wb hwl]; exact HW.out
 have hd6 := HD.out.below hb06
 have hz1 := HB01.out.size
 refine (claim_any wb B w1.heap.size vd _ lv vi vv xs cl.length (cl.flatMap clCells) w6 hw6 hd6 hn (own_low HO6.out H12.out) (by omega) HB16.out.size (by omega) (fun k hk => by have := (World.ownsRow.lt HD.out.1 k hk).2; omega) (fun k h b hb => by
  obtain ⟨m, _, ho⟩ := HD.out.2.2 k h
  have := (World.ownsRow.lt ho b hb).2
  omega) (by have := HLE.out; omega)).mono ?_
 rintro x w7 ⟨rfl, vd', xs', hx', hw', hd', hf⟩
 have HF : Hid (Fr w w7 w.heap.size wb vd.ownBlock) := hide ⟨hf.os.trans hb06.os, hf.tape.trans hb06.tape, hf.output.trans hb06.output, Nat.le_trans hb06.size hf.size, fun k h1 h2 h3 => (hf.block k (by omega) h2 h3).trans (hb06.block k h1)⟩
 have HR : Hid (∃ vd' xs', xs'.length = xs.length + 4 /\ w7.heap[wb]? = some (.cells #[lv, vi, vv, vd'] 50 (0, 0)) /\ DList w7 B 51 71 17 markL vd' xs' /\ Fr w w7 w.heap.size wb vd.ownBlock) := hide ⟨vd', xs', hx', hw', hd', HF.out⟩
 clear hk hf hd' hw' hx' hd6 hw6 hb06
 have hk := Kn.nil [] w7
 go_wp2_with (first | (go_at_call 38; refine (num_any _ _).mono ?_; rintro x w8 ⟨rfl, rfl⟩) | ((with_reducible apply gL); (first | refine wS hk ?_ | (refine wN hk ?_; clear hk; intro w1 hk)); simp only [pw]))
 go_ret
 exact ⟨rfl, HR.out⟩
theorem Tryz.infoV : (Tryz.prog.info? 69).map (fun i => (i.zero, i.size, i.bytes)) = some (some (.agg #[.int .i64 0, .int .i64 0, .int .i64 0, .int .i64 0, .int .i64 0, .int .i64 0, .int .i64 0, .int .i64 0, .int .i64 0]), 9, 72) := by kernel_rfl
theorem Tryz.infoVS : (Tryz.prog.info? 67).map (fun i => (i.zero, i.size, i.bytes)) = some (some (.slice none 0 0), 1, 24) := by kernel_rfl
def XV (M : Int) : List Value := [.int .i64 M, .int .i64 0, .int .i64 0, .int .i64 0, .int .i64 0, .int .i64 0, .int .i64 0, .int .i64 0, .int .i64 0]
def markV (k : Nat) : List Value := XV (mrkI k)
def repV (M : Int) (n : Nat) : List Value := (List.replicate n (XV M)).flatten
theorem repV_len (M : Int) (n : Nat) : (repV M n).length = n * 9 := by simp [repV, XV]
theorem repV_add (M : Int) (n m : Nat) : repV M n ++ repV M m = repV M (n + m) := by unfold repV; rw [<- List.flatten_append, List.replicate_append_replicate]
theorem repV_one (M : Int) (n : Nat) : ∀ u ∈ repV M n, u.oneCell' = true := by
 intro u hu
 simp only [repV, List.mem_flatten, List.mem_replicate] at hu
 obtain ⟨l, ⟨_, rfl⟩, hu⟩ := hu
 simp [XV] at hu
 rcases hu with rfl | rfl <;> rfl
theorem V_parts (l : List Value) (h : 9 <= l.length) : ∃ c0 c1 c2 c3 c4 c5 c6 c7 c8 t, l = c0 :: c1 :: c2 :: c3 :: c4 :: c5 :: c6 :: c7 :: c8 :: t := by
 match l, h with
 | c0 :: c1 :: c2 :: c3 :: c4 :: c5 :: c6 :: c7 :: c8 :: t, _ => exact ⟨c0, c1, c2, c3, c4, c5, c6, c7, c8, t, rfl⟩
theorem V_app (A B : List Value) (k : Nat) (v : Value) : (A ++ B).set (A.length + k) v = A ++ B.set k v := by
 rw [List.set_append_right _ _ (by omega), Nat.add_sub_cancel_left]
theorem V_set (M : Int) (cs : List Value) (n N : Nat) (hl : cs.length = N * 9) (hn : n < N) : ((((((((((repV M n ++ cs.drop (n * 9)).set (n * 9) (.int .i64 M)).set (n * 9 + 1) (.int .i64 0)).set (n * 9 + 2) (.int .i64 0)).set (n * 9 + 3) (.int .i64 0)).set (n * 9 + 4) (.int .i64 0)).set (n * 9 + 5) (.int .i64 0)).set (n * 9 + 6) (.int .i64 0)).set (n * 9 + 7) (.int .i64 0)).set (n * 9 + 8) (.int .i64 0)) = repV M (n + 1) ++ cs.drop ((n + 1) * 9) := by
 obtain ⟨c0, c1, c2, c3, c4, c5, c6, c7, c8, t, ht⟩ := V_parts (cs.drop (n * 9)) (by rw [List.length_drop, hl]; omega)
 have h2 : cs.drop ((n + 1) * 9) = t := by
  have := congrArg (List.drop 9) ht
  rw [List.drop_drop] at this
  rw [Nat.add_mul, Nat.one_mul]
  rw [this]; rfl
 have hA := repV_len M n
 have h3 : repV M (n + 1) = repV M n ++ XV M := by rw [<- repV_add]; simp [repV]
 rw [ht, h2, h3, <- hA]
 have h0 : ∀ (B : List Value) (v : Value), (repV M n ++ B).set (repV M n).length v = repV M n ++ B.set 0 v := fun B v => V_app _ B 0 v
 rw [h0]
 simp only [V_app]
 rw [List.append_assoc]
 rfl
structure StV (w wr : World) (base xb : Nat) (M : Int) (vl : Value) (N : Nat) : Prop where
 own : wr.ownsRow base 69 9 vl N (repV M N)
 box : wr.heap[xb]? = some (.cells #[.int .i64 M, .int .i64 0, .int .i64 0, .int .i64 0, .int .i64 0, .int .i64 0, .int .i64 0, .int .i64 0, .int .i64 0] 69 (0, 0))
 bel : Below base w wr
 hbx : base <= xb
 hne : ∀ k, vl.ownBlock = some k -> k < xb
 hbs : base <= wr.heap.size
theorem StV.step {w wr w' : World} {base xb : Nat} {M : Int} {vl v' : Value} {N m : Nat} {o : Obj} (h : StV w wr base xb M vl N) (hown : w'.ownsRow base 69 9 v' (N + m) (repV M N ++ repV M m)) (hg : (wr.alloc o).grownBy w' vl.ownBlock)
 (hS : AppRoom (wr.alloc o) w' vl v' N m) :
 StV w w' base xb M vl N /\ w'.ownsRow base 69 9 v' (N + m) (repV M (N + m)) /\ ∀ (u : Value) (k : Nat), wr.ownsRow base 69 9 u k (repV M k) -> (u.ownBlock = vl.ownBlock -> k <= N + m) -> w'.ownsRow base 69 9 u k (repV M k) := by
 rw [repV_add] at hown
 have hk : ∀ (u : Value) (k : Nat), wr.ownsRow base 69 9 u k (repV M k) -> (u.ownBlock = vl.ownBlock -> k <= N + m) -> w'.ownsRow base 69 9 u k (repV M k) :=
  fun u k hu hle => keep_same (X := XV M) rfl (World.ownsRow.alloc h.own o) hown hg hS (World.ownsRow.alloc hu o) hle
 have hbx := lt_of_block h.box
 refine ⟨⟨hk vl N h.own (fun _ => by omega), ?_, (h.bel.alloc h.hbs o).grown hg (by have := h.hbs; simp; omega) (fun k hk => (World.ownsRow.lt h.own k hk).1), h.hbx, h.hne, ?_⟩, hown, hk⟩
 · rw [hg.block xb (by simp; omega) (fun e => by have := h.hne xb e.symm; omega), Below.heap_alloc _ _ _ hbx]; exact h.box
 · have h1 := hg.size; have h2 := h.hbs; simp at h1; omega
theorem V_cells {w : World} {xb : Nat} {M : Int} (h : w.heap[xb]? = some (.cells #[.int .i64 M, .int .i64 0, .int .i64 0, .int .i64 0, .int .i64 0, .int .i64 0, .int .i64 0, .int .i64 0, .int .i64 0] 69 (0, 0))) : w.cell? ⟨xb, 0, none⟩ = some (.int .i64 M) /\ w.cell? ⟨xb, 1, none⟩ = some (.int .i64 0) /\ w.cell? ⟨xb, 2, none⟩ = some (.int .i64 0) /\ w.cell? ⟨xb, 3, none⟩ = some (.int .i64 0) /\ w.cell? ⟨xb, 4, none⟩ = some (.int .i64 0) /\ w.cell? ⟨xb, 5, none⟩ = some (.int .i64 0) /\ w.cell? ⟨xb, 6, none⟩ = some (.int .i64 0) /\ w.cell? ⟨xb, 7, none⟩ = some (.int .i64 0) /\ w.cell? ⟨xb, 8, none⟩ = some (.int .i64 0) := by
 refine ⟨?_, ?_, ?_, ?_, ?_, ?_, ?_, ?_, ?_⟩ <;> rw [cell_of_row _ _ _ _ _ _ h] <;> rfl
theorem V_below {B : Nat} {w0 w : World} {g : Nat} (n : Nat) (M : Int) (h : Below B w0 w) (hB : B <= g) : Below B w0 (((((((((w.setCell ⟨g, n * 9, none⟩ (.int .i64 M)).setCell ⟨g, n * 9 + 1, none⟩ (.int .i64 0)).setCell ⟨g, n * 9 + 2, none⟩ (.int .i64 0)).setCell ⟨g, n * 9 + 3, none⟩ (.int .i64 0)).setCell ⟨g, n * 9 + 4, none⟩ (.int .i64 0)).setCell ⟨g, n * 9 + 5, none⟩ (.int .i64 0)).setCell ⟨g, n * 9 + 6, none⟩ (.int .i64 0)).setCell ⟨g, n * 9 + 7, none⟩ (.int .i64 0)).setCell ⟨g, n * 9 + 8, none⟩ (.int .i64 0)) := by
 repeat (refine Below.setCell ?_ (by exact hB) _)
 exact h
theorem V_other {w : World} {g k : Nat} (n : Nat) (M : Int) (h : k ≠ g) : (((((((((w.setCell ⟨g, n * 9, none⟩ (.int .i64 M)).setCell ⟨g, n * 9 + 1, none⟩ (.int .i64 0)).setCell ⟨g, n * 9 + 2, none⟩ (.int .i64 0)).setCell ⟨g, n * 9 + 3, none⟩ (.int .i64 0)).setCell ⟨g, n * 9 + 4, none⟩ (.int .i64 0)).setCell ⟨g, n * 9 + 5, none⟩ (.int .i64 0)).setCell ⟨g, n * 9 + 6, none⟩ (.int .i64 0)).setCell ⟨g, n * 9 + 7, none⟩ (.int .i64 0)).setCell ⟨g, n * 9 + 8, none⟩ (.int .i64 0)).heap[k]? = w.heap[k]? := by
 repeat (rw [Below.heap_setCell _ _ _ _ (by exact h)])
theorem V_own {w : World} {base g N cap n : Nat} {M : Int} {cs : List Value} (h : w.ownsRow base 69 9 (.slice (some ⟨g, 0, none⟩) N cap) N (repV M n ++ cs.drop (n * 9))) (hl : cs.length = N * 9) (hn : n < N) :
 (((((((((w.setCell ⟨g, n * 9, none⟩ (.int .i64 M)).setCell ⟨g, n * 9 + 1, none⟩ (.int .i64 0)).setCell ⟨g, n * 9 + 2, none⟩ (.int .i64 0)).setCell ⟨g, n * 9 + 3, none⟩ (.int .i64 0)).setCell ⟨g, n * 9 + 4, none⟩ (.int .i64 0)).setCell ⟨g, n * 9 + 5, none⟩ (.int .i64 0)).setCell ⟨g, n * 9 + 6, none⟩ (.int .i64 0)).setCell ⟨g, n * 9 + 7, none⟩ (.int .i64 0)).setCell ⟨g, n * 9 + 8, none⟩ (.int .i64 0)).ownsRow base 69 9 (.slice (some ⟨g, 0, none⟩) N cap) N (repV M (n + 1) ++ cs.drop ((n + 1) * 9)) := by
 rw [<- V_set M cs n N hl hn]
 exact (World.ownsRow.stored (World.ownsRow.stored (World.ownsRow.stored (World.ownsRow.stored (World.ownsRow.stored (World.ownsRow.stored (World.ownsRow.stored (World.ownsRow.stored (World.ownsRow.stored h _ _).1 _ _).1 _ _).1 _ _).1 _ _).1 _ _).1 _ _).1 _ _).1 _ _).1
theorem seen_any (wb B base : Nat) (vd vl lv vi vc : Value) (xs : List Value) (N : Nat) (cs : List Value) (w : World) (hw : w.heap[wb]? = some (.cells #[lv, vi, vd, vc] 50 (0, 0)))
 (hd : DList w B 67 69 9 markV vd xs) (hn : xs.length < 5000000000000) (hl : w.ownsRow base 69 9 vl N cs) (hB : B <= base) (hbs : base <= w.heap.size) (hwb : wb < base) (hvd : ∀ k, vd.ownBlock = some k -> k < base) (hold : ∀ k (h : k < xs.length) b, xs[k].ownBlock = some b -> b < base) (hL : N <= 900) :
 Calls Tryz.prog 47 #[.pointer (some ⟨wb, 1, none⟩), vl] w fun e w' => e = .returned (.tuple #[]) /\ ∃ vd' xs', xs'.length = xs.length + 4 /\ w'.heap[wb]? = some (.cells #[lv, vi, vd', vc] 50 (0, 0)) /\ DList w' B 67 69 9 markV vd' xs' /\ Fr w w' base wb vd.ownBlock := by
 obtain ⟨i0, ihi, ih0, ihs, ih2⟩ := info_parts Tryz.infoV
 obtain ⟨j0, jhi, jh0, jhs, jh2⟩ := info_parts Tryz.infoVS
 have q1 : w.cell? ⟨wb, 2, none⟩ = some vd := by rw [cell_of_row _ _ _ _ _ _ hw]; rfl
 obtain ⟨hd1, hd2, hd3⟩ := hd
 obtain ⟨ad, cd, hvde⟩ := own_len hd1
 obtain ⟨al, cl, hvl⟩ := own_len hl
 have HVD := hide hvde
 rw [hvde] at q1
 clear hvde
 subst hvl
 have hcl : cs.length = N * 9 := hl.1
 go_enter Tryz.func47, Tryz.ntmps47
 go_wp2_with fail
 refine (mark_any _ _ (by omega)).mono ?_
 rintro e w' ⟨rfl, rfl⟩
 obtain ⟨M, hM⟩ : ∃ M, M = mrkI xs.length := ⟨_, rfl⟩
 rw [<- hM]
 have HM := hide hM
 clear hM
 go_wp2_with fail
 generalize hW : w.alloc (.cells #[.int .i64 M, .int .i64 0, .int .i64 0, .int .i64 0, .int .i64 0, .int .i64 0, .int .i64 0, .int .i64 0, .int .i64 0] 69) = w1
 have hX1 : w1.heap[w.heap.size]? = some (.cells #[.int .i64 M, .int .i64 0, .int .i64 0, .int .i64 0, .int .i64 0, .int .i64 0, .int .i64 0, .int .i64 0, .int .i64 0] 69 (0, 0)) := by rw [<- hW]; exact heap_alloc_new _ _
 have hb1 : Below base w w1 := by rw [<- hW]; exact (Below.refl _ _).alloc hbs _
 have hl1 : w1.ownsRow base 69 9 (.slice al N cl) N cs := by rw [<- hW]; exact World.ownsRow.alloc hl _
 have hs1 : w.heap.size + 1 <= w1.heap.size := by rw [<- hW]; simp
 have hlt1 : ∀ k, (Value.slice al N cl).ownBlock = some k -> k < w.heap.size := fun k hk => (World.ownsRow.lt hl k hk).2
 have HLT := hide hlt1
 have HCL := hide hcl
 clear hW hlt1 hl q1 hcl
 go_loopw [5] (fun j wr => ∃ n : Nat, n <= N /\ j = .int .i64 n /\ wr.ownsRow base 69 9 (.slice al N cl) N (repV M n ++ cs.drop (n * 9)) /\ wr.heap[w.heap.size]? = some (.cells #[.int .i64 M, .int .i64 0, .int .i64 0, .int .i64 0, .int .i64 0, .int .i64 0, .int .i64 0, .int .i64 0, .int .i64 0] 69 (0, 0)) /\ Below base w wr /\ w.heap.size + 1 <= wr.heap.size) (fun j _ => N - (intOf j).toNat)
 case atStart => exact ⟨0, by omega, rfl, by simpa [repV] using hl1, hX1, hb1, hs1⟩
 case round =>
  clear hl1 hX1 hb1 hs1
  obtain ⟨n, hnl, rfl, hown, hX, hbl, hsz⟩ := hrel
  by_cases hlt : n < N
  · have hg : ∃ g, al = some ⟨g, 0, none⟩ /\ base <= g /\ g < wr.heap.size /\ ∀ j, wr.frozen? ⟨g, j, none⟩ = false := by
     rcases hown.2 with ⟨h, h2⟩ | ⟨g, cap, cur, h, hb, hh, _⟩
     · omega
     · simp only [Value.slice.injEq] at h
       exact ⟨g, h.1, hb, lt_of_block hh, fun j => by simp [World.frozen?, hh]⟩
    obtain ⟨g, rfl, hbg, hgl, hfz⟩ := hg
    have hgx : g < w.heap.size := HLT.out g rfl
    obtain ⟨x0, x1, x2, x3, x4, x5, x6, x7, x8⟩ := V_cells hX
    have hcell : ∀ j, j < 9 -> ∃ u, wr.cell? ⟨g, n * 9 + j, none⟩ = some u := by
     intro j hj
     have hlen := hown.1
     obtain ⟨u, hu⟩ : ∃ u, (repV M n ++ cs.drop (n * 9))[n * 9 + j]? = some u := ⟨_, List.getElem?_eq_getElem (by rw [hlen]; have : (n + 1) * 9 <= N * 9 := Nat.mul_le_mul_right _ hlt; omega)⟩
     refine ⟨u, ?_⟩
     have := World.ownsRow.cells hown rfl (n * 9 + j) u hu
     rw [addr_add, Nat.zero_add] at this
     exact this
    obtain ⟨v0, y0⟩ := hcell 0 (by omega)
    obtain ⟨v1, y1⟩ := hcell 1 (by omega)
    obtain ⟨v2, y2⟩ := hcell 2 (by omega)
    obtain ⟨v3, y3⟩ := hcell 3 (by omega)
    obtain ⟨v4, y4⟩ := hcell 4 (by omega)
    obtain ⟨v5, y5⟩ := hcell 5 (by omega)
    obtain ⟨v6, y6⟩ := hcell 6 (by omega)
    obtain ⟨v7, y7⟩ := hcell 7 (by omega)
    obtain ⟨v8, y8⟩ := hcell 8 (by omega)
    rw [Nat.add_zero] at y0
    have f0 := hfz (n * 9)
    have f1 := hfz (n * 9 + 1)
    have f2 := hfz (n * 9 + 2)
    have f3 := hfz (n * 9 + 3)
    have f4 := hfz (n * 9 + 4)
    have f5 := hfz (n * 9 + 5)
    have f6 := hfz (n * 9 + 6)
    have f7 := hfz (n * 9 + 7)
    have f8 := hfz (n * 9 + 8)
    have HO := hide (V_own hown HCL.out hlt)
    have HB := hide (V_below (g := g) n M hbl hbg)
    clear hfz hown hcell
    go_wp2
    go_roundw
    case rel =>
     exact ⟨n + 1, by omega, by go_num, HO.out, by rw [V_other n M (show w.heap.size ≠ g by omega)]; exact hX, HB.out, by simpa using hsz⟩
    case measure => simp [intOf]; omega
  · have P0 : StV w wr base w.heap.size M (.slice al N cl) N := by
     refine ⟨?_, hX, hbl, hbs, HLT.out, by omega⟩
     have en : n = N := by omega
     subst en
     rw [List.drop_of_length_le (by rw [HCL.out]; exact Nat.le_refl _), List.append_nil] at hown
     exact hown
    clear hown hX hbl
    obtain ⟨x0, x1, x2, x3, x4, x5, x6, x7, x8⟩ := V_cells P0.box
    have hbs0 := P0.hbs
    go_wp2_with (at_builtin; go_must (refine wpList_append_strong _ rfl (.tmp 26) (.tmp 28) 67 rfl base 69 i0 _ 9 72 Tryz.underlying67 ihi ih0 ihs ih2 rfl (by decide) (.slice al N cl) N (repV M N) rfl ?o1 ⟨wr.heap.size, 0, none⟩ 1 1 (repV M 1) rfl rfl ?n1 (repV_one M 1) (by omega) ?m1 ?b1 ?s1 ?_))
    case o1 => exact World.ownsRow.alloc P0.own _
    case n1 => exact row_new _ _ _ _ _ rfl rfl
    case m1 => unfold maxLen; omega
    case b1 => omega
    case s1 => simp; omega
    intro va wa hva hga hSa
    obtain ⟨P1, oa, _⟩ := P0.step hva hga hSa
    obtain ⟨aa, ca, rfl⟩ := own_len oa
    clear hva hga hSa P0 x0 x1 x2 x3 x4 x5 x6 x7 x8 hbs0
    obtain ⟨x0, x1, x2, x3, x4, x5, x6, x7, x8⟩ := V_cells P1.box
    have hbs1 := P1.hbs
    go_wp2_with (at_builtin; go_must (refine wpList_append_strong _ rfl (.tmp 30) (.tmp 33) 67 rfl base 69 i0 _ 9 72 Tryz.underlying67 ihi ih0 ihs ih2 rfl (by decide) (.slice al N cl) N (repV M N) rfl ?o2 ⟨wa.heap.size, 0, none⟩ 2 2 (repV M 2) rfl rfl ?n2 (repV_one M 2) (by omega) ?m2 ?b2 ?s2 ?_))
    case o2 => exact World.ownsRow.alloc P1.own _
    case n2 => exact row_new _ _ _ _ _ rfl rfl
    case m2 => unfold maxLen; omega
    case b2 => omega
    case s2 => simp; omega
    intro vb wb2 hvb hgb hSb
    obtain ⟨P2, ob, kb⟩ := P1.step hvb hgb hSb
    obtain ⟨ab, cb, rfl⟩ := own_len ob
    have oa := kb _ (N + 1) oa (fun _ => by omega)
    clear hvb hgb hSb P1 x0 x1 x2 x3 x4 x5 x6 x7 x8 hbs1 kb
    obtain ⟨x0, x1, x2, x3, x4, x5, x6, x7, x8⟩ := V_cells P2.box
    have hbs2 := P2.hbs
    go_wp2_with (at_builtin; go_must (refine wpList_append_strong _ rfl (.tmp 35) (.tmp 39) 67 rfl base 69 i0 _ 9 72 Tryz.underlying67 ihi ih0 ihs ih2 rfl (by decide) (.slice al N cl) N (repV M N) rfl ?o3 ⟨wb2.heap.size, 0, none⟩ 3 3 (repV M 3) rfl rfl ?n3 (repV_one M 3) (by omega) ?m3 ?b3 ?s3 ?_))
    case o3 => exact World.ownsRow.alloc P2.own _
    case n3 => exact row_new _ _ _ _ _ rfl rfl
    case m3 => unfold maxLen; omega
    case b3 => omega
    case s3 => simp; omega
    intro vc3 wc hvc hgc hSc
    obtain ⟨P3, oc, kc⟩ := P2.step hvc hgc hSc
    obtain ⟨ac, cc, rfl⟩ := own_len oc
    have oa := kc _ (N + 1) oa (fun _ => by omega)
    have ob := kc _ (N + 2) ob (fun _ => by omega)
    clear hvc hgc hSc P2 x0 x1 x2 x3 x4 x5 x6 x7 x8 hbs2 kc
    have hbs3 := P3.hbs
    have hwc : wc.heap[wb]? = some (.cells #[lv, vi, vd, vc] 50 (0, 0)) := by rw [P3.bel.block wb hwb]; exact hw
    have hwlt := lt_of_block hwc
    have q1 : wc.cell? ⟨wb, 2, none⟩ = some (.slice ad xs.length cd) := by rw [cell_of_row _ _ _ _ _ _ hwc, <- HVD.out]; rfl
    have fz : wc.frozen? ⟨wb, 2, none⟩ = false := by simp [World.frozen?, hwc]
    have hdc : wc.ownsRow B 67 1 (.slice ad xs.length cd) xs.length xs := by
     rw [<- HVD.out]; exact own_block hd1 (fun k hk _ => P3.bel.block k (hvd k hk))
    go_wp2_with (at_builtin; go_must (refine wpList_append_own _ rfl (.tmp 45) (.tmp 50) 45 rfl B 67 j0 _ 1 24 Tryz.underlying45 jhi jh0 jhs jh2 rfl (by decide) (.slice ad xs.length cd) xs.length xs rfl ?o4 ⟨wc.heap.size, 0, none⟩ 4 4 [.slice al N cl, .slice aa (N + 1) ca, .slice ab (N + 2) cb, .slice ac (N + 3) cc] rfl rfl ?n4 ?u4 ?m4 ?b4 ?s4 ?_))
    case o4 => exact World.ownsRow.alloc hdc _
    case n4 => exact row_new _ _ _ _ _ rfl rfl
    case u4 => intro u hu; simp at hu; rcases hu with rfl | rfl | rfl | rfl <;> rfl
    case m4 => unfold maxLen; omega
    case b4 => omega
    case s4 => simp; omega
    intro vd' wd hvd' hgd' _
    obtain ⟨ad', cd', rfl⟩ := own_len hvd'
    have hneb : ∀ (k : Nat) (A : Array Value), wc.heap[k]? = some (Obj.cells A 69 (0, 0)) -> wd.heap[k]? = wc.heap[k]? := by
     intro k A hk
     have hlt := lt_of_block hk
     rw [hgd'.block k (by simp; omega) ?_, Below.heap_alloc _ _ _ hlt]
     intro hx
     rcases hdc.2 with ⟨h, _⟩ | ⟨g, cap, cur, h, _, hh, _⟩
     · rw [h] at hx; cases hx
     · rw [h] at hx
       simp [Value.ownBlock] at hx
       subst hx
       rw [hk] at hh; simp at hh
    have hwd : wd.heap[wb]? = some (.cells #[lv, vi, vd, vc] 50 (0, 0)) := by
     rw [hgd'.block wb (by simp; omega) ?_, Below.heap_alloc _ _ _ hwlt]
     · exact hwc
     · intro hx
       rcases hdc.2 with ⟨h, _⟩ | ⟨g, cap, cur, h, _, hh, _⟩
       · rw [h] at hx; cases hx
       · rw [h] at hx
         simp [Value.ownBlock] at hx
         subst hx
         rw [hwc] at hh; simp at hh
    have q2 : wd.cell? ⟨wb, 2, none⟩ = some vd := by rw [cell_of_row _ _ _ _ _ _ hwd]; rfl
    have fz2 : wd.frozen? ⟨wb, 2, none⟩ = false := by simp [World.frozen?, hwd]
    have hsd := hgd'.size
    simp at hsd
    clear q1 fz
    have HN := hide hneb
    have HP3 := hide P3
    clear hneb P3
    go_wp2
    go_end0
    have P3 := HP3.out
    have keep : ∀ (k : Nat) (A : Array Value), wc.heap[k]? = some (Obj.cells A 69 (0, 0)) -> (wd.setCell ⟨wb, 2, none⟩ (.slice ad' (xs.length + 4) cd')).heap[k]? = wc.heap[k]? := by
     intro k A hk
     rw [Below.heap_setCell _ _ _ _ (fun e => by simp at e; subst e; rw [hwc] at hk; simp at hk)]
     exact HN.out k A hk
    have kl : ∀ (u : Value) (m : Nat), wc.ownsRow base 69 9 u m (repV M m) -> (wd.setCell ⟨wb, 2, none⟩ (.slice ad' (xs.length + 4) cd')).ownsRow B 69 9 u m (repV M m) := fun u m hu =>
     own_base (own_block hu (fun k _ ⟨A, hA⟩ => keep k A hA)) hB
    refine ⟨rfl, .slice ad' (xs.length + 4) cd', xs ++ [.slice al N cl, .slice aa (N + 1) ca, .slice ab (N + 2) cb, .slice ac (N + 3) cc], by simp, ?_, ⟨?_, ?_, ?_⟩, ?_⟩
    · rw [set_block hwd]; rfl
    · rw [List.length_append]
      refine own_block hvd' (fun k hk ⟨A, hA⟩ => Below.heap_setCell _ _ _ _ (fun e => ?_))
      simp at e
      subst e
      rw [hwd] at hA; simp at hA
    · simp; omega
    · intro k hk
      by_cases hk2 : k < xs.length
      · obtain ⟨m, hm, ho⟩ := hd3 k hk2
        refine ⟨m, hm, ?_⟩
        rw [List.getElem_append_left hk2]
        exact own_block ho (fun b hb ⟨A, hA⟩ => (keep b A (by rw [P3.bel.block b (hold k hk2 b hb)]; exact hA)).trans (P3.bel.block b (hold k hk2 b hb)))
      · have hmk : markV k = XV M := by
         have := mrkI_same xs.length k hd2 (by omega) (by simp at hk; omega)
         unfold markV; rw [this, HM.out]
        rw [hmk]
        simp at hk
        have : k = xs.length \/ k = xs.length + 1 \/ k = xs.length + 2 \/ k = xs.length + 3 := by omega
        rcases this with rfl | rfl | rfl | rfl
        · refine ⟨N, by omega, ?_⟩
          rw [List.getElem_append_right (by omega)]
          simpa [repV] using kl _ _ P3.own
        · refine ⟨N + 1, by omega, ?_⟩
          rw [List.getElem_append_right (by omega)]
          simpa [repV] using kl _ _ oa
        · refine ⟨N + 2, by omega, ?_⟩
          rw [List.getElem_append_right (by omega)]
          simpa [repV] using kl _ _ ob
        · refine ⟨N + 3, by omega, ?_⟩
          rw [List.getElem_append_right (by omega)]
          simpa [repV] using kl _ _ oc
    · refine ⟨hgd'.os.trans P3.bel.os, hgd'.tape.trans P3.bel.tape, hgd'.output.trans P3.bel.output, ?_, fun k hk1 hk2 hk3 => ?_⟩
      · have := P3.bel.size; simp [World.setCell]; omega
      · rw [Below.heap_setCell _ _ _ _ (by exact hk2), hgd'.block k (by simp; omega) (by rw [<- HVD.out]; exact hk3), Below.heap_alloc _ _ _ (by omega)]
        exact P3.bel.block k hk1
theorem vflat_cells (l : List V9) (i f : Nat) (hi : i < l.length) (hf : f < 9) : (l.flatMap V9.cells)[i * 9 + f]? = l[i].cells[f]? := by
 induction l generalizing i with
 | nil => simp at hi
 | cons x r ih =>
   rw [List.flatMap_cons]
   match i with
   | 0 => rw [List.getElem?_append_left (by simp [V9.cells]; omega)]; simp
   | i + 1 =>
     rw [List.getElem?_append_right (by simp [V9.cells]; omega)]
     rw [show (i + 1) * 9 + f - x.cells.length = i * 9 + f by simp [V9.cells]; omega]
     rw [ih i (by simpa using hi)]; rfl
def VisAt (w : World) (b o : Nat) (x : V9) : Prop := w.cell? ⟨b, o, none⟩ = some (.int .i64 x.pc) /\ w.cell? ⟨b, o + 1, none⟩ = some (.int .i64 (x.r 0)) /\ w.cell? ⟨b, o + 2, none⟩ = some (.int .i64 (x.r 1)) /\ w.cell? ⟨b, o + 3, none⟩ = some (.int .i64 (x.r 2)) /\ w.cell? ⟨b, o + 4, none⟩ = some (.int .i64 (x.r 3)) /\ w.cell? ⟨b, o + 5, none⟩ = some (.int .i64 (x.r 4)) /\ w.cell? ⟨b, o + 6, none⟩ = some (.int .i64 (x.r 5)) /\ w.cell? ⟨b, o + 7, none⟩ = some (.int .i64 (x.r 6)) /\ w.cell? ⟨b, o + 8, none⟩ = some (.int .i64 (x.r 7))
theorem OwnV.at {w : World} {base : Nat} {v : Value} {l : List V9} (h : OwnV w base v l) (i : Nat) (hi : i < l.length) : ∃ g c, v = .slice (some ⟨g, 0, none⟩) l.length c /\ g < w.heap.size /\ VisAt w g (i * 9) l[i] := by
 have h0 := h
 rcases h.2 with ⟨_, h2⟩ | ⟨g, cap, cur, rfl, _, hh, _⟩
 · omega
 · refine ⟨g, cap, rfl, lt_of_block hh, ?_⟩
   have hc : ∀ f, f < 9 -> ∀ u, l[i].cells[f]? = some u -> w.cell? ⟨g, i * 9 + f, none⟩ = some u := by
    intro f hf u hu
    have := World.ownsRow.cells h0 rfl (i * 9 + f) u (by rw [vflat_cells l i f hi hf]; exact hu)
    have hadd : (⟨g, 0, none⟩ : Addr).add (i * 9 + f) = ⟨g, i * 9 + f, none⟩ := by unfold Addr.add; split <;> simp_all
    rw [hadd] at this
    exact this
   exact ⟨hc 0 (by omega) _ rfl, hc 1 (by omega) _ rfl, hc 2 (by omega) _ rfl, hc 3 (by omega) _ rfl, hc 4 (by omega) _ rfl, hc 5 (by omega) _ rfl, hc 6 (by omega) _ rfl, hc 7 (by omega) _ rfl, hc 8 (by omega) _ rfl⟩
theorem eq_arr8 (x0 x1 x2 x3 x4 x5 x6 x7 : Int) (w : World) : (Op.equalIn 9999 41 (.agg #[.int .i64 x0, .int .i64 x1, .int .i64 x2, .int .i64 x3, .int .i64 x4, .int .i64 x5, .int .i64 x6, .int .i64 x7]) (.agg #[.int .i64 x0, .int .i64 x1, .int .i64 x2, .int .i64 x3, .int .i64 x4, .int .i64 x5, .int .i64 x6, .int .i64 x7])).run Tryz.prog w = .ok true w := by
 have u3 := Tryz.underlying3
 have a3 := Tryz.isAgg3
 have z3 := Tryz.sizeOf3
 rw [show (9999 : Nat) = 9998 + 1 from rfl, Op.equalIn]
 simp only [Sem.run_bind, run_underlying Tryz.underlying41, Result.andThen_ok]
 simp only [Std.Legacy.Range.forIn_eq_forIn_range', Std.Legacy.Range.size, Nat.sub_zero, Nat.add_sub_cancel, Nat.div_one, List.range'_succ, List.range'_zero, List.forIn_cons, List.forIn_nil]
 go_simp
theorem sameV_any (L : List V9) (va vb : Value) (A B : Nat) (w : World) (ha : OwnV w A va L) (hb : OwnV w B vb L) (hl : L.length <= 100) :
 Calls Tryz.prog 46 #[va, vb] w fun e w' => e = .returned (.bool true) /\ Below w.heap.size w w' := by
 obtain ⟨aa, ca, hea⟩ := own_any_len ha
 obtain ⟨ab, cb, heb⟩ := own_any_len hb
 have HA := hide ha
 have HB := hide hb
 have HEA := hide hea
 have HEB := hide heb
 rw [hea, heb]
 clear ha hb hea heb
 go_enter Tryz.func46, Tryz.ntmps46
 go_wp2_with fail
 go_loopw [5] (fun j wr => ∃ n : Nat, n <= L.length /\ j = .int .i64 n /\ Below w.heap.size w wr) (fun j _ => L.length - (intOf j).toNat)
 case atStart => exact ⟨0, by omega, rfl, Below.refl _ _⟩
 case round =>
  obtain ⟨n, hn, rfl, hbl⟩ := hrel
  by_cases hlt : n < L.length
  · obtain ⟨g1, d1, e1, l1, p0, p1, p2, p3, p4, p5, p6, p7, p8⟩ := HA.out.at n hlt
    obtain ⟨g2, d2, e2, l2, q0, q1, q2, q3, q4, q5, q6, q7, q8⟩ := HB.out.at n hlt
    obtain ⟨rfl, rfl⟩ : aa = some ⟨g1, 0, none⟩ /\ ca = d1 := by rw [HEA.out] at e1; simpa using e1
    obtain ⟨rfl, rfl⟩ : ab = some ⟨g2, 0, none⟩ /\ cb = d2 := by rw [HEB.out] at e2; simpa using e2
    rw [<- hbl.cell (p := ⟨g1, _, none⟩) l1] at p0 p1 p2 p3 p4 p5 p6 p7 p8
    rw [<- hbl.cell (p := ⟨g2, _, none⟩) l2] at q0 q1 q2 q3 q4 q5 q6 q7 q8
    clear e1 e2
    generalize L[n] = x at p0 p1 p2 p3 p4 p5 p6 p7 p8 q0 q1 q2 q3 q4 q5 q6 q7 q8
    have eqA := eq_arr8 (x.r 0) (x.r 1) (x.r 2) (x.r 3) (x.r 4) (x.r 5) (x.r 6) (x.r 7)
    go_wp2_with fail
    go_region
    go_wp2
    exact ⟨⟨n + 1, by omega, by go_num, hbl.drew⟩, by simp [intOf]; omega⟩
  · go_wp2
    go_ret
    exact ⟨rfl, hbl⟩
theorem fD2 : FldT Tryz.prog 48 2 2 := ⟨⟨_, _, Tryz.underlying48, rfl, rfl, fun _ _ _ => by kernel_rfl⟩⟩
theorem o1Cls : OneT Tryz.prog 46 := ⟨⟨_, Tryz.underlying46, rfl⟩, by kernel_rfl⟩
section
variable {l : List Oper} {Q : Exit -> Act -> World -> Prop} {F : Nat -> Bool} {S : World -> Prop} {i : Nat} {r : OT} {a : Act} {w w0 : World} {M : List Nat} {L : RowL} {d : Option Tmp} {x y : Operand} {t tt ty : TypeId} {pos : String} {aft : Array Edge} {g : Option (Nat × Bool)} {b j n k f : Nat} {v : Value}
theorem sFieldJ (hT : FldT Tryz.prog ty f k) (hk : S w) (h : wpT Tryz.prog l Q F S r (a.put d (.pointer (some ⟨b, j + k, none⟩))) w) (ho : nthO i l = some ⟨d, .fieldAddr ty x f, tt, pos, aft, g⟩ := by rfl) (hw : Region.wanted ⟨d, .fieldAddr ty x f, tt, pos, aft, g⟩ (yielded l.toArray a.tmps) = true := by rfl) (hx : a.eval x = .pointer (some ⟨b, j, none⟩) := by rfl) : wpT Tryz.prog l Q F S (.op i r) a w := tField ho hw hk hx hT h
theorem sOldCY (hT : OneT Tryz.prog ty) (hk : Kn M w0 w L) (h : wpT Tryz.prog l Q F (fun wx => Kn M w0 wx L) r (a.put d v) w) (hc : w0.cell? ⟨b, j, none⟩ = some v) (hM : b ∉ M := by exact List.not_mem_nil) (ho : nthO i l = some ⟨d, .load ty x, tt, pos, aft, g⟩ := by rfl) (hw : Region.wanted ⟨d, .load ty x, tt, pos, aft, g⟩ (yielded l.toArray a.tmps) = true := by rfl) (hx : a.eval x = .pointer (some ⟨b, j, none⟩) := by rfl) : wpT Tryz.prog l Q F (fun wx => Kn M w0 wx L) (.op i r) a w := tLoadOld1 ho hw hk hx hc hM hT h
end
theorem looks_all (wb B : Nat) (lv v1 v2 v3 : Value) (x1 x2 x3 : List Value) (w : World) (hw : w.heap[wb]? = some (.cells #[lv, v1, v2, v3] 50 (0, 0)))
 (hd1 : DList w B 36 35 5 markC v1 x1) (hd2 : DList w B 67 69 9 markV v2 x2) (hd3 : DList w B 51 71 17 markL v3 x3) (hx1 : x1.length < 5000000000000) (hx2 : x2.length < 5000000000000) (hx3 : x3.length < 5000000000000) :
 Calls Tryz.prog 9 #[.pointer (some ⟨wb, 1, none⟩)] w fun e w' => e = .returned (.bool true) /\ Below w.heap.size w w' := by
 have hwl := lt_of_block hw
 obtain ⟨a1, c1, he1⟩ := hd1.len
 obtain ⟨a2, c2, he2⟩ := hd2.len
 obtain ⟨a3, c3, he3⟩ := hd3.len
 have q1 : w.cell? ⟨wb, 1, none⟩ = some (.slice a1 x1.length c1) := by rw [cell_of_row _ _ _ _ _ _ hw, <- he1]; rfl
 have q2 : w.cell? ⟨wb, 2, none⟩ = some (.slice a2 x2.length c2) := by rw [cell_of_row _ _ _ _ _ _ hw, <- he2]; rfl
 have q3 : w.cell? ⟨wb, 3, none⟩ = some (.slice a3 x3.length c3) := by rw [cell_of_row _ _ _ _ _ _ hw, <- he3]; rfl
 have HW : Hid (∀ wx, Below w.heap.size w wx -> wx.cell? ⟨wb, 1, none⟩ = some (.slice a1 x1.length c1) /\ wx.cell? ⟨wb, 2, none⟩ = some (.slice a2 x2.length c2) /\ wx.cell? ⟨wb, 3, none⟩ = some (.slice a3 x3.length c3)) := hide (fun wx hb => ⟨by rw [hb.cell (p := ⟨wb, 1, none⟩) hwl]; exact q1, by rw [hb.cell (p := ⟨wb, 2, none⟩) hwl]; exact q2, by rw [hb.cell (p := ⟨wb, 3, none⟩) hwl]; exact q3⟩)
 have HE1 := hide he1
 have HE2 := hide he2
 have HE3 := hide he3
 have HD1 := hide hd1
 have HD2 := hide hd2
 have HD3 := hide hd3
 clear he1 he2 he3 q1 q2 q3 hd1 hd2 hd3 hw
 have eqA := eq_arr8 0 0 0 0 0 0 0 0
 go_enter Tryz.func9, Tryz.ntmps9
 go_wp2_with fail
 go_loopw [3] (fun j wr => ∃ n : Nat, n <= x1.length /\ j = .int .i64 n /\ Below w.heap.size w wr) (fun j _ => x1.length - (intOf j).toNat)
 case atStart => exact ⟨0, by omega, rfl, Below.refl _ _⟩
 case round =>
  obtain ⟨n0, hn0, rfl, hbl0⟩ := hrel
  obtain ⟨q1, q2, q3⟩ := HW.out wr hbl0
  by_cases hlt0 : n0 < x1.length
  · obtain ⟨g, c, a, m, c2, he, hcell, hm, hel⟩ := HD1.out.at n0 hlt0
    obtain ⟨ea, _, ec⟩ : a1 = some ⟨g, 0, none⟩ /\ True /\ c1 = c := by rw [HE1.out] at he; simpa using he
    subst ea
    subst ec
    have hgl := World.block_lt_of_cell? w _ hcell
    have HEL := hide hel
    have HCE := hide hcell
    clear hel hcell he
    go_wp2_with fail
    clear q1 q2 q3
    go_loopw [4] (fun j wr => ∃ p : Nat, p <= m /\ j = .int .i64 p /\ Below w.heap.size w wr) (fun j _ => m - (intOf j).toNat)
    case atStart => exact ⟨0, by omega, rfl, hbl0⟩
    case round =>
     obtain ⟨p, hp, rfl, hbp⟩ := hrel
     obtain ⟨q1, q2, q3⟩ := HW.out wr hbp
     have hce : wr.cell? ⟨g, n0, none⟩ = some (.slice a m c2) := by rw [hbp.cell (p := ⟨g, n0, none⟩) hgl]; exact HCE.out
     by_cases hlt2 : p < m
     · obtain ⟨g2, rfl, hcells⟩ := HEL.out p hlt2
       have hcx : ∀ f u, (markC n0)[f]? = some u -> wr.cell? ⟨g2, p * 5 + f, none⟩ = some u := fun f u hf => by
        have h2 := hcells f u hf rfl
        rw [hbp.cell (p := ⟨g2, _, none⟩) (World.block_lt_of_cell? w _ h2)]; exact h2
       have z0 : wr.cell? ⟨g2, p * 5, none⟩ = some (.int .i64 (mrkI n0)) := hcx 0 _ rfl
       have z1 : wr.cell? ⟨g2, p * 5 + 1, none⟩ = some (.int .i64 0) := hcx 1 _ rfl
       have z2 : wr.cell? ⟨g2, p * 5 + 2, none⟩ = some (.int .i64 0) := hcx 2 _ rfl
       have z3 : wr.cell? ⟨g2, p * 5 + 3, none⟩ = some (.int .i64 0) := hcx 3 _ rfl
       have z4 : wr.cell? ⟨g2, p * 5 + 4, none⟩ = some (.int .i64 0) := hcx 4 _ rfl
       clear hcx hcells q2 q3
       go_wp2_with fail
       go_quiet ((go_at_call 23; exact Calls.quiet_of_same (mark_q _ _ (by omega))))
       go_wp2
       exact ⟨⟨p + 1, by omega, by go_num, below_drewN hbp _⟩, by simp [intOf]; omega⟩
     · go_wp2
       exact ⟨⟨n0 + 1, by omega, by go_num, hbp⟩, by simp [intOf]; omega⟩
  · go_wp2_with fail
    clear q1 q2 q3 hn0 hlt0
    go_loopw [5] (fun j wr => ∃ n : Nat, n <= x2.length /\ j = .int .i64 n /\ Below w.heap.size w wr) (fun j _ => x2.length - (intOf j).toNat)
    case atStart => exact ⟨0, by omega, rfl, hbl0⟩
    case round =>
     clear hbl0
     obtain ⟨n2, hn2, rfl, hbl0⟩ := hrel
     obtain ⟨q1, q2, q3⟩ := HW.out wr hbl0
     by_cases hlt0 : n2 < x2.length
     · obtain ⟨g, c, a, m, cc, he, hcell, hm, hel⟩ := HD2.out.at n2 hlt0
       obtain ⟨ea, _, ec⟩ : a2 = some ⟨g, 0, none⟩ /\ True /\ c2 = c := by rw [HE2.out] at he; simpa using he
       subst ea
       subst ec
       have hgl := World.block_lt_of_cell? w _ hcell
       have HEL := hide hel
       have HCE := hide hcell
       clear hel hcell he
       go_wp2_with fail
       clear q1 q2 q3
       go_loopw [6] (fun j wr => ∃ p : Nat, p <= m /\ j = .int .i64 p /\ Below w.heap.size w wr) (fun j _ => m - (intOf j).toNat)
       case atStart => exact ⟨0, by omega, rfl, hbl0⟩
       case round =>
        obtain ⟨p, hp, rfl, hbp⟩ := hrel
        obtain ⟨q1, q2, q3⟩ := HW.out wr hbp
        have hce : wr.cell? ⟨g, n2, none⟩ = some (.slice a m cc) := by rw [hbp.cell (p := ⟨g, n2, none⟩) hgl]; exact HCE.out
        by_cases hlt2 : p < m
        · obtain ⟨g2, rfl, hcells⟩ := HEL.out p hlt2
          have hcx : ∀ f u, (markV n2)[f]? = some u -> wr.cell? ⟨g2, p * 9 + f, none⟩ = some u := fun f u hf => by
           have h2 := hcells f u hf rfl
           rw [hbp.cell (p := ⟨g2, _, none⟩) (World.block_lt_of_cell? w _ h2)]; exact h2
          have z0 : wr.cell? ⟨g2, p * 9, none⟩ = some (.int .i64 (mrkI n2)) := hcx 0 _ rfl
          have z1 : wr.cell? ⟨g2, p * 9 + 1, none⟩ = some (.int .i64 0) := hcx 1 _ rfl
          have z2 : wr.cell? ⟨g2, p * 9 + 2, none⟩ = some (.int .i64 0) := hcx 2 _ rfl
          have z3 : wr.cell? ⟨g2, p * 9 + 3, none⟩ = some (.int .i64 0) := hcx 3 _ rfl
          have z4 : wr.cell? ⟨g2, p * 9 + 4, none⟩ = some (.int .i64 0) := hcx 4 _ rfl
          have z5 : wr.cell? ⟨g2, p * 9 + 5, none⟩ = some (.int .i64 0) := hcx 5 _ rfl
          have z6 : wr.cell? ⟨g2, p * 9 + 6, none⟩ = some (.int .i64 0) := hcx 6 _ rfl
          have z7 : wr.cell? ⟨g2, p * 9 + 7, none⟩ = some (.int .i64 0) := hcx 7 _ rfl
          have z8 : wr.cell? ⟨g2, p * 9 + 8, none⟩ = some (.int .i64 0) := hcx 8 _ rfl
          clear hcx hcells q1 q3
          go_wp2_with fail
          go_quiet ((go_at_call 23; exact Calls.quiet_of_same (mark_q _ _ (by omega))))
          go_wp2
          exact ⟨⟨p + 1, by omega, by go_num, below_drewN hbp _⟩, by simp [intOf]; omega⟩
        · go_wp2
          exact ⟨⟨n2 + 1, by omega, by go_num, hbp⟩, by simp [intOf]; omega⟩
     · go_wp2_with fail
       clear q1 q2 q3 hn2 hlt0
       go_loopw [7] (fun j wr => ∃ n : Nat, n <= x3.length /\ j = .int .i64 n /\ Below w.heap.size w wr) (fun j _ => x3.length - (intOf j).toNat)
       case atStart => exact ⟨0, by omega, rfl, hbl0⟩
       case round =>
        clear hbl0
        obtain ⟨n3, hn3, rfl, hbl0⟩ := hrel
        obtain ⟨q1, q2, q3⟩ := HW.out wr hbl0
        by_cases hlt0 : n3 < x3.length
        · obtain ⟨g, c, a, m, cc, he, hcell, hm, hel⟩ := HD3.out.at n3 hlt0
          obtain ⟨ea, _, ec⟩ : a3 = some ⟨g, 0, none⟩ /\ True /\ c3 = c := by rw [HE3.out] at he; simpa using he
          subst ea
          subst ec
          have hgl := World.block_lt_of_cell? w _ hcell
          have HEL := hide hel
          have HCE := hide hcell
          clear hel hcell he
          go_wp2_with fail
          clear q1 q2 q3
          go_loopw [8] (fun j wr => ∃ p : Nat, p <= m /\ j = .int .i64 p /\ Below w.heap.size w wr) (fun j _ => m - (intOf j).toNat)
          case atStart => exact ⟨0, by omega, rfl, hbl0⟩
          case round =>
           obtain ⟨p, hp, rfl, hbp⟩ := hrel
           obtain ⟨q1, q2, q3⟩ := HW.out wr hbp
           have hce : wr.cell? ⟨g, n3, none⟩ = some (.slice a m cc) := by rw [hbp.cell (p := ⟨g, n3, none⟩) hgl]; exact HCE.out
           by_cases hlt2 : p < m
           · obtain ⟨g2, rfl, hcells⟩ := HEL.out p hlt2
             have hrw : wr.rangeAt g2 (p * 17) (clC (mrkI n3) zeroS).toList := fun f u hf => by
              have h2 := hcells f u hf rfl
              rw [hbp.cell (p := ⟨g2, _, none⟩) (World.block_lt_of_cell? w _ h2)]; exact h2
             have hg2 : g2 < wr.heap.size := World.block_lt_of_cell? wr ⟨g2, _, none⟩ (hrw 0 _ rfl)
             have hce1 : wr.cell? ⟨g, n3 * 1, none⟩ = some (.slice (some ⟨g2, 0, none⟩) m cc) := by rw [Nat.mul_one]; exact hce
             have HBP := hide hbp
             clear hcells q1 q2 hbp
             have hk := Kn.nil [] wr
             go_upto_region 23 with ((with_reducible apply gL); (first | refine wS hk ?_ | (refine wN hk ?_; clear hk; intro w1 hk)); simp only [pw])
             (refine wp_regK hk (.op 0 (.op 1 (.op 2 (.op 3 (.op 4 (.op 5 (.op 6 (.op 7 (.op 8 (.op 9 (.op 10 (.op 11 (.op 12 (.op 13 .nil)))))))))))))) (fun i => decide (i < 14)) mixT (by decide) (by kernel_rfl) (by kernel_rfl) ?_; clear hk; intro w1 hk)
             (repeat (refine sU hk ?_; simp only [pw]))
             refine sNil hk ?_; simp only [pw]
             refine sFieldJ fD2 hk ?_; simp only [pw]
             refine sOldCY o1Cls hk ?_ q3; simp only [pw]
             (repeat (refine sU hk ?_; simp only [pw]))
             refine sCall ?_; intro K hK; go_step; go_at_call 23; refine (mark_any _ _ (by omega)).mono ?_; rintro e w2 ⟨rfl, rfl⟩; refine hK _ _ (fun _ => hk) ?_; clear hK K
             refine sBuild hk ?_ (hb := fun wx => build_cla _ wx); simp only [pw]
             refine sNeqCl hk ?_; simp only [pw]
             refine tNil ?_
             go_wp2_with ((with_reducible apply gL); (first | refine wS hk ?_ | (refine wN hk ?_; clear hk; intro w1 hk)); simp only [pw])
             go_roundw
             case rel => exact ⟨p + 1, by omega, by go_num, HBP.out.trans (hk.mod.below.mono HBP.out.size)⟩
             case measure => simp [intOf]; omega
           · go_wp2
             exact ⟨⟨n3 + 1, by omega, by go_num, hbp⟩, by simp [intOf]; omega⟩
        · go_wp2
          go_ret
          exact ⟨rfl, hbl0⟩
end Go.Proofs.YtamiichlbmllcabGreatDoor
