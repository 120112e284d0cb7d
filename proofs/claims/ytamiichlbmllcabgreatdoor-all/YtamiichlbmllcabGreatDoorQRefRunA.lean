import Derived.Test.YtamiichlbmllcabGreatDoorQThTab
import Derived.Test.YtamiichlbmllcabGreatDoorQArmW
import Derived.Test.YtamiichlbmllcabGreatDoorQKn
import Derived.Test.YtamiichlbmllcabGreatDoorQRefA
import Derived.Deep.CutRange
import Derived.Deep.DeepCutAuto
set_option maxRecDepth 100000
set_option maxHeartbeats 32000000
namespace Go.Proofs.YtamiichlbmllcabGreatDoor
open Go.RowKit
theorem chk_zero {l : List I5} (hl : AllFit l) {e : St} {cl : List C2} (h64 : In64 l e cl) (h : (checkR l e cl).1 = 0) : checkR l e cl = (0, 0) := by
 obtain ⟨ht, hst, hfw⟩ := hl.taken h64 h
 unfold checkR
 rw [if_pos hst, if_neg (by omega)]
 exact ht.pass
theorem scheck_zero {l : List I5} {e : St} {cl : List C2} (h64 : In64 l e cl) (h : (scheckR l e cl).1 = 0) : scheckR l e cl = (0, 0) /\ rightR l = (0, 0) /\ ∃ c, Taken l c e := by
 rcases rightR_or l with hr | hr
 · have R : scheckR l e cl = ((checkR l e cl).1, ((checkR l e cl).2 : Int)) := by unfold scheckR; rw [if_pos hr]
   rw [R] at h
   have h0 := chk_zero (right_fit hr) h64 h
   exact ⟨by rw [R, h0]; rfl, hr, _, ((right_fit hr).taken h64 h).1⟩
 · have R : scheckR l e cl = rightR l := by unfold scheckR; rw [if_neg (by intro h; rw [h] at hr; simp at hr)]
   rw [R, hr] at h
   simp at h
theorem ThreadAt.keepB {w w' : World} {t : Nat} {l : List I5} {e : St} {base : Nat} (h : ThreadAt w t l e base) (hz : w.heap.size <= w'.heap.size) (hb : ∀ k, base <= k -> k < w.heap.size -> w'.heap[k]? = w.heap[k]?) : ThreadAt w' t l e base := by
 obtain ⟨⟨pb, cap, h1, h2, h3, h4, A, h5⟩, h6⟩ := h
 refine ⟨⟨pb, cap, ?_, h2.keep hz (hb pb h3 h2.1), h3, h4, A, ?_⟩, h6⟩
 · unfold At at h1 ⊢; rw [hb _ h6 (lt_of_block h1), h1]
 · unfold At at h5 ⊢; rw [hb _ h3 (lt_of_block h5), h5]
theorem ThreadAt.low2 {w : World} {t : Nat} {l : List I5} {e : St} {base B : Nat} (h : ThreadAt w t l e base) (hB : B <= base) : ThreadAt w t l e B := by
 obtain ⟨⟨pb, cap, h1, h2, h3, h4⟩, h6⟩ := h
 exact ⟨⟨pb, cap, h1, h2, Nat.le_trans hB h3, h4⟩, Nat.le_trans hB h6⟩
theorem Tryz.infoInsT : (Tryz.prog.info? 35).map (fun i => (i.zero, i.size, i.bytes)) = some (some (.agg #[.int .i64 0, .int .i64 0, .int .i64 0, .int .i64 0, .int .i64 0]), 5, 40) := by kernel_rfl
theorem Tryz.infoTd : (Tryz.prog.info? 113).map (fun i => (i.zero, i.size, i.bytes)) = some (some (.agg #[.pointer none, .slice none 0 0, .int .i64 0, .int .i64 0, .int .i64 0, .int .i64 0, .int .i64 0, .int .i64 0, .int .i64 0, .int .i64 0, .int .i64 0, .int .i64 0, .int .i64 0, .int .i64 0, .int .i64 0, .int .i64 0, .int .i64 0, .int .i64 0]), 18, 160) := by kernel_rfl
theorem build_td (t : Nat) (p : Option Addr) (a b : Nat) (s : St) (w : World) : (Instr.build 113 [(0, .pointer (some ⟨t, 0, none⟩)), (1, .slice p a b), (2, .agg (stC s))].toArray).run Tryz.prog w = .ok (.agg (tdC t (.slice p a b) s)) w := run_build w _ _ _ (by kernel_rfl)
theorem td_one (t : Nat) (p : Option Addr) (a b : Nat) (s : St) : (tdC t (.slice p a b) s).toList.all (·.oneCell') = true := by kernel_rfl
section
variable {l : List Oper} {Q : Exit -> Act -> World -> Prop} {F : Nat -> Bool} {S : World -> Prop} {i : Nat} {r : OT} {a : Act} {w w0 : World} {M : List Nat} {L L' : RowL} {d : Option Tmp} {x y : Operand} {t tt ty : TypeId} {pos : String} {aft : Array Edge} {g : Option (Nat × Bool)} {b j n : Nat} {A A' : Array Value}
theorem sBuildTd {tb : Nat} {p : Option Addr} {pa pc : Nat} {s : St} (h : ∀ w1, w1 = w.alloc (.cells (tdC tb (.slice p pa pc) s) 113) -> (F i = true -> S w1) /\ wpT Tryz.prog l Q F S r (a.put d (.slice (some ⟨w.heap.size, 0, none⟩) 1 1)) w1) (ho : nthO i l = some ⟨d, .buildSlice 43 1 #[(0, x)], tt, pos, aft, g⟩ := by rfl) (hw : Region.wanted ⟨d, .buildSlice 43 1 #[(0, x)], tt, pos, aft, g⟩ (yielded l.toArray a.tmps) = true := by rfl) (hx : a.eval x = .agg (tdC tb (.slice p pa pc) s) := by rfl) : wpT Tryz.prog l Q F S (.op i r) a w := by
 obtain ⟨ie, hie, hz⟩ : ∃ ie, Tryz.prog.info? 113 = some ie /\ (ie.size = 18 /\ ie.zero = some (.agg #[.pointer none, .slice none 0 0, .int .i64 0, .int .i64 0, .int .i64 0, .int .i64 0, .int .i64 0, .int .i64 0, .int .i64 0, .int .i64 0, .int .i64 0, .int .i64 0, .int .i64 0, .int .i64 0, .int .i64 0, .int .i64 0, .int .i64 0, .int .i64 0])) := by
  obtain ⟨ie, hi, h0, h1, _⟩ := info_parts Tryz.infoTd
  exact ⟨ie, hi, h1, h0⟩
 refine tActK ho rfl hw fun K hK => wp_buildSlice 43 113 1 _ rfl (tdC tb (.slice p pa pc) s) ie _ Tryz.underlying43 hie hz.2 (by rw [hz.1]; omega) (by rw [hz.1]; omega) ?_ ?_
 · rw [hz.1]
   have e : (#[(0, x)].map fun (i, x) => (i, a.eval x)).toList = [(0, Value.agg (tdC tb (.slice p pa pc) s))] := by simp [hx]
   rw [e]
   have e2 : Instr.fill (fun i => some (i * 18, 18)) ((Array.range (1 * 18)).map ((Value.agg #[.pointer none, .slice none 0 0, .int .i64 0, .int .i64 0, .int .i64 0, .int .i64 0, .int .i64 0, .int .i64 0, .int .i64 0, .int .i64 0, .int .i64 0, .int .i64 0, .int .i64 0, .int .i64 0, .int .i64 0, .int .i64 0, .int .i64 0, .int .i64 0]).cells[· % (Value.agg #[.pointer none, .slice none 0 0, .int .i64 0, .int .i64 0, .int .i64 0, .int .i64 0, .int .i64 0, .int .i64 0, .int .i64 0, .int .i64 0, .int .i64 0, .int .i64 0, .int .i64 0, .int .i64 0, .int .i64 0, .int .i64 0, .int .i64 0, .int .i64 0]).cells.size]!)) [(0, Value.agg (tdC tb (.slice p pa pc) s))] = some (tdC tb (.slice p pa pc) s) := by kernel_rfl
   exact e2
 · have := h _ rfl
   exact hK _ _ this.1 this.2
end
theorem ins_cells {w : World} {b off : Nat} {l : List I5} (h : ∀ i (hi : i < l.length), InsAt w b (off + i * 5) l[i]) : ∀ j u, (l.flatMap I5.cells)[j]? = some u -> w.cell? ((⟨b, off, none⟩ : Addr).add j) = some u := by
 intro j u hj
 have hjl : j < l.length * 5 := by have := (List.getElem?_eq_some_iff.1 hj).1; rw [flat_len5] at this; exact this
 have hd : j / 5 < l.length := by omega
 have hm : j % 5 < 5 := Nat.mod_lt _ (by omega)
 have hje : j = j / 5 * 5 + j % 5 := by omega
 have o := flat_cells l (j / 5) (j % 5) hd hm
 rw [<- hje, hj] at o
 obtain ⟨h0, h1, h2, h3, h4⟩ := h (j / 5) hd
 rw [addr_add]
 have e : off + j = off + j / 5 * 5 + j % 5 := by omega
 rw [e]
 have hc : j % 5 = 0 \/ j % 5 = 1 \/ j % 5 = 2 \/ j % 5 = 3 \/ j % 5 = 4 := by omega
 rcases hc with hc | hc | hc | hc | hc <;> rw [hc] at o ⊢ <;> simp only [I5.cells] at o <;> simp at o <;> subst o <;> assumption
theorem ins_one (l : List I5) : ∀ u ∈ l.flatMap I5.cells, u.oneCell' = true := by
 intro u hu
 obtain ⟨x, _, hx⟩ := List.mem_flatMap.1 hu
 simp [I5.cells] at hx
 rcases hx with rfl | rfl | rfl | rfl | rfl <;> rfl
theorem LentC.lt {w : World} {base : Nat} {v hv : Value} {cl : List C2} (h : LentC w base v hv cl) : ∀ k, hv.ownBlock = some k -> k < w.heap.size := by
 rcases h with ⟨_, rfl, _⟩ | ⟨a, c, g, _, rfl, _, hat⟩
 · intro k hk; cases hk
 · intro k hk
   simp [Value.ownBlock] at hk
   subst hk
   exact lt_of_block hat
def CompP (wb B : Nat) (lv vi vv vd : Value) (ts : List TRec) (w w' : World) : Prop := ∃ lv' ts', ts.length <= ts'.length /\ ts'.length <= ts.length + 1 /\ At w' wb #[lv', vi, vv, vd] 50 /\ TInv w' B lv' ts' /\ Fr w w' w.heap.size wb lv.ownBlock
theorem CompP.same {wb B : Nat} {lv vi vv vd : Value} {ts : List TRec} {w w' : World} (hw : At w wb #[lv, vi, vv, vd] 50) (hT : TInv w B lv ts) (hb : Below w.heap.size w w') : CompP wb B lv vi vv vd ts w w' := ⟨lv, ts, Nat.le_refl _, by omega, hw.of (hb.block wb (lt_of_block hw)), hT.below hb, hb.os, hb.tape, hb.output, hb.size, fun k hk _ _ => hb.block k hk⟩
theorem compiled_no (l : List I5) (e : St) (cl : List C2) (h64 : In64 l e cl) (k on fu sv : Value) (r : Nat -> Value) (pv cv : Value) (wb : Nat) (w : World) (hs : Shapes w) (hp : Arg w pv l) (hlen : l.length * 40 <= 140737488351232) (hc : ArgC w cv cl) (hcl : cl.length * 136 <= 140737488351232) (hne : (scheckR l e cl).1 ≠ 0) :
 Calls Tryz.prog 21 #[.pointer (some ⟨wb, 0, none⟩), .agg (opC k on fu pv sv e cv r)] w fun x w' => x = .returned (.bool true) /\ Below w.heap.size w w' := by
 have hk := Kn.nil [] w
 have hcl2 : cl.length < 4000000000000 := by omega
 have HS := hide hs
 have HP := hide hp
 have HC := hide hc
 have H64 := hide h64
 have HNE := hide hne
 clear hs hp hc h64 hne
 go_enter Tryz.func21, Tryz.ntmps21
 go_wp2_with (first | (refine wLoad1 hk ?_ (hv := op_3 _ _ _ _ _ _ _ _); simp only [pw]) | (refine wLoad1 hk ?_ (hv := op_21 _ _ _ _ _ _ _ _); simp only [pw]) | (refine wLoadR hk ?_ (hc := ex_op _ _ _ _ _ _ _ _); simp only [pw]) | ((with_reducible apply gL); (first | refine wS hk ?_ | (refine wN hk ?_; clear hk; intro w1 hk)); simp only [pw]))
 go_at_call 32
 have hb1 := hk.mod.below
 have hn1 : w.heap.size < w1.heap.size := lt_of_block (hk.at List.mem_cons_self)
 have HP1 := hide (HP.out.below hb1 (Nat.le_refl _))
 have HC1 := hide (HC.out.below hb1 (Nat.le_refl _))
 refine (lent_any l pv w1 HP1.out hlen).mono ?_
 rintro x w2 ⟨hv, rfl, hL2, hb2⟩
 replace hk := hk.call hb2
 go_wp2_with (first | (refine wLoad1 hk ?_ (hv := op_3 _ _ _ _ _ _ _ _); simp only [pw]) | (refine wLoad1 hk ?_ (hv := op_21 _ _ _ _ _ _ _ _); simp only [pw]) | (refine wLoadR hk ?_ (hc := ex_op _ _ _ _ _ _ _ _); simp only [pw]) | ((with_reducible apply gL); (first | refine wS hk ?_ | (refine wN hk ?_; clear hk; intro w1 hk)); simp only [pw]))
 go_at_call 48
 refine (lentC_any cl cv w2 (HC1.out.below hb2 (Nat.le_refl _)) hcl).mono ?_
 rintro x w3 ⟨hcv, rfl, hC3, hb3⟩
 have hb13 : Below w1.heap.size w1 w3 := hb2.trans (hb3.mono hb2.size)
 have hs3 : Shapes w3 := HS.out.below (hb1.trans (hb13.mono hb1.size)) HS.out.1
 have hL3 := hL2.below hb3
 have HLT : Hid (∀ k, hv.ownBlock = some k -> k < w2.heap.size) := hide hL2.lt
 replace hk := hk.call hb3
 go_wp2_with (first | (refine wLoad1 hk ?_ (hv := op_3 _ _ _ _ _ _ _ _); simp only [pw]) | (refine wLoad1 hk ?_ (hv := op_21 _ _ _ _ _ _ _ _); simp only [pw]) | (refine wLoadR hk ?_ (hc := ex_op _ _ _ _ _ _ _ _); simp only [pw]) | ((with_reducible apply gL); (first | refine wS hk ?_ | (refine wN hk ?_; clear hk; intro w1 hk)); simp only [pw]))
 go_at_call 6
 refine (compile_no l e cl H64.out hcl2 hv hcv w3 hs3 hL3.slc hC3.slc HNE.out).mono ?_
 rintro x w4 ⟨rfl, hb4⟩
 obtain ⟨PE, PN, hPS⟩ : ∃ PE PN, scheckR l e cl = (PE, PN) := ⟨_, _, rfl⟩
 have HPS := hide hPS
 rw [hPS] at HNE ⊢
 have hn1' : (PE == 0) = false := by rw [beq_eq_false_iff_ne]; exact HNE.out
 have hn2' : (PE != 0) = true := by rw [bne_iff_ne]; exact HNE.out
 clear hPS
 have hb14 : Below w1.heap.size w1 w4 := hb13.trans (hb4.mono hb13.size)
 have HL4 := hide (hL3.below hb4)
 have HC4 := hide (hC3.below hb4)
 have H12 := hide hb2.size
 have H24 := hide (Nat.le_trans hb3.size hb4.size)
 replace hk := hk.call hb4
 clear hL2 hL3 hC3 hs3 hb13
 go_wp2_with (first | (refine wLoad1 hk ?_ (hv := op_3 _ _ _ _ _ _ _ _); simp only [pw]) | (refine wLoad1 hk ?_ (hv := op_21 _ _ _ _ _ _ _ _); simp only [pw]) | (refine wLoadR hk ?_ (hc := ex_op _ _ _ _ _ _ _ _); simp only [pw]) | ((with_reducible apply gL); (first | refine wS hk ?_ | (refine wN hk ?_; clear hk; intro w1 hk)); simp only [pw]))
 go_at_call 35
 refine (lawBack2 l pv hv w1.heap.size w1 w4 HL4.out HP1.out (Nat.le_refl _) hb14 hlen).mono ?_
 rintro x w5 ⟨rfl, hb5, hk5⟩
 have hb15 : Below w1.heap.size w1 w5 := hb14.trans hb5
 have HC5 : Hid (LentC w5 w2.heap.size cv hcv cl) := hide (by
  rcases HC4.out with h | ⟨a, c, g, h1, h2, h3, h4⟩
  · exact Or.inl h
  · refine Or.inr ⟨a, c, g, h1, h2, h3, ?_⟩
    unfold At at h4 ⊢
    rw [hk5 g (lt_of_block h4) (fun hh => by have := HLT.out g hh.symm; omega), h4])
 replace hk := hk.callB hb5 (by omega) (fun x hx => by simp at hx; subst hx; exact hn1)
 clear hk5
 go_wp2_with (first | (refine wLoad1 hk ?_ (hv := op_3 _ _ _ _ _ _ _ _); simp only [pw]) | (refine wLoad1 hk ?_ (hv := op_21 _ _ _ _ _ _ _ _); simp only [pw]) | (refine wLoadR hk ?_ (hc := ex_op _ _ _ _ _ _ _ _); simp only [pw]) | ((with_reducible apply gL); (first | refine wS hk ?_ | (refine wN hk ?_; clear hk; intro w1 hk)); simp only [pw]))
 go_at_call 49
 refine (backC2 cl cv hcv w2.heap.size w1 w5 HC5.out HC1.out H12.out hb15 hcl).mono ?_
 rintro x w6 ⟨rfl, hb6, hk6⟩
 have hb16 : Below w1.heap.size w1 w6 := hb15.trans (hb6.mono H12.out)
 replace hk := hk.callB hb6 (by have := H12.out; omega) (fun x hx => by simp at hx; subst hx; have := H12.out; omega)
 clear hk6
 go_wp2_with (first | (refine wLoad1 hk ?_ (hv := op_3 _ _ _ _ _ _ _ _); simp only [pw]) | (refine wLoad1 hk ?_ (hv := op_21 _ _ _ _ _ _ _ _); simp only [pw]) | (refine wLoadR hk ?_ (hc := ex_op _ _ _ _ _ _ _ _); simp only [pw]) | ((with_reducible apply gL); (first | refine wS hk ?_ | (refine wN hk ?_; clear hk; intro w1 hk)); simp only [pw]))
 go_at_call 50
 refine (rf_Check l e cl H64.out hcl2 pv cv w6 (HP1.out.below hb16 (Nat.le_refl _)).1 (HC1.out.below hb16 (Nat.le_refl _)).1).mono ?_
 rintro x w7 ⟨rfl, hb7⟩
 rw [HPS.out]
 replace hk := hk.call hb7
 clear hb1 hb2 hb3 hb4 hb5 hb6 hb7 hb14 hb15 hb16
 go_wp2_with (first | (go_at_call 38; refine (num_any _ _).mono ?_; rintro x w8 ⟨rfl, rfl⟩) | ((with_reducible apply gL); (first | refine wS hk ?_ | (refine wN hk ?_; clear hk; intro w1 hk)); simp only [pw]))
 go_ret
 exact ⟨rfl, hk.mod.below⟩
theorem compiled_ok (l : List I5) (e : St) (cl : List C2) (h64 : In64 l e cl) (k on fu sv : Value) (r : Nat -> Value) (pb poff pcap : Nat) (cv : Value) (wb B : Nat) (la : Option Addr) (lc : Nat) (vi vv vd : Value) (ts : List TRec) (w : World) (hs : Shapes w) (hp : Arg w (.slice (some ⟨pb, poff, none⟩) l.length pcap) l) (hlen : l.length * 40 <= 140737488351232) (hc : ArgC w cv cl) (hcl : cl.length * 136 <= 140737488351232) (h0 : scheckR l e cl = (0, 0)) (hr : rightR l = (0, 0)) (htk : ∃ c, Taken l c e)
 (hw : At w wb #[.slice la ts.length lc, vi, vv, vd] 50) (hT : TInv w B (.slice la ts.length lc) ts) (hB : B <= w.heap.size) (hn : ts.length < 600000000000) :
 Calls Tryz.prog 21 #[.pointer (some ⟨wb, 0, none⟩), .agg (opC k on fu (.slice (some ⟨pb, poff, none⟩) l.length pcap) sv e cv r)] w fun x w' => x = .returned (.bool true) /\ CompP wb B (.slice la ts.length lc) vi vv vd ts w w' := by
 have hk := Kn.nil [] w
 have hcl2 : cl.length < 4000000000000 := by omega
 obtain ⟨i0, ihi, ih0, ihs, ih2⟩ := info_parts Tryz.infoInsT
 obtain ⟨j0, jhi, jh0, jhs, jh2⟩ := info_parts Tryz.infoTd
 have HS := hide hs
 have HP := hide hp
 have HC := hide hc
 have H64 := hide h64
 have H0 := hide h0
 have HR := hide hr
 have HTK := hide htk
 have HTI := hide hT
 have HW0 := hide hw
 have HLL : Hid (l.length <= 64) := hide (right_fit hr).2.1
 clear hs hp hc h64 h0 hr htk hT
 go_enter Tryz.func21, Tryz.ntmps21
 go_wp2_with (first | (refine wLoad1 hk ?_ (hv := op_3 _ _ _ _ _ _ _ _); simp only [pw]) | (refine wLoad1 hk ?_ (hv := op_21 _ _ _ _ _ _ _ _); simp only [pw]) | (refine wLoadR hk ?_ (hc := ex_op _ _ _ _ _ _ _ _); simp only [pw]) | ((with_reducible apply gL); (first | refine wS hk ?_ | (refine wN hk ?_; clear hk; intro w1 hk)); simp only [pw]))
 go_at_call 32
 have hb1 := hk.mod.below
 have hn1 : w.heap.size < w1.heap.size := lt_of_block (hk.at List.mem_cons_self)
 have HP1 := hide (HP.out.below hb1 (Nat.le_refl _))
 have HC1 := hide (HC.out.below hb1 (Nat.le_refl _))
 refine (lent_any l (.slice (some ⟨pb, poff, none⟩) l.length pcap) w1 HP1.out hlen).mono ?_
 rintro x w2 ⟨hv, rfl, hL2, hb2⟩
 replace hk := hk.call hb2
 go_wp2_with (first | (refine wLoad1 hk ?_ (hv := op_3 _ _ _ _ _ _ _ _); simp only [pw]) | (refine wLoad1 hk ?_ (hv := op_21 _ _ _ _ _ _ _ _); simp only [pw]) | (refine wLoadR hk ?_ (hc := ex_op _ _ _ _ _ _ _ _); simp only [pw]) | ((with_reducible apply gL); (first | refine wS hk ?_ | (refine wN hk ?_; clear hk; intro w1 hk)); simp only [pw]))
 go_at_call 48
 refine (lentC_any cl cv w2 (HC1.out.below hb2 (Nat.le_refl _)) hcl).mono ?_
 rintro x w3 ⟨hcv, rfl, hC3, hb3⟩
 have hb13 : Below w1.heap.size w1 w3 := hb2.trans (hb3.mono hb2.size)
 have hs3 : Shapes w3 := HS.out.below (hb1.trans (hb13.mono hb1.size)) HS.out.1
 have hL3 := hL2.below hb3
 have HLT : Hid (∀ k, hv.ownBlock = some k -> k < w2.heap.size) := hide hL2.lt
 replace hk := hk.call hb3
 go_wp2_with (first | (refine wLoad1 hk ?_ (hv := op_3 _ _ _ _ _ _ _ _); simp only [pw]) | (refine wLoad1 hk ?_ (hv := op_21 _ _ _ _ _ _ _ _); simp only [pw]) | (refine wLoadR hk ?_ (hc := ex_op _ _ _ _ _ _ _ _); simp only [pw]) | ((with_reducible apply gL); (first | refine wS hk ?_ | (refine wN hk ?_; clear hk; intro w1 hk)); simp only [pw]))
 go_at_call 6
 refine (compile_ok l e cl H64.out hcl2 hv hcv w3 hs3 hL3.slc hC3.slc H0.out (right_fit HR.out)).mono ?_
 rintro x w4 ⟨t, rfl, hTh, hb4⟩
 have HTH := hide hTh
 have HCT : Hid (∀ k, hcv.ownBlock = some k -> k < w3.heap.size) := hide hC3.lt
 have H23 := hide hb3.size
 have H34 := hide hb4.size
 clear hTh
 have hb14 : Below w1.heap.size w1 w4 := hb13.trans (hb4.mono hb13.size)
 have HL4 := hide (hL3.below hb4)
 have HC4 := hide (hC3.below hb4)
 have H12 := hide hb2.size
 have H24 := hide (Nat.le_trans hb3.size hb4.size)
 replace hk := hk.call hb4
 clear hL2 hL3 hC3 hs3 hb13
 go_wp2_with (first | (refine wLoad1 hk ?_ (hv := op_3 _ _ _ _ _ _ _ _); simp only [pw]) | (refine wLoad1 hk ?_ (hv := op_21 _ _ _ _ _ _ _ _); simp only [pw]) | (refine wLoadR hk ?_ (hc := ex_op _ _ _ _ _ _ _ _); simp only [pw]) | ((with_reducible apply gL); (first | refine wS hk ?_ | (refine wN hk ?_; clear hk; intro w1 hk)); simp only [pw]))
 go_at_call 35
 refine (lawBack2 l (.slice (some ⟨pb, poff, none⟩) l.length pcap) hv w1.heap.size w1 w4 HL4.out HP1.out (Nat.le_refl _) hb14 hlen).mono ?_
 rintro x w5 ⟨rfl, hb5, hk5⟩
 have hb15 : Below w1.heap.size w1 w5 := hb14.trans hb5
 have HC5 : Hid (LentC w5 w2.heap.size cv hcv cl) := hide (by
  rcases HC4.out with h | ⟨a, c, g, h1, h2, h3, h4⟩
  · exact Or.inl h
  · refine Or.inr ⟨a, c, g, h1, h2, h3, ?_⟩
    unfold At at h4 ⊢
    rw [hk5 g (lt_of_block h4) (fun hh => by have := HLT.out g hh.symm; omega), h4])
 replace hk := hk.callB hb5 (by omega) (fun x hx => by simp at hx; subst hx; exact hn1)
 have HT5 := hide (HTH.out.keepB hb5.size (fun k h1 h2 => hk5 k h2 (fun hh => by have := HLT.out k hh.symm; have := H23.out; omega)))
 clear hk5
 go_wp2_with (first | (refine wLoad1 hk ?_ (hv := op_3 _ _ _ _ _ _ _ _); simp only [pw]) | (refine wLoad1 hk ?_ (hv := op_21 _ _ _ _ _ _ _ _); simp only [pw]) | (refine wLoadR hk ?_ (hc := ex_op _ _ _ _ _ _ _ _); simp only [pw]) | ((with_reducible apply gL); (first | refine wS hk ?_ | (refine wN hk ?_; clear hk; intro w1 hk)); simp only [pw]))
 go_at_call 49
 refine (backC2 cl cv hcv w2.heap.size w1 w5 HC5.out HC1.out H12.out hb15 hcl).mono ?_
 rintro x w6 ⟨rfl, hb6, hk6⟩
 have hb16 : Below w1.heap.size w1 w6 := hb15.trans (hb6.mono H12.out)
 replace hk := hk.callB hb6 (by have := H12.out; omega) (fun x hx => by simp at hx; subst hx; have := H12.out; omega)
 have HT6 := hide (HT5.out.keepB hb6.size (fun k h1 h2 => hk6 k h2 (fun hh => by have := HCT.out k hh.symm; omega)))
 clear hk6
 go_wp2_with (first | (refine wLoad1 hk ?_ (hv := op_3 _ _ _ _ _ _ _ _); simp only [pw]) | (refine wLoad1 hk ?_ (hv := op_21 _ _ _ _ _ _ _ _); simp only [pw]) | (refine wLoadR hk ?_ (hc := ex_op _ _ _ _ _ _ _ _); simp only [pw]) | ((with_reducible apply gL); (first | refine wS hk ?_ | (refine wN hk ?_; clear hk; intro w1 hk)); simp only [pw]))
 go_at_call 50
 refine (rf_Check l e cl H64.out hcl2 (.slice (some ⟨pb, poff, none⟩) l.length pcap) cv w6 (HP1.out.below hb16 (Nat.le_refl _)).1 (HC1.out.below hb16 (Nat.le_refl _)).1).mono ?_
 rintro x w7 ⟨rfl, hb7⟩
 rw [H0.out]
 replace hk := hk.call hb7
 have HT7 := hide (HT6.out.keepB hb7.size (fun k h1 h2 => hb7.block k h2))
 have HP7 := hide (HP1.out.below (hb16.trans (hb7.mono hb16.size)) (Nat.le_refl _)).1
 have HB7 := hide hk.mod.below
 have H13 := hide (Nat.le_trans H12.out H23.out)
 have H37 := hide (show w3.heap.size <= w7.heap.size by have h1 := H34.out; have h2 := hb5.size; have h3 := hb6.size; have h4 := hb7.size; omega)
 clear hb1 hb2 hb3 hb4 hb5 hb6 hb7 hb14 hb15 hb16
 go_upto_region 11 with (first | (go_at_call 38; refine (num_any _ _).mono ?_; rintro x w8 ⟨rfl, rfl⟩) | ((with_reducible apply gL); (first | refine wS hk ?_ | (refine wN hk ?_; clear hk; intro w1 hk)); simp only [pw]))
 (refine wp_regLK hk (.op 0 (.op 1 (.op 2 (.op 3 (.op 4 .nil))))) (by rfl) ?_)
 (repeat (refine sU hk ?_; simp only [pw]))
 refine sFieldY fOp3 hk ?_; simp only [pw]
 refine sLoad1 hk ?_ (hv := op_3 _ _ _ _ _ _ _ _); simp only [pw]
 obtain ⟨qb, qo, qc, hqe, hqb, hqi⟩ : ∃ b off cap, (Value.slice (some ⟨pb, poff, none⟩) l.length pcap) = .slice (some ⟨b, off, none⟩) l.length cap /\ b < w7.heap.size /\ ∀ i (h : i < l.length), InsAt w7 b (off + i * 5) l[i] := by
  rcases HP7.out with ⟨_, h0⟩ | h
  · have := (right_fit HR.out).1
    rw [h0] at this
    simp at this
  · exact h
 simp only [Value.slice.injEq, Option.some.injEq, Addr.mk.injEq, and_true, true_and] at hqe
 obtain ⟨⟨rfl, rfl⟩, rfl⟩ := hqe
 have hll := HLL.out
 refine tActK (by rfl) (by rfl) (by rfl) (fun K hK => wp_append_own w7 (.tmp 74) (.tmp 76) 36 rfl w7.heap.size 35 i0 _ 5 40 Tryz.underlying36 ihi ih0 ihs ih2 rfl (by decide) (.slice none 0 0) 0 [] (by rfl) (World.ownsRow_nil _ _ _ _) ⟨pb, poff, none⟩ l.length pcap (l.flatMap I5.cells) (by rfl) (flat_len5 l) (fun j u hj => ?_) (fun u hu => ?_) (by unfold maxLen; omega) (by omega) (Nat.le_refl _) (fun v8 w8 hown8 hg8 _ => hK _ _ (fun _ => hk.call (grown_mod (v := .slice none 0 0) hg8).below) ?_))
 · exact ins_cells hqi j u hj
 · exact ins_one l u hu
 · rw [Nat.zero_add, List.nil_append] at hown8
   obtain ⟨na, nc, rfl⟩ := own_len hown8
   have hm8 : Mod [] w7 w8 := grown_mod (v := .slice none 0 0) hg8
   replace hk := hk.call hm8.below
   have HO8 := hide hown8
   have HT8 := hide (HT7.out.keepB hm8.size (fun k h1 h2 => hm8.block k h2 List.not_mem_nil))
   have HB8 := hide hk.mod.below
   have H78 := hide hm8.size
   clear hown8 hg8 hm8 hqi hqb
   simp only [pw]
   refine uAssignS hk ?_; simp only [pw]
   refine tNil ?_
   go_upto_region 12 with ((with_reducible apply gL); (first | refine wS hk ?_ | (refine wN hk ?_; clear hk; intro w1 hk)); simp only [pw])
   have hla : ∀ g, (Value.slice la ts.length lc).ownBlock = some g -> g < w.heap.size := fun g hg => (World.ownsRow.lt HTI.out.1 g hg).2
   have hty : ∀ g, (Value.slice la ts.length lc).ownBlock = some g -> ∃ A, w.heap[g]? = some (.cells A 113 (0, 0)) := fun g hg => by
    rcases HTI.out.1.2 with ⟨h, _⟩ | ⟨g', cap, cur, h, _, hh, _⟩
    · rw [h] at hg; cases hg
    · rw [h] at hg
      simp [Value.ownBlock] at hg
      subst hg
      exact ⟨cur, hh⟩
   have hop8 : At w8 w.heap.size (opC k on fu (.slice (some ⟨pb, poff, none⟩) l.length pcap) sv e cv r) 53 := hk.at mm
   have hwb8 : At w8 wb #[.slice la ts.length lc, vi, vv, vd] 50 := HW0.out.of (HB8.out.block wb (lt_of_block HW0.out))
   have hmo : w.heap.size ∉ ownM (.slice la ts.length lc) := fun h => by unfold ownM at h; have := hla w.heap.size (by simpa using h); omega
   have hmw : wb ∉ ownM (.slice la ts.length lc) := fun h => by
    unfold ownM at h
    obtain ⟨A, hA⟩ := hty wb (by simpa using h)
    have h2 := HW0.out
    unfold At at h2
    rw [h2] at hA
    simp at hA
   have HLA := hide hla
   have HTY := hide hty
   clear hk hla hty hw
   refine wp_regT2 (.op 0 (.op 1 (.op 2 (.op 3 (.op 4 (.op 5 (.op 6 (.op 7 (.op 8 (.op 9 (.op 10 (.op 11 (.op 12 (.op 13 (.op 14 .nil))))))))))))))) (fun i => decide (i < 14)) (fun wx => Kn (ownM (.slice la ts.length lc)) w8 wx []) mixT (by decide) (by kernel_rfl) (by kernel_rfl) ?_
   have hk : Kn (ownM (.slice la ts.length lc)) w8 w8.drew [] := (Kn.nil _ w8).drew
   have hd9 : ∀ k : Nat, w8.drew.heap[k]? = w8.heap[k]? := fun _ => rfl
   obtain ⟨w9, hw9⟩ : ∃ x, w8.drew = x := ⟨_, rfl⟩
   rw [hw9] at hk hd9 ⊢
   have HD9 := hide hd9
   clear hw9 hd9
   (repeat (refine sU hk ?_; simp only [pw]))
   refine sNil hk ?_; simp only [pw]
   refine sFieldY fW0 hk ?_; simp only [pw]
   refine sOldY o1Ths hk ?_; simp only [pw]
   (repeat (refine sU hk ?_; simp only [pw]))
   refine sFieldY fOp5 hk ?_; simp only [pw]
   refine sOldR hk ?_ (hc := ex_op _ _ _ _ _ _ _ _); simp only [pw]
   refine sBuild hk ?_ (hb := fun wx => build_td _ _ _ _ _ wx); simp only [pw]
   refine sBuildTd ?_; intro wa hwa; refine ⟨fun _ => by rw [hwa]; exact (hk.alloc _ _).drop, ?_⟩; simp only [pw]
   have HM9 := hide hk.mod
   have hka : Kn (ownM (.slice la ts.length lc)) w8 wa [] := by rw [hwa]; exact (hk.alloc _ _).drop
   subst hwa
   have hown9 : (w9.alloc (.cells (tdC t (.slice na l.length nc) e) 113)).ownsRow B 113 18 (.slice la ts.length lc) ts.length (ts.flatMap TRec.cells) := World.ownsRow.alloc (own_block HTI.out.1 (fun g hg _ => (HD9.out g).trans (HB8.out.block g (HLA.out g hg)))) _
   refine tActK (by rfl) (by rfl) (by rfl) (fun K hK => wp_append_own _ (.tmp 82) (.tmp 88) 43 rfl B 113 j0 _ 18 160 Tryz.underlying43 jhi jh0 jhs jh2 rfl (by decide) (.slice la ts.length lc) ts.length _ (by rfl) hown9 ⟨w9.heap.size, 0, none⟩ 1 1 (TRec.cells ⟨t, .slice na l.length nc, l, e⟩) (by rfl) rfl (row_new _ _ _ _ _ rfl rfl) (fun u hu => List.all_eq_true.1 (td_one t na l.length nc e) u hu) (by unfold maxLen; omega) (by omega) (by have h1 := HB8.out.size; have h2 := HM9.out.size; simp; omega) (fun va wc howna hga _ => hK _ _ (fun _ => hka.grow (grown_mod hga) (fun x hx => (by cases hx))) ?_))
   obtain ⟨a5, c5, rfl⟩ := own_len howna
   have hkc := hka.grow (grown_mod hga) (fun x hx => (by cases hx))
   simp only [pw]
   refine sNil hkc ?_; simp only [pw]
   refine sFieldY fW0 hkc ?_; simp only [pw]
   have hwbc : At wc wb #[.slice la ts.length lc, vi, vv, vd] 50 := hwb8.mod hkc.mod hmw
   have hks : Kn [wb] wc wc [(wb, #[.slice la ts.length lc, vi, vv, vd], 50)] := ⟨Mod.refl _ _, fun x hx => by simp at hx; subst hx; exact ⟨hwbc, Or.inr (by simp)⟩, by simp⟩
   refine sStore1Y o1Ths hks ?_ (hj := by show 0 + 1 <= 4; omega) (hA := rfl); intro wd hkd; refine ⟨fun h => absurd h (by decide), ?_⟩; simp only [pw]
   refine tNil ?_
   have hrow : At wd wb #[.slice a5 (ts.length + 1) c5, vi, vv, vd] 50 := hkd.at List.mem_cons_self
   have hB8s := HB8.out.size
   have hz9 : w8.heap.size <= wc.heap.size := hkc.mod.size
   have hzd : wc.heap.size <= wd.heap.size := hkd.mod.size
   have HF : Hid (∀ k : Nat, k < w8.heap.size -> k ≠ wb -> some k ≠ (Value.slice la ts.length lc).ownBlock -> wd.heap[k]? = w8.heap[k]?) := hide fun k h1 h2 h3 => (hkd.mod.block k (by omega) (by simp [h2])).trans (hkc.mod.block k h1 (fun hm => h3 (by unfold ownM at hm; simpa [eq_comm] using hm)))
   have hwlt := lt_of_block HW0.out
   have HR2 : Hid (CompP wb B (.slice la ts.length lc) vi vv vd ts w wd) := hide (by
    refine ⟨.slice a5 (ts.length + 1) c5, ts ++ [⟨t, .slice na l.length nc, l, e⟩], by simp, by simp, hrow, ⟨?_, fun x hx => ?_⟩, ?_⟩
    · rw [List.length_append, List.flatMap_append]
      refine own_block (by simpa using howna) (fun g hg ⟨A, hA⟩ => hkd.mod.block g (lt_of_block hA) (fun hm => ?_))
      simp only [List.mem_cons, List.not_mem_nil, or_false] at hm
      subst hm
      unfold At at hwbc
      rw [hwbc] at hA
      simp at hA
    · rcases List.mem_append.1 hx with hx | hx
      · refine (HTI.out.2 x hx).keep (by omega) (fun k A ty hty hA => ?_)
        have hkl := lt_of_block hA
        refine (HF.out k (by omega) (fun e => ?_) (fun e => ?_)).trans (HB8.out.block k hkl)
        · subst e
          have h2 := HW0.out
          unfold At at h2
          rw [h2] at hA
          simp at hA
          rcases hty with rfl | rfl | rfl <;> exact absurd hA.2 (by decide)
        · obtain ⟨A2, hA2⟩ := HTY.out k e.symm
          rw [hA2] at hA
          simp at hA
          rcases hty with rfl | rfl | rfl <;> exact absurd hA.2 (by decide)
      · simp only [List.mem_cons, List.not_mem_nil, or_false] at hx
        subst hx
        have h37 := H37.out
        have h78 := H78.out
        have h13 := H13.out
        have hf2 : ∀ k, w3.heap.size <= k -> k < w8.heap.size -> wd.heap[k]? = w8.heap[k]? := fun k h1 h2 => HF.out k h2 (by omega) (fun e => by have := HLA.out k e.symm; omega)
        refine ⟨(HT8.out.keepB (by omega) hf2).low2 (by omega), own_base (own_block HO8.out (fun g hg _ => ?_)) (by omega), HR.out, HTK.out⟩
        have h4 := World.ownsRow.lt HO8.out g hg
        exact hf2 g (by omega) h4.2
    · exact ⟨hkd.mod.os.trans (hkc.mod.os.trans HB8.out.os), hkd.mod.tape.trans (hkc.mod.tape.trans HB8.out.tape), hkd.mod.output.trans (hkc.mod.output.trans HB8.out.output), by omega, fun k h1 h2 h3 => (HF.out k (by omega) h2 h3).trans (HB8.out.block k h1)⟩)
   clear hk hka hkc hks hkd hwbc hrow howna hga hown9 hop8 hwb8 hmo hmw HF hB8s hz9 hzd hwlt
   have hk := Kn.nil [] wd
   go_wp2_with ((with_reducible apply gL); (first | refine wS hk ?_ | (refine wN hk ?_; clear hk; intro w1 hk)); simp only [pw])
   go_ret
   exact ⟨rfl, HR2.out⟩
def V9.cells (x : V9) : List Value := [.int .i64 x.pc, .int .i64 (x.r 0), .int .i64 (x.r 1), .int .i64 (x.r 2), .int .i64 (x.r 3), .int .i64 (x.r 4), .int .i64 (x.r 5), .int .i64 (x.r 6), .int .i64 (x.r 7)]
def OwnV (w : World) (base : Nat) (v : Value) (l : List V9) : Prop := w.ownsRow base 69 9 v l.length (l.flatMap V9.cells)
theorem Tryz.infoVis : (Tryz.prog.info? 69).map (fun i => (i.zero, i.size, i.bytes)) = some (some (.agg #[.int .i64 0, .int .i64 0, .int .i64 0, .int .i64 0, .int .i64 0, .int .i64 0, .int .i64 0, .int .i64 0, .int .i64 0]), 9, 72) := by kernel_rfl
theorem OwnV.push {w : World} {base n : Nat} {v : Value} {l : List V9} {x : V9} (h : w.ownsRow base 69 9 v n (l.flatMap V9.cells ++ x.cells)) (hn : n = l.length + 1) : OwnV w base v (l ++ [x]) := by
 subst hn; unfold OwnV; rw [List.length_append, List.flatMap_append]; simpa using h
theorem OwnV.but {w w' : World} {base g : Nat} {v : Value} {l : List V9} (h : OwnV w base v l) (hb : But g w w') (hg : g < base) : OwnV w' base v l := by
 refine ⟨h.1, ?_⟩
 rcases h.2 with h2 | ⟨g2, cap, cur, h3, h4, hh, r⟩
 · exact Or.inl h2
 · exact Or.inr ⟨g2, cap, cur, h3, h4, by rw [hb.block g2 (lt_of_block hh) (by omega)]; exact hh, r⟩
theorem nine_new (w : World) (x : V9) (t : TypeId) (g : Nat) (hg : g = w.heap.size) : ∀ j u, x.cells[j]? = some u -> (w.alloc (.cells #[.int .i64 x.pc, .int .i64 (x.r 0), .int .i64 (x.r 1), .int .i64 (x.r 2), .int .i64 (x.r 3), .int .i64 (x.r 4), .int .i64 (x.r 5), .int .i64 (x.r 6), .int .i64 (x.r 7)] t)).cell? ((⟨g, 0, none⟩ : Addr).add j) = some u := by
 subst hg
 intro j u hj
 have hadd : (⟨w.heap.size, 0, none⟩ : Addr).add j = ⟨w.heap.size, j, none⟩ := by unfold Addr.add; split <;> simp_all
 rw [hadd, cell_of_row _ _ _ _ _ _ (heap_alloc_new w _)]
 simpa [V9.cells] using hj
theorem nine_one (x : V9) : ∀ u ∈ x.cells, u.oneCell' = true := by
 intro u hu
 simp [V9.cells] at hu
 rcases hu with rfl | rfl | rfl | rfl | rfl | rfl | rfl | rfl | rfl <;> rfl
def TraI (vf : I5 -> Value) (Can : MS -> Prop) (W wr : World) (B g pb cap : Nat) (l : List I5) (F : Nat) (full : List V9) (u : Value) (k : Nat) : Prop :=
 ∃ vs, OwnV wr B u vs /\ vs.length <= 100 /\ B <= wr.heap.size /\ ((∃ k' s vs2 o, k = k' + 1 /\ Live vf Can W wr g pb cap l F (vs2, o) k' s /\ full = vs ++ vs2) \/ (k = 0 /\ (∃ o, Over W wr g pb cap l F o) /\ full = vs))
theorem MRow.eight {w : World} {g : Nat} {pv : Value} {s : MS} {F : Int} {o : O4} (h : MRow w g pv s F o) : w.cell? ⟨g, 1, none⟩ = some (.int .i64 (s.r 0)) /\ w.cell? ⟨g, 2, none⟩ = some (.int .i64 (s.r 1)) /\ w.cell? ⟨g, 3, none⟩ = some (.int .i64 (s.r 2)) /\ w.cell? ⟨g, 4, none⟩ = some (.int .i64 (s.r 3)) /\ w.cell? ⟨g, 5, none⟩ = some (.int .i64 (s.r 4)) /\ w.cell? ⟨g, 6, none⟩ = some (.int .i64 (s.r 5)) /\ w.cell? ⟨g, 7, none⟩ = some (.int .i64 (s.r 6)) /\ w.cell? ⟨g, 8, none⟩ = some (.int .i64 (s.r 7)) :=
 ⟨(h.reg 0 (by omega)).1, (h.reg 1 (by omega)).1, (h.reg 2 (by omega)).1, (h.reg 3 (by omega)).1, (h.reg 4 (by omega)).1, (h.reg 5 (by omega)).1, (h.reg 6 (by omega)).1, (h.reg 7 (by omega)).1⟩
theorem own_any_len {w : World} {B e size n : Nat} {v : Value} {xs : List Value} (h : w.ownsRow B e size v n xs) : ∃ a c, v = .slice a n c := by
 rcases h.2 with ⟨h1, h2⟩ | ⟨g, cap, cur, h1, _⟩
 · exact ⟨none, 0, by rw [h1, h2]⟩
 · exact ⟨_, _, h1⟩
theorem traM_any {vf : I5 -> Value} {Can : MS -> Prop} (l : List I5) (hN : Runner vf l Can) (pb cap : Nat) (r : Nat -> Int) (hcan : Can (startS r)) (f : Int) (w : World) (h : ProgAt w pb vf l) :
 Calls Tryz.prog 69 #[.slice (some ⟨pb, 0, none⟩) l.length cap, regsV r, .int .i64 f] w fun e w' => ∃ u, e = .returned u /\ OwnV w' w.heap.size u (runV l r f) /\ Below w.heap.size w w' := by
 obtain ⟨i0, hii, hz0, hzs, hz2⟩ := info_three Tryz.infoVis
 have HSL := hide h
 clear h
 obtain ⟨V, hV⟩ : ∃ V, V = runV l r f := ⟨_, rfl⟩
 rw [<- hV]
 have HV := hide hV
 clear hV
 have HRV : Hid (regsV r = .agg #[.int .i64 (r 0), .int .i64 (r 1), .int .i64 (r 2), .int .i64 (r 3), .int .i64 (r 4), .int .i64 (r 5), .int .i64 (r 6), .int .i64 (r 7)]) := hide rfl
 rw [HRV.out]
 go_enter Tryz.func69, Tryz.ntmps69
 go_wp2_with fail
 rw [<- HRV.out]
 generalize hW : w.alloc (.cells #[.int .i64 (r 0), .int .i64 (r 1), .int .i64 (r 2), .int .i64 (r 3), .int .i64 (r 4), .int .i64 (r 5), .int .i64 (r 6), .int .i64 (r 7)] 41) = w1
 have hb1 : Below w.heap.size w w1 := by rw [<- hW]; exact (belA _ _)
 have hs1 := HSL.out.bel hb1 HSL.out.1
 have HB1 := hide hb1
 have hsz1 := hb1.size
 clear hW hb1 HSL
 refine (start_any l.length pb cap r f w1).mono ?_
 rintro e w2 hst
 obtain ⟨g, rfl, hg, hne, hlive⟩ := start_live hst hs1 hcan
 have hgl := RowF.lt hlive.row
 have hpl := hlive.prog.1
 have hW2 := hlive.bel.size
 have HL := hide hlive
 have HAL := hide hN
 have HR : Hid (runV l r f = (runR l (fuelI f).toNat (startS r)).1.take 100) := hide rfl
 obtain ⟨F, hF⟩ : ∃ F, F = (fuelI f).toNat := ⟨_, rfl⟩
 have hF2 : F <= 10000 := by have := fuelI_bd f; omega
 rw [<- hF] at HL HR
 obtain ⟨res, hres⟩ : ∃ res, res = runR l F (startS r) := ⟨_, rfl⟩
 rw [<- hres] at HL HR
 clear hst hlive hN hs1 hF hres hcan
 rw [<- HV.out] at HR
 obtain ⟨full, hfull⟩ : ∃ full, full = res.1 := ⟨_, rfl⟩
 rw [<- hfull] at HR
 have HFU := hide hfull
 clear hfull
 go_wp2_with fail
 go_loopg [8] (F + 1) (fun k u wr => TraI vf Can w1 wr w2.heap.size g pb cap l F full u k)
 case atStart => exact ⟨[], World.ownsRow_nil _ _ _ _, by simp, Nat.le_refl _, Or.inl ⟨F, _, res.1, res.2, rfl, HL.out, by rw [HFU.out]; rfl⟩⟩
 case round =>
  obtain ⟨vs, hown, hvl, hBs, hinv⟩ := hrel
  have HOW := hide hown
  obtain ⟨au, cu, rfl⟩ := own_any_len hown
  clear hown
  by_cases h100 : vs.length < 100
  · rcases hinv with ⟨k', s, vs2, o, hk, hlive, hfu⟩ | ⟨hk, ⟨o, hov⟩, hfu⟩
    · rcases hlive.ready hg with ⟨k2, hk2, hpc, hcall⟩ | ⟨hnil, hcall⟩
      · have HC := hide hcall
        clear hcall
        have HK := hide (And.intro hk hk2)
        have HFV := hide hfu
        clear hk hk2 hlive hfu
        go_wp2_with (go_at_call 30; refine HC.out.mono ?_; rintro e w3 ⟨rfl, hl3, hbt3⟩)
        have own3 := HOW.out.but hbt3 hgl
        have hBs3 : w2.heap.size <= w3.heap.size := Nat.le_trans hBs hbt3.size
        obtain ⟨e0, e1, e2, e3, e4, e5, e6, e7⟩ := hl3.row.eight
        have e25 := hl3.row.fields.2.1
        have HL3 := hide hl3
        have HOW3 := hide own3
        clear hl3 own3 hbt3 HC HOW
        go_region_held3 (fun w' => w'.cell? ⟨g, 25, none⟩ = some (.int .i64 s.pc) /\ w'.cell? ⟨g, 1, none⟩ = some (.int .i64 (s.r 0)) /\ w'.cell? ⟨g, 2, none⟩ = some (.int .i64 (s.r 1)) /\ w'.cell? ⟨g, 3, none⟩ = some (.int .i64 (s.r 2)) /\ w'.cell? ⟨g, 4, none⟩ = some (.int .i64 (s.r 3)) /\ w'.cell? ⟨g, 5, none⟩ = some (.int .i64 (s.r 4)) /\ w'.cell? ⟨g, 6, none⟩ = some (.int .i64 (s.r 5)) /\ w'.cell? ⟨g, 7, none⟩ = some (.int .i64 (s.r 6)) /\ w'.cell? ⟨g, 8, none⟩ = some (.int .i64 (s.r 7))) (go_keep) (first
         | (refine step_append_own rfl (.tmp 20) (.tmp 30) 67 rfl w2.heap.size 69 i0 _ 9 72 Tryz.underlying67 hii hz0 hzs hz2 rfl (by decide) (.slice au vs.length cu) vs.length (vs.flatMap V9.cells) (by simp [Act.eval]) (World.ownsRow.alloc HOW3.out _) ⟨w3.heap.size, 0, none⟩ 1 1 (V9.mk s.pc s.r).cells (by simp [Act.eval]) rfl (nine_new _ (V9.mk s.pc s.r) _ _ rfl) (nine_one _) (by unfold maxLen; omega) (by omega) (by simp; omega) ?_; intro v4 w4 hown4 hgrow4; have hb34 : Below w2.heap.size w3 w4 := Below.grown ((Below.refl _ _).drew.alloc hBs3 _) hgrow4 (by simp; omega) (fun k hk => (World.ownsRow.lt HOW3.out k hk).1); have hl4 := HL3.out.keep hb34 hgl hpl hW2; obtain ⟨y0, y1, y2, y3, y4, y5, y6, y7⟩ := hl4.row.eight; have y25 := hl4.row.fields.2.1; have HL4 := hide hl4; have HOW4 := hide (OwnV.push hown4 rfl); have hBs4 := Nat.le_trans hBs3 hb34.size; clear hown4 hgrow4 hl4 hb34))
        clear e0 e1 e2 e3 e4 e5 e6 e7 e25 y0 y1 y2 y3 y4 y5 y6 y7 y25 HL3 HOW3
        have hl4' := HL4.out
        rw [HK.out.2] at hl4'
        have HC2 := hide (hl4'.step hg hne HAL.out hF2 hpc)
        clear hl4' HL4
        go_wp2_with (go_at_call 31; refine HC2.out.mono ?_; rintro e w5 ⟨rfl, hst, hbt5⟩; have HST := hide hst; have HBT := hide hbt5; clear hst hbt5)
        have own5 := HOW4.out.but HBT.out hgl
        have hBs5 := Nat.le_trans hBs4 HBT.out.size
        have hfu := HFV.out
        rcases HST.out with ⟨s', vs', hre, hl'⟩ | ⟨hre, hov⟩
        · have h2 : vs2 = ⟨s.pc, s.r⟩ :: vs' := congrArg Prod.fst hre
          go_roundg (k2 + 1)
          case measure => have := HK.out; omega
          case rel => exact ⟨vs ++ [⟨s.pc, s.r⟩], own5, by simp; omega, hBs5, Or.inl ⟨k2, s', vs', o, rfl, hl', by rw [hfu, h2]; simp⟩⟩
        · have h2 : vs2 = [⟨s.pc, s.r⟩] := hre
          go_roundg 0
          case measure => have := HK.out; omega
          case rel => exact ⟨vs ++ [⟨s.pc, s.r⟩], own5, by simp; omega, hBs5, Or.inr ⟨rfl, ⟨o, hov⟩, by rw [hfu, h2]⟩⟩
      · have HC := hide hcall
        have HVS : Hid (V = vs) := hide (by rw [HR.out, hfu, show vs2 = [] from hnil, List.append_nil]; exact List.take_of_length_le hvl)
        clear hcall hlive hk hfu hnil HL
        go_wp2_with (go_at_call 30; refine HC.out.mono ?_; rintro e w3 ⟨rfl, hov, hbt3⟩; have HFI := hide (And.intro (own_low (HOW.out.but hbt3 hgl) (show w.heap.size <= w2.heap.size by omega)) (HB1.out.trans (hov.bel.mono hsz1))); clear hov hbt3)
        go_ret
        exact ⟨_, rfl, by rw [HVS.out]; exact HFI.out.1, HFI.out.2⟩
    · have HC := hide hov.ready
      have HVS : Hid (V = vs) := hide (by rw [HR.out, hfu]; exact List.take_of_length_le hvl)
      clear hov hk hfu HL
      go_wp2_with (go_at_call 30; refine HC.out.mono ?_; rintro e w3 ⟨rfl, hov, hbt3⟩; have HFI := hide (And.intro (own_low (HOW.out.but hbt3 hgl) (show w.heap.size <= w2.heap.size by omega)) (HB1.out.trans (hov.bel.mono hsz1))); clear hov hbt3)
      go_ret
      exact ⟨_, rfl, by rw [HVS.out]; exact HFI.out.1, HFI.out.2⟩
  · have hl100 : vs.length = 100 := by omega
    have HBW : Hid (Below w.heap.size w wr) := hide (by
     rcases hinv with ⟨k', s, vs2, o, hk, hlive, hfu⟩ | ⟨hk, ⟨o, hov⟩, hfu⟩
     · exact HB1.out.trans (hlive.bel.mono hsz1)
     · exact HB1.out.trans (hov.bel.mono hsz1))
    have HVS : Hid (V = vs) := hide (by
     rw [HR.out]
     rcases hinv with ⟨k', s, vs2, o, hk, hlive, hfu⟩ | ⟨hk, ⟨o, hov⟩, hfu⟩
     · rw [hfu, <- hl100]; exact List.take_left
     · rw [hfu]; exact List.take_of_length_le hvl)
    have HFI := hide (own_low HOW.out (show w.heap.size <= w2.heap.size by omega))
    have HL100 := hide hl100
    have hd : decide ((vs.length : Int) < 100) = false := by simp; omega
    clear hl100 hinv HL
    go_wp2
    go_ret
    exact ⟨_, rfl, by rw [HVS.out]; exact HFI.out, HBW.out⟩
theorem Trace_any (l : List I5) (v : Value) (r : Nat -> Int) (f : Int) (w : World) (hs : Shapes w) (h : Slc w v l) :
 Calls Tryz.prog 45 #[v, regsV r, .int .i64 f] w fun e w' => ∃ u, e = .returned (.tuple #[u, .int .i64 (rightR l).1]) /\ OwnV w' w.heap.size u (runVE l r f) /\ Below w.heap.size w w' := by
 have hk := Kn.nil [] w
 have HS := hide hs
 have HV := hide h
 clear hs h
 rcases rightR_or l with hr | hr
 · have e1 : runVE l r f = runV l r f := by unfold runVE; rw [if_pos hr]
   rw [e1]
   have HAF := hide (right_all hr)
   have e2 : (rightR l).1 = 0 := by rw [hr]
   rw [e2]
   clear e1
   unfold regsV
   go_enter Tryz.func45, Tryz.ntmps45
   go_wp2_with (first | (go_at_call 24; refine (codeRight_any l v _ (HS.out.below hk.mod.below HS.out.1) (HV.out.below hk.mod.below (Nat.le_refl _))).mono ?_; rintro e w1 ⟨rfl, hb⟩; replace hk := hk.call hb; clear hb; rw [hr]) | ((with_reducible apply gL); (first | refine wS hk ?_ | (refine wN hk ?_; clear hk; intro w1 hk)); simp only [pw]))
   (refine wp_regK hk (.op 0 (.op 2 (.op 3 (.op 1 (.op 4 (.op 5 (.op 6 .nil))))))) (fun i => decide (i < 7)) mixT (by decide) (by kernel_rfl) (by kernel_rfl) ?_; clear hk; intro w1 hk)
   (repeat (refine sS hk ?_; simp only [pw]))
   (refine sCall ?_; intro K hK; go_step; refine (progOf_at l v _ (HV.out.below hk.mod.below (Nat.le_refl _)) HAF.out.1 HAF.out.2.1).mono ?_; rintro e w1 ⟨pb, cap, rfl, hp, hpb, hb⟩; replace hk := hk.call hb; clear hb; refine hK _ _ (fun _ => hk) ?_; clear hK K)
   have hz1 := hk.mod.size
   (refine sCall ?_; intro K hK; go_step; refine (traM_any l (runner_plain HAF.out) pb cap r trivial f _ hp).mono ?_; rintro e w1 ⟨u, rfl, ho, hb⟩; replace hk := hk.call hb; clear hb; obtain ⟨ua, uc, rfl⟩ := own_any_len ho; have HO := hide (own_low ho hz1); clear ho; refine hK _ _ (fun _ => hk) ?_; clear hK K)
   (repeat (refine sS hk ?_; simp only [pw]))
   refine tNil ?_
   go_wp2_with ((with_reducible apply gL); (first | refine wS hk ?_ | (refine wN hk ?_; clear hk; intro w1 hk)); simp only [pw])
   go_ret2
   exact ⟨_, rfl, HO.out, hk.mod.below⟩
 · have e1 : runVE l r f = [] := by unfold runVE; rw [if_neg (by intro h; rw [h] at hr; simp at hr)]
   rw [e1, hr]
   clear e1
   unfold regsV
   go_enter Tryz.func45, Tryz.ntmps45
   go_wp2_with (first | (go_at_call 24; refine (codeRight_any l v _ (HS.out.below hk.mod.below HS.out.1) (HV.out.below hk.mod.below (Nat.le_refl _))).mono ?_; rintro e w1 ⟨rfl, hb⟩; replace hk := hk.call hb; clear hb; rw [hr]) | ((with_reducible apply gL); (first | refine wS hk ?_ | (refine wN hk ?_; clear hk; intro w1 hk)); simp only [pw]))
   go_ret2
   exact ⟨_, rfl, World.ownsRow_nil _ _ _ _, hk.mod.below⟩
def RegR (w : World) (b : Nat) (r : Nat -> Int) : Prop := RowF w b 41 8 (fun j => .int .i64 (r j))
def WordR (w : World) (b : Nat) (m : Nat -> Int) : Prop := RowF w b 80 16 (fun j => .int .i64 (m j))
theorem RegR.set {w : World} {b : Nat} {r : Nat -> Int} (h : RegR w b r) (a : Nat) (v : Int) : RegR (w.setCell ⟨b, a, none⟩ (.int .i64 v)) b (upd r a v) := by
 refine (RowF.set h a (.int .i64 v)).congr fun j _ => ?_
 unfold upd
 by_cases e : j = a
 · rw [if_pos e, if_pos e]
 · rw [if_neg e, if_neg e]
theorem WordR.set {w : World} {b : Nat} {r : Nat -> Int} (h : WordR w b r) (a : Nat) (v : Int) : WordR (w.setCell ⟨b, a, none⟩ (.int .i64 v)) b (upd r a v) := by
 refine (RowF.set h a (.int .i64 v)).congr fun j _ => ?_
 unfold upd
 by_cases e : j = a
 · rw [if_pos e, if_pos e]
 · rw [if_neg e, if_neg e]
theorem regR_of {w : World} {N : Nat} {r : Nat -> Int} (hH : w.heap[N]? = some (.cells #[.int .i64 (r 0), .int .i64 (r 1), .int .i64 (r 2), .int .i64 (r 3), .int .i64 (r 4), .int .i64 (r 5), .int .i64 (r 6), .int .i64 (r 7)] 41 (0, 0))) : RegR w N r := by
 refine ⟨_, hH, rfl, fun j hj => ?_⟩
 match j, hj with
 | 0, _ => rfl
 | 1, _ => rfl
 | 2, _ => rfl
 | 3, _ => rfl
 | 4, _ => rfl
 | 5, _ => rfl
 | 6, _ => rfl
 | 7, _ => rfl
 | j + 8, h => omega
theorem wordR_of {w : World} {N : Nat} (hH : w.heap[N]? = some (.cells #[.int .i64 0, .int .i64 0, .int .i64 0, .int .i64 0, .int .i64 0, .int .i64 0, .int .i64 0, .int .i64 0, .int .i64 0, .int .i64 0, .int .i64 0, .int .i64 0, .int .i64 0, .int .i64 0, .int .i64 0, .int .i64 0] 80 (0, 0))) : WordR w N zeroW := by
 refine ⟨_, hH, rfl, fun j hj => ?_⟩
 match j, hj with
 | 0, _ => rfl
 | 1, _ => rfl
 | 2, _ => rfl
 | 3, _ => rfl
 | 4, _ => rfl
 | 5, _ => rfl
 | 6, _ => rfl
 | 7, _ => rfl
 | 8, _ => rfl
 | 9, _ => rfl
 | 10, _ => rfl
 | 11, _ => rfl
 | 12, _ => rfl
 | 13, _ => rfl
 | 14, _ => rfl
 | 15, _ => rfl
 | j + 16, h => omega
theorem own_set4 {w : World} {B g : Nat} {v : Value} {l : List V9} (h : OwnV w B v l) (hg : g < B) (o0 o1 o2 o3 : Nat) (u0 u1 u2 u3 : Value) : OwnV ((((w.setCell ⟨g, o0, none⟩ u0).setCell ⟨g, o1, none⟩ u1).setCell ⟨g, o2, none⟩ u2).setCell ⟨g, o3, none⟩ u3) B v l :=
 (((h.but (But.set g _ _ _) hg).but (But.set g _ _ _) hg).but (But.set g _ _ _) hg).but (But.set g _ _ _) hg
structure RefSt (w wr : World) (N W : Nat) (l : List I5) (F : Nat) (full : List V9) (o : O4) (k : Nat) (s : MS) (u : Value) (vs : List V9) (u13 u14 : Value) : Prop where
 pc : u13 = .int .i64 s.pc
 st : u14 = .int .i64 s.n
 regs : RegR wr N s.r
 words : WordR wr W s.m
 res : wr.heap[N + 1]? = some (.cells #[.int .i64 0, .int .i64 0, .int .i64 0, .int .i64 0] 38 (0, 0))
 own : OwnV wr (W + 1) u vs
 bel : Below N w wr
 sz : W + 1 <= wr.heap.size
 hpc : s.pc <= l.length
 hk : s.n + k = F
 hv : ∃ pre, full = pre ++ (runR l k s).1 /\ vs = pre.take 100
 ho : (runR l k s).2 = o
theorem RefSt.stop {w wr : World} {N W : Nat} {l : List I5} {F : Nat} {full : List V9} {o : O4} {k : Nat} {s : MS} {u : Value} {vs : List V9} {u13 u14 : Value} (h : RefSt w wr N W l F full o k s u vs u13 u14) {o' : O4} (hr : runR l k s = ([], o')) : full.take 100 = vs /\ o = o' := by
 obtain ⟨pre, h1, h2⟩ := h.hv
 have h3 := h.ho
 rw [hr] at h1 h3
 simp only [List.append_nil] at h1
 exact ⟨by rw [h1, h2], h3.symm⟩
structure RefMid (w wr : World) (N W : Nat) (l : List I5) (F : Nat) (full : List V9) (o : O4) (k : Nat) (s : MS) (u : Value) (vs : List V9) : Prop where
 regs : RegR wr N s.r
 words : WordR wr W s.m
 res : wr.heap[N + 1]? = some (.cells #[.int .i64 0, .int .i64 0, .int .i64 0, .int .i64 0] 38 (0, 0))
 own : OwnV wr (W + 1) u vs
 bel : Below N w wr
 sz : W + 1 <= wr.heap.size
 hpc : s.pc < l.length
 hk : s.n + (k + 1) = F
 hv : ∃ pre, full = pre ++ (runR l (k + 1) s).1 /\ vs = (pre ++ [V9.mk s.pc s.r]).take 100
 ho : (runR l (k + 1) s).2 = o
theorem RefSt.mid {w wr w' : World} {N W : Nat} {l : List I5} {F : Nat} {full : List V9} {o : O4} {k : Nat} {s : MS} {u u' : Value} {vs : List V9} {u13 u14 : Value} (h : RefSt w wr N W l F full o (k + 1) s u vs u13 u14) (hpc : s.pc < l.length) (hb : Below (W + 1) wr w') (hN : N + 1 < W) (ho : vs.length < 100 /\ OwnV w' (W + 1) u' (vs ++ [V9.mk s.pc s.r]) \/ ¬ vs.length < 100 /\ OwnV w' (W + 1) u' vs) :
 ∃ vs', RefMid w w' N W l F full o k s u' vs' /\ vs'.length <= 100 := by
 obtain ⟨pre, h1, h2⟩ := h.hv
 have hlen : (pre.take 100).length = min 100 pre.length := List.length_take
 rcases ho with ⟨hlt, ho⟩ | ⟨hge, ho⟩
 · refine ⟨vs ++ [V9.mk s.pc s.r], ⟨RowF.block h.regs (hb.block _ (by omega)), RowF.block h.words (hb.block _ (by omega)), (hb.block _ (by omega)).trans h.res, ho, h.bel.trans (hb.mono (by omega)), Nat.le_trans h.sz hb.size, hpc, h.hk, ⟨pre, h1, ?_⟩, h.ho⟩, by simp; omega⟩
   rw [h2] at hlt ⊢
   have : pre.take 100 = pre := List.take_of_length_le (by omega)
   rw [this, List.take_of_length_le]
   simp; omega
 · refine ⟨_, ⟨RowF.block h.regs (hb.block _ (by omega)), RowF.block h.words (hb.block _ (by omega)), (hb.block _ (by omega)).trans h.res, ho, h.bel.trans (hb.mono (by omega)), Nat.le_trans h.sz hb.size, hpc, h.hk, ⟨pre, h1, ?_⟩, h.ho⟩, by rw [h2]; simp; omega⟩
   rw [h2] at hge ⊢
   rw [List.take_append_of_le_length (by omega)]
theorem RefSt.regCells {w : World} {b : Nat} {r : Nat -> Int} (h : RegR w b r) : w.cell? ⟨b, 0, none⟩ = some (.int .i64 (r 0)) /\ w.cell? ⟨b, 1, none⟩ = some (.int .i64 (r 1)) /\ w.cell? ⟨b, 2, none⟩ = some (.int .i64 (r 2)) /\ w.cell? ⟨b, 3, none⟩ = some (.int .i64 (r 3)) /\ w.cell? ⟨b, 4, none⟩ = some (.int .i64 (r 4)) /\ w.cell? ⟨b, 5, none⟩ = some (.int .i64 (r 5)) /\ w.cell? ⟨b, 6, none⟩ = some (.int .i64 (r 6)) /\ w.cell? ⟨b, 7, none⟩ = some (.int .i64 (r 7)) :=
 ⟨(h.cell 0 (by omega)).1, (h.cell 1 (by omega)).1, (h.cell 2 (by omega)).1, (h.cell 3 (by omega)).1, (h.cell 4 (by omega)).1, (h.cell 5 (by omega)).1, (h.cell 6 (by omega)).1, (h.cell 7 (by omega)).1⟩
structure But2 (N W : Nat) (w w' : World) : Prop where
 os : w'.os = w.os
 tape : w'.tape = w.tape
 output : w'.output = w.output
 size : w.heap.size <= w'.heap.size
 block : ∀ k, k < w.heap.size -> k ≠ N -> k ≠ W -> w'.heap[k]? = w.heap[k]?
theorem But2.refl (N W : Nat) (w : World) : But2 N W w w := ⟨rfl, rfl, rfl, Nat.le_refl _, fun _ _ _ _ => rfl⟩
theorem But2.set1 (N W : Nat) (w : World) (off : Nat) (u : Value) : But2 N W w (w.setCell ⟨N, off, none⟩ u) := ⟨rfl, rfl, rfl, by simp, fun k _ hn _ => Below.heap_setCell _ _ _ _ hn⟩
theorem But2.set2 (N W : Nat) (w : World) (off : Nat) (u : Value) : But2 N W w (w.setCell ⟨W, off, none⟩ u) := ⟨rfl, rfl, rfl, by simp, fun k _ _ hn => Below.heap_setCell _ _ _ _ hn⟩
theorem RefMid.next {w wr : World} {N W : Nat} {l : List I5} {F : Nat} {full : List V9} {o : O4} {k : Nat} {s : MS} {u : Value} {vs : List V9} (h : RefMid w wr N W l F full o k s u vs) {s' : MS} (hd : doAt l s = (0, s')) {w1 w' : World} (b1 : But2 N W wr w1) (hr : RegR w1 N s'.r) (hm : WordR w1 W s'.m) (hb : Below w1.heap.size w1 w') {u13 u14 : Value} (h13 : u13 = .int .i64 s'.pc) (h14 : u14 = .int .i64 s'.n) (hl : AllFit l) (hN : N + 1 < W) :
 RefSt w w' N W l F full o k s' u vs u13 u14 := by
 have hsz := h.sz
 have hbs := b1.size
 have hs' : s' = (doAt l s).2 := by rw [hd]
 have hrun := runR_go (p := l) (k := k) (s := s) (by have := h.hpc; omega) (by rw [hd])
 rw [<- hs'] at hrun
 obtain ⟨pre, h1, h2⟩ := h.hv
 refine ⟨h13, h14, RowF.block hr (hb.block _ (RowF.lt hr)), RowF.block hm (hb.block _ (RowF.lt hm)), ?_, ?_, ?_, by have := hb.size; omega, by rw [hs']; exact doAt_pc hl h.hpc, by rw [hs', doAt_n]; have := h.hk; omega, ⟨pre ++ [V9.mk s.pc s.r], ?_, h2⟩, ?_⟩
 · rw [hb.block _ (by omega), b1.block _ (by omega) (by omega) (by omega)]; exact h.res
 · refine ⟨h.own.1, ?_⟩
   rcases h.own.2 with h3 | ⟨g, cap, cur, h3, h4, hh, r⟩
   · exact Or.inl h3
   · have := lt_of_block hh
     exact Or.inr ⟨g, cap, cur, h3, h4, by rw [hb.block _ (by omega), b1.block _ this (by omega) (by omega)]; exact hh, r⟩
 · refine h.bel.trans ⟨hb.os.trans b1.os, hb.tape.trans b1.tape, hb.output.trans b1.output, Nat.le_trans b1.size hb.size, fun i hi => ?_⟩
   rw [hb.block _ (by omega), b1.block _ (by omega) (by omega) (by omega)]
 · rw [h1, hrun]; simp
 · have := h.ho; rw [hrun] at this; exact this
theorem RefMid.halt {w wr : World} {N W : Nat} {l : List I5} {F : Nat} {full : List V9} {o : O4} {k : Nat} {s : MS} {u : Value} {vs : List V9} (h : RefMid w wr N W l F full o k s u vs) {kd : Int} {s' : MS} (hd : doAt l s = (kd, s')) (hk : kd ≠ 0) : full.take 100 = vs /\ o = endO kd s.pc s' := by
 have hrun := runR_stop (p := l) (k := k) (s := s) (by have := h.hpc; omega) (by rw [hd]; exact hk)
 rw [hd] at hrun
 obtain ⟨pre, h1, h2⟩ := h.hv
 have h3 := h.ho
 rw [hrun] at h1 h3
 exact ⟨by rw [h1, h2], h3.symm⟩
theorem RefMid.out {w wr : World} {N W : Nat} {l : List I5} {F : Nat} {full : List V9} {o : O4} {k : Nat} {s : MS} {u : Value} {vs : List V9} (h : RefMid w wr N W l F full o k s u vs) (x : Obj) (hN : N + 1 < W) (o0 o1 o2 o3 : Nat) (u0 u1 u2 u3 : Value) :
 OwnV (((((wr.setCell ⟨N + 1, o0, none⟩ u0).setCell ⟨N + 1, o1, none⟩ u1).setCell ⟨N + 1, o2, none⟩ u2).setCell ⟨N + 1, o3, none⟩ u3).alloc x) N u vs /\ Below N w (((((wr.setCell ⟨N + 1, o0, none⟩ u0).setCell ⟨N + 1, o1, none⟩ u1).setCell ⟨N + 1, o2, none⟩ u2).setCell ⟨N + 1, o3, none⟩ u3).alloc x) := by
 have hsz := h.sz
 exact ⟨World.ownsRow.alloc (own_low (own_set4 h.own (by omega) _ _ _ _ _ _ _ _) (by omega)) x, (below_set4 h.bel (by omega) _ _ _ _ _ _ _ _).alloc (by simp; omega) x⟩
end Go.Proofs.YtamiichlbmllcabGreatDoor
