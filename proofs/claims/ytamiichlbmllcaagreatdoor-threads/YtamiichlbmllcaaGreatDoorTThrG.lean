import Derived.Test.YtamiichlbmllcaaGreatDoorTThTab
/-
  The contract of (*suretylaw.world).compiled: a thread more, if the program is taken.
-/
namespace Go.Proofs.YtamiichlbmllcaaGreatDoor
open Go.RowKit
theorem chk_zero {l : List I5} (hl : AllFit l) {e : St} {cl : List C2} (h64 : In64 l e cl) (h : (checkR l e cl).1 = 0) : checkR l e cl = (0, 0) := by
  obtain ⟨ht, hst, hfw⟩ := hl.taken h64 h
  unfold checkR
  rw [if_pos hst, if_neg (by omega)]
  exact ht.pass
theorem scheck_zero {l : List I5} {e : St} {cl : List C2} (h64 : In64 l e cl) (h : (scheckR l e cl).1 = 0) : scheckR l e cl = (0, 0) ∧ rightR l = (0, 0) ∧ ∃ c, Taken l c e := by
  rcases rightR_or l with hr | hr
  · have R : scheckR l e cl = ((checkR l e cl).1, ((checkR l e cl).2 : Int)) := by unfold scheckR; rw [if_pos hr]
    rw [R] at h
    have h0 := chk_zero (right_fit hr) h64 h
    exact ⟨by rw [R, h0]; rfl, hr, _, ((right_fit hr).taken h64 h).1⟩
  · have R : scheckR l e cl = rightR l := by unfold scheckR; rw [if_neg (by intro h; rw [h] at hr; simp at hr)]
    rw [R, hr] at h
    simp at h
theorem ThreadAt.keepB {w w' : World} {t : Nat} {l : List I5} {e : St} {base : Nat} (h : ThreadAt w t l e base) (hz : w.heap.size ≤ w'.heap.size) (hb : ∀ k, base ≤ k → k < w.heap.size → w'.heap[k]? = w.heap[k]?) : ThreadAt w' t l e base := by
  obtain ⟨⟨pb, cap, h1, h2, h3, h4, A, h5⟩, h6⟩ := h
  refine ⟨⟨pb, cap, ?_, h2.keep hz (hb pb h3 h2.1), h3, h4, A, ?_⟩, h6⟩
  · unfold At at h1 ⊢; rw [hb _ h6 (lt_of_block h1), h1]
  · unfold At at h5 ⊢; rw [hb _ h3 (lt_of_block h5), h5]
theorem ThreadAt.low2 {w : World} {t : Nat} {l : List I5} {e : St} {base B : Nat} (h : ThreadAt w t l e base) (hB : B ≤ base) : ThreadAt w t l e B := by
  obtain ⟨⟨pb, cap, h1, h2, h3, h4⟩, h6⟩ := h
  exact ⟨⟨pb, cap, h1, h2, Nat.le_trans hB h3, h4⟩, Nat.le_trans hB h6⟩
theorem Tryz.infoInsT : (Tryz.prog.info? 62).map (fun i => (i.zero, i.size, i.bytes)) = some (some (.agg #[.int .i64 0, .int .i64 0, .int .i64 0, .int .i64 0, .int .i64 0]), 5, 40) := by kernel_rfl
theorem Tryz.infoTd : (Tryz.prog.info? 156).map (fun i => (i.zero, i.size, i.bytes)) = some (some (.agg #[.pointer none, .slice none 0 0, .int .i64 0, .int .i64 0, .int .i64 0, .int .i64 0, .int .i64 0, .int .i64 0, .int .i64 0, .int .i64 0, .int .i64 0, .int .i64 0, .int .i64 0, .int .i64 0, .int .i64 0, .int .i64 0, .int .i64 0, .int .i64 0]), 18, 160) := by kernel_rfl
theorem build_td (t : Nat) (p : Option Addr) (a b : Nat) (s : St) (w : World) : (Instr.build 156 [(0, .pointer (some ⟨t, 0, none⟩)), (1, .slice p a b), (2, .agg (stC s))].toArray).run Tryz.prog w = .ok (.agg (tdC t (.slice p a b) s)) w := run_build w _ _ _ (by kernel_rfl)
theorem td_one (t : Nat) (p : Option Addr) (a b : Nat) (s : St) : (tdC t (.slice p a b) s).toList.all (·.oneCell') = true := by kernel_rfl
section
variable {l : List Oper} {Q : Exit → Act → World → Prop} {F : Nat → Bool} {S : World → Prop} {i : Nat} {r : OT} {a : Act} {w w0 : World} {M : List Nat} {L L' : RowL} {d : Option Tmp} {x y : Operand} {t tt ty : TypeId} {pos : String} {aft : Array Edge} {g : Option (Nat × Bool)} {b j n : Nat} {A A' : Array Value}
set_option maxRecDepth 100000 in
theorem sBuildTd {tb : Nat} {p : Option Addr} {pa pc : Nat} {s : St} (h : ∀ w1, w1 = w.alloc (.cells (tdC tb (.slice p pa pc) s) 156) → (F i = true → S w1) ∧ wpT Tryz.prog l Q F S r (a.put d (.slice (some ⟨w.heap.size, 0, none⟩) 1 1)) w1) (ho : nthO i l = some ⟨d, .buildSlice 32 1 #[(0, x)], tt, pos, aft, g⟩ := by rfl) (hw : Region.wanted ⟨d, .buildSlice 32 1 #[(0, x)], tt, pos, aft, g⟩ (yielded l.toArray a.tmps) = true := by rfl) (hx : a.eval x = .agg (tdC tb (.slice p pa pc) s) := by rfl) : wpT Tryz.prog l Q F S (.op i r) a w := by
  obtain ⟨ie, hie, hz⟩ : ∃ ie, Tryz.prog.info? 156 = some ie ∧ (ie.size = 18 ∧ ie.zero = some (.agg #[.pointer none, .slice none 0 0, .int .i64 0, .int .i64 0, .int .i64 0, .int .i64 0, .int .i64 0, .int .i64 0, .int .i64 0, .int .i64 0, .int .i64 0, .int .i64 0, .int .i64 0, .int .i64 0, .int .i64 0, .int .i64 0, .int .i64 0, .int .i64 0])) := by
    obtain ⟨ie, hi, h0, h1, _⟩ := info_parts Tryz.infoTd
    exact ⟨ie, hi, h1, h0⟩
  refine tActK ho rfl hw fun K hK => wp_buildSlice 32 156 1 _ rfl (tdC tb (.slice p pa pc) s) ie _ Tryz.underlying32 hie hz.2 (by rw [hz.1]; omega) (by rw [hz.1]; omega) ?_ ?_
  · rw [hz.1]
    have e : (#[(0, x)].map fun (i, x) => (i, a.eval x)).toList = [(0, Value.agg (tdC tb (.slice p pa pc) s))] := by simp [hx]
    rw [e]
    have e2 : Instr.fill (fun i => some (i * 18, 18)) ((Array.range (1 * 18)).map ((Value.agg #[.pointer none, .slice none 0 0, .int .i64 0, .int .i64 0, .int .i64 0, .int .i64 0, .int .i64 0, .int .i64 0, .int .i64 0, .int .i64 0, .int .i64 0, .int .i64 0, .int .i64 0, .int .i64 0, .int .i64 0, .int .i64 0, .int .i64 0, .int .i64 0]).cells[· % (Value.agg #[.pointer none, .slice none 0 0, .int .i64 0, .int .i64 0, .int .i64 0, .int .i64 0, .int .i64 0, .int .i64 0, .int .i64 0, .int .i64 0, .int .i64 0, .int .i64 0, .int .i64 0, .int .i64 0, .int .i64 0, .int .i64 0, .int .i64 0, .int .i64 0]).cells.size]!)) [(0, Value.agg (tdC tb (.slice p pa pc) s))] = some (tdC tb (.slice p pa pc) s) := by kernel_rfl
    exact e2
  · have := h _ rfl
    exact hK _ _ this.1 this.2
end
theorem ins_cells {w : World} {b off : Nat} {l : List I5} (h : ∀ i (hi : i < l.length), InsAt w b (off + i * 5) l[i]) : ∀ j u, (l.flatMap I5.cells)[j]? = some u → w.cell? ((⟨b, off, none⟩ : Addr).add j) = some u := by
  intro j u hj
  have hjl : j < l.length * 5 := by have := (List.getElem?_eq_some_iff.1 hj).1; rw [flat_len5] at this; exact this
  have hd : j / 5 < l.length := by omega
  have hm : j % 5 < 5 := Nat.mod_lt _ (by omega)
  have hje : j = j / 5 * 5 + j % 5 := by omega
  have o := flat_cells l (j / 5) (j % 5) hd hm
  rw [← hje, hj] at o
  obtain ⟨h0, h1, h2, h3, h4⟩ := h (j / 5) hd
  rw [addr_add]
  have e : off + j = off + j / 5 * 5 + j % 5 := by omega
  rw [e]
  have hc : j % 5 = 0 ∨ j % 5 = 1 ∨ j % 5 = 2 ∨ j % 5 = 3 ∨ j % 5 = 4 := by omega
  rcases hc with hc | hc | hc | hc | hc <;> rw [hc] at o ⊢ <;> simp only [I5.cells] at o <;> simp at o <;> subst o <;> assumption
theorem ins_one (l : List I5) : ∀ u ∈ l.flatMap I5.cells, u.oneCell' = true := by
  intro u hu
  obtain ⟨x, _, hx⟩ := List.mem_flatMap.1 hu
  simp [I5.cells] at hx
  rcases hx with rfl | rfl | rfl | rfl | rfl <;> rfl
theorem LentC.lt {w : World} {base : Nat} {v hv : Value} {cl : List C2} (h : LentC w base v hv cl) : ∀ k, hv.ownBlock = some k → k < w.heap.size := by
  rcases h with ⟨_, rfl, _⟩ | ⟨a, c, g, _, rfl, _, hat⟩
  · intro k hk; cases hk
  · intro k hk
    simp [Value.ownBlock] at hk
    subst hk
    exact lt_of_block hat
/-- what compiled leaves -/
def CompP (wb B : Nat) (lv vi vv vd : Value) (ts : List TRec) (w w' : World) : Prop := ∃ lv' ts', ts.length ≤ ts'.length ∧ ts'.length ≤ ts.length + 1 ∧ At w' wb #[lv', vi, vv, vd] 39 ∧ TInv w' B lv' ts' ∧ Fr w w' w.heap.size wb lv.ownBlock
theorem CompP.same {wb B : Nat} {lv vi vv vd : Value} {ts : List TRec} {w w' : World} (hw : At w wb #[lv, vi, vv, vd] 39) (hT : TInv w B lv ts) (hb : Below w.heap.size w w') : CompP wb B lv vi vv vd ts w w' := ⟨lv, ts, Nat.le_refl _, by omega, hw.of (hb.block wb (lt_of_block hw)), hT.below hb, hb.os, hb.tape, hb.output, hb.size, fun k hk _ _ => hb.block k hk⟩
set_option maxHeartbeats 8000000 in
set_option maxRecDepth 100000 in
theorem compiled_no (l : List I5) (e : St) (cl : List C2) (h64 : In64 l e cl) (k on fu sv : Value) (r : Nat → Value) (pv cv : Value) (wb : Nat) (w : World) (hs : Shapes w) (hp : Arg w pv l) (hlen : l.length * 40 ≤ 140737488351232) (hc : ArgC w cv cl) (hcl : cl.length * 136 ≤ 140737488351232) (hne : (scheckR l e cl).1 ≠ 0) :
    Calls Tryz.prog 55 #[.pointer (some ⟨wb, 0, none⟩), .agg (opC k on fu pv sv e cv r)] w fun x w' => x = .returned (.bool true) ∧ Below w.heap.size w w' := by
  have hk := Kn.nil [] w
  have hcl2 : cl.length < 4000000000000 := by omega
  have HS := hide hs
  have HP := hide hp
  have HC := hide hc
  have H64 := hide h64
  have HNE := hide hne
  clear hs hp hc h64 hne
  go_enter Tryz.func55, Tryz.ntmps55
  go_wp2_with (first | (refine wLoad1 hk ?_ (hv := op_3 _ _ _ _ _ _ _ _); simp only [Act.put, pw]) | (refine wLoad1 hk ?_ (hv := op_21 _ _ _ _ _ _ _ _); simp only [Act.put, pw]) | (refine wLoadR hk ?_ (hc := ex_op _ _ _ _ _ _ _ _); simp only [Act.put, pw]) | ((with_reducible show wpList _ _ _ _ _ _); (first | (refine wS hk ?_; simp only [Act.put, pw]) | (refine wN hk ?_; clear hk; intro w1 hk; simp only [Act.put, pw]) | (refine wT hk ?_; clear hk; intro w1 hk; simp only [Act.put]))))
  go_at_call 34
  have hb1 := hk.mod.below
  have hn1 : w.heap.size < w1.heap.size := lt_of_block (hk.at List.mem_cons_self)
  have HP1 := hide (HP.out.below hb1 (Nat.le_refl _))
  have HC1 := hide (HC.out.below hb1 (Nat.le_refl _))
  refine (lent_any l pv w1 HP1.out hlen).mono ?_
  rintro x w2 ⟨hv, rfl, hL2, hb2⟩
  replace hk := hk.call hb2
  go_wp2_with (first | (refine wLoad1 hk ?_ (hv := op_3 _ _ _ _ _ _ _ _); simp only [Act.put, pw]) | (refine wLoad1 hk ?_ (hv := op_21 _ _ _ _ _ _ _ _); simp only [Act.put, pw]) | (refine wLoadR hk ?_ (hc := ex_op _ _ _ _ _ _ _ _); simp only [Act.put, pw]) | ((with_reducible show wpList _ _ _ _ _ _); (first | (refine wS hk ?_; simp only [Act.put, pw]) | (refine wN hk ?_; clear hk; intro w1 hk; simp only [Act.put, pw]) | (refine wT hk ?_; clear hk; intro w1 hk; simp only [Act.put]))))
  go_at_call 87
  refine (lentC_any cl cv w2 (HC1.out.below hb2 (Nat.le_refl _)) hcl).mono ?_
  rintro x w3 ⟨hcv, rfl, hC3, hb3⟩
  have hb13 : Below w1.heap.size w1 w3 := hb2.trans (hb3.mono hb2.size)
  have hs3 : Shapes w3 := HS.out.below (hb1.trans (hb13.mono hb1.size)) HS.out.1
  have hL3 := hL2.below hb3
  have HLT : Hid (∀ k, hv.ownBlock = some k → k < w2.heap.size) := hide hL2.lt
  replace hk := hk.call hb3
  go_wp2_with (first | (refine wLoad1 hk ?_ (hv := op_3 _ _ _ _ _ _ _ _); simp only [Act.put, pw]) | (refine wLoad1 hk ?_ (hv := op_21 _ _ _ _ _ _ _ _); simp only [Act.put, pw]) | (refine wLoadR hk ?_ (hc := ex_op _ _ _ _ _ _ _ _); simp only [Act.put, pw]) | ((with_reducible show wpList _ _ _ _ _ _); (first | (refine wS hk ?_; simp only [Act.put, pw]) | (refine wN hk ?_; clear hk; intro w1 hk; simp only [Act.put, pw]) | (refine wT hk ?_; clear hk; intro w1 hk; simp only [Act.put]))))
  go_at_call 28
  refine (compile_no l e cl H64.out hcl2 hv hcv w3 hs3 hL3.slc hC3.slc HNE.out).mono ?_
  rintro x w4 ⟨rfl, hb4⟩
  obtain ⟨PE, PN, hPS⟩ : ∃ PE PN, scheckR l e cl = (PE, PN) := ⟨_, _, rfl⟩
  have HPS := hide hPS
  rw [hPS] at HNE ⊢
  have hn1' : (PE == 0) = false := by rw [beq_eq_false_iff_ne]; exact HNE.out
  have hn2' : (PE != 0) = true := by rw [bne_iff_ne]; exact HNE.out
  clear hPS
  have hb14 : Below w1.heap.size w1 w4 := hb13.trans (hb4.mono hb13.size)
  have HL4 := hide (hL3.below hb4)
  have HC4 := hide (hC3.below hb4)
  have H12 := hide hb2.size
  have H24 := hide (Nat.le_trans hb3.size hb4.size)
  replace hk := hk.call hb4
  clear hL2 hL3 hC3 hs3 hb13
  go_wp2_with (first | (refine wLoad1 hk ?_ (hv := op_3 _ _ _ _ _ _ _ _); simp only [Act.put, pw]) | (refine wLoad1 hk ?_ (hv := op_21 _ _ _ _ _ _ _ _); simp only [Act.put, pw]) | (refine wLoadR hk ?_ (hc := ex_op _ _ _ _ _ _ _ _); simp only [Act.put, pw]) | ((with_reducible show wpList _ _ _ _ _ _); (first | (refine wS hk ?_; simp only [Act.put, pw]) | (refine wN hk ?_; clear hk; intro w1 hk; simp only [Act.put, pw]) | (refine wT hk ?_; clear hk; intro w1 hk; simp only [Act.put]))))
  go_at_call 35
  refine (lawBack2 l pv hv w1.heap.size w1 w4 HL4.out HP1.out (Nat.le_refl _) hb14 hlen).mono ?_
  rintro x w5 ⟨rfl, hb5, hk5⟩
  have hb15 : Below w1.heap.size w1 w5 := hb14.trans hb5
  have HC5 : Hid (LentC w5 w2.heap.size cv hcv cl) := hide (by
    rcases HC4.out with h | ⟨a, c, g, h1, h2, h3, h4⟩
    · exact Or.inl h
    · refine Or.inr ⟨a, c, g, h1, h2, h3, ?_⟩
      unfold At at h4 ⊢
      rw [hk5 g (lt_of_block h4) (fun hh => by have := HLT.out g hh.symm; omega), h4])
  replace hk := hk.callB hb5 (by omega) (fun x hx => by simp at hx; subst hx; exact hn1)
  clear hk5
  go_wp2_with (first | (refine wLoad1 hk ?_ (hv := op_3 _ _ _ _ _ _ _ _); simp only [Act.put, pw]) | (refine wLoad1 hk ?_ (hv := op_21 _ _ _ _ _ _ _ _); simp only [Act.put, pw]) | (refine wLoadR hk ?_ (hc := ex_op _ _ _ _ _ _ _ _); simp only [Act.put, pw]) | ((with_reducible show wpList _ _ _ _ _ _); (first | (refine wS hk ?_; simp only [Act.put, pw]) | (refine wN hk ?_; clear hk; intro w1 hk; simp only [Act.put, pw]) | (refine wT hk ?_; clear hk; intro w1 hk; simp only [Act.put]))))
  go_at_call 88
  refine (backC2 cl cv hcv w2.heap.size w1 w5 HC5.out HC1.out H12.out hb15 hcl).mono ?_
  rintro x w6 ⟨rfl, hb6, hk6⟩
  have hb16 : Below w1.heap.size w1 w6 := hb15.trans (hb6.mono H12.out)
  replace hk := hk.callB hb6 (by have := H12.out; omega) (fun x hx => by simp at hx; subst hx; have := H12.out; omega)
  clear hk6
  go_wp2_with (first | (refine wLoad1 hk ?_ (hv := op_3 _ _ _ _ _ _ _ _); simp only [Act.put, pw]) | (refine wLoad1 hk ?_ (hv := op_21 _ _ _ _ _ _ _ _); simp only [Act.put, pw]) | (refine wLoadR hk ?_ (hc := ex_op _ _ _ _ _ _ _ _); simp only [Act.put, pw]) | ((with_reducible show wpList _ _ _ _ _ _); (first | (refine wS hk ?_; simp only [Act.put, pw]) | (refine wN hk ?_; clear hk; intro w1 hk; simp only [Act.put, pw]) | (refine wT hk ?_; clear hk; intro w1 hk; simp only [Act.put]))))
  go_at_call 60
  refine (rf_Check l e cl H64.out hcl2 pv cv w6 (HP1.out.below hb16 (Nat.le_refl _)).1 (HC1.out.below hb16 (Nat.le_refl _)).1).mono ?_
  rintro x w7 ⟨rfl, hb7⟩
  rw [HPS.out]
  replace hk := hk.call hb7
  clear hb1 hb2 hb3 hb4 hb5 hb6 hb7 hb14 hb15 hb16
  go_wp2_with (first | (go_at_call 39; refine (num_any _ _).mono ?_; rintro x w8 ⟨rfl, rfl⟩) | ((with_reducible show wpList _ _ _ _ _ _); (first | (refine wS hk ?_; simp only [Act.put, pw]) | (refine wN hk ?_; clear hk; intro w1 hk; simp only [Act.put, pw]) | (refine wT hk ?_; clear hk; intro w1 hk; simp only [Act.put]))))
  go_ret
  exact ⟨rfl, hk.mod.below⟩
set_option maxHeartbeats 16000000 in
set_option maxRecDepth 100000 in
theorem compiled_ok (l : List I5) (e : St) (cl : List C2) (h64 : In64 l e cl) (k on fu sv : Value) (r : Nat → Value) (pb poff pcap : Nat) (cv : Value) (wb B : Nat) (la : Option Addr) (lc : Nat) (vi vv vd : Value) (ts : List TRec) (w : World) (hs : Shapes w) (hp : Arg w (.slice (some ⟨pb, poff, none⟩) l.length pcap) l) (hlen : l.length * 40 ≤ 140737488351232) (hc : ArgC w cv cl) (hcl : cl.length * 136 ≤ 140737488351232) (h0 : scheckR l e cl = (0, 0)) (hr : rightR l = (0, 0)) (htk : ∃ c, Taken l c e)
    (hw : At w wb #[.slice la ts.length lc, vi, vv, vd] 39) (hT : TInv w B (.slice la ts.length lc) ts) (hB : B ≤ w.heap.size) (hn : ts.length < 600000000000) :
    Calls Tryz.prog 55 #[.pointer (some ⟨wb, 0, none⟩), .agg (opC k on fu (.slice (some ⟨pb, poff, none⟩) l.length pcap) sv e cv r)] w fun x w' => x = .returned (.bool true) ∧ CompP wb B (.slice la ts.length lc) vi vv vd ts w w' := by
  have hk := Kn.nil [] w
  have hcl2 : cl.length < 4000000000000 := by omega
  obtain ⟨i0, ihi, ih0, ihs, ih2⟩ := info_parts Tryz.infoInsT
  obtain ⟨j0, jhi, jh0, jhs, jh2⟩ := info_parts Tryz.infoTd
  have HS := hide hs
  have HP := hide hp
  have HC := hide hc
  have H64 := hide h64
  have H0 := hide h0
  have HR := hide hr
  have HTK := hide htk
  have HTI := hide hT
  have HW0 := hide hw
  have HLL : Hid (l.length ≤ 64) := hide (right_fit hr).2.1
  clear hs hp hc h64 h0 hr htk hT
  go_enter Tryz.func55, Tryz.ntmps55
  go_wp2_with (first | (refine wLoad1 hk ?_ (hv := op_3 _ _ _ _ _ _ _ _); simp only [Act.put, pw]) | (refine wLoad1 hk ?_ (hv := op_21 _ _ _ _ _ _ _ _); simp only [Act.put, pw]) | (refine wLoadR hk ?_ (hc := ex_op _ _ _ _ _ _ _ _); simp only [Act.put, pw]) | ((with_reducible show wpList _ _ _ _ _ _); (first | (refine wS hk ?_; simp only [Act.put, pw]) | (refine wN hk ?_; clear hk; intro w1 hk; simp only [Act.put, pw]) | (refine wT hk ?_; clear hk; intro w1 hk; simp only [Act.put]))))
  go_at_call 34
  have hb1 := hk.mod.below
  have hn1 : w.heap.size < w1.heap.size := lt_of_block (hk.at List.mem_cons_self)
  have HP1 := hide (HP.out.below hb1 (Nat.le_refl _))
  have HC1 := hide (HC.out.below hb1 (Nat.le_refl _))
  refine (lent_any l (.slice (some ⟨pb, poff, none⟩) l.length pcap) w1 HP1.out hlen).mono ?_
  rintro x w2 ⟨hv, rfl, hL2, hb2⟩
  replace hk := hk.call hb2
  go_wp2_with (first | (refine wLoad1 hk ?_ (hv := op_3 _ _ _ _ _ _ _ _); simp only [Act.put, pw]) | (refine wLoad1 hk ?_ (hv := op_21 _ _ _ _ _ _ _ _); simp only [Act.put, pw]) | (refine wLoadR hk ?_ (hc := ex_op _ _ _ _ _ _ _ _); simp only [Act.put, pw]) | ((with_reducible show wpList _ _ _ _ _ _); (first | (refine wS hk ?_; simp only [Act.put, pw]) | (refine wN hk ?_; clear hk; intro w1 hk; simp only [Act.put, pw]) | (refine wT hk ?_; clear hk; intro w1 hk; simp only [Act.put]))))
  go_at_call 87
  refine (lentC_any cl cv w2 (HC1.out.below hb2 (Nat.le_refl _)) hcl).mono ?_
  rintro x w3 ⟨hcv, rfl, hC3, hb3⟩
  have hb13 : Below w1.heap.size w1 w3 := hb2.trans (hb3.mono hb2.size)
  have hs3 : Shapes w3 := HS.out.below (hb1.trans (hb13.mono hb1.size)) HS.out.1
  have hL3 := hL2.below hb3
  have HLT : Hid (∀ k, hv.ownBlock = some k → k < w2.heap.size) := hide hL2.lt
  replace hk := hk.call hb3
  go_wp2_with (first | (refine wLoad1 hk ?_ (hv := op_3 _ _ _ _ _ _ _ _); simp only [Act.put, pw]) | (refine wLoad1 hk ?_ (hv := op_21 _ _ _ _ _ _ _ _); simp only [Act.put, pw]) | (refine wLoadR hk ?_ (hc := ex_op _ _ _ _ _ _ _ _); simp only [Act.put, pw]) | ((with_reducible show wpList _ _ _ _ _ _); (first | (refine wS hk ?_; simp only [Act.put, pw]) | (refine wN hk ?_; clear hk; intro w1 hk; simp only [Act.put, pw]) | (refine wT hk ?_; clear hk; intro w1 hk; simp only [Act.put]))))
  go_at_call 28
  refine (compile_ok l e cl H64.out hcl2 hv hcv w3 hs3 hL3.slc hC3.slc H0.out (right_fit HR.out)).mono ?_
  rintro x w4 ⟨t, rfl, hTh, hb4⟩
  have HTH := hide hTh
  have HCT : Hid (∀ k, hcv.ownBlock = some k → k < w3.heap.size) := hide hC3.lt
  have H23 := hide hb3.size
  have H34 := hide hb4.size
  clear hTh
  have hb14 : Below w1.heap.size w1 w4 := hb13.trans (hb4.mono hb13.size)
  have HL4 := hide (hL3.below hb4)
  have HC4 := hide (hC3.below hb4)
  have H12 := hide hb2.size
  have H24 := hide (Nat.le_trans hb3.size hb4.size)
  replace hk := hk.call hb4
  clear hL2 hL3 hC3 hs3 hb13
  go_wp2_with (first | (refine wLoad1 hk ?_ (hv := op_3 _ _ _ _ _ _ _ _); simp only [Act.put, pw]) | (refine wLoad1 hk ?_ (hv := op_21 _ _ _ _ _ _ _ _); simp only [Act.put, pw]) | (refine wLoadR hk ?_ (hc := ex_op _ _ _ _ _ _ _ _); simp only [Act.put, pw]) | ((with_reducible show wpList _ _ _ _ _ _); (first | (refine wS hk ?_; simp only [Act.put, pw]) | (refine wN hk ?_; clear hk; intro w1 hk; simp only [Act.put, pw]) | (refine wT hk ?_; clear hk; intro w1 hk; simp only [Act.put]))))
  go_at_call 35
  refine (lawBack2 l (.slice (some ⟨pb, poff, none⟩) l.length pcap) hv w1.heap.size w1 w4 HL4.out HP1.out (Nat.le_refl _) hb14 hlen).mono ?_
  rintro x w5 ⟨rfl, hb5, hk5⟩
  have hb15 : Below w1.heap.size w1 w5 := hb14.trans hb5
  have HC5 : Hid (LentC w5 w2.heap.size cv hcv cl) := hide (by
    rcases HC4.out with h | ⟨a, c, g, h1, h2, h3, h4⟩
    · exact Or.inl h
    · refine Or.inr ⟨a, c, g, h1, h2, h3, ?_⟩
      unfold At at h4 ⊢
      rw [hk5 g (lt_of_block h4) (fun hh => by have := HLT.out g hh.symm; omega), h4])
  replace hk := hk.callB hb5 (by omega) (fun x hx => by simp at hx; subst hx; exact hn1)
  have HT5 := hide (HTH.out.keepB hb5.size (fun k h1 h2 => hk5 k h2 (fun hh => by have := HLT.out k hh.symm; have := H23.out; omega)))
  clear hk5
  go_wp2_with (first | (refine wLoad1 hk ?_ (hv := op_3 _ _ _ _ _ _ _ _); simp only [Act.put, pw]) | (refine wLoad1 hk ?_ (hv := op_21 _ _ _ _ _ _ _ _); simp only [Act.put, pw]) | (refine wLoadR hk ?_ (hc := ex_op _ _ _ _ _ _ _ _); simp only [Act.put, pw]) | ((with_reducible show wpList _ _ _ _ _ _); (first | (refine wS hk ?_; simp only [Act.put, pw]) | (refine wN hk ?_; clear hk; intro w1 hk; simp only [Act.put, pw]) | (refine wT hk ?_; clear hk; intro w1 hk; simp only [Act.put]))))
  go_at_call 88
  refine (backC2 cl cv hcv w2.heap.size w1 w5 HC5.out HC1.out H12.out hb15 hcl).mono ?_
  rintro x w6 ⟨rfl, hb6, hk6⟩
  have hb16 : Below w1.heap.size w1 w6 := hb15.trans (hb6.mono H12.out)
  replace hk := hk.callB hb6 (by have := H12.out; omega) (fun x hx => by simp at hx; subst hx; have := H12.out; omega)
  have HT6 := hide (HT5.out.keepB hb6.size (fun k h1 h2 => hk6 k h2 (fun hh => by have := HCT.out k hh.symm; omega)))
  clear hk6
  go_wp2_with (first | (refine wLoad1 hk ?_ (hv := op_3 _ _ _ _ _ _ _ _); simp only [Act.put, pw]) | (refine wLoad1 hk ?_ (hv := op_21 _ _ _ _ _ _ _ _); simp only [Act.put, pw]) | (refine wLoadR hk ?_ (hc := ex_op _ _ _ _ _ _ _ _); simp only [Act.put, pw]) | ((with_reducible show wpList _ _ _ _ _ _); (first | (refine wS hk ?_; simp only [Act.put, pw]) | (refine wN hk ?_; clear hk; intro w1 hk; simp only [Act.put, pw]) | (refine wT hk ?_; clear hk; intro w1 hk; simp only [Act.put]))))
  go_at_call 60
  refine (rf_Check l e cl H64.out hcl2 (.slice (some ⟨pb, poff, none⟩) l.length pcap) cv w6 (HP1.out.below hb16 (Nat.le_refl _)).1 (HC1.out.below hb16 (Nat.le_refl _)).1).mono ?_
  rintro x w7 ⟨rfl, hb7⟩
  rw [H0.out]
  replace hk := hk.call hb7
  have HT7 := hide (HT6.out.keepB hb7.size (fun k h1 h2 => hb7.block k h2))
  have HP7 := hide (HP1.out.below (hb16.trans (hb7.mono hb16.size)) (Nat.le_refl _)).1
  have HB7 := hide hk.mod.below
  have H13 := hide (Nat.le_trans H12.out H23.out)
  have H37 := hide (show w3.heap.size ≤ w7.heap.size by have h1 := H34.out; have h2 := hb5.size; have h3 := hb6.size; have h4 := hb7.size; omega)
  clear hb1 hb2 hb3 hb4 hb5 hb6 hb7 hb14 hb15 hb16
  go_upto_region 11 with (first | (go_at_call 39; refine (num_any _ _).mono ?_; rintro x w8 ⟨rfl, rfl⟩) | ((with_reducible show wpList _ _ _ _ _ _); (first | (refine wS hk ?_; simp only [Act.put, pw]) | (refine wN hk ?_; clear hk; intro w1 hk; simp only [Act.put, pw]) | (refine wT hk ?_; clear hk; intro w1 hk; simp only [Act.put]))))
  (refine wp_regLK hk (.op 0 (.op 1 (.op 2 (.op 3 (.op 4 .nil))))) (by rfl) ?_)
  (repeat (refine sU hk ?_; simp only [Act.put, pw]))
  refine sFieldY fOp3 hk ?_; simp only [Act.put, pw]
  refine sLoad1 hk ?_ (hv := op_3 _ _ _ _ _ _ _ _); simp only [Act.put, pw]
  obtain ⟨qb, qo, qc, hqe, hqb, hqi⟩ : ∃ b off cap, (Value.slice (some ⟨pb, poff, none⟩) l.length pcap) = .slice (some ⟨b, off, none⟩) l.length cap ∧ b < w7.heap.size ∧ ∀ i (h : i < l.length), InsAt w7 b (off + i * 5) l[i] := by
    rcases HP7.out with ⟨_, h0⟩ | h
    · have := (right_fit HR.out).1
      rw [h0] at this
      simp at this
    · exact h
  simp only [Value.slice.injEq, Option.some.injEq, Addr.mk.injEq, and_true, true_and] at hqe
  obtain ⟨⟨rfl, rfl⟩, rfl⟩ := hqe
  have hll := HLL.out
  refine tActK (by rfl) (by rfl) (by rfl) (fun K hK => wp_append_own w7 (.tmp 74) (.tmp 76) 26 rfl w7.heap.size 62 i0 _ 5 40 Tryz.underlying26 ihi ih0 ihs ih2 rfl (by decide) (.slice none 0 0) 0 [] (by rfl) (World.ownsRow_nil _ _ _ _) ⟨pb, poff, none⟩ l.length pcap (l.flatMap I5.cells) (by rfl) (flat_len5 l) (fun j u hj => ?_) (fun u hu => ?_) (by unfold maxLen; omega) (by omega) (Nat.le_refl _) (fun v8 w8 hown8 hg8 _ => hK _ _ (fun _ => hk.call (grown_mod (v := .slice none 0 0) hg8).below) ?_))
  · exact ins_cells hqi j u hj
  · exact ins_one l u hu
  · rw [Nat.zero_add, List.nil_append] at hown8
    obtain ⟨na, nc, rfl⟩ := own_len hown8
    have hm8 : Mod [] w7 w8 := grown_mod (v := .slice none 0 0) hg8
    replace hk := hk.call hm8.below
    have HO8 := hide hown8
    have HT8 := hide (HT7.out.keepB hm8.size (fun k h1 h2 => hm8.block k h2 List.not_mem_nil))
    have HB8 := hide hk.mod.below
    have H78 := hide hm8.size
    clear hown8 hg8 hm8 hqi hqb
    simp only [Act.put, pw]
    refine uAssignS hk ?_; simp only [Act.put, pw]
    refine tNil ?_
    go_upto_region 12 with (first | ((with_reducible show wpList _ _ _ _ _ _); (first | (refine wS hk ?_; simp only [Act.put, pw]) | (refine wN hk ?_; clear hk; intro w1 hk; simp only [Act.put, pw]) | (refine wT hk ?_; clear hk; intro w1 hk; simp only [Act.put]))))
    have hla : ∀ g, (Value.slice la ts.length lc).ownBlock = some g → g < w.heap.size := fun g hg => (World.ownsRow.lt HTI.out.1 g hg).2
    have hty : ∀ g, (Value.slice la ts.length lc).ownBlock = some g → ∃ A, w.heap[g]? = some (.cells A 156 (0, 0)) := fun g hg => by
      rcases HTI.out.1.2 with ⟨h, _⟩ | ⟨g', cap, cur, h, _, hh, _⟩
      · rw [h] at hg; cases hg
      · rw [h] at hg
        simp [Value.ownBlock] at hg
        subst hg
        exact ⟨cur, hh⟩
    have hop8 : At w8 w.heap.size (opC k on fu (.slice (some ⟨pb, poff, none⟩) l.length pcap) sv e cv r) 44 := hk.at (by with_reducible repeat (first | exact List.mem_cons_self | apply List.mem_cons_of_mem))
    have hwb8 : At w8 wb #[.slice la ts.length lc, vi, vv, vd] 39 := HW0.out.of (HB8.out.block wb (lt_of_block HW0.out))
    have hmo : w.heap.size ∉ ownM (.slice la ts.length lc) := fun h => by unfold ownM at h; have := hla w.heap.size (by simpa using h); omega
    have hmw : wb ∉ ownM (.slice la ts.length lc) := fun h => by
      unfold ownM at h
      obtain ⟨A, hA⟩ := hty wb (by simpa using h)
      have h2 := HW0.out
      unfold At at h2
      rw [h2] at hA
      simp at hA
    have HLA := hide hla
    have HTY := hide hty
    clear hk hla hty hw
    refine wp_regT2 (.op 0 (.op 1 (.op 2 (.op 3 (.op 4 (.op 5 (.op 6 (.op 7 (.op 8 (.op 9 (.op 10 (.op 11 (.op 12 (.op 13 (.op 14 .nil))))))))))))))) (fun i => decide (i < 14)) (fun wx => Kn (ownM (.slice la ts.length lc)) w8 wx []) mixT (by decide) (by kernel_rfl) (by kernel_rfl) ?_
    have hk : Kn (ownM (.slice la ts.length lc)) w8 w8.drew [] := (Kn.nil _ w8).drew
    have hd9 : ∀ k : Nat, w8.drew.heap[k]? = w8.heap[k]? := fun _ => rfl
    obtain ⟨w9, hw9⟩ : ∃ x, w8.drew = x := ⟨_, rfl⟩
    rw [hw9] at hk hd9 ⊢
    have HD9 := hide hd9
    clear hw9 hd9
    (repeat (refine sU hk ?_; simp only [Act.put, pw]))
    refine sNil hk ?_; simp only [Act.put, pw]
    refine sFieldY fW0 hk ?_; simp only [Act.put, pw]
    refine sOldY o1Ths hk ?_; simp only [Act.put, pw]
    (repeat (refine sU hk ?_; simp only [Act.put, pw]))
    refine sFieldY fOp5 hk ?_; simp only [Act.put, pw]
    refine sOldR hk ?_ (hc := ex_op _ _ _ _ _ _ _ _); simp only [Act.put, pw]
    refine sBuild hk ?_ (hb := fun wx => build_td _ _ _ _ _ wx); simp only [Act.put, pw]
    refine sBuildTd ?_; intro wa hwa; refine ⟨fun _ => by rw [hwa]; exact (hk.alloc _ _).drop, ?_⟩; simp only [Act.put, pw]
    have HM9 := hide hk.mod
    have hka : Kn (ownM (.slice la ts.length lc)) w8 wa [] := by rw [hwa]; exact (hk.alloc _ _).drop
    subst hwa
    have hown9 : (w9.alloc (.cells (tdC t (.slice na l.length nc) e) 156)).ownsRow B 156 18 (.slice la ts.length lc) ts.length (ts.flatMap TRec.cells) := World.ownsRow.alloc (own_block HTI.out.1 (fun g hg _ => (HD9.out g).trans (HB8.out.block g (HLA.out g hg)))) _
    refine tActK (by rfl) (by rfl) (by rfl) (fun K hK => wp_append_own _ (.tmp 82) (.tmp 88) 32 rfl B 156 j0 _ 18 160 Tryz.underlying32 jhi jh0 jhs jh2 rfl (by decide) (.slice la ts.length lc) ts.length _ (by rfl) hown9 ⟨w9.heap.size, 0, none⟩ 1 1 (TRec.cells ⟨t, .slice na l.length nc, l, e⟩) (by rfl) rfl (row_new _ _ _ _ _ rfl rfl) (fun u hu => List.all_eq_true.1 (td_one t na l.length nc e) u hu) (by unfold maxLen; omega) (by omega) (by have h1 := HB8.out.size; have h2 := HM9.out.size; simp; omega) (fun va wc howna hga _ => hK _ _ (fun _ => hka.grow (grown_mod hga) (fun x hx => (by cases hx))) ?_))
    obtain ⟨a5, c5, rfl⟩ := own_len howna
    have hkc := hka.grow (grown_mod hga) (fun x hx => (by cases hx))
    simp only [Act.put, pw]
    refine sNil hkc ?_; simp only [Act.put, pw]
    refine sFieldY fW0 hkc ?_; simp only [Act.put, pw]
    have hwbc : At wc wb #[.slice la ts.length lc, vi, vv, vd] 39 := hwb8.mod hkc.mod hmw
    have hks : Kn [wb] wc wc [(wb, #[.slice la ts.length lc, vi, vv, vd], 39)] := ⟨Mod.refl _ _, fun x hx => by simp at hx; subst hx; exact ⟨hwbc, Or.inr (by simp)⟩, by simp⟩
    refine sStore1Y o1Ths hks ?_ (hj := by show 0 + 1 ≤ 4; omega) (hA := rfl); intro wd hkd; refine ⟨fun h => absurd h (by decide), ?_⟩; simp only [Act.put]
    refine tNil ?_
    have hrow : At wd wb #[.slice a5 (ts.length + 1) c5, vi, vv, vd] 39 := hkd.at List.mem_cons_self
    have hB8s := HB8.out.size
    have hz9 : w8.heap.size ≤ wc.heap.size := hkc.mod.size
    have hzd : wc.heap.size ≤ wd.heap.size := hkd.mod.size
    have HF : Hid (∀ k : Nat, k < w8.heap.size → k ≠ wb → some k ≠ (Value.slice la ts.length lc).ownBlock → wd.heap[k]? = w8.heap[k]?) := hide fun k h1 h2 h3 => (hkd.mod.block k (by omega) (by simp [h2])).trans (hkc.mod.block k h1 (fun hm => h3 (by unfold ownM at hm; simpa [eq_comm] using hm)))
    have hwlt := lt_of_block HW0.out
    have HR2 : Hid (CompP wb B (.slice la ts.length lc) vi vv vd ts w wd) := hide (by
      refine ⟨.slice a5 (ts.length + 1) c5, ts ++ [⟨t, .slice na l.length nc, l, e⟩], by simp, by simp, hrow, ⟨?_, fun x hx => ?_⟩, ?_⟩
      · rw [List.length_append, List.flatMap_append]
        refine own_block (by simpa using howna) (fun g hg ⟨A, hA⟩ => hkd.mod.block g (lt_of_block hA) (fun hm => ?_))
        simp only [List.mem_cons, List.not_mem_nil, or_false] at hm
        subst hm
        unfold At at hwbc
        rw [hwbc] at hA
        simp at hA
      · rcases List.mem_append.1 hx with hx | hx
        · refine (HTI.out.2 x hx).keep (by omega) (fun k A ty hty hA => ?_)
          have hkl := lt_of_block hA
          refine (HF.out k (by omega) (fun e => ?_) (fun e => ?_)).trans (HB8.out.block k hkl)
          · subst e
            have h2 := HW0.out
            unfold At at h2
            rw [h2] at hA
            simp at hA
            rcases hty with rfl | rfl | rfl <;> exact absurd hA.2 (by decide)
          · obtain ⟨A2, hA2⟩ := HTY.out k e.symm
            rw [hA2] at hA
            simp at hA
            rcases hty with rfl | rfl | rfl <;> exact absurd hA.2 (by decide)
        · simp only [List.mem_cons, List.not_mem_nil, or_false] at hx
          subst hx
          have h37 := H37.out
          have h78 := H78.out
          have h13 := H13.out
          have hf2 : ∀ k, w3.heap.size ≤ k → k < w8.heap.size → wd.heap[k]? = w8.heap[k]? := fun k h1 h2 => HF.out k h2 (by omega) (fun e => by have := HLA.out k e.symm; omega)
          refine ⟨(HT8.out.keepB (by omega) hf2).low2 (by omega), own_base (own_block HO8.out (fun g hg _ => ?_)) (by omega), HR.out, HTK.out⟩
          have h4 := World.ownsRow.lt HO8.out g hg
          exact hf2 g (by omega) h4.2
      · exact ⟨hkd.mod.os.trans (hkc.mod.os.trans HB8.out.os), hkd.mod.tape.trans (hkc.mod.tape.trans HB8.out.tape), hkd.mod.output.trans (hkc.mod.output.trans HB8.out.output), by omega, fun k h1 h2 h3 => (HF.out k (by omega) h2 h3).trans (HB8.out.block k h1)⟩)
    clear hk hka hkc hks hkd hwbc hrow howna hga hown9 hop8 hwb8 hmo hmw HF hB8s hz9 hzd hwlt
    have hk := Kn.nil [] wd
    go_wp2_with (first | ((with_reducible show wpList _ _ _ _ _ _); (first | (refine wS hk ?_; simp only [Act.put, pw]) | (refine wN hk ?_; clear hk; intro w1 hk; simp only [Act.put, pw]) | (refine wT hk ?_; clear hk; intro w1 hk; simp only [Act.put]))))
    go_ret
    exact ⟨rfl, HR2.out⟩
end Go.Proofs.YtamiichlbmllcaaGreatDoor
