import Derived.Test.YtamiichlbmllcabGreatDoorQLawB
import Derived.Test.YtamiichlbmllcabGreatDoorQPlB
set_option maxRecDepth 100000
set_option maxHeartbeats 32000000
namespace Go.Proofs.YtamiichlbmllcabGreatDoor
open Go.RowKit
theorem addr_add (b off j : Nat) : (⟨b, off, none⟩ : Addr).add j = ⟨b, off + j, none⟩ := by unfold Addr.add; split <;> simp_all
def marks (n : Nat) : List I5 := [⟨77, 0, 0, 0, n⟩, ⟨77, 0, 0, 0, n + 1⟩, ⟨77, 0, 0, 0, n + 2⟩]
def lentL (l : List I5) : List I5 := l ++ marks l.length
def cellF (L : List I5) (j : Nat) : Value := (L.flatMap I5.cells).getD j (.int .i64 0)
theorem flat_len5 (L : List I5) : (L.flatMap I5.cells).length = L.length * 5 := by
 induction L with
 | nil => rfl
 | cons x r ih => rw [List.flatMap_cons, List.length_append, ih]; simp [I5.cells]; omega
theorem cellF_at (L : List I5) (i f : Nat) (hi : i < L.length) (hf : f < 5) : cellF L (i * 5 + f) = L[i].cells.getD f (.int .i64 0) := by
 unfold cellF; rw [List.getD_eq_getElem?_getD, List.getD_eq_getElem?_getD, flat_cells L i f hi hf]
theorem RowF.ins {w : World} {g : Nat} {t : TypeId} {n : Nat} {L : List I5} {f : Nat -> Value} (h : RowF w g t n f) (i : Nat) (hi : i < L.length) (hn : L.length * 5 <= n) (hf : ∀ k, k < 5 -> f (i * 5 + k) = cellF L (i * 5 + k)) : InsAt w g (0 + i * 5) L[i] := by
 have hc : ∀ k, k < 5 -> w.cell? ⟨g, 0 + i * 5 + k, none⟩ = some (L[i].cells.getD k (.int .i64 0)) := by
  intro k hk
  rw [show 0 + i * 5 + k = i * 5 + k by omega, (h.cell (i * 5 + k) (by omega)).1, hf k hk, cellF_at L i k hi hk]
 exact ⟨hc 0 (by omega), hc 1 (by omega), hc 2 (by omega), hc 3 (by omega), hc 4 (by omega)⟩
def LentAt (w : World) (base : Nat) (v hv : Value) (l : List I5) : Prop :=
 (v = .slice none 0 0 /\ hv = .slice none 0 0 /\ l = []) \/
 ∃ a c g, v = .slice (some a) l.length c /\ hv = .slice (some ⟨g, 0, none⟩) l.length (l.length + 3) /\ base <= g /\ RowF w g 35 ((l.length + 3) * 5) (cellF (lentL l))
theorem LentAt.below {w w' : World} {base : Nat} {v hv : Value} {l : List I5} (h : LentAt w base v hv l) (hb : Below w.heap.size w w') : LentAt w' base v hv l := by
 rcases h with h | ⟨a, c, g, h1, h2, h3, h4⟩
 · exact Or.inl h
 · exact Or.inr ⟨a, c, g, h1, h2, h3, h4.block (hb.block g h4.lt)⟩
theorem LentAt.slc {w : World} {base : Nat} {v hv : Value} {l : List I5} (h : LentAt w base v hv l) : Slc w hv l := by
 rcases h with ⟨_, rfl, rfl⟩ | ⟨a, c, g, _, rfl, _, h4⟩
 · exact Or.inl ⟨⟨_, _, rfl⟩, rfl⟩
 · refine Or.inr ⟨g, 0, _, rfl, h4.lt, fun i hi => ?_⟩
   have := h4.ins (L := lentL l) i (by simp [lentL]; omega) (by simp [lentL, marks]) (fun k hk => rfl)
   have e : (lentL l)[i]'(by simp [lentL]; omega) = l[i] := by simp only [lentL]; rw [List.getElem_append_left]
   rw [e] at this
   exact this
theorem made_zero (n j : Nat) (h : j < n) : (madeCells #[Value.int .i64 0, .int .i64 0, .int .i64 0, .int .i64 0, .int .i64 0] n)[j]? = some (.int .i64 0) := by
 simp [madeCells, h]
 have : j % 5 = 0 \/ j % 5 = 1 \/ j % 5 = 2 \/ j % 5 = 3 \/ j % 5 = 4 := by omega
 rcases this with e | e | e | e | e <;> rw [e] <;> rfl
theorem RowF.set5 {w : World} {g N : Nat} {t : TypeId} {f : Nat -> Value} (h : RowF w g t N f) (n : Nat) (x : I5) :
 RowF (((((w.setCell ⟨g, n * 5, none⟩ (.int .i64 x.o)).setCell ⟨g, n * 5 + 1, none⟩ (.int .i64 x.a)).setCell ⟨g, n * 5 + 2, none⟩ (.int .i64 x.b)).setCell ⟨g, n * 5 + 3, none⟩ (.int .i64 x.c)).setCell ⟨g, n * 5 + 4, none⟩ (.int .i64 x.k)) g t N (fun j => if n * 5 <= j /\ j < n * 5 + 5 then x.cells.getD (j - n * 5) (.int .i64 0) else f j) := by
 refine (((((h.set _ _).set _ _).set _ _).set _ _).set _ _).congr fun j _ => ?_
 by_cases hj : n * 5 <= j /\ j < n * 5 + 5
 · rw [if_pos hj]
   have : j = n * 5 \/ j = n * 5 + 1 \/ j = n * 5 + 2 \/ j = n * 5 + 3 \/ j = n * 5 + 4 := by omega
   rcases this with rfl | rfl | rfl | rfl | rfl <;> simp [I5.cells]
 · rw [if_neg hj, if_neg (by omega), if_neg (by omega), if_neg (by omega), if_neg (by omega), if_neg (by omega)]
theorem below_set5 {B : Nat} {w0 w : World} {g : Nat} (h : Below B w0 w) (hB : B <= g) (o0 o1 o2 o3 o4 : Nat) (u0 u1 u2 u3 u4 : Value) :
 Below B w0 (((((w.setCell ⟨g, o0, none⟩ u0).setCell ⟨g, o1, none⟩ u1).setCell ⟨g, o2, none⟩ u2).setCell ⟨g, o3, none⟩ u3).setCell ⟨g, o4, none⟩ u4) :=
 ((((h.setCell (by exact hB) _).setCell (by exact hB) _).setCell (by exact hB) _).setCell (by exact hB) _).setCell (by exact hB) _
theorem lentL_mark (l : List I5) (n : Nat) (h1 : l.length <= n) (h2 : n < l.length + 3) : ∃ h : n < (lentL l).length, (lentL l)[n] = ⟨77, 0, 0, 0, n⟩ := by
 refine ⟨by simp [lentL, marks]; omega, ?_⟩
 simp only [lentL]
 rw [List.getElem_append_right h1]
 have : n = l.length \/ n = l.length + 1 \/ n = l.length + 2 := by omega
 rcases this with rfl | rfl | rfl <;> simp [marks]
def lentF (l : List I5) (k j : Nat) : Value := if j < k * 5 then cellF (lentL l) j else .int .i64 0
theorem lent_some (l : List I5) (a : Addr) (c : Nat) (w : World) (hcs : ∀ j u, (l.flatMap I5.cells)[j]? = some u -> w.cell? (a.add j) = some u) (hlen : l.length * 40 <= 140737488351232) :
 Calls Tryz.prog 32 #[.slice (some a) l.length c] w fun e w' => ∃ hv, e = .returned hv /\ LentAt w' w.heap.size (.slice (some a) l.length c) hv l /\ Below w.heap.size w w' := by
 obtain ⟨i0, ihi, ih0, ihs, ih2⟩ := info_parts Tryz.infoIns
 have hq := fun wx => Lib.run_eql_slice_nil (P := Tryz.prog) wx 36 35 (some a) l.length c 0 0 Tryz.underlying36
 simp only [Option.isNone_some] at hq
 go_enter Tryz.func32, Tryz.ntmps32
 go_wp2_with (at_make; go_must (refine wpList_make_full _ rfl (.tmp 9) (.tmp 9) 36 rfl w.heap.size 35 i0 _ 5 Tryz.underlying36 ihi ih0 ihs .i64 .i64 _ _ (l.length + 3) rfl rfl ?e1 ?e2 ?b2 ?b3 ?b4 ?_))
 case e1 => omega
 case e2 => omega
 case b2 => rw [ih2]; omega
 case b3 => unfold maxLen; omega
 case b4 => exact Nat.le_refl _
 intro w1 hown1 hgrow1
 have hb1 := (Below.refl w.heap.size w).grown hgrow1 (Nat.le_refl _) (fun k hk => by cases hk)
 have hR1 : RowF w1 w.heap.size 35 ((l.length + 3) * 5) (fun _ => .int .i64 0) := by
  rcases hown1.2 with ⟨h0, _⟩ | ⟨g, cap, cur, hv, _, hh, _, _, hs, ht⟩
  · cases h0
  · simp only [Value.slice.injEq, Option.some.injEq, Addr.mk.injEq, and_true, true_and] at hv
    obtain ⟨rfl, rfl⟩ := hv
    refine ⟨cur, hh, hs, fun j hj => ?_⟩
    have := made_zero ((l.length + 3) * 5) j hj
    rw [<- Array.getElem?_toList] at this ⊢
    rw [<- ht, List.getElem?_take] at this
    simpa [hj] using this
 have hcs1 : ∀ j u, (l.flatMap I5.cells)[j]? = some u -> w1.cell? (a.add j) = some u := fun j u hj => by
  have h2 := hcs j u hj
  have hlt := World.block_lt_of_cell? w _ h2
  rw [hb1.cell (p := a.add j) hlt]; exact h2
 have HC := hide hcs1
 clear hown1 hgrow1 hcs1 hcs
 go_wp2_with (refine wpList_copy_wide rfl (.tmp 11) (.tmp 12) 36 36 rfl 35 i0 Tryz.underlying36 ihi w.heap.size (l.length + 3) (l.length + 3) a l.length c rfl rfl ((l.length + 3) * 5) 35 _ (lentF l l.length) hR1 (l.flatMap I5.cells) ?k1 (by omega) HC.out ?k2 ?k3 ?k4 ?_)
 case k1 => rw [flat_len5, ihs]
 case k2 => rw [flat_len5]; omega
 case k3 => intro u hu; obtain ⟨x, _, hx⟩ := List.mem_flatMap.1 hu; exact five_one x u hx
 case k4 =>
  intro j hj
  have hfl := flat_len5 l
  unfold lentF
  by_cases hc : j < l.length * 5
  · rw [if_pos hc, dif_pos (by omega)]
    unfold cellF lentL
    rw [List.flatMap_append, List.getD_eq_getElem?_getD, List.getElem?_append_left (by rw [flat_len5]; exact hc), List.getElem?_eq_getElem]; rfl
  · rw [if_neg hc, dif_neg (by omega)]
 intro w2 hR2 hg2
 have hb2 := hb1.grown hg2 hb1.size (fun k hk => by cases hk; exact Nat.le_refl _)
 clear hR1 hb1 hg2
 go_wp2_with fail
 go_loopw [4] (fun j wr => ∃ n : Nat, l.length <= n /\ n <= l.length + 3 /\ j = .int .i64 n /\ RowF wr w.heap.size 35 ((l.length + 3) * 5) (lentF l n) /\ Below w.heap.size w wr) (fun j _ => l.length + 3 - (intOf j).toNat)
 case atStart => exact ⟨l.length, by omega, by omega, rfl, hR2, hb2⟩
 case round =>
  clear hR2 hb2
  obtain ⟨n, hn1, hn2, rfl, hR, hbl⟩ := hrel
  by_cases hlt : n < l.length + 3
  · obtain ⟨c0, f0⟩ := hR.cell (n * 5) (by omega)
    obtain ⟨c1, f1⟩ := hR.cell (n * 5 + 1) (by omega)
    obtain ⟨c2, f2⟩ := hR.cell (n * 5 + 2) (by omega)
    obtain ⟨c3, f3⟩ := hR.cell (n * 5 + 3) (by omega)
    obtain ⟨c4, f4⟩ := hR.cell (n * 5 + 4) (by omega)
    have HS : Hid (RowF _ w.heap.size 35 ((l.length + 3) * 5) (lentF l (n + 1))) := hide ((hR.set5 n ⟨77, 0, 0, 0, n⟩).congr (by
     intro j hj
     obtain ⟨hm1, hm2⟩ := lentL_mark l n hn1 hlt
     unfold lentF
     by_cases hc : n * 5 <= j /\ j < n * 5 + 5
     · rw [if_pos hc, if_pos (by omega)]
       obtain ⟨f, rfl⟩ : ∃ f, j = n * 5 + f := ⟨j - n * 5, by omega⟩
       rw [cellF_at (lentL l) n f hm1 (by omega), hm2, Nat.add_sub_cancel_left]
     · rw [if_neg hc]
       by_cases hc2 : j < n * 5
       · rw [if_pos hc2, if_pos (by omega)]
       · rw [if_neg hc2, if_neg (by omega)]))
    go_wp2
    go_roundw
    case rel => exact ⟨n + 1, by omega, by omega, by go_num, HS.out, below_set5 hbl (Nat.le_refl _) _ _ _ _ _ _ _ _ _ _⟩
    case measure => simp [intOf]; omega
  · have en : n = l.length + 3 := by omega
    subst en
    have hR' : RowF wr w.heap.size 35 ((l.length + 3) * 5) (cellF (lentL l)) := hR.congr (fun j hj => by unfold lentF; rw [if_pos hj])
    clear hR
    go_wp2
    go_ret
    exact ⟨_, rfl, Or.inr ⟨a, c, _, rfl, rfl, Nat.le_refl _, hR'⟩, hbl⟩
theorem lent_nil (w : World) :
 Calls Tryz.prog 32 #[.slice none 0 0] w fun e w' => e = .returned (.slice none 0 0) /\ w' = w := by
 have hq := fun wx => Lib.run_eql_slice_nil (P := Tryz.prog) wx 36 35 none 0 0 0 0 Tryz.underlying36
 simp only [Option.isNone_none] at hq
 go_enter Tryz.func32, Tryz.ntmps32
 go_wp2
 go_ret
 exact ⟨rfl, rfl⟩
def Arg (w : World) (v : Value) (l : List I5) : Prop := Slc w v l /\ ∀ n c, v = .slice none n c -> n = 0 /\ c = 0
theorem Arg.below {w w' : World} {v : Value} {l : List I5} {B : Nat} (h : Arg w v l) (hb : Below B w w') (hB : w.heap.size <= B) : Arg w' v l := ⟨h.1.below hb hB, h.2⟩
theorem Arg.cells {w : World} {v : Value} {l : List I5} (h : Arg w v l) : (v = .slice none 0 0 /\ l = []) \/ ∃ a c, v = .slice (some a) l.length c /\ ∀ j u, (l.flatMap I5.cells)[j]? = some u -> w.cell? (a.add j) = some u := by
 obtain ⟨hs, hn⟩ := h
 rcases hs with ⟨⟨a, c, rfl⟩, rfl⟩ | ⟨b, off, cap, rfl, hb, hi⟩
 · cases a with
   | none => obtain ⟨_, rfl⟩ := hn 0 c rfl; exact Or.inl ⟨rfl, rfl⟩
   | some a => exact Or.inr ⟨a, c, rfl, fun j u hj => by simp at hj⟩
 · refine Or.inr ⟨⟨b, off, none⟩, cap, rfl, fun j u hj => ?_⟩
   have hlt := (List.getElem?_eq_some_iff.1 hj).1
   rw [flat_len5] at hlt
   have hd : j / 5 < l.length := by omega
   have hm : j % 5 < 5 := Nat.mod_lt _ (by omega)
   have hje : j = j / 5 * 5 + j % 5 := by omega
   rw [hje, flat_cells l (j / 5) (j % 5) hd hm] at hj
   have hadd0 := addr_add b off j
   have hadd : (⟨b, off, none⟩ : Addr).add j = ⟨b, off + j / 5 * 5 + j % 5, none⟩ := by
    rw [hadd0, show off + j = off + j / 5 * 5 + j % 5 by clear hadd0; omega]
   rw [hadd]
   obtain ⟨c0, c1, c2, c3, c4⟩ := hi (j / 5) hd
   obtain ⟨f, hf5, hfe⟩ : ∃ f, f < 5 /\ j % 5 = f := ⟨_, hm, rfl⟩
   rw [hfe] at hj ⊢
   have : f = 0 \/ f = 1 \/ f = 2 \/ f = 3 \/ f = 4 := by clear hje hadd hadd0 hfe hj; omega
   rcases this with rfl | rfl | rfl | rfl | rfl
   · rw [<- hj]; exact c0
   · rw [<- hj]; exact c1
   · rw [<- hj]; exact c2
   · rw [<- hj]; exact c3
   · rw [<- hj]; exact c4
theorem lent_any (l : List I5) (v : Value) (w : World) (h : Arg w v l) (hlen : l.length * 40 <= 140737488351232) :
 Calls Tryz.prog 32 #[v] w fun e w' => ∃ hv, e = .returned hv /\ LentAt w' w.heap.size v hv l /\ Below w.heap.size w w' := by
 rcases h.cells with ⟨rfl, rfl⟩ | ⟨a, c, rfl, hc⟩
 · refine (lent_nil w).mono ?_
   rintro e w' ⟨rfl, rfl⟩
   exact ⟨_, rfl, Or.inl ⟨rfl, rfl, rfl⟩, Below.refl _ _⟩
 · exact lent_some l a c w hc hlen
def jumpI : I5 := ⟨9, 0, 0, 0, 1⟩
def backF (l : List I5) (k j : Nat) : Value := if j < k * 5 then jumpI.cells.getD (j % 5) (.int .i64 0) else cellF (lentL l) j
theorem back_step (wx wr : World) (l : List I5) (g n : Nat) (hR : RowF wr g 35 ((l.length + 3) * 5) (backF l n)) (hwx : wx.heap[g]? = wr.heap[g]?) :
 RowF (((((wx.setCell ⟨g, n * 5, none⟩ (.int .i64 9)).setCell ⟨g, n * 5 + 1, none⟩ (.int .i64 0)).setCell ⟨g, n * 5 + 2, none⟩ (.int .i64 0)).setCell ⟨g, n * 5 + 3, none⟩ (.int .i64 0)).setCell ⟨g, n * 5 + 4, none⟩ (.int .i64 1)) g 35 ((l.length + 3) * 5) (backF l (n + 1)) :=
 ((hR.block hwx).set5 n jumpI).congr (by
  intro j hj
  unfold backF
  by_cases hc : n * 5 <= j /\ j < n * 5 + 5
  · rw [if_pos hc, if_pos (by omega), show j % 5 = j - n * 5 by omega]
  · rw [if_neg hc]
    by_cases hc2 : j < n * 5
    · rw [if_pos hc2, if_pos (by omega)]
    · rw [if_neg hc2, if_neg (by omega)])
theorem back_some (l : List I5) (a : Addr) (c g base : Nat) (w : World) (hbg : base <= g) (hR : RowF w g 35 ((l.length + 3) * 5) (cellF (lentL l))) (hp : 0 < l.length -> ∃ b off, a = ⟨b, off, none⟩ /\ b < base /\ ∀ i (h : i < l.length), InsAt w b (off + i * 5) l[i]) (hlen : l.length * 40 <= 140737488351232) :
 Calls Tryz.prog 35 #[.slice (some ⟨g, 0, none⟩) l.length (l.length + 3), .slice (some a) l.length c] w fun e w' => e = .returned (.bool true) /\ Below base w w' /\ But g w w' := by
 have hq := fun wx => Lib.run_eql_slice_nil (P := Tryz.prog) wx 36 35 (some a) l.length c 0 0 Tryz.underlying36
 simp only [Option.isNone_some] at hq
 have HP := hide hp
 clear hp
 go_enter Tryz.func35, Tryz.ntmps35
 go_wp2_with fail
 go_loopw [6, 7] (fun ok j wr => ∃ n : Nat, n <= l.length + 3 /\ ok = .bool true /\ j = .int .i64 n /\ RowF wr g 35 ((l.length + 3) * 5) (backF l n) /\ Below base w wr /\ But g w wr) (fun _ j _ => l.length + 3 - (intOf j).toNat)
 case atStart => exact ⟨0, by omega, rfl, rfl, hR.congr (fun j _ => by simp [backF]), Below.refl _ _, But.refl _ _⟩
 case round =>
  clear hR
  obtain ⟨n, hn, rfl, rfl, hR, hbl, hbt⟩ := hrel
  have HBT := hide hbt
  clear hbt
  by_cases hlt : n < l.length + 3
  · obtain ⟨x, hx⟩ : ∃ x, x = (lentL l)[n]'(by simp [lentL, marks]; omega) := ⟨_, rfl⟩
    obtain ⟨c0, c1, c2, c3, c4⟩ := hR.ins (L := lentL l) n (by simp [lentL, marks]; omega) (by simp [lentL, marks]) (fun k hk => by unfold backF; rw [if_neg (by omega)])
    rw [<- hx, Nat.zero_add] at c0 c1 c2 c3 c4
    have f0 := (hR.cell (n * 5) (by omega)).2
    have f1 := (hR.cell (n * 5 + 1) (by omega)).2
    have f2 := (hR.cell (n * 5 + 2) (by omega)).2
    have f3 := (hR.cell (n * 5 + 3) (by omega)).2
    have f4 := (hR.cell (n * 5 + 4) (by omega)).2
    have HS := hide (fun wx hwx => back_step wx wr l g n hR hwx)
    by_cases hin : n < l.length
    · obtain ⟨b, off, rfl, hb, hi⟩ := HP.out (by omega)
      have hxl : x = l[n] := by rw [hx]; simp only [lentL]; rw [List.getElem_append_left]
      obtain ⟨e0, e1, e2, e3, e4⟩ := (hi n hin).below hbl hb
      rw [<- hxl] at e0 e1 e2 e3 e4
      have HX := hide hx
      clear hx hxl hi
      go_wp2_with fail
      go_quiet (fail)
      go_wp2
      exact ⟨⟨n + 1, by omega, rfl, by go_num, HS.out _ rfl, below_set5 (below_drewN hbl _) hbg _ _ _ _ _ _ _ _ _ _, But.set5 (HBT.out.trans (But.ofBelow (below_drewN (Below.refl _ _) _))) _ _ _ _ _ _ _ _ _ _⟩, by simp [intOf]; omega⟩
    · obtain ⟨_, hm⟩ := lentL_mark l n (by omega) hlt
      rw [<- hx] at hm
      subst hm
      clear hx
      go_wp2
      exact ⟨⟨n + 1, by omega, rfl, by go_num, HS.out _ rfl, below_set5 hbl hbg _ _ _ _ _ _ _ _ _ _, But.set5 HBT.out _ _ _ _ _ _ _ _ _ _⟩, by simp [intOf]; omega⟩
  · go_wp2
    go_ret
    exact ⟨rfl, hbl, HBT.out⟩
theorem back_nil (hv : Value) (w : World) :
 Calls Tryz.prog 35 #[hv, .slice none 0 0] w fun e w' => e = .returned (.bool true) /\ w' = w := by
 have hq := fun wx => Lib.run_eql_slice_nil (P := Tryz.prog) wx 36 35 none 0 0 0 0 Tryz.underlying36
 simp only [Option.isNone_none] at hq
 go_enter Tryz.func35, Tryz.ntmps35
 go_wp2
 go_ret
 exact ⟨rfl, rfl⟩
theorem lawBack2 (l : List I5) (v hv : Value) (base : Nat) (w0 w : World) (hl : LentAt w base v hv l) (ha : Arg w0 v l) (h0 : w0.heap.size <= base) (hbl : Below w0.heap.size w0 w) (hlen : l.length * 40 <= 140737488351232) :
 Calls Tryz.prog 35 #[hv, v] w fun e w' => e = .returned (.bool true) /\ Below base w w' /\ ∀ k, k < w.heap.size -> some k ≠ hv.ownBlock -> w'.heap[k]? = w.heap[k]? := by
 rcases hl with ⟨rfl, rfl, rfl⟩ | ⟨a, c, g, rfl, rfl, hbg, hR⟩
 · refine (back_nil _ w).mono ?_
   rintro e w' ⟨rfl, rfl⟩
   exact ⟨rfl, Below.refl _ _, fun _ _ _ => rfl⟩
 · refine (back_some l a c g base w hbg hR (fun hp => ?_) hlen).mono ?_
   · rcases ha.1 with ⟨_, rfl⟩ | ⟨b, off, cap, hv, hb, hi⟩
     · simp at hp
     · simp only [Value.slice.injEq, Option.some.injEq] at hv
       obtain ⟨rfl, _, _⟩ := hv
       exact ⟨b, off, rfl, by omega, fun i h => (hi i h).below hbl hb⟩
   · rintro e w' ⟨he, hb, ht⟩
     exact ⟨he, hb, fun k hk hn => ht.block k hk (fun e => hn (by rw [e]; rfl))⟩
theorem lawBack_any (l : List I5) (v hv : Value) (base : Nat) (w0 w : World) (hl : LentAt w base v hv l) (ha : Arg w0 v l) (h0 : w0.heap.size <= base) (hbl : Below w0.heap.size w0 w) (hlen : l.length * 40 <= 140737488351232) :
 Calls Tryz.prog 35 #[hv, v] w fun e w' => e = .returned (.bool true) /\ Below base w w' :=
 (lawBack2 l v hv base w0 w hl ha h0 hbl hlen).mono fun _ _ h => ⟨h.1, h.2.1⟩
theorem LentAt.lt {w : World} {base : Nat} {v hv : Value} {l : List I5} (h : LentAt w base v hv l) : ∀ k, hv.ownBlock = some k -> k < w.heap.size := by
 rcases h with ⟨rfl, rfl, rfl⟩ | ⟨a, c, g, rfl, rfl, hbg, hR⟩
 · intro k hk; cases hk
 · intro k hk; cases hk; exact hR.lt
section
variable {l : List Oper} {Q : Exit -> Act -> World -> Prop} {F : Nat -> Bool} {S : World -> Prop} {r : OT} {a : Act} {w : World} {i : Nat} {d : Option Tmp} {x : Operand} {tt : TypeId} {pos : String} {aft : Array Edge} {g : Option (Nat × Bool)}
theorem vMoveI {p : Int} (hk : S w) (h : wpT Tryz.prog l Q F S r (a.put d (.int .i64 p)) w) (ho : nthO i l = some ⟨d, .move x, tt, pos, aft, g⟩ := by rfl) (hw : Region.wanted ⟨d, .move x, tt, pos, aft, g⟩ (yielded l.toArray a.tmps) = true := by rfl) (hx : a.eval x = .int .i64 p := by rfl) : wpT Tryz.prog l Q F S (.op i r) a w := sMove hk (by rw [hx]; exact h) ho hw
theorem vMoveB {p : Bool} (hk : S w) (h : wpT Tryz.prog l Q F S r (a.put d (.bool p)) w) (ho : nthO i l = some ⟨d, .move x, tt, pos, aft, g⟩ := by rfl) (hw : Region.wanted ⟨d, .move x, tt, pos, aft, g⟩ (yielded l.toArray a.tmps) = true := by rfl) (hx : a.eval x = .bool p := by rfl) : wpT Tryz.prog l Q F S (.op i r) a w := sMove hk (by rw [hx]; exact h) ho hw
theorem vAssignI {p : Int} (hk : S w) (h : wpT Tryz.prog l Q F S r (a.put d (.int .i64 p)) w) (ho : nthO i l = some ⟨d, .assign x, tt, pos, aft, g⟩ := by rfl) (hw : Region.wanted ⟨d, .assign x, tt, pos, aft, g⟩ (yielded l.toArray a.tmps) = true := by rfl) (hx : a.eval x = .int .i64 p := by rfl) : wpT Tryz.prog l Q F S (.op i r) a w := sAssign hk (by rw [hx]; exact h) ho hw
theorem vAssignB {p : Bool} (hk : S w) (h : wpT Tryz.prog l Q F S r (a.put d (.bool p)) w) (ho : nthO i l = some ⟨d, .assign x, tt, pos, aft, g⟩ := by rfl) (hw : Region.wanted ⟨d, .assign x, tt, pos, aft, g⟩ (yielded l.toArray a.tmps) = true := by rfl) (hx : a.eval x = .bool p := by rfl) : wpT Tryz.prog l Q F S (.op i r) a w := sAssign hk (by rw [hx]; exact h) ho hw
end
theorem sV {l : List Oper} {Q : Exit -> Act -> World -> Prop} {F : Nat -> Bool} {S : World -> Prop} {r : OT} {a : Act} {w : World} {G : Prop} (hk : S w) (h : G) (t : S w -> G -> wpT Tryz.prog l Q F S r a w := by intro hk h; first | exact vMoveI hk h | exact vMoveB hk h | exact vAssignI hk h | exact vAssignB hk h | exact sMove hk h | exact sAssign hk h | exact sExtract hk h | exact sFieldZ hk h | exact sField0 hk h | exact sField hk h | exact sIndexA0 hk h | exact sIndexS0 hk h | exact sIndexA hk h | exact sIndexS hk h | exact sLoadR hk h | exact sLoad1 hk h | exact sOldR hk h | exact sOld1 hk h | exact sOldC hk h | exact sOldG hk h | exact sBuild hk h | exact sPickT hk h | exact sPickF hk h | exact sLss hk h | exact sLeq hk h | exact sGtr hk h | exact sGeq hk h | exact sEql hk h | exact sNot hk h | exact sSkip hk h | exact sSkipA hk h) : wpT Tryz.prog l Q F S r a w := t hk h
def lineT : Nat -> Nat -> OT
 | _, 0 => .nil
 | k, n + 1 => .op k (lineT (k + 1) n)
theorem wpT_line {P : Program} {l : List Oper} {Q : Exit -> Act -> World -> Prop} {S : World -> Prop} : ∀ (n k : Nat) (a : Act) (w : World), wpT P l Q (fun _ => false) S (lineT k n) a w -> wpOps P l.toArray (NoPanic Q) (List.range' k n) a w
 | 0, _, _, _, h => NoPanic.normal h
 | n + 1, k, a, w, h => by
   obtain ⟨o, ho, h⟩ := h
   have hl : l.toArray[k]? = some o := by rw [<- ho, nthO_eq]; simp
   rw [List.range'_succ, wpOps_cons]
   by_cases hst : stillOp o = true
   · simp only [hst, if_true] at h
     obtain ⟨hS, v, hy, h⟩ := h
     exact hy.wpOp hl hS (wpT_line n (k + 1) _ _ h)
   · simp only [hst, Bool.false_eq_true, if_false] at h
     unfold wpOp
     simp only [hl]
     by_cases hw : Region.wanted o (yielded l.toArray a.tmps) = true
     · simp only [hw, if_true] at h ⊢
       refine Or.inl (Oper.wp_mono ?_ h)
       rintro a' w' ⟨_, h2⟩
       exact wpT_line n (k + 1) a' w' h2
     · simp only [hw, Bool.false_eq_true, if_false] at h ⊢
       exact wpT_line n (k + 1) _ _ h.2
theorem wp_regL {P : Program} {id : Nat} {l : List Oper} {Q : Exit -> Act -> World -> Prop} {a : Act} {w : World} (S : World -> Prop) (t : OT) (ht : lineT 0 l.length = t) (h : wpT P l Q (fun _ => false) S t a w) : (Code.region id l.toArray false).wp P Q a w := by
 subst ht
 refine wp_region_noPanic (wp_region ?_)
 rw [List.range_eq_range']
 exact wpT_line _ _ _ _ (by simpa using h)
theorem wp_regLK {P : Program} {id : Nat} {l : List Oper} {Q : Exit -> Act -> World -> Prop} {a : Act} {w : World} {M : List Nat} {w0 : World} {L : RowL} (_hk : Kn M w0 w L) (t : OT) (ht : lineT 0 l.length = t) (h : wpT P l Q (fun _ => false) (fun wx => Kn M w0 wx L) t a w) : (Code.region id l.toArray false).wp P Q a w := wp_regL _ t ht h
def ProgC (w : World) (pb : Nat) (vf : I5 -> Value) (l : List I5) : Prop := ∀ i, i < l.length -> w.cell? ⟨pb, i * 1, none⟩ = some (vf (insAt l i))
theorem ProgC.mod {w w' : World} {pb : Nat} {vf : I5 -> Value} {l : List I5} {M : List Nat} (h : ProgC w pb vf l) (hm : Mod M w w') (hp : pb ∉ M) : ProgC w' pb vf l := fun i hi => by
 rw [World.cell?_of_block (w := w) (a := ⟨pb, i * 1, none⟩) (hm.block pb (World.block_lt_of_cell? w _ (h i hi)) hp)]; exact h i hi
def markB (p : List I5) (n : Nat) : Bool := p.any fun i => decide (9 <= i.o) && decide (i.k = n)
def mkU (l : List I5) (i : Nat) : Nat -> Bool := fun m => markB (l.take i) m
theorem mkU_all (l : List I5) : mkU l l.length = markB l := by unfold mkU; rw [List.take_length]
theorem take_succ_at {l : List I5} {i : Nat} (h : i < l.length) : l.take (i + 1) = l.take i ++ [insAt l i] := by rw [insAt_get h, List.take_append_getElem h]
theorem mkU_no {l : List I5} {i : Nat} (h : i < l.length) (hj : jumpsB (insAt l i) = false) : mkU l (i + 1) = mkU l i := by
 funext m
 unfold mkU markB
 rw [take_succ_at h, List.any_append]
 unfold jumpsB at hj
 simp [hj]
theorem mkU_yes {l : List I5} {i k : Nat} (h : i < l.length) (hj : jumpsB (insAt l i) = true) (hk : targI (insAt l i) = k) : mkU l (i + 1) = updB (mkU l i) k true := by
 funext m
 unfold mkU markB updB
 rw [take_succ_at h, List.any_append]
 unfold jumpsB at hj
 unfold targI at hk
 simp only [decide_eq_true_eq] at hj
 rw [if_pos hj] at hk
 by_cases e : m = k
 · subst e; simp [hj, hk]
 · have : ¬ ((insAt l i).k = (m : Int)) := by rw [hk]; omega
   simp [this, e]
theorem AllFit.fit {l : List I5} (h : AllFit l) {i : Nat} (hi : i < l.length) : (insAt l i).fits l.length = true := by rw [insAt_get hi]; exact h.2.2 i hi
theorem AllFit.targ {l : List I5} (h : AllFit l) {i : Nat} (hi : i < l.length) (hj : jumpsB (insAt l i) = true) : ∃ k : Nat, targI (insAt l i) = k /\ k < l.length := by
 unfold jumpsB at hj
 simp only [decide_eq_true_eq] at hj
 have := h.k hi hj
 refine ⟨(insAt l i).k.toNat, ?_, this.2⟩
 unfold targI
 rw [if_pos hj]
 omega
theorem marksOf_any (l : List I5) (hl : AllFit l) (pb cap : Nat) (w : World) (hp : ProgC w pb iVal l) : Calls Tryz.prog 59 #[.slice (some ⟨pb, 0, none⟩) l.length cap] w fun e w' => ∃ mb, e = .returned (.slice (some ⟨mb, 0, none⟩) l.length l.length) /\ At w' mb (bosA l.length (markB l)) 4 /\ w.heap.size <= mb /\ Below w.heap.size w w' := by
 have hk := Kn.nil [] w
 have hn := hl.2.1
 go_enter Tryz.func59, Tryz.ntmps59
 go_wp2_with ((with_reducible apply gL); (first | refine wS hk ?_ | (refine wN hk ?_; clear hk; intro w1 hk)); simp only [pw])
 replace hk : Kn [] w w1 [(w.heap.size, bosA l.length (mkU l 0), 4)] := hk
 go_loopw [12] (fun j wr => ∃ i : Nat, i <= l.length /\ j = .int .i64 i /\ Kn [] w wr [(w.heap.size, bosA l.length (mkU l i), 4)]) (fun j _ => l.length - (intOf j).toNat)
 case atStart => exact ⟨0, by omega, rfl, hk⟩
 case round =>
  clear hk
  obtain ⟨i, hi, rfl, hk⟩ := hrel
  by_cases hlt : i < l.length
  · have hc := hp.mod hk.mod (List.not_mem_nil) i hlt
    cases hj : jumpsB (insAt l i) with
    | false =>
      have R := hide (mkU_no hlt hj)
      go_wp2_with (first | (go_at_call 82; refine (target_any (insAt l i) _ (hl.fit hlt) _ _ _ _ hlt _ hc).mono ?_; rintro e w1 ⟨rfl, hb⟩; replace hk := hk.call hb; clear hb; rw [hj]) | ((with_reducible apply gL); (first | refine wS hk ?_ | (refine wN hk ?_; clear hk; intro w1 hk)); simp only [pw]))
      go_roundw
      case rel => exact ⟨i + 1, by omega, by go_num, by rw [R.out]; exact hk⟩
      case measure => simp [intOf]; omega
    | true =>
      obtain ⟨k, hk1, hk2⟩ := hl.targ hlt hj
      have R := hide (mkU_yes hlt hj hk1)
      go_wp2_with (first | (go_at_call 82; refine (target_any (insAt l i) _ (hl.fit hlt) _ _ _ _ hlt _ hc).mono ?_; rintro e w1 ⟨rfl, hb⟩; replace hk := hk.call hb; clear hb; rw [hj, hk1]) | ((with_reducible apply gL); (first | refine wS hk ?_ | (refine wN hk ?_; clear hk; intro w1 hk)); simp only [pw]))
      go_roundw
      case rel => exact ⟨i + 1, by omega, by go_num, by rw [R.out]; exact hk⟩
      case measure => simp [intOf]; omega
  · have e : i = l.length := by omega
    subst e
    rw [mkU_all] at hk
    go_wp2_with ((with_reducible apply gL); (first | refine wS hk ?_ | (refine wN hk ?_; clear hk; intro w1 hk)); simp only [pw])
    go_ret
    exact ⟨_, rfl, hk.at mm, Nat.le_refl _, hk.mod.below⟩
structure C2 where
 pl : Int
 st : St
def clAt (cl : List C2) (i : Nat) : C2 := (cl[i]?).getD ⟨0, zeroS⟩
theorem clAt_get {cl : List C2} {i : Nat} (h : i < cl.length) : clAt cl i = cl[i] := by unfold clAt; rw [List.getElem?_eq_getElem h]; rfl
def SlcC (w : World) (v : Value) (cl : List C2) : Prop :=
 ((∃ a cap, v = .slice a 0 cap) /\ cl = []) \/ ∃ b off cap, v = .slice (some ⟨b, off, none⟩) cl.length cap /\ b < w.heap.size /\ ∀ i, i < cl.length -> w.rangeAt b (off + i * 17) (clC (clAt cl i).pl (clAt cl i).st).toList
theorem SlcC.below {w w' : World} {v : Value} {cl : List C2} {B : Nat} (h : SlcC w v cl) (hb : Below B w w') (hB : w.heap.size <= B) : SlcC w' v cl := by
 rcases h with h | ⟨b, off, cap, h1, h2, h3⟩
 · exact Or.inl h
 · refine Or.inr ⟨b, off, cap, h1, Nat.lt_of_lt_of_le h2 hb.size, fun i hi j u hu => ?_⟩
   rw [hb.cell (p := ⟨b, _, none⟩) (Nat.lt_of_lt_of_le h2 hB)]; exact h3 i hi j u hu
def badC (mk : Nat -> Bool) (n : Nat) (last : Int) (c : C2) : Bool := decide (c.pl <= last) || decide ((n : Int) <= c.pl) || !mk c.pl.toNat || !isStR c.st
def fwR (mk : Nat -> Bool) (n : Nat) : List C2 -> Int -> Nat -> Nat
 | [], _, i => i
 | c :: r, last, i => if badC mk n last c then i else fwR mk n r c.pl (i + 1)
theorem fwR_bad {mk : Nat -> Bool} {n : Nat} {cl : List C2} {i : Nat} {last : Int} (h : i < cl.length) (hb : badC mk n last (clAt cl i) = true) : fwR mk n (cl.drop i) last i = i := by
 rw [List.drop_eq_getElem_cons h, fwR, <- clAt_get h, if_pos hb]
theorem fwR_ok {mk : Nat -> Bool} {n : Nat} {cl : List C2} {i : Nat} {last : Int} (h : i < cl.length) (hb : badC mk n last (clAt cl i) = false) : fwR mk n (cl.drop i) last i = fwR mk n (cl.drop (i + 1)) (clAt cl i).pl (i + 1) := by
 rw [List.drop_eq_getElem_cons h, fwR, <- clAt_get h, if_neg (by simp [hb])]
theorem ret_nat {a b : Nat} (h : a = b) : Ending.returned (.int .i64 (a : Int)) = .returned (.int .i64 (b : Int)) := by rw [h]
theorem firstWrong_some (mk : Nat -> Bool) (n : Nat) (mb mc : Nat) (cl : List C2) (hcl : cl.length < 4000000000000) (b off cap : Nat) (w : World) (hm : At w mb (bosA n mk) 4) (hb : b < w.heap.size) (hc : ∀ i, i < cl.length -> w.rangeAt b (off + i * 17) (clC (clAt cl i).pl (clAt cl i).st).toList) :
 Calls Tryz.prog 60 #[.slice (some ⟨mb, 0, none⟩) n mc, .slice (some ⟨b, off, none⟩) cl.length cap] w fun e w' => e = .returned (.int .i64 (fwR mk n cl (-1) 0 : Nat)) /\ Below w.heap.size w w' := by
 have hk := Kn.nil [] w
 have HC := hide hc
 clear hc
 obtain ⟨FW, hFW⟩ : ∃ FW, FW = fwR mk n cl (-1) 0 := ⟨_, rfl⟩
 rw [<- hFW]
 have HF := hide hFW
 clear hFW
 go_enter Tryz.func60, Tryz.ntmps60
 go_wp2_with ((with_reducible apply gL); (first | refine wS hk ?_ | (refine wN hk ?_; clear hk; intro w1 hk)); simp only [pw])
 go_loopw [5, 10] (fun la j wr => ∃ (i : Nat) (last : Int), i <= cl.length /\ la = .int .i64 last /\ j = .int .i64 i /\ -1 <= last /\ fwR mk n (cl.drop i) last i = FW /\ Kn [] w wr []) (fun _ j _ => cl.length - (intOf j).toNat)
 case atStart => exact ⟨0, -1, by omega, rfl, rfl, by omega, HF.out.symm, hk⟩
 case round =>
  clear hk HF
  obtain ⟨i, last, hi, rfl, rfl, hla, hR, hk⟩ := hrel
  by_cases hlt : i < cl.length
  · have hci := HC.out i hlt
    have HR := hide hR
    clear hR
    obtain ⟨c, hcd⟩ : ∃ c, c = clAt cl i := ⟨_, rfl⟩
    rw [<- hcd] at hci
    have HCD := hide hcd
    clear hcd
    have hba : ∀ B, badC mk n last c = B -> badC mk n last (clAt cl i) = B := fun B h => by rw [<- HCD.out]; exact h
    by_cases h1 : c.pl <= last
    · have RB : Hid (i = FW) := hide (by rw [<- HR.out, fwR_bad hlt (hba true (by unfold badC; simp [h1]))])
      have h4 : True := trivial
      clear hba
      go_wp2_with ((with_reducible apply gL); (first | refine wS hk ?_ | (refine wN hk ?_; clear hk; intro w1 hk)); simp only [pw])
      go_ret
      exact ⟨ret_nat RB.out, hk.mod.below⟩
    · have d1 : decide (c.pl <= last) = false := by simpa using h1
      obtain ⟨k, hkk⟩ : ∃ k : Nat, c.pl = k := ⟨c.pl.toNat, by omega⟩
      by_cases h2 : (n : Int) <= c.pl
      · have RB : Hid (i = FW) := hide (by rw [<- HR.out, fwR_bad hlt (hba true (by unfold badC; simp [h2]))])
        clear hba hkk
        go_wp2_with ((with_reducible apply gL); (first | refine wS hk ?_ | (refine wN hk ?_; clear hk; intro w1 hk)); simp only [pw])
        go_ret
        exact ⟨ret_nat RB.out, hk.mod.below⟩
      · have d2 : decide ((n : Int) <= c.pl) = false := by simpa using h2
        have hkn : k < n := by omega
        obtain ⟨pl, st⟩ := c
        simp only at hkk h1 h2 d1 d2 hci
        subst hkk
        cases h3 : mk k with
        | false =>
          have RB : Hid (i = FW) := hide (by rw [<- HR.out, fwR_bad hlt (hba true (by unfold badC; simp [h3]))])
          clear hba
          go_wp2_with ((with_reducible apply gL); (first | refine wS hk ?_ | (refine wN hk ?_; clear hk; intro w1 hk)); simp only [pw])
          go_ret
          exact ⟨ret_nat RB.out, hk.mod.below⟩
        | true =>
          cases h4 : isStR st with
          | false =>
            have RB : Hid (i = FW) := hide (by rw [<- HR.out, fwR_bad hlt (hba true (by unfold badC; simp [h4]))])
            clear hba
            go_wp2_with (first | (go_at_call 58; refine (isState_any _ _).mono ?_; rintro e w1 ⟨rfl, hb⟩; replace hk := hk.call hb; clear hb; rw [h4]) | ((with_reducible apply gL); (first | refine wS hk ?_ | (refine wN hk ?_; clear hk; intro w1 hk)); simp only [pw]))
            go_ret
            exact ⟨ret_nat RB.out, hk.mod.below⟩
          | true =>
            have RB : Hid (fwR mk n (cl.drop (i + 1)) k (i + 1) = FW) := hide (by rw [<- HR.out, fwR_ok hlt (hba false (by unfold badC; simp only [d1, d2, Int.toNat_natCast, h3, h4]; rfl)), <- HCD.out])
            clear hba
            go_wp2_with (first | (go_at_call 58; refine (isState_any _ _).mono ?_; rintro e w1 ⟨rfl, hb⟩; replace hk := hk.call hb; clear hb; rw [h4]) | ((with_reducible apply gL); (first | refine wS hk ?_ | (refine wN hk ?_; clear hk; intro w1 hk)); simp only [pw]))
            go_roundw
            case rel => exact ⟨i + 1, k, by omega, rfl, by go_num, by omega, RB.out, hk.drop⟩
            case measure => simp [intOf]; omega
  · have e : i = cl.length := by omega
    subst e
    rw [List.drop_length, fwR] at hR
    have HR := hide hR
    clear hR
    go_wp2_with ((with_reducible apply gL); (first | refine wS hk ?_ | (refine wN hk ?_; clear hk; intro w1 hk)); simp only [pw])
    go_ret
    exact ⟨ret_nat HR.out, hk.mod.below⟩
def clsA (n : Nat) (f : Nat -> C2) : Array Value := rowsA n 17 fun i => clC (f i).pl (f i).st
theorem clsA_size (n : Nat) (f : Nat -> C2) : (clsA n f).size = n * 17 := rows_size _ _ _
theorem ex_cls (n : Nat) (f : Nat -> C2) (i : Nat) (h : i < n) : (clsA n f).extract (i * 17) (i * 17 + 17) = clC (f i).pl (f i).st := rows_ex (g := fun i => clC (f i).pl (f i).st) h rfl
def updC (f : Nat -> C2) (i : Nat) (x : C2) : Nat -> C2 := fun j => if j = i then x else f j
theorem put_cls (n : Nat) (f : Nat -> C2) (i : Nat) (p : Int) (s : St) : putA (clsA n f) (i * 17) (clC p s).toList = clsA n (updC f i ⟨p, s⟩) := by
 refine (rows_put (n := n) (k := 17) (g := fun i => clC (f i).pl (f i).st) (i := i) (c := clC p s) rfl).trans (rows_congr fun j _ => ?_)
 unfold updC
 split <;> rfl
theorem cls_congr {n : Nat} {f g : Nat -> C2} (h : ∀ i, i < n -> f i = g i) : clsA n f = clsA n g := rows_congr fun i hi => by rw [h i hi]
theorem cls_get {n : Nat} {f : Nat -> C2} {i q : Nat} (hi : i < n) (hq : q < 17) : (clsA n f)[i * 17 + q]? = (clC (f i).pl (f i).st)[q]? := rows_at (g := fun i => clC (f i).pl (f i).st) hi hq rfl
theorem clC_one (p : Int) (s : St) : (clC p s).toList.all (·.oneCell') = true := by kernel_rfl
def clCells (c : C2) : List Value := (clC c.pl c.st).toList
theorem clCells_len (c : C2) : (clCells c).length = 17 := rfl
theorem flatC_len (L : List C2) : (L.flatMap clCells).length = L.length * 17 := by
 induction L with
 | nil => rfl
 | cons x r ih => rw [List.flatMap_cons, List.length_append, ih, clCells_len]; simp; omega
theorem flatC_get : ∀ (L : List C2) (i q : Nat), i < L.length -> q < 17 -> (L.flatMap clCells)[i * 17 + q]? = (clC (clAt L i).pl (clAt L i).st)[q]?
 | [], _, _, hi, _ => by simp at hi
 | x :: r, 0, q, _, hq => by
   rw [List.flatMap_cons, List.getElem?_append_left (by rw [clCells_len]; omega), Nat.zero_mul, Nat.zero_add]
   unfold clCells
   rw [Array.getElem?_toList]
   rfl
 | x :: r, i + 1, q, hi, hq => by
   rw [List.flatMap_cons, List.getElem?_append_right (by rw [clCells_len]; omega), clCells_len, show (i + 1) * 17 + q - 17 = i * 17 + q by omega, flatC_get r i q (by simpa using hi) hq]
   rfl
def zeroC : C2 := ⟨0, zeroS⟩
def lentU (cl : List C2) (k : Nat) : Nat -> C2 := fun i => if i < cl.length then clAt cl i else if i < k then ⟨77 + i, zeroS⟩ else zeroC
theorem copy_cls (cl : List C2) (N : Nat) (h : cl.length <= N) : (cl.flatMap clCells ++ (clsA N (fun _ => zeroC)).toList.drop (cl.flatMap clCells).length).toArray = clsA N (lentU cl cl.length) := by
 have hl := flatC_len cl
 apply Array.ext_getElem?
 intro j
 simp only [List.getElem?_toArray]
 by_cases hj : j < N * 17
 · obtain ⟨i, q, hq, rfl⟩ : ∃ i q, q < 17 /\ j = i * 17 + q := ⟨j / 17, j % 17, Nat.mod_lt _ (by omega), by omega⟩
   rw [cls_get (by omega) hq]
   by_cases hc : i < cl.length
   · rw [List.getElem?_append_left (by omega), flatC_get cl i q hc hq]
     unfold lentU; rw [if_pos hc]
   · rw [List.getElem?_append_right (by omega), List.getElem?_drop, show (cl.flatMap clCells).length + (i * 17 + q - (cl.flatMap clCells).length) = i * 17 + q by omega, Array.getElem?_toList, cls_get (by omega) hq]
     unfold lentU; rw [if_neg hc, if_neg hc]
 · rw [Array.getElem?_eq_none (by rw [clsA_size]; omega)]
   rw [List.getElem?_append_right (by omega), List.getElem?_drop, Array.getElem?_toList, Array.getElem?_eq_none (by rw [clsA_size]; omega)]
theorem lentU_step (cl : List C2) (N k : Nat) (h : cl.length <= k) : clsA N (updC (lentU cl k) k ⟨77 + (k : Int), zeroS⟩) = clsA N (lentU cl (k + 1)) := cls_congr fun i _ => by
 unfold updC lentU
 by_cases h1 : i = k
 · subst h1; rw [if_pos rfl, if_neg (by omega), if_pos (by omega)]
 · rw [if_neg h1]
   by_cases h2 : i < cl.length
   · rw [if_pos h2, if_pos h2]
   · rw [if_neg h2, if_neg h2]
     by_cases h3 : i < k
     · rw [if_pos h3, if_pos (by omega)]
     · rw [if_neg h3, if_neg (by omega)]
theorem Kn.row {M : List Nat} {w0 w : World} {L L' : RowL} {b : Nat} {A A' : Array Value} {t : TypeId} (h : Kn M w0 w L) (hm : (b, A, t) ∈ L) (hs : setB b A' L L') : Kn M w0 (w.setRow b A') L' := by
 have hat := (h.has _ hm).1
 have hor := (h.has _ hm).2
 simp only at hat hor
 refine ⟨h.mod.step (N := [b]) ⟨rfl, rfl, rfl, by simp [World.setRow], fun k _ hk => setRow_other w b k _ (fun e => hk (by simp [e]))⟩ (fun c hc => by simp at hc; subst hc; exact hor), fun y hy => ?_, pw_keys (setB_keys hs) h.dis⟩
 rcases setB_mem hs h.dis y hy with ⟨q, h3, h4, h5⟩ | ⟨h1, h2⟩
 · have hq := (h.has q h3).1
   unfold At at hq hat
   rw [h4, hat] at hq
   simp only [Option.some.injEq, Obj.cells.injEq] at hq
   rw [h5, <- hq.2.1]
   exact ⟨setRow_heap w b A _ t _ hat, hor⟩
 · refine ⟨?_, (h.has y h2).2⟩
   have := (h.has y h2).1
   unfold At at this ⊢
   rw [setRow_other w b y.1 _ (fun e => h1 e), this]
theorem wCopyC {ops : Array Oper} {rest : List Oper} {a : Act} {Q : Exit -> Act -> World -> Prop} {w w0 : World} {M : List Nat} {L L' : RowL} {dst : Option Tmp} {tt : TypeId} {pos : String} {aft : Array Edge} {d s : Operand} {g N dCap : Nat} {ad : Addr} {sCap : Nat} {cl : List C2} (hk : Kn M w0 w L) (hm : (g, clsA N (fun _ => zeroC), 71) ∈ L) (hs : setB g (clsA N (lentU cl cl.length)) L L')
 (hd : a.eval d = .slice (some ⟨g, 0, none⟩) N dCap) (hsr : a.eval s = .slice (some ad) cl.length sCap) (hle : cl.length <= N) (hsrc : ∀ j v, (cl.flatMap clCells)[j]? = some v -> w.cell? (ad.add j) = some v)
 (h : ∀ w1, Kn M w0 w1 L' -> wpList Tryz.prog ops Q rest (a.put dst (goInt cl.length)) w1) : wpList Tryz.prog ops Q (⟨dst, .call { callee := .builtin .copy, args := #[d, s], argTypes := #[51, 51] }, tt, pos, aft, none⟩ :: rest) a w := by
 obtain ⟨i, hi, hz⟩ : ∃ i, Tryz.prog.info? 71 = some i /\ i.size = 17 := by
  obtain ⟨i, hi, h2⟩ := Option.map_eq_some_iff.1 (show (Tryz.prog.info? 71).map (·.size) = some 17 by kernel_rfl)
  exact ⟨i, hi, h2⟩
 refine wpList_plain rfl fun K hK => ?_
 have hrun := run_copy_wide (P := Tryz.prog) w 51 51 tt 71 i g N dCap ad cl.length sCap (clsA N (fun _ => zeroC)) 71 (cl.flatMap clCells) Tryz.underlying51 hi (hk.at hm) (by rw [flatC_len, hz]) hle hsrc (by rw [flatC_len, clsA_size]; omega) (fun v hv => by obtain ⟨c, _, hc⟩ := List.mem_flatMap.1 hv; exact List.all_eq_true.1 (clC_one c.pl c.st) v hc)
 rw [copy_cls cl N hle] at hrun
 unfold Oper.wp
 simp [execOp, resolve, invoke, builtin, hd, hsr, hrun, Result.andThen]
 exact hK _ _ (h _ (hk.row hm hs))
def LentC (w : World) (base : Nat) (v hv : Value) (cl : List C2) : Prop :=
 (v = .slice none 0 0 /\ hv = .slice none 0 0 /\ cl = []) \/
 ∃ a c g, v = .slice (some a) cl.length c /\ hv = .slice (some ⟨g, 0, none⟩) cl.length (cl.length + 3) /\ base <= g /\ At w g (clsA (cl.length + 3) (lentU cl (cl.length + 3))) 71
theorem LentC.below {w w' : World} {base : Nat} {v hv : Value} {cl : List C2} (h : LentC w base v hv cl) (hb : Below w.heap.size w w') : LentC w' base v hv cl := by
 rcases h with h | ⟨a, c, g, h1, h2, h3, h4⟩
 · exact Or.inl h
 · refine Or.inr ⟨a, c, g, h1, h2, h3, ?_⟩
   unfold At at h4 ⊢
   rw [hb.block g (lt_of_block h4), h4]
theorem LentC.slc {w : World} {base : Nat} {v hv : Value} {cl : List C2} (h : LentC w base v hv cl) : SlcC w hv cl := by
 rcases h with ⟨_, rfl, rfl⟩ | ⟨a, c, g, _, rfl, _, h4⟩
 · exact Or.inl ⟨⟨_, _, rfl⟩, rfl⟩
 · refine Or.inr ⟨g, 0, _, rfl, lt_of_block h4, fun i hi j v hj => ?_⟩
   have hj17 : j < 17 := (List.getElem?_eq_some_iff.1 hj).1
   have e := cls_get (n := cl.length + 3) (f := lentU cl (cl.length + 3)) (i := i) (q := j) (by omega) hj17
   have e2 : lentU cl (cl.length + 3) i = clAt cl i := by unfold lentU; rw [if_pos hi]
   rw [e2] at e
   rw [cell_of_row _ _ _ _ _ _ h4, show 0 + i * 17 + j = i * 17 + j by omega, e, <- Array.getElem?_toList]
   exact hj
def ArgC (w : World) (v : Value) (cl : List C2) : Prop := SlcC w v cl /\ ∀ n c, v = .slice none n c -> n = 0 /\ c = 0
theorem ArgC.below {w w' : World} {v : Value} {cl : List C2} {B : Nat} (h : ArgC w v cl) (hb : Below B w w') (hB : w.heap.size <= B) : ArgC w' v cl := ⟨h.1.below hb hB, h.2⟩
theorem ArgC.cells {w : World} {v : Value} {cl : List C2} (h : ArgC w v cl) : (v = .slice none 0 0 /\ cl = []) \/ ∃ a c, v = .slice (some a) cl.length c /\ (∀ j u, (cl.flatMap clCells)[j]? = some u -> w.cell? (a.add j) = some u) := by
 obtain ⟨hs, hn⟩ := h
 rcases hs with ⟨⟨a, c, rfl⟩, rfl⟩ | ⟨b, off, cap, rfl, hb, hi⟩
 · cases a with
   | none => obtain ⟨_, rfl⟩ := hn 0 c rfl; exact Or.inl ⟨rfl, rfl⟩
   | some a => exact Or.inr ⟨a, c, rfl, fun j u hj => by simp at hj⟩
 · refine Or.inr ⟨⟨b, off, none⟩, cap, rfl, fun j u hj => ?_⟩
   have hlt := (List.getElem?_eq_some_iff.1 hj).1
   rw [flatC_len] at hlt
   obtain ⟨i, q, hq, rfl⟩ : ∃ i q, q < 17 /\ j = i * 17 + q := ⟨j / 17, j % 17, Nat.mod_lt _ (by omega), by omega⟩
   rw [flatC_get cl i q (by omega) hq] at hj
   rw [addr_add, <- Nat.add_assoc]
   exact hi i (by omega) q u (by rw [Array.getElem?_toList]; exact hj)
theorem lentC_some (cl : List C2) (a : Addr) (c : Nat) (w : World) (hcs : ∀ j u, (cl.flatMap clCells)[j]? = some u -> w.cell? (a.add j) = some u) (hlen : cl.length * 136 <= 140737488351232) :
 Calls Tryz.prog 48 #[.slice (some a) cl.length c] w fun e w' => ∃ hv, e = .returned hv /\ LentC w' w.heap.size (.slice (some a) cl.length c) hv cl /\ Below w.heap.size w w' := by
 have hk := Kn.nil [] w
 have hq := fun wx => Lib.run_eql_slice_nil (P := Tryz.prog) wx 51 71 (some a) cl.length c 0 0 Tryz.underlying51
 simp only [Option.isNone_some] at hq
 have HC := hide hcs
 clear hcs
 go_enter Tryz.func48, Tryz.ntmps48
 go_wp2_with (first | (refine wMake (n := cl.length + 3) hk ?_; clear hk; intro w1 hk; simp only [pw]; replace hk : Kn [] w w1 [(w.heap.size, clsA (cl.length + 3) (fun _ => zeroC), 71)] := hk) | (refine wCopyC (cl := cl) hk List.mem_cons_self (setB_here _ _ _ _ _) rfl rfl (by omega) (fun j v hj => ?cc) ?_; rotate_left; clear hk; intro w1 hk; simp only [pw]) | ((with_reducible apply gL); (first | refine wS hk ?_ | (refine wN hk ?_; clear hk; intro w1 hk)); simp only [pw]))
 case cc => rw [hk.mod.below.cell (p := a.add j) (World.block_lt_of_cell? w _ (HC.out j v hj))]; exact HC.out j v hj
 go_loopw [4] (fun j wr => ∃ n : Nat, cl.length <= n /\ n <= cl.length + 3 /\ j = .int .i64 n /\ Kn [] w wr [(w.heap.size, clsA (cl.length + 3) (lentU cl n), 71)]) (fun j _ => cl.length + 3 - (intOf j).toNat)
 case atStart => exact ⟨cl.length, by omega, by omega, rfl, hk⟩
 case round =>
  clear hk
  obtain ⟨n, hn1, hn2, rfl, hk⟩ := hrel
  by_cases hlt : n < cl.length + 3
  · have R := hide (lentU_step cl (cl.length + 3) n hn1)
    go_wp2_with (first | (refine wBuild hk ?_ (hb := build_cla _ _); simp only [pw]) | (refine wStoreR hk ?_ (hj := by simp only [clsA_size]; omega) (hA := put_cls _ _ _ _ _); clear hk; intro w1 hk; simp only [pw]) | ((with_reducible apply gL); (first | refine wS hk ?_ | (refine wN hk ?_; clear hk; intro w1 hk)); simp only [pw]))
    go_roundw
    case rel => exact ⟨n + 1, by omega, by omega, by go_num, by rw [<- R.out]; exact hk⟩
    case measure => simp [intOf]; omega
  · have en : n = cl.length + 3 := by omega
    subst en
    go_wp2_with ((with_reducible apply gL); (first | refine wS hk ?_ | (refine wN hk ?_; clear hk; intro w1 hk)); simp only [pw])
    go_ret
    exact ⟨_, rfl, Or.inr ⟨a, c, _, rfl, rfl, Nat.le_refl _, hk.at List.mem_cons_self⟩, hk.mod.below⟩
def layU (cl : List C2) : Nat -> Nat -> Option St
 | 0 => fun _ => none
 | i + 1 => updW (layU cl i) (clAt cl i).pl.toNat (some (clAt cl i).st)
def layR (cl : List C2) : Nat -> Option St := layU cl cl.length
theorem firstWrong_nil (n mb mc : Nat) (a : Option Addr) (cap : Nat) (w : World) : Calls Tryz.prog 60 #[.slice (some ⟨mb, 0, none⟩) n mc, .slice a 0 cap] w fun e w' => e = .returned (.int .i64 (0 : Nat)) /\ Below w.heap.size w w' := by
 have hk := Kn.nil [] w
 go_enter Tryz.func60, Tryz.ntmps60
 go_wp2_with ((with_reducible apply gL); (first | refine wS hk ?_ | (refine wN hk ?_; clear hk; intro w1 hk)); simp only [pw])
 go_loopw [5, 10] (fun _ j wr => j = .int .i64 0 /\ Kn [] w wr []) (fun _ _ _ => 0)
 case atStart => exact ⟨rfl, hk⟩
 case round =>
  clear hk
  obtain ⟨rfl, hk⟩ := hrel
  go_wp2_with ((with_reducible apply gL); (first | refine wS hk ?_ | (refine wN hk ?_; clear hk; intro w1 hk)); simp only [pw])
  go_ret
  exact ⟨rfl, hk.mod.below⟩
theorem firstWrong_any (mk : Nat -> Bool) (n : Nat) (mb mc : Nat) (cl : List C2) (hcl : cl.length < 4000000000000) (v : Value) (w : World) (hm : At w mb (bosA n mk) 4) (hs : SlcC w v cl) :
 Calls Tryz.prog 60 #[.slice (some ⟨mb, 0, none⟩) n mc, v] w fun e w' => e = .returned (.int .i64 (fwR mk n cl (-1) 0 : Nat)) /\ Below w.heap.size w w' := by
 rcases hs with ⟨⟨a, cap, rfl⟩, rfl⟩ | ⟨b, off, cap, rfl, hb, hc⟩
 · exact firstWrong_nil n mb mc a cap w
 · exact firstWrong_some mk n mb mc cl hcl b off cap w hm hb hc
theorem layOut_some (n : Nat) (hn : n <= 64) (cl : List C2) (hcl : cl.length < 4000000000000) (hg : ∀ i, i < cl.length -> ∃ k : Nat, (clAt cl i).pl = k /\ k < n) (b off cap : Nat) (w : World) (hb : b < w.heap.size) (hc : ∀ i, i < cl.length -> w.rangeAt b (off + i * 17) (clC (clAt cl i).pl (clAt cl i).st).toList) :
 Calls Tryz.prog 61 #[.int .i64 n, .slice (some ⟨b, off, none⟩) cl.length cap] w fun e w' => ∃ sb, e = .returned (.slice (some ⟨sb, 0, none⟩) n n) /\ At w' sb (plsA n (layR cl)) 190 /\ w.heap.size <= sb /\ Below w.heap.size w w' := by
 have hk := Kn.nil [] w
 have HC := hide hc
 have HG := hide hg
 clear hc hg
 go_enter Tryz.func61, Tryz.ntmps61
 go_wp2_with ((with_reducible apply gL); (first | refine wS hk ?_ | (refine wN hk ?_; clear hk; intro w1 hk)); simp only [pw])
 replace hk : Kn [] w w1 [(w.heap.size, plsA n (layU cl 0), 190)] := hk
 go_loopw [12] (fun j wr => ∃ i : Nat, i <= cl.length /\ j = .int .i64 i /\ Kn [] w wr [(w.heap.size, plsA n (layU cl i), 190)]) (fun j _ => cl.length - (intOf j).toNat)
 case atStart => exact ⟨0, by omega, rfl, hk⟩
 case round =>
  clear hk
  obtain ⟨i, hi, rfl, hk⟩ := hrel
  by_cases hlt : i < cl.length
  · have hci := HC.out i hlt
    obtain ⟨k, hk1, hk2⟩ := HG.out i hlt
    have R : Hid (layU cl (i + 1) = updW (layU cl i) k (some (clAt cl i).st)) := hide (by rw [layU, hk1, Int.toNat_natCast])
    obtain ⟨st, hst⟩ : ∃ st, st = (clAt cl i).st := ⟨_, rfl⟩
    rw [hk1, <- hst] at hci
    rw [<- hst] at R
    clear hst hk1
    go_wp2_with ((with_reducible apply gL); (first | refine wS hk ?_ | (refine wN hk ?_; clear hk; intro w1 hk)); simp only [pw])
    (refine wp_regK hk (.op 0 (.op 1 (.op 2 (.op 3 (.op 4 (.op 5 (.op 6 (.op 7 .nil)))))))) (fun i => decide (i < 6)) mixT (by decide) (by kernel_rfl) (by kernel_rfl) ?_; clear hk; intro w1 hk)
    (repeat (refine sS hk ?_; simp only [pw]))
    (refine sCall ?_; intro K hK; go_step; go_at_call 83; refine (with_any _ _).mono ?_; rintro e w1 ⟨rfl, hb⟩; replace hk := hk.call hb; clear hb; refine hK _ _ (fun _ => kH hk) ?_; clear hK K)
    (repeat (refine sS hk ?_; simp only [pw]))
    (refine sStore hk ?_; clear hk; intro w1 hk; refine ⟨fun h => absurd h (by decide), ?_⟩; simp only [pw])
    refine tNil ?_
    go_wp2_with ((with_reducible apply gL); (first | refine wS hk ?_ | (refine wN hk ?_; clear hk; intro w1 hk)); simp only [pw])
    go_roundw
    case rel => exact ⟨i + 1, by omega, by go_num, by rw [R.out]; exact hk.drop⟩
    case measure => simp [intOf]; omega
  · have e : i = cl.length := by omega
    subst e
    go_wp2_with ((with_reducible apply gL); (first | refine wS hk ?_ | (refine wN hk ?_; clear hk; intro w1 hk)); simp only [pw])
    go_ret
    have hat := hk.at (A := plsA n (layU cl cl.length)) mm
    exact ⟨_, rfl, hat, Nat.le_refl _, hk.mod.below⟩
theorem layOut_nil (n : Nat) (hn : n <= 64) (a : Option Addr) (cap : Nat) (w : World) :
 Calls Tryz.prog 61 #[.int .i64 n, .slice a 0 cap] w fun e w' => ∃ sb, e = .returned (.slice (some ⟨sb, 0, none⟩) n n) /\ At w' sb (plsA n (layR [])) 190 /\ w.heap.size <= sb /\ Below w.heap.size w w' := by
 have hk := Kn.nil [] w
 go_enter Tryz.func61, Tryz.ntmps61
 go_wp2_with ((with_reducible apply gL); (first | refine wS hk ?_ | (refine wN hk ?_; clear hk; intro w1 hk)); simp only [pw])
 replace hk : Kn [] w w1 [(w.heap.size, plsA n (layR []), 190)] := hk
 go_loopw [12] (fun j wr => j = .int .i64 0 /\ Kn [] w wr [(w.heap.size, plsA n (layR []), 190)]) (fun _ _ => 0)
 case atStart => exact ⟨rfl, hk⟩
 case round =>
  clear hk
  obtain ⟨rfl, hk⟩ := hrel
  go_wp2_with ((with_reducible apply gL); (first | refine wS hk ?_ | (refine wN hk ?_; clear hk; intro w1 hk)); simp only [pw])
  go_ret
  exact ⟨_, rfl, hk.at mm, Nat.le_refl _, hk.mod.below⟩
theorem layOut_any (n : Nat) (hn : n <= 64) (cl : List C2) (hcl : cl.length < 4000000000000) (hg : ∀ i, i < cl.length -> ∃ k : Nat, (clAt cl i).pl = k /\ k < n) (v : Value) (w : World) (hs : SlcC w v cl) :
 Calls Tryz.prog 61 #[.int .i64 n, v] w fun e w' => ∃ sb, e = .returned (.slice (some ⟨sb, 0, none⟩) n n) /\ At w' sb (plsA n (layR cl)) 190 /\ w.heap.size <= sb /\ Below w.heap.size w w' := by
 rcases hs with ⟨⟨a, cap, rfl⟩, rfl⟩ | ⟨b, off, cap, rfl, hb, hc⟩
 · exact layOut_nil n hn a cap w
 · exact layOut_some n hn cl hcl hg b off cap w hb hc
def liesP (b : Bool) (s : St) (y : Option St) : Bool := if b then liesO (some s) y else true
theorem liesP_eq (x y : Option St) : liesP x.isSome (stO x) y = liesO x y := by cases x <;> rfl
theorem liesPl_any (b : Bool) (s : St) (y : Option St) (w : World) : Calls Tryz.prog 128 #[.agg (plC b s), .agg (plC y.isSome (stO y))] w fun e w' => e = .returned (.bool (liesP b s y)) /\ Below w.heap.size w w' := by
 cases b with
 | false => exact lies_un _ _ _ w
 | true => exact lies_any (some s) y w
theorem flow_c (i : I5) (N : Nat) (hfit : i.fits N = true) (pb cap n at_ : Nat) (hat : at_ < n) (s : St) (hok : s.ok) (h64 : s.in64) (w : World) (hi : w.cell? ⟨pb, at_ * 1, none⟩ = some (iVal i)) : Calls Tryz.prog 97 #[.slice (some ⟨pb, 0, none⟩) n cap, .int .i64 at_, .agg (stC s)] w fun e w' => e = .returned (.tuple #[.agg (plC (flowOn i s).isSome (stO (flowOn i s))), .agg (plC (flowFar i s).isSome (stO (flowFar i s)))]) /\ Below w.heap.size w w' := flow_any i N hfit pb cap n at_ hat s hok h64 w hi
abbrev rtC (pb pc mb sb n : Nat) : Array Value := #[.slice (some ⟨pb, 0, none⟩) n pc, .slice (some ⟨mb, 0, none⟩) n n, .slice (some ⟨sb, 0, none⟩) n n]
theorem takes_ck (n pb pc mb sb : Nat) (cl : Nat -> Option St) (m : Nat) (hm : m < n) (b : Bool) (s : St) (w : World) (hS : At w sb (plsA n cl) 190) : Calls Tryz.prog 126 #[.agg #[.slice (some ⟨pb, 0, none⟩) n pc, .slice (some ⟨mb, 0, none⟩) n n, .slice (some ⟨sb, 0, none⟩) n n], .int .i64 m, .agg (plC b s)] w fun e w' => e = .returned (.bool (liesP b s (cl m))) /\ Below w.heap.size w w' := by
 have hk := Kn.nil [] w
 go_enter Tryz.func126, Tryz.ntmps126
 go_wp2_with ((with_reducible apply gL); (first | refine wS hk ?_ | (refine wN hk ?_; clear hk; intro w1 hk)); simp only [pw])
 (refine wp_regK hk (.op 0 (.op 1 (.op 2 (.op 3 (.op 4 (.op 5 (.op 6 (.op 7 (.op 8 .nil))))))))) (fun i => decide (i < 9)) mixT (by decide) (by kernel_rfl) (by kernel_rfl) ?_; clear hk; intro w1 hk)
 (repeat (refine sS hk ?_; simp only [pw]))
 (refine sCall ?_; intro K hK; go_step; go_at_call 128; refine (liesPl_any _ _ _ _).mono ?_; rintro e w1 ⟨rfl, hb⟩; replace hk := hk.call hb; clear hb; refine hK _ _ (fun _ => kH hk) ?_; clear hK K)
 (repeat (refine sS hk ?_; simp only [pw]))
 refine tNil ?_
 go_wp2_with ((with_reducible apply gL); (first | refine wS hk ?_ | (refine wN hk ?_; clear hk; intro w1 hk)); simp only [pw])
 go_ret
 exact ⟨rfl, hk.mod.below⟩
theorem danger_ck (l : List I5) (hl : AllFit l) (pb pc mb sb : Nat) (m : Nat) (hm : m < l.length) (s : St) (w : World) (hi : w.cell? ⟨pb, m * 1, none⟩ = some (iVal (insAt l m))) : Calls Tryz.prog 125 #[.agg #[.slice (some ⟨pb, 0, none⟩) l.length pc, .slice (some ⟨mb, 0, none⟩) l.length l.length, .slice (some ⟨sb, 0, none⟩) l.length l.length], .int .i64 m, .agg (stC s)] w fun e w' => e = .returned (.int .i64 (dangR (insAt l m) s)) /\ Below w.heap.size w w' := by
 have hk := Kn.nil [] w
 have HI : Hid (∀ wx, Below w.heap.size w wx -> wx.cell? ⟨pb, m * 1, none⟩ = some (iVal (insAt l m))) := hide (fun wx hb => by rw [hb.cell (p := ⟨pb, m * 1, none⟩) (World.block_lt_of_cell? w _ hi)]; exact hi)
 go_enter Tryz.func125, Tryz.ntmps125
 go_wp2_with (first | (go_at_call 127; refine (danger_any _ _ (hl.fit hm) _ _ _ _ hm _ _ (HI.out _ hk.mod.below)).mono ?_; rintro e w1 ⟨rfl, hb⟩; replace hk := hk.call hb; clear hb) | ((with_reducible apply gL); (first | refine wS hk ?_ | (refine wN hk ?_; clear hk; intro w1 hk)); simp only [pw]))
 go_ret
 exact ⟨rfl, hk.mod.below⟩
theorem mTakes (x y z : Value) (w : World) : (method 355 125 (.agg #[x, y, z]) "surety/proof.takes").run Tryz.prog w = .ok (126, .agg #[x, y, z]) w := by kernel_rfl
theorem mDanger (x y z : Value) (w : World) : (method 355 125 (.agg #[x, y, z]) "surety/proof.danger").run Tryz.prog w = .ok (125, .agg #[x, y, z]) w := by kernel_rfl
theorem cTakes (args : Array Value) (w : World) : (callFunc 126 args).run Tryz.prog w = .ok (.enter 126 args) w := by kernel_rfl
theorem cDanger (args : Array Value) (w : World) : (callFunc 125 args).run Tryz.prog w = .ok (.enter 125 args) w := by kernel_rfl
end Go.Proofs.YtamiichlbmllcabGreatDoor
