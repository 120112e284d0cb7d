import Derived.Test.YtamiichlbmllcaaGreatDoorTLawB
import Derived.Test.YtamiichlbmllcaaGreatDoorTArm
/-
  The contracts of suretylaw.lent and suretylaw.back: a program is lent in a list of the caller's own, and looked at and written over behind the call.
-/
namespace Go.Proofs.YtamiichlbmllcaaGreatDoor
open Go.RowKit
theorem addr_add (b off j : Nat) : (⟨b, off, none⟩ : Addr).add j = ⟨b, off + j, none⟩ := by unfold Addr.add; split <;> simp_all
def marks (n : Nat) : List I5 := [⟨77, 0, 0, 0, n⟩, ⟨77, 0, 0, 0, n + 1⟩, ⟨77, 0, 0, 0, n + 2⟩]
def lentL (l : List I5) : List I5 := l ++ marks l.length
/-- what each cell of a list of instructions holds -/
def cellF (L : List I5) (j : Nat) : Value := (L.flatMap I5.cells).getD j (.int .i64 0)
theorem flat_len5 (L : List I5) : (L.flatMap I5.cells).length = L.length * 5 := by
  induction L with
  | nil => rfl
  | cons x r ih => rw [List.flatMap_cons, List.length_append, ih]; simp [I5.cells]; omega
theorem cellF_at (L : List I5) (i f : Nat) (hi : i < L.length) (hf : f < 5) : cellF L (i * 5 + f) = L[i].cells.getD f (.int .i64 0) := by
  unfold cellF; rw [List.getD_eq_getElem?_getD, List.getD_eq_getElem?_getD, flat_cells L i f hi hf]
theorem RowF.ins {w : World} {g : Nat} {t : TypeId} {n : Nat} {L : List I5} {f : Nat → Value} (h : RowF w g t n f) (i : Nat) (hi : i < L.length) (hn : L.length * 5 ≤ n) (hf : ∀ k, k < 5 → f (i * 5 + k) = cellF L (i * 5 + k)) : InsAt w g (0 + i * 5) L[i] := by
  have hc : ∀ k, k < 5 → w.cell? ⟨g, 0 + i * 5 + k, none⟩ = some (L[i].cells.getD k (.int .i64 0)) := by
    intro k hk
    rw [show 0 + i * 5 + k = i * 5 + k by omega, (h.cell (i * 5 + k) (by omega)).1, hf k hk, cellF_at L i k hi hk]
  exact ⟨hc 0 (by omega), hc 1 (by omega), hc 2 (by omega), hc 3 (by omega), hc 4 (by omega)⟩
/-- a list as it was lent -/
def LentAt (w : World) (base : Nat) (v hv : Value) (l : List I5) : Prop :=
  (v = .slice none 0 0 ∧ hv = .slice none 0 0 ∧ l = []) ∨
  ∃ a c g, v = .slice (some a) l.length c ∧ hv = .slice (some ⟨g, 0, none⟩) l.length (l.length + 3) ∧ base ≤ g ∧ RowF w g 62 ((l.length + 3) * 5) (cellF (lentL l))
theorem LentAt.below {w w' : World} {base : Nat} {v hv : Value} {l : List I5} (h : LentAt w base v hv l) (hb : Below w.heap.size w w') : LentAt w' base v hv l := by
  rcases h with h | ⟨a, c, g, h1, h2, h3, h4⟩
  · exact Or.inl h
  · exact Or.inr ⟨a, c, g, h1, h2, h3, h4.block (hb.block g h4.lt)⟩
theorem LentAt.slc {w : World} {base : Nat} {v hv : Value} {l : List I5} (h : LentAt w base v hv l) : Slc w hv l := by
  rcases h with ⟨_, rfl, rfl⟩ | ⟨a, c, g, _, rfl, _, h4⟩
  · exact Or.inl ⟨⟨_, _, rfl⟩, rfl⟩
  · refine Or.inr ⟨g, 0, _, rfl, h4.lt, fun i hi => ?_⟩
    have := h4.ins (L := lentL l) i (by simp [lentL]; omega) (by simp [lentL, marks]) (fun k hk => rfl)
    have e : (lentL l)[i]'(by simp [lentL]; omega) = l[i] := by simp only [lentL]; rw [List.getElem_append_left]
    rw [e] at this
    exact this
theorem made_zero (n j : Nat) (h : j < n) : (madeCells #[Value.int .i64 0, .int .i64 0, .int .i64 0, .int .i64 0, .int .i64 0] n)[j]? = some (.int .i64 0) := by
  simp [madeCells, h]
  have : j % 5 = 0 ∨ j % 5 = 1 ∨ j % 5 = 2 ∨ j % 5 = 3 ∨ j % 5 = 4 := by omega
  rcases this with e | e | e | e | e <;> rw [e] <;> rfl
/-- an instruction stored into a row -/
theorem RowF.set5 {w : World} {g N : Nat} {t : TypeId} {f : Nat → Value} (h : RowF w g t N f) (n : Nat) (x : I5) :
    RowF (((((w.setCell ⟨g, n * 5, none⟩ (.int .i64 x.o)).setCell ⟨g, n * 5 + 1, none⟩ (.int .i64 x.a)).setCell ⟨g, n * 5 + 2, none⟩ (.int .i64 x.b)).setCell ⟨g, n * 5 + 3, none⟩ (.int .i64 x.c)).setCell ⟨g, n * 5 + 4, none⟩ (.int .i64 x.k)) g t N (fun j => if n * 5 ≤ j ∧ j < n * 5 + 5 then x.cells.getD (j - n * 5) (.int .i64 0) else f j) := by
  refine (((((h.set _ _).set _ _).set _ _).set _ _).set _ _).congr fun j _ => ?_
  by_cases hj : n * 5 ≤ j ∧ j < n * 5 + 5
  · rw [if_pos hj]
    have : j = n * 5 ∨ j = n * 5 + 1 ∨ j = n * 5 + 2 ∨ j = n * 5 + 3 ∨ j = n * 5 + 4 := by omega
    rcases this with rfl | rfl | rfl | rfl | rfl <;> simp [I5.cells]
  · rw [if_neg hj, if_neg (by omega), if_neg (by omega), if_neg (by omega), if_neg (by omega), if_neg (by omega)]
theorem below_set5 {B : Nat} {w0 w : World} {g : Nat} (h : Below B w0 w) (hB : B ≤ g) (o0 o1 o2 o3 o4 : Nat) (u0 u1 u2 u3 u4 : Value) :
    Below B w0 (((((w.setCell ⟨g, o0, none⟩ u0).setCell ⟨g, o1, none⟩ u1).setCell ⟨g, o2, none⟩ u2).setCell ⟨g, o3, none⟩ u3).setCell ⟨g, o4, none⟩ u4) :=
  ((((h.setCell (by exact hB) _).setCell (by exact hB) _).setCell (by exact hB) _).setCell (by exact hB) _).setCell (by exact hB) _
theorem lentL_mark (l : List I5) (n : Nat) (h1 : l.length ≤ n) (h2 : n < l.length + 3) : ∃ h : n < (lentL l).length, (lentL l)[n] = ⟨77, 0, 0, 0, n⟩ := by
  refine ⟨by simp [lentL, marks]; omega, ?_⟩
  simp only [lentL]
  rw [List.getElem_append_right h1]
  have : n = l.length ∨ n = l.length + 1 ∨ n = l.length + 2 := by omega
  rcases this with rfl | rfl | rfl <;> simp [marks]
/-- while the marks are laid -/
def lentF (l : List I5) (k j : Nat) : Value := if j < k * 5 then cellF (lentL l) j else .int .i64 0
set_option maxHeartbeats 4000000 in
set_option maxRecDepth 100000 in
theorem lent_some (l : List I5) (a : Addr) (c : Nat) (w : World) (hcs : ∀ j u, (l.flatMap I5.cells)[j]? = some u → w.cell? (a.add j) = some u) (hlen : l.length * 40 ≤ 140737488351232) :
    Calls Tryz.prog 34 #[.slice (some a) l.length c] w fun e w' => ∃ hv, e = .returned hv ∧ LentAt w' w.heap.size (.slice (some a) l.length c) hv l ∧ Below w.heap.size w w' := by
  obtain ⟨i0, ihi, ih0, ihs, ih2⟩ := info_parts Tryz.infoIns
  have hq := fun wx => Lib.run_eql_slice_nil (P := Tryz.prog) wx 26 62 (some a) l.length c 0 0 Tryz.underlying26
  simp only [Option.isNone_some] at hq
  go_enter Tryz.func34, Tryz.ntmps34
  go_wp2_with (at_make; go_must (refine wpList_make_full _ rfl (.tmp 9) (.tmp 9) 26 rfl w.heap.size 62 i0 _ 5 Tryz.underlying26 ihi ih0 ihs .i64 .i64 _ _ (l.length + 3) rfl rfl ?e1 ?e2 ?b2 ?b3 ?b4 ?_))
  case e1 => omega
  case e2 => omega
  case b2 => rw [ih2]; omega
  case b3 => unfold maxLen; omega
  case b4 => exact Nat.le_refl _
  intro w1 hown1 hgrow1
  have hb1 := (Below.refl w.heap.size w).grown hgrow1 (Nat.le_refl _) (fun k hk => by cases hk)
  have hR1 : RowF w1 w.heap.size 62 ((l.length + 3) * 5) (fun _ => .int .i64 0) := by
    rcases hown1.2 with ⟨h0, _⟩ | ⟨g, cap, cur, hv, _, hh, _, _, hs, ht⟩
    · cases h0
    · simp only [Value.slice.injEq, Option.some.injEq, Addr.mk.injEq, and_true, true_and] at hv
      obtain ⟨rfl, rfl⟩ := hv
      refine ⟨cur, hh, hs, fun j hj => ?_⟩
      have := made_zero ((l.length + 3) * 5) j hj
      rw [← Array.getElem?_toList] at this ⊢
      rw [← ht, List.getElem?_take] at this
      simpa [hj] using this
  have hcs1 : ∀ j u, (l.flatMap I5.cells)[j]? = some u → w1.cell? (a.add j) = some u := fun j u hj => by
    have h2 := hcs j u hj
    have hlt := World.block_lt_of_cell? w _ h2
    rw [hb1.cell (p := a.add j) hlt]; exact h2
  have HC := hide hcs1
  clear hown1 hgrow1 hcs1 hcs
  go_wp2_with (refine wpList_copy_wide rfl (.tmp 11) (.tmp 12) 26 26 rfl 62 i0 Tryz.underlying26 ihi w.heap.size (l.length + 3) (l.length + 3) a l.length c rfl rfl ((l.length + 3) * 5) 62 _ (lentF l l.length) hR1 (l.flatMap I5.cells) ?k1 (by omega) HC.out ?k2 ?k3 ?k4 ?_)
  case k1 => rw [flat_len5, ihs]
  case k2 => rw [flat_len5]; omega
  case k3 => intro u hu; obtain ⟨x, _, hx⟩ := List.mem_flatMap.1 hu; exact five_one x u hx
  case k4 =>
    intro j hj
    have hfl := flat_len5 l
    unfold lentF
    by_cases hc : j < l.length * 5
    · rw [if_pos hc, dif_pos (by omega)]
      unfold cellF lentL
      rw [List.flatMap_append, List.getD_eq_getElem?_getD, List.getElem?_append_left (by rw [flat_len5]; exact hc), List.getElem?_eq_getElem]; rfl
    · rw [if_neg hc, dif_neg (by omega)]
  intro w2 hR2 hg2
  have hb2 := hb1.grown hg2 hb1.size (fun k hk => by cases hk; exact Nat.le_refl _)
  clear hR1 hb1 hg2
  go_wp2_with fail
  go_loopw [4] (fun j wr => ∃ n : Nat, l.length ≤ n ∧ n ≤ l.length + 3 ∧ j = .int .i64 n ∧ RowF wr w.heap.size 62 ((l.length + 3) * 5) (lentF l n) ∧ Below w.heap.size w wr) (fun j _ => l.length + 3 - (intOf j).toNat)
  case atStart => exact ⟨l.length, by omega, by omega, rfl, hR2, hb2⟩
  case round =>
    clear hR2 hb2
    obtain ⟨n, hn1, hn2, rfl, hR, hbl⟩ := hrel
    by_cases hlt : n < l.length + 3
    · obtain ⟨c0, f0⟩ := hR.cell (n * 5) (by omega)
      obtain ⟨c1, f1⟩ := hR.cell (n * 5 + 1) (by omega)
      obtain ⟨c2, f2⟩ := hR.cell (n * 5 + 2) (by omega)
      obtain ⟨c3, f3⟩ := hR.cell (n * 5 + 3) (by omega)
      obtain ⟨c4, f4⟩ := hR.cell (n * 5 + 4) (by omega)
      have HS : Hid (RowF _ w.heap.size 62 ((l.length + 3) * 5) (lentF l (n + 1))) := hide ((hR.set5 n ⟨77, 0, 0, 0, n⟩).congr (by
        intro j hj
        obtain ⟨hm1, hm2⟩ := lentL_mark l n hn1 hlt
        unfold lentF
        by_cases hc : n * 5 ≤ j ∧ j < n * 5 + 5
        · rw [if_pos hc, if_pos (by omega)]
          obtain ⟨f, rfl⟩ : ∃ f, j = n * 5 + f := ⟨j - n * 5, by omega⟩
          rw [cellF_at (lentL l) n f hm1 (by omega), hm2, Nat.add_sub_cancel_left]
        · rw [if_neg hc]
          by_cases hc2 : j < n * 5
          · rw [if_pos hc2, if_pos (by omega)]
          · rw [if_neg hc2, if_neg (by omega)]))
      go_wp2
      go_roundw
      case rel => exact ⟨n + 1, by omega, by omega, by go_num, HS.out, below_set5 hbl (Nat.le_refl _) _ _ _ _ _ _ _ _ _ _⟩
      case measure => simp [intOf]; omega
    · have en : n = l.length + 3 := by omega
      subst en
      have hR' : RowF wr w.heap.size 62 ((l.length + 3) * 5) (cellF (lentL l)) := hR.congr (fun j hj => by unfold lentF; rw [if_pos hj])
      clear hR
      go_wp2
      go_ret
      exact ⟨_, rfl, Or.inr ⟨a, c, _, rfl, rfl, Nat.le_refl _, hR'⟩, hbl⟩
set_option maxHeartbeats 1600000 in
theorem lent_nil (w : World) :
    Calls Tryz.prog 34 #[.slice none 0 0] w fun e w' => e = .returned (.slice none 0 0) ∧ w' = w := by
  have hq := fun wx => Lib.run_eql_slice_nil (P := Tryz.prog) wx 26 62 none 0 0 0 0 Tryz.underlying26
  simp only [Option.isNone_none] at hq
  go_enter Tryz.func34, Tryz.ntmps34
  go_wp2
  go_ret
  exact ⟨rfl, rfl⟩
/-- a slice that came in: nil is nil -/
def Arg (w : World) (v : Value) (l : List I5) : Prop := Slc w v l ∧ ∀ n c, v = .slice none n c → n = 0 ∧ c = 0
theorem Arg.below {w w' : World} {v : Value} {l : List I5} {B : Nat} (h : Arg w v l) (hb : Below B w w') (hB : w.heap.size ≤ B) : Arg w' v l := ⟨h.1.below hb hB, h.2⟩
theorem Arg.cells {w : World} {v : Value} {l : List I5} (h : Arg w v l) : (v = .slice none 0 0 ∧ l = []) ∨ ∃ a c, v = .slice (some a) l.length c ∧ ∀ j u, (l.flatMap I5.cells)[j]? = some u → w.cell? (a.add j) = some u := by
  obtain ⟨hs, hn⟩ := h
  rcases hs with ⟨⟨a, c, rfl⟩, rfl⟩ | ⟨b, off, cap, rfl, hb, hi⟩
  · cases a with
    | none => obtain ⟨_, rfl⟩ := hn 0 c rfl; exact Or.inl ⟨rfl, rfl⟩
    | some a => exact Or.inr ⟨a, c, rfl, fun j u hj => by simp at hj⟩
  · refine Or.inr ⟨⟨b, off, none⟩, cap, rfl, fun j u hj => ?_⟩
    have hlt := (List.getElem?_eq_some_iff.1 hj).1
    rw [flat_len5] at hlt
    have hd : j / 5 < l.length := by omega
    have hm : j % 5 < 5 := Nat.mod_lt _ (by omega)
    have hje : j = j / 5 * 5 + j % 5 := by omega
    rw [hje, flat_cells l (j / 5) (j % 5) hd hm] at hj
    have hadd0 := addr_add b off j
    have hadd : (⟨b, off, none⟩ : Addr).add j = ⟨b, off + j / 5 * 5 + j % 5, none⟩ := by
      rw [hadd0, show off + j = off + j / 5 * 5 + j % 5 by clear hadd0; omega]
    rw [hadd]
    obtain ⟨c0, c1, c2, c3, c4⟩ := hi (j / 5) hd
    obtain ⟨f, hf5, hfe⟩ : ∃ f, f < 5 ∧ j % 5 = f := ⟨_, hm, rfl⟩
    rw [hfe] at hj ⊢
    have : f = 0 ∨ f = 1 ∨ f = 2 ∨ f = 3 ∨ f = 4 := by clear hje hadd hadd0 hfe hj; omega
    rcases this with rfl | rfl | rfl | rfl | rfl
    · rw [← hj]; exact c0
    · rw [← hj]; exact c1
    · rw [← hj]; exact c2
    · rw [← hj]; exact c3
    · rw [← hj]; exact c4
theorem lent_any (l : List I5) (v : Value) (w : World) (h : Arg w v l) (hlen : l.length * 40 ≤ 140737488351232) :
    Calls Tryz.prog 34 #[v] w fun e w' => ∃ hv, e = .returned hv ∧ LentAt w' w.heap.size v hv l ∧ Below w.heap.size w w' := by
  rcases h.cells with ⟨rfl, rfl⟩ | ⟨a, c, rfl, hc⟩
  · refine (lent_nil w).mono ?_
    rintro e w' ⟨rfl, rfl⟩
    exact ⟨_, rfl, Or.inl ⟨rfl, rfl, rfl⟩, Below.refl _ _⟩
  · exact lent_some l a c w hc hlen
def jumpI : I5 := ⟨9, 0, 0, 0, 1⟩
/-- while it is written over -/
def backF (l : List I5) (k j : Nat) : Value := if j < k * 5 then jumpI.cells.getD (j % 5) (.int .i64 0) else cellF (lentL l) j
theorem back_step (wx wr : World) (l : List I5) (g n : Nat) (hR : RowF wr g 62 ((l.length + 3) * 5) (backF l n)) (hwx : wx.heap[g]? = wr.heap[g]?) :
    RowF (((((wx.setCell ⟨g, n * 5, none⟩ (.int .i64 9)).setCell ⟨g, n * 5 + 1, none⟩ (.int .i64 0)).setCell ⟨g, n * 5 + 2, none⟩ (.int .i64 0)).setCell ⟨g, n * 5 + 3, none⟩ (.int .i64 0)).setCell ⟨g, n * 5 + 4, none⟩ (.int .i64 1)) g 62 ((l.length + 3) * 5) (backF l (n + 1)) :=
  ((hR.block hwx).set5 n jumpI).congr (by
    intro j hj
    unfold backF
    by_cases hc : n * 5 ≤ j ∧ j < n * 5 + 5
    · rw [if_pos hc, if_pos (by omega), show j % 5 = j - n * 5 by omega]
    · rw [if_neg hc]
      by_cases hc2 : j < n * 5
      · rw [if_pos hc2, if_pos (by omega)]
      · rw [if_neg hc2, if_neg (by omega)])
set_option maxHeartbeats 4000000 in
set_option maxRecDepth 100000 in
theorem back_some (l : List I5) (a : Addr) (c g base : Nat) (w : World) (hbg : base ≤ g) (hR : RowF w g 62 ((l.length + 3) * 5) (cellF (lentL l))) (hp : 0 < l.length → ∃ b off, a = ⟨b, off, none⟩ ∧ b < base ∧ ∀ i (h : i < l.length), InsAt w b (off + i * 5) l[i]) (hlen : l.length * 40 ≤ 140737488351232) :
    Calls Tryz.prog 35 #[.slice (some ⟨g, 0, none⟩) l.length (l.length + 3), .slice (some a) l.length c] w fun e w' => e = .returned (.bool true) ∧ Below base w w' ∧ But g w w' := by
  have hq := fun wx => Lib.run_eql_slice_nil (P := Tryz.prog) wx 26 62 (some a) l.length c 0 0 Tryz.underlying26
  simp only [Option.isNone_some] at hq
  have HP := hide hp
  clear hp
  go_enter Tryz.func35, Tryz.ntmps35
  go_wp2_with fail
  go_loopw [6, 7] (fun ok j wr => ∃ n : Nat, n ≤ l.length + 3 ∧ ok = .bool true ∧ j = .int .i64 n ∧ RowF wr g 62 ((l.length + 3) * 5) (backF l n) ∧ Below base w wr ∧ But g w wr) (fun _ j _ => l.length + 3 - (intOf j).toNat)
  case atStart => exact ⟨0, by omega, rfl, rfl, hR.congr (fun j _ => by simp [backF]), Below.refl _ _, But.refl _ _⟩
  case round =>
    clear hR
    obtain ⟨n, hn, rfl, rfl, hR, hbl, hbt⟩ := hrel
    have HBT := hide hbt
    clear hbt
    by_cases hlt : n < l.length + 3
    · obtain ⟨x, hx⟩ : ∃ x, x = (lentL l)[n]'(by simp [lentL, marks]; omega) := ⟨_, rfl⟩
      obtain ⟨c0, c1, c2, c3, c4⟩ := hR.ins (L := lentL l) n (by simp [lentL, marks]; omega) (by simp [lentL, marks]) (fun k hk => by unfold backF; rw [if_neg (by omega)])
      rw [← hx, Nat.zero_add] at c0 c1 c2 c3 c4
      have f0 := (hR.cell (n * 5) (by omega)).2
      have f1 := (hR.cell (n * 5 + 1) (by omega)).2
      have f2 := (hR.cell (n * 5 + 2) (by omega)).2
      have f3 := (hR.cell (n * 5 + 3) (by omega)).2
      have f4 := (hR.cell (n * 5 + 4) (by omega)).2
      have HS := hide (fun wx hwx => back_step wx wr l g n hR hwx)
      by_cases hin : n < l.length
      · obtain ⟨b, off, rfl, hb, hi⟩ := HP.out (by omega)
        have hxl : x = l[n] := by rw [hx]; simp only [lentL]; rw [List.getElem_append_left]
        obtain ⟨e0, e1, e2, e3, e4⟩ := (hi n hin).below hbl hb
        rw [← hxl] at e0 e1 e2 e3 e4
        have HX := hide hx
        clear hx hxl hi
        go_wp2_with fail
        go_quiet (fail)
        go_wp2
        exact ⟨⟨n + 1, by omega, rfl, by go_num, HS.out _ rfl, below_set5 (below_drewN hbl _) hbg _ _ _ _ _ _ _ _ _ _, But.set5 (HBT.out.trans (But.ofBelow (below_drewN (Below.refl _ _) _))) _ _ _ _ _ _ _ _ _ _⟩, by simp [intOf]; omega⟩
      · obtain ⟨_, hm⟩ := lentL_mark l n (by omega) hlt
        rw [← hx] at hm
        subst hm
        clear hx
        go_wp2
        exact ⟨⟨n + 1, by omega, rfl, by go_num, HS.out _ rfl, below_set5 hbl hbg _ _ _ _ _ _ _ _ _ _, But.set5 HBT.out _ _ _ _ _ _ _ _ _ _⟩, by simp [intOf]; omega⟩
    · go_wp2
      go_ret
      exact ⟨rfl, hbl, HBT.out⟩
set_option maxHeartbeats 1600000 in
theorem back_nil (hv : Value) (w : World) :
    Calls Tryz.prog 35 #[hv, .slice none 0 0] w fun e w' => e = .returned (.bool true) ∧ w' = w := by
  have hq := fun wx => Lib.run_eql_slice_nil (P := Tryz.prog) wx 26 62 none 0 0 0 0 Tryz.underlying26
  simp only [Option.isNone_none] at hq
  go_enter Tryz.func35, Tryz.ntmps35
  go_wp2
  go_ret
  exact ⟨rfl, rfl⟩
/-- what was lent is as it was; it is written over, and nothing else -/
theorem lawBack2 (l : List I5) (v hv : Value) (base : Nat) (w0 w : World) (hl : LentAt w base v hv l) (ha : Arg w0 v l) (h0 : w0.heap.size ≤ base) (hbl : Below w0.heap.size w0 w) (hlen : l.length * 40 ≤ 140737488351232) :
    Calls Tryz.prog 35 #[hv, v] w fun e w' => e = .returned (.bool true) ∧ Below base w w' ∧ ∀ k, k < w.heap.size → some k ≠ hv.ownBlock → w'.heap[k]? = w.heap[k]? := by
  rcases hl with ⟨rfl, rfl, rfl⟩ | ⟨a, c, g, rfl, rfl, hbg, hR⟩
  · refine (back_nil _ w).mono ?_
    rintro e w' ⟨rfl, rfl⟩
    exact ⟨rfl, Below.refl _ _, fun _ _ _ => rfl⟩
  · refine (back_some l a c g base w hbg hR (fun hp => ?_) hlen).mono ?_
    · rcases ha.1 with ⟨_, rfl⟩ | ⟨b, off, cap, hv, hb, hi⟩
      · simp at hp
      · simp only [Value.slice.injEq, Option.some.injEq] at hv
        obtain ⟨rfl, _, _⟩ := hv
        exact ⟨b, off, rfl, by omega, fun i h => (hi i h).below hbl hb⟩
    · rintro e w' ⟨he, hb, ht⟩
      exact ⟨he, hb, fun k hk hn => ht.block k hk (fun e => hn (by rw [e]; rfl))⟩
theorem lawBack_any (l : List I5) (v hv : Value) (base : Nat) (w0 w : World) (hl : LentAt w base v hv l) (ha : Arg w0 v l) (h0 : w0.heap.size ≤ base) (hbl : Below w0.heap.size w0 w) (hlen : l.length * 40 ≤ 140737488351232) :
    Calls Tryz.prog 35 #[hv, v] w fun e w' => e = .returned (.bool true) ∧ Below base w w' :=
  (lawBack2 l v hv base w0 w hl ha h0 hbl hlen).mono fun _ _ h => ⟨h.1, h.2.1⟩
theorem LentAt.lt {w : World} {base : Nat} {v hv : Value} {l : List I5} (h : LentAt w base v hv l) : ∀ k, hv.ownBlock = some k → k < w.heap.size := by
  rcases h with ⟨rfl, rfl, rfl⟩ | ⟨a, c, g, rfl, rfl, hbg, hR⟩
  · intro k hk; cases hk
  · intro k hk; cases hk; exact hR.lt
end Go.Proofs.YtamiichlbmllcaaGreatDoor
/-
  Moves and assignments in a drawn region whose value is read at once.
-/
namespace Go.Proofs.YtamiichlbmllcaaGreatDoor
open Go.RowKit
section
variable {l : List Oper} {Q : Exit → Act → World → Prop} {F : Nat → Bool} {S : World → Prop} {r : OT} {a : Act} {w : World} {i : Nat} {d : Option Tmp} {x : Operand} {tt : TypeId} {pos : String} {aft : Array Edge} {g : Option (Nat × Bool)}
theorem vMoveI {p : Int} (hk : S w) (h : wpT Tryz.prog l Q F S r (a.put d (.int .i64 p)) w) (ho : nthO i l = some ⟨d, .move x, tt, pos, aft, g⟩ := by rfl) (hw : Region.wanted ⟨d, .move x, tt, pos, aft, g⟩ (yielded l.toArray a.tmps) = true := by rfl) (hx : a.eval x = .int .i64 p := by rfl) : wpT Tryz.prog l Q F S (.op i r) a w := sMove hk (by rw [hx]; exact h) ho hw
theorem vMoveB {p : Bool} (hk : S w) (h : wpT Tryz.prog l Q F S r (a.put d (.bool p)) w) (ho : nthO i l = some ⟨d, .move x, tt, pos, aft, g⟩ := by rfl) (hw : Region.wanted ⟨d, .move x, tt, pos, aft, g⟩ (yielded l.toArray a.tmps) = true := by rfl) (hx : a.eval x = .bool p := by rfl) : wpT Tryz.prog l Q F S (.op i r) a w := sMove hk (by rw [hx]; exact h) ho hw
theorem vAssignI {p : Int} (hk : S w) (h : wpT Tryz.prog l Q F S r (a.put d (.int .i64 p)) w) (ho : nthO i l = some ⟨d, .assign x, tt, pos, aft, g⟩ := by rfl) (hw : Region.wanted ⟨d, .assign x, tt, pos, aft, g⟩ (yielded l.toArray a.tmps) = true := by rfl) (hx : a.eval x = .int .i64 p := by rfl) : wpT Tryz.prog l Q F S (.op i r) a w := sAssign hk (by rw [hx]; exact h) ho hw
theorem vAssignB {p : Bool} (hk : S w) (h : wpT Tryz.prog l Q F S r (a.put d (.bool p)) w) (ho : nthO i l = some ⟨d, .assign x, tt, pos, aft, g⟩ := by rfl) (hw : Region.wanted ⟨d, .assign x, tt, pos, aft, g⟩ (yielded l.toArray a.tmps) = true := by rfl) (hx : a.eval x = .bool p := by rfl) : wpT Tryz.prog l Q F S (.op i r) a w := sAssign hk (by rw [hx]; exact h) ho hw
end
set_option maxRecDepth 100000 in
theorem sV {l : List Oper} {Q : Exit → Act → World → Prop} {F : Nat → Bool} {S : World → Prop} {r : OT} {a : Act} {w : World} {G : Prop} (hk : S w) (h : G) (t : S w → G → wpT Tryz.prog l Q F S r a w := by intro hk h; first | exact vMoveI hk h | exact vMoveB hk h | exact vAssignI hk h | exact vAssignB hk h | exact sMove hk h | exact sAssign hk h | exact sExtract hk h | exact sFieldZ hk h | exact sField0 hk h | exact sField hk h | exact sIndexA0 hk h | exact sIndexS0 hk h | exact sIndexA hk h | exact sIndexS hk h | exact sLoadR hk h | exact sLoad1 hk h | exact sOldR hk h | exact sOld1 hk h | exact sOldC hk h | exact sOldG hk h | exact sBuild hk h | exact sPickT hk h | exact sPickF hk h | exact sLss hk h | exact sLeq hk h | exact sGtr hk h | exact sGeq hk h | exact sEql hk h | exact sNot hk h | exact sSkip hk h | exact sSkipA hk h) : wpT Tryz.prog l Q F S r a w := t hk h
end Go.Proofs.YtamiichlbmllcaaGreatDoor
/-
  Regions that keep their order, walked as those that draw it.
-/
namespace Go.Proofs.YtamiichlbmllcaaGreatDoor
open Go.RowKit
def lineT : Nat → Nat → OT
  | _, 0 => .nil
  | k, n + 1 => .op k (lineT (k + 1) n)
theorem wpT_line {P : Program} {l : List Oper} {Q : Exit → Act → World → Prop} {S : World → Prop} : ∀ (n k : Nat) (a : Act) (w : World), wpT P l Q (fun _ => false) S (lineT k n) a w → wpOps P l.toArray (NoPanic Q) (List.range' k n) a w
  | 0, _, _, _, h => NoPanic.normal h
  | n + 1, k, a, w, h => by
    obtain ⟨o, ho, h⟩ := h
    have hl : l.toArray[k]? = some o := by rw [← ho, nthO_eq]; simp
    rw [List.range'_succ, wpOps_cons]
    by_cases hst : stillOp o = true
    · simp only [hst, if_true] at h
      obtain ⟨hS, v, hy, h⟩ := h
      exact hy.wpOp hl hS (wpT_line n (k + 1) _ _ h)
    · simp only [hst, Bool.false_eq_true, if_false] at h
      unfold wpOp
      simp only [hl]
      by_cases hw : Region.wanted o (yielded l.toArray a.tmps) = true
      · simp only [hw, if_true] at h ⊢
        refine Or.inl (Oper.wp_mono ?_ h)
        rintro a' w' ⟨_, h2⟩
        exact wpT_line n (k + 1) a' w' h2
      · simp only [hw, Bool.false_eq_true, if_false] at h ⊢
        exact wpT_line n (k + 1) _ _ h.2
theorem wp_regL {P : Program} {id : Nat} {l : List Oper} {Q : Exit → Act → World → Prop} {a : Act} {w : World} (S : World → Prop) (t : OT) (ht : lineT 0 l.length = t) (h : wpT P l Q (fun _ => false) S t a w) : (Code.region id l.toArray false).wp P Q a w := by
  subst ht
  refine wp_region_noPanic (wp_region ?_)
  rw [List.range_eq_range']
  exact wpT_line _ _ _ _ (by simpa using h)
theorem wp_regLK {P : Program} {id : Nat} {l : List Oper} {Q : Exit → Act → World → Prop} {a : Act} {w : World} {M : List Nat} {w0 : World} {L : RowL} (_hk : Kn M w0 w L) (t : OT) (ht : lineT 0 l.length = t) (h : wpT P l Q (fun _ => false) (fun wx => Kn M w0 wx L) t a w) : (Code.region id l.toArray false).wp P Q a w := wp_regL _ t ht h
end Go.Proofs.YtamiichlbmllcaaGreatDoor
/-
  Marks: the contract of proof.marksOf.
-/
namespace Go.Proofs.YtamiichlbmllcaaGreatDoor
open Go.RowKit
/-- a program's instructions lie in block pb, as vf has them -/
def ProgC (w : World) (pb : Nat) (vf : I5 → Value) (l : List I5) : Prop := ∀ i, i < l.length → w.cell? ⟨pb, i * 1, none⟩ = some (vf (insAt l i))
theorem ProgC.mod {w w' : World} {pb : Nat} {vf : I5 → Value} {l : List I5} {M : List Nat} (h : ProgC w pb vf l) (hm : Mod M w w') (hp : pb ∉ M) : ProgC w' pb vf l := fun i hi => by
  rw [World.cell?_of_block (w := w) (a := ⟨pb, i * 1, none⟩) (hm.block pb (World.block_lt_of_cell? w _ (h i hi)) hp)]; exact h i hi
def markB (p : List I5) (n : Nat) : Bool := p.any fun i => decide (9 ≤ i.o) && decide (i.k = n)
def mkU (l : List I5) (i : Nat) : Nat → Bool := fun m => markB (l.take i) m
theorem mkU_zero (l : List I5) : mkU l 0 = fun _ => false := rfl
theorem mkU_all (l : List I5) : mkU l l.length = markB l := by unfold mkU; rw [List.take_length]
theorem take_succ_at {l : List I5} {i : Nat} (h : i < l.length) : l.take (i + 1) = l.take i ++ [insAt l i] := by rw [insAt_get h, List.take_append_getElem h]
theorem mkU_no {l : List I5} {i : Nat} (h : i < l.length) (hj : jumpsB (insAt l i) = false) : mkU l (i + 1) = mkU l i := by
  funext m
  unfold mkU markB
  rw [take_succ_at h, List.any_append]
  unfold jumpsB at hj
  simp [hj]
theorem mkU_yes {l : List I5} {i k : Nat} (h : i < l.length) (hj : jumpsB (insAt l i) = true) (hk : targI (insAt l i) = k) : mkU l (i + 1) = updB (mkU l i) k true := by
  funext m
  unfold mkU markB updB
  rw [take_succ_at h, List.any_append]
  unfold jumpsB at hj
  unfold targI at hk
  simp only [decide_eq_true_eq] at hj
  rw [if_pos hj] at hk
  by_cases e : m = k
  · subst e; simp [hj, hk]
  · have : ¬ ((insAt l i).k = (m : Int)) := by rw [hk]; omega
    simp [this, e]
theorem AllFit.fit {l : List I5} (h : AllFit l) {i : Nat} (hi : i < l.length) : (insAt l i).fits l.length = true := by rw [insAt_get hi]; exact h.2.2 i hi
theorem AllFit.targ {l : List I5} (h : AllFit l) {i : Nat} (hi : i < l.length) (hj : jumpsB (insAt l i) = true) : ∃ k : Nat, targI (insAt l i) = k ∧ k < l.length := by
  unfold jumpsB at hj
  simp only [decide_eq_true_eq] at hj
  have := h.k hi hj
  refine ⟨(insAt l i).k.toNat, ?_, this.2⟩
  unfold targI
  rw [if_pos hj]
  omega
set_option maxHeartbeats 4000000 in
set_option maxRecDepth 100000 in
theorem marksOf_any (l : List I5) (hl : AllFit l) (pb cap : Nat) (w : World) (hp : ProgC w pb iVal l) : Calls Tryz.prog 63 #[.slice (some ⟨pb, 0, none⟩) l.length cap] w fun e w' => ∃ mb, e = .returned (.slice (some ⟨mb, 0, none⟩) l.length l.length) ∧ At w' mb (bosA l.length (markB l)) 4 ∧ w.heap.size ≤ mb ∧ Below w.heap.size w w' := by
  have hk := Kn.nil [] w
  have hn := hl.2.1
  go_enter Tryz.func63, Tryz.ntmps63
  go_wp2_with (first | ((with_reducible show wpList _ _ _ _ _ _); (first | (refine wS hk ?_; simp only [Act.put, pw]) | (refine wN hk ?_; clear hk; intro w1 hk; simp only [Act.put, pw]) | (refine wT hk ?_; clear hk; intro w1 hk; simp only [Act.put]))))
  replace hk : Kn [] w w1 [(w.heap.size, bosA l.length (mkU l 0), 4)] := hk
  go_loopw [12] (fun j wr => ∃ i : Nat, i ≤ l.length ∧ j = .int .i64 i ∧ Kn [] w wr [(w.heap.size, bosA l.length (mkU l i), 4)]) (fun j _ => l.length - (intOf j).toNat)
  case atStart => exact ⟨0, by omega, rfl, hk⟩
  case round =>
    clear hk
    obtain ⟨i, hi, rfl, hk⟩ := hrel
    by_cases hlt : i < l.length
    · have hc := hp.mod hk.mod (List.not_mem_nil) i hlt
      cases hj : jumpsB (insAt l i) with
      | false =>
        have R := hide (mkU_no hlt hj)
        go_wp2_with (first | (go_at_call 101; refine (target_any (insAt l i) _ (hl.fit hlt) _ _ _ _ hlt _ hc).mono ?_; rintro e w1 ⟨rfl, hb⟩; replace hk := hk.call hb; clear hb; rw [hj]) | ((with_reducible show wpList _ _ _ _ _ _); (first | (refine wS hk ?_; simp only [Act.put, pw]) | (refine wN hk ?_; clear hk; intro w1 hk; simp only [Act.put, pw]) | (refine wT hk ?_; clear hk; intro w1 hk; simp only [Act.put]))))
        go_roundw
        case rel => exact ⟨i + 1, by omega, by go_num, by rw [R.out]; exact hk⟩
        case measure => simp [intOf]; omega
      | true =>
        obtain ⟨k, hk1, hk2⟩ := hl.targ hlt hj
        have R := hide (mkU_yes hlt hj hk1)
        go_wp2_with (first | (go_at_call 101; refine (target_any (insAt l i) _ (hl.fit hlt) _ _ _ _ hlt _ hc).mono ?_; rintro e w1 ⟨rfl, hb⟩; replace hk := hk.call hb; clear hb; rw [hj, hk1]) | ((with_reducible show wpList _ _ _ _ _ _); (first | (refine wS hk ?_; simp only [Act.put, pw]) | (refine wN hk ?_; clear hk; intro w1 hk; simp only [Act.put, pw]) | (refine wT hk ?_; clear hk; intro w1 hk; simp only [Act.put]))))
        go_roundw
        case rel => exact ⟨i + 1, by omega, by go_num, by rw [R.out]; exact hk⟩
        case measure => simp [intOf]; omega
    · have e : i = l.length := by omega
      subst e
      rw [mkU_all] at hk
      go_wp2_with (first | ((with_reducible show wpList _ _ _ _ _ _); (first | (refine wS hk ?_; simp only [Act.put, pw]) | (refine wN hk ?_; clear hk; intro w1 hk; simp only [Act.put, pw]) | (refine wT hk ?_; clear hk; intro w1 hk; simp only [Act.put]))))
      go_ret
      exact ⟨_, rfl, hk.at (by with_reducible repeat (first | exact List.mem_cons_self | apply List.mem_cons_of_mem)), Nat.le_refl _, hk.mod.below⟩
end Go.Proofs.YtamiichlbmllcaaGreatDoor
/-
  Claims: the contracts of proof.firstWrong and proof.layOut.
-/
namespace Go.Proofs.YtamiichlbmllcaaGreatDoor
open Go.RowKit
/-- a claim: of which instruction, and the state -/
structure C2 where
  pl : Int
  st : St
def clAt (cl : List C2) (i : Nat) : C2 := (cl[i]?).getD ⟨0, zeroS⟩
theorem clAt_get {cl : List C2} {i : Nat} (h : i < cl.length) : clAt cl i = cl[i] := by unfold clAt; rw [List.getElem?_eq_getElem h]; rfl
/-- a list of claims, wherever it lies -/
def SlcC (w : World) (v : Value) (cl : List C2) : Prop :=
  ((∃ a cap, v = .slice a 0 cap) ∧ cl = []) ∨ ∃ b off cap, v = .slice (some ⟨b, off, none⟩) cl.length cap ∧ b < w.heap.size ∧ ∀ i, i < cl.length → w.rangeAt b (off + i * 17) (clC (clAt cl i).pl (clAt cl i).st).toList
theorem SlcC.below {w w' : World} {v : Value} {cl : List C2} {B : Nat} (h : SlcC w v cl) (hb : Below B w w') (hB : w.heap.size ≤ B) : SlcC w' v cl := by
  rcases h with h | ⟨b, off, cap, h1, h2, h3⟩
  · exact Or.inl h
  · refine Or.inr ⟨b, off, cap, h1, Nat.lt_of_lt_of_le h2 hb.size, fun i hi j u hu => ?_⟩
    rw [hb.cell (p := ⟨b, _, none⟩) (Nat.lt_of_lt_of_le h2 hB)]; exact h3 i hi j u hu
/-- is a claim wrong behind one of instruction last? -/
def badC (mk : Nat → Bool) (n : Nat) (last : Int) (c : C2) : Bool := decide (c.pl ≤ last) || decide ((n : Int) ≤ c.pl) || !mk c.pl.toNat || !isStR c.st
def fwR (mk : Nat → Bool) (n : Nat) : List C2 → Int → Nat → Nat
  | [], _, i => i
  | c :: r, last, i => if badC mk n last c then i else fwR mk n r c.pl (i + 1)
theorem fwR_bad {mk : Nat → Bool} {n : Nat} {cl : List C2} {i : Nat} {last : Int} (h : i < cl.length) (hb : badC mk n last (clAt cl i) = true) : fwR mk n (cl.drop i) last i = i := by
  rw [List.drop_eq_getElem_cons h, fwR, ← clAt_get h, if_pos hb]
theorem fwR_ok {mk : Nat → Bool} {n : Nat} {cl : List C2} {i : Nat} {last : Int} (h : i < cl.length) (hb : badC mk n last (clAt cl i) = false) : fwR mk n (cl.drop i) last i = fwR mk n (cl.drop (i + 1)) (clAt cl i).pl (i + 1) := by
  rw [List.drop_eq_getElem_cons h, fwR, ← clAt_get h, if_neg (by simp [hb])]
theorem ret_nat {a b : Nat} (h : a = b) : Ending.returned (.int .i64 (a : Int)) = .returned (.int .i64 (b : Int)) := by rw [h]
set_option maxHeartbeats 4000000 in
set_option maxRecDepth 100000 in
theorem firstWrong_some (mk : Nat → Bool) (n : Nat) (mb mc : Nat) (cl : List C2) (hcl : cl.length < 4000000000000) (b off cap : Nat) (w : World) (hm : At w mb (bosA n mk) 4) (hb : b < w.heap.size) (hc : ∀ i, i < cl.length → w.rangeAt b (off + i * 17) (clC (clAt cl i).pl (clAt cl i).st).toList) :
    Calls Tryz.prog 64 #[.slice (some ⟨mb, 0, none⟩) n mc, .slice (some ⟨b, off, none⟩) cl.length cap] w fun e w' => e = .returned (.int .i64 (fwR mk n cl (-1) 0 : Nat)) ∧ Below w.heap.size w w' := by
  have hk := Kn.nil [] w
  have HC := hide hc
  clear hc
  obtain ⟨FW, hFW⟩ : ∃ FW, FW = fwR mk n cl (-1) 0 := ⟨_, rfl⟩
  rw [← hFW]
  have HF := hide hFW
  clear hFW
  go_enter Tryz.func64, Tryz.ntmps64
  go_wp2_with (first | ((with_reducible show wpList _ _ _ _ _ _); (first | (refine wS hk ?_; simp only [Act.put, pw]) | (refine wN hk ?_; clear hk; intro w1 hk; simp only [Act.put, pw]) | (refine wT hk ?_; clear hk; intro w1 hk; simp only [Act.put]))))
  go_loopw [5, 10] (fun la j wr => ∃ (i : Nat) (last : Int), i ≤ cl.length ∧ la = .int .i64 last ∧ j = .int .i64 i ∧ -1 ≤ last ∧ fwR mk n (cl.drop i) last i = FW ∧ Kn [] w wr []) (fun _ j _ => cl.length - (intOf j).toNat)
  case atStart => exact ⟨0, -1, by omega, rfl, rfl, by omega, HF.out.symm, hk⟩
  case round =>
    clear hk HF
    obtain ⟨i, last, hi, rfl, rfl, hla, hR, hk⟩ := hrel
    by_cases hlt : i < cl.length
    · have hci := HC.out i hlt
      have HR := hide hR
      clear hR
      obtain ⟨c, hcd⟩ : ∃ c, c = clAt cl i := ⟨_, rfl⟩
      rw [← hcd] at hci
      have HCD := hide hcd
      clear hcd
      have hba : ∀ B, badC mk n last c = B → badC mk n last (clAt cl i) = B := fun B h => by rw [← HCD.out]; exact h
      by_cases h1 : c.pl ≤ last
      · have RB : Hid (i = FW) := hide (by rw [← HR.out, fwR_bad hlt (hba true (by unfold badC; simp [h1]))])
        have h4 : True := trivial
        clear hba
        go_wp2_with (first | ((with_reducible show wpList _ _ _ _ _ _); (first | (refine wS hk ?_; simp only [Act.put, pw]) | (refine wN hk ?_; clear hk; intro w1 hk; simp only [Act.put, pw]) | (refine wT hk ?_; clear hk; intro w1 hk; simp only [Act.put]))))
        go_ret
        exact ⟨ret_nat RB.out, hk.mod.below⟩
      · have d1 : decide (c.pl ≤ last) = false := by simpa using h1
        obtain ⟨k, hkk⟩ : ∃ k : Nat, c.pl = k := ⟨c.pl.toNat, by omega⟩
        by_cases h2 : (n : Int) ≤ c.pl
        · have RB : Hid (i = FW) := hide (by rw [← HR.out, fwR_bad hlt (hba true (by unfold badC; simp [h2]))])
          clear hba hkk
          go_wp2_with (first | ((with_reducible show wpList _ _ _ _ _ _); (first | (refine wS hk ?_; simp only [Act.put, pw]) | (refine wN hk ?_; clear hk; intro w1 hk; simp only [Act.put, pw]) | (refine wT hk ?_; clear hk; intro w1 hk; simp only [Act.put]))))
          go_ret
          exact ⟨ret_nat RB.out, hk.mod.below⟩
        · have d2 : decide ((n : Int) ≤ c.pl) = false := by simpa using h2
          have hkn : k < n := by omega
          obtain ⟨pl, st⟩ := c
          simp only at hkk h1 h2 d1 d2 hci
          subst hkk
          cases h3 : mk k with
          | false =>
            have RB : Hid (i = FW) := hide (by rw [← HR.out, fwR_bad hlt (hba true (by unfold badC; simp [h3]))])
            clear hba
            go_wp2_with (first | ((with_reducible show wpList _ _ _ _ _ _); (first | (refine wS hk ?_; simp only [Act.put, pw]) | (refine wN hk ?_; clear hk; intro w1 hk; simp only [Act.put, pw]) | (refine wT hk ?_; clear hk; intro w1 hk; simp only [Act.put]))))
            go_ret
            exact ⟨ret_nat RB.out, hk.mod.below⟩
          | true =>
            cases h4 : isStR st with
            | false =>
              have RB : Hid (i = FW) := hide (by rw [← HR.out, fwR_bad hlt (hba true (by unfold badC; simp [h4]))])
              clear hba
              go_wp2_with (first | (go_at_call 62; refine (isState_any _ _).mono ?_; rintro e w1 ⟨rfl, hb⟩; replace hk := hk.call hb; clear hb; rw [h4]) | ((with_reducible show wpList _ _ _ _ _ _); (first | (refine wS hk ?_; simp only [Act.put, pw]) | (refine wN hk ?_; clear hk; intro w1 hk; simp only [Act.put, pw]) | (refine wT hk ?_; clear hk; intro w1 hk; simp only [Act.put]))))
              go_ret
              exact ⟨ret_nat RB.out, hk.mod.below⟩
            | true =>
              have RB : Hid (fwR mk n (cl.drop (i + 1)) k (i + 1) = FW) := hide (by rw [← HR.out, fwR_ok hlt (hba false (by unfold badC; simp only [d1, d2, Int.toNat_natCast, h3, h4]; rfl)), ← HCD.out])
              clear hba
              go_wp2_with (first | (go_at_call 62; refine (isState_any _ _).mono ?_; rintro e w1 ⟨rfl, hb⟩; replace hk := hk.call hb; clear hb; rw [h4]) | ((with_reducible show wpList _ _ _ _ _ _); (first | (refine wS hk ?_; simp only [Act.put, pw]) | (refine wN hk ?_; clear hk; intro w1 hk; simp only [Act.put, pw]) | (refine wT hk ?_; clear hk; intro w1 hk; simp only [Act.put]))))
              go_roundw
              case rel => exact ⟨i + 1, k, by omega, rfl, by go_num, by omega, RB.out, hk.drop⟩
              case measure => simp [intOf]; omega
    · have e : i = cl.length := by omega
      subst e
      rw [List.drop_length, fwR] at hR
      have HR := hide hR
      clear hR
      go_wp2_with (first | ((with_reducible show wpList _ _ _ _ _ _); (first | (refine wS hk ?_; simp only [Act.put, pw]) | (refine wN hk ?_; clear hk; intro w1 hk; simp only [Act.put, pw]) | (refine wT hk ?_; clear hk; intro w1 hk; simp only [Act.put]))))
      go_ret
      exact ⟨ret_nat HR.out, hk.mod.below⟩
end Go.Proofs.YtamiichlbmllcaaGreatDoor
