/-
  The contract of suretylaw.sameVisits: lists that read alike are the same.
-/
import Derived.Test.YtamiichlbmllcaaGreatDoorTraX
import Derived.Deep.RegionHeld3
namespace Go.Proofs.YtamiichlbmllcaaGreatDoor
open Go.RowKit
theorem vflat_cells (l : List V9) (i f : Nat) (hi : i < l.length) (hf : f < 9) : (l.flatMap V9.cells)[i * 9 + f]? = l[i].cells[f]? := by
  induction l generalizing i with
  | nil => simp at hi
  | cons x r ih =>
    rw [List.flatMap_cons]
    match i with
    | 0 => rw [List.getElem?_append_left (by simp [V9.cells]; omega)]; simp
    | i + 1 =>
      rw [List.getElem?_append_right (by simp [V9.cells]; omega)]
      rw [show (i + 1) * 9 + f - x.cells.length = i * 9 + f by simp [V9.cells]; omega]
      rw [ih i (by simpa using hi)]; rfl
/-- nine cells at a place -/
def VisAt (w : World) (b o : Nat) (x : V9) : Prop := w.cell? ⟨b, o, none⟩ = some (.int .i64 x.pc) ∧ w.cell? ⟨b, o + 1, none⟩ = some (.int .i64 (x.r 0)) ∧ w.cell? ⟨b, o + 2, none⟩ = some (.int .i64 (x.r 1)) ∧ w.cell? ⟨b, o + 3, none⟩ = some (.int .i64 (x.r 2)) ∧ w.cell? ⟨b, o + 4, none⟩ = some (.int .i64 (x.r 3)) ∧ w.cell? ⟨b, o + 5, none⟩ = some (.int .i64 (x.r 4)) ∧ w.cell? ⟨b, o + 6, none⟩ = some (.int .i64 (x.r 5)) ∧ w.cell? ⟨b, o + 7, none⟩ = some (.int .i64 (x.r 6)) ∧ w.cell? ⟨b, o + 8, none⟩ = some (.int .i64 (x.r 7))
theorem OwnV.at {w : World} {base : Nat} {v : Value} {l : List V9} (h : OwnV w base v l) (i : Nat) (hi : i < l.length) : ∃ g c, v = .slice (some ⟨g, 0, none⟩) l.length c ∧ g < w.heap.size ∧ VisAt w g (i * 9) l[i] := by
  have h0 := h
  rcases h.2 with ⟨_, h2⟩ | ⟨g, cap, cur, rfl, _, hh, _⟩
  · omega
  · refine ⟨g, cap, rfl, lt_of_block hh, ?_⟩
    have hc : ∀ f, f < 9 → ∀ u, l[i].cells[f]? = some u → w.cell? ⟨g, i * 9 + f, none⟩ = some u := by
      intro f hf u hu
      have := World.ownsRow.cells h0 rfl (i * 9 + f) u (by rw [vflat_cells l i f hi hf]; exact hu)
      have hadd : (⟨g, 0, none⟩ : Addr).add (i * 9 + f) = ⟨g, i * 9 + f, none⟩ := by unfold Addr.add; split <;> simp_all
      rw [hadd] at this
      exact this
    exact ⟨hc 0 (by omega) _ rfl, hc 1 (by omega) _ rfl, hc 2 (by omega) _ rfl, hc 3 (by omega) _ rfl, hc 4 (by omega) _ rfl, hc 5 (by omega) _ rfl, hc 6 (by omega) _ rfl, hc 7 (by omega) _ rfl, hc 8 (by omega) _ rfl⟩
theorem eq_arr8 (x0 x1 x2 x3 x4 x5 x6 x7 : Int) (w : World) : (Op.equalIn 9999 42 (.agg #[.int .i64 x0, .int .i64 x1, .int .i64 x2, .int .i64 x3, .int .i64 x4, .int .i64 x5, .int .i64 x6, .int .i64 x7]) (.agg #[.int .i64 x0, .int .i64 x1, .int .i64 x2, .int .i64 x3, .int .i64 x4, .int .i64 x5, .int .i64 x6, .int .i64 x7])).run Tryz.prog w = .ok true w := by
  have u3 := Tryz.underlying3
  have a3 := Tryz.isAgg3
  have z3 := Tryz.sizeOf3
  rw [show (9999 : Nat) = 9998 + 1 from rfl, Op.equalIn]
  simp only [Sem.run_bind, run_underlying Tryz.underlying42, Result.andThen_ok]
  simp only [Std.Legacy.Range.forIn_eq_forIn_range', Std.Legacy.Range.size, Nat.sub_zero, Nat.add_sub_cancel, Nat.div_one, List.range'_succ, List.range'_zero, List.forIn_cons, List.forIn_nil]
  go_simp
set_option maxHeartbeats 2000000 in
set_option maxRecDepth 100000 in
theorem sameV_any (L : List V9) (va vb : Value) (A B : Nat) (w : World) (ha : OwnV w A va L) (hb : OwnV w B vb L) (hl : L.length ≤ 100) :
    Calls Tryz.prog 85 #[va, vb] w fun e w' => e = .returned (.bool true) ∧ Below w.heap.size w w' := by
  obtain ⟨aa, ca, hea⟩ := own_any_len ha
  obtain ⟨ab, cb, heb⟩ := own_any_len hb
  have HA := hide ha
  have HB := hide hb
  have HEA := hide hea
  have HEB := hide heb
  rw [hea, heb]
  clear ha hb hea heb
  go_enter Tryz.func85, Tryz.ntmps85
  go_wp2_with fail
  go_loopw [5] (fun j wr => ∃ n : Nat, n ≤ L.length ∧ j = .int .i64 n ∧ Below w.heap.size w wr) (fun j _ => L.length - (intOf j).toNat)
  case atStart => exact ⟨0, by omega, rfl, Below.refl _ _⟩
  case round =>
    obtain ⟨n, hn, rfl, hbl⟩ := hrel
    by_cases hlt : n < L.length
    · obtain ⟨g1, d1, e1, l1, p0, p1, p2, p3, p4, p5, p6, p7, p8⟩ := HA.out.at n hlt
      obtain ⟨g2, d2, e2, l2, q0, q1, q2, q3, q4, q5, q6, q7, q8⟩ := HB.out.at n hlt
      obtain ⟨rfl, rfl⟩ : aa = some ⟨g1, 0, none⟩ ∧ ca = d1 := by rw [HEA.out] at e1; simpa using e1
      obtain ⟨rfl, rfl⟩ : ab = some ⟨g2, 0, none⟩ ∧ cb = d2 := by rw [HEB.out] at e2; simpa using e2
      rw [← hbl.cell (p := ⟨g1, _, none⟩) l1] at p0 p1 p2 p3 p4 p5 p6 p7 p8
      rw [← hbl.cell (p := ⟨g2, _, none⟩) l2] at q0 q1 q2 q3 q4 q5 q6 q7 q8
      clear e1 e2
      generalize L[n] = x at p0 p1 p2 p3 p4 p5 p6 p7 p8 q0 q1 q2 q3 q4 q5 q6 q7 q8
      have eqA := eq_arr8 (x.r 0) (x.r 1) (x.r 2) (x.r 3) (x.r 4) (x.r 5) (x.r 6) (x.r 7)
      go_wp2_with fail
      go_region
      go_wp2
      exact ⟨⟨n + 1, by omega, by go_num, hbl.drew⟩, by simp [intOf]; omega⟩
    · go_wp2
      go_ret
      exact ⟨rfl, hbl⟩
end Go.Proofs.YtamiichlbmllcaaGreatDoor
