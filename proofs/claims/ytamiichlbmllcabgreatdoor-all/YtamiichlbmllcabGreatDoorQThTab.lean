import Derived.Test.YtamiichlbmllcabGreatDoorQChF
import Derived.Test.YtamiichlbmllcabGreatDoorQLawA
import Derived.Test.YtamiichlbmllcabGreatDoorQPrI
import Derived.Test.YtamiichlbmllcabGreatDoorQStA
import Derived.Test.YtamiichlbmllcabGreatDoorQArmW
import Derived.Great.BuildSlice
set_option maxRecDepth 100000
set_option maxHeartbeats 32000000
namespace Go.Proofs.YtamiichlbmllcabGreatDoor
open Go.RowKit
def DList (w : World) (B st et size : Nat) (X : Nat -> List Value) (v : Value) (xs : List Value) : Prop :=
 w.ownsRow B st 1 v xs.length xs /\ xs.length % 4 = 0 /\ ∀ k (h : k < xs.length), ∃ m, m <= 1000 /\ w.ownsRow B et size xs[k] m (List.replicate m (X k)).flatten
theorem own_base {w : World} {B B' e size n : Nat} {v : Value} {xs : List Value} (h : w.ownsRow B e size v n xs) (hB : B' <= B) : w.ownsRow B' e size v n xs := by
 refine ⟨h.1, ?_⟩
 rcases h.2 with h2 | ⟨g, cap, cur, h3, h4, h5⟩
 · exact Or.inl h2
 · exact Or.inr ⟨g, cap, cur, h3, by omega, h5⟩
theorem own_block {w w' : World} {B e size n : Nat} {v : Value} {xs : List Value} (h : w.ownsRow B e size v n xs) (hb : ∀ k, v.ownBlock = some k -> (∃ A, w.heap[k]? = some (.cells A e (0, 0))) -> w'.heap[k]? = w.heap[k]?) : w'.ownsRow B e size v n xs := by
 refine ⟨h.1, ?_⟩
 rcases h.2 with h2 | ⟨g, cap, cur, rfl, h4, hh, h5⟩
 · exact Or.inl h2
 · exact Or.inr ⟨g, cap, cur, rfl, h4, by rw [hb g rfl ⟨cur, hh⟩]; exact hh, h5⟩
structure Fr (w w' : World) (base wb : Nat) (row : Option Nat) : Prop where
 os : w'.os = w.os
 tape : w'.tape = w.tape
 output : w'.output = w.output
 size : w.heap.size <= w'.heap.size
 block : ∀ k, k < base -> k ≠ wb -> some k ≠ row -> w'.heap[k]? = w.heap[k]?
def markC (k : Nat) : List Value := [.int .i64 (mrkI k), .int .i64 0, .int .i64 0, .int .i64 0, .int .i64 0]
def xI (m : Int) : I5 := ⟨m, 0, 0, 0, 0⟩
theorem rep_flat (m : Int) (n : Nat) : (List.replicate n (xI m)).flatMap I5.cells = (List.replicate n [Value.int .i64 m, .int .i64 0, .int .i64 0, .int .i64 0, .int .i64 0]).flatten := by
 rw [List.flatMap_def, List.map_replicate]; rfl
theorem mrkI_same (n k : Nat) (h : n % 4 = 0) (h1 : n <= k) (h2 : k < n + 4) : mrkI k = mrkI n := by unfold mrkI; omega
theorem set_flat (L : List I5) (i : Nat) (x : I5) (hi : i < L.length) :
 (((((L.flatMap I5.cells).set (i * 5) (.int .i64 x.o)).set (i * 5 + 1) (.int .i64 x.a)).set (i * 5 + 2) (.int .i64 x.b)).set (i * 5 + 3) (.int .i64 x.c)).set (i * 5 + 4) (.int .i64 x.k) = (L.set i x).flatMap I5.cells := by
 apply List.ext_getElem?
 intro j
 by_cases hj : j < L.length * 5
 · have hd : j / 5 < L.length := by omega
   have hm : j % 5 < 5 := Nat.mod_lt _ (by omega)
   have hje : j = j / 5 * 5 + j % 5 := by omega
   have r : ((L.set i x).flatMap I5.cells)[j]? = ((L.set i x)[j / 5]'(by simpa using hd)).cells[j % 5]? := by
    have := flat_cells (L.set i x) (j / 5) (j % 5) (by simpa using hd) hm
    rw [<- hje] at this; exact this
   have o : (L.flatMap I5.cells)[j]? = L[j / 5].cells[j % 5]? := by
    have := flat_cells L (j / 5) (j % 5) hd hm
    rw [<- hje] at this; exact this
   have hfl := flat_len5 L
   rw [r]
   simp only [List.getElem?_set, List.length_set]
   by_cases e : j / 5 = i
   · have : j % 5 = 0 \/ j % 5 = 1 \/ j % 5 = 2 \/ j % 5 = 3 \/ j % 5 = 4 := by omega
     rw [List.getElem_set, if_pos e.symm]
     rcases this with h | h | h | h | h <;> rw [h] <;> simp only [I5.cells] <;> repeat (first | rw [if_pos (by omega)] | rw [if_neg (by omega)])
     all_goals rfl
   · rw [List.getElem_set, if_neg (Ne.symm e)]
     repeat rw [if_neg (by omega)]
     exact o
 · rw [List.getElem?_eq_none (by simp only [List.length_set]; rw [flat_len5]; omega), List.getElem?_eq_none (by rw [flat_len5]; simp; omega)]
theorem own_set5 {w : World} {base g n cap : Nat} {L : List I5} (h : OwnI w base (.slice (some ⟨g, 0, none⟩) n cap) L) (hn : n = L.length) (i : Nat) (x : I5) (hi : i < L.length) :
 OwnI (((((w.setCell ⟨g, i * 5, none⟩ (.int .i64 x.o)).setCell ⟨g, i * 5 + 1, none⟩ (.int .i64 x.a)).setCell ⟨g, i * 5 + 2, none⟩ (.int .i64 x.b)).setCell ⟨g, i * 5 + 3, none⟩ (.int .i64 x.c)).setCell ⟨g, i * 5 + 4, none⟩ (.int .i64 x.k)) base (.slice (some ⟨g, 0, none⟩) n cap) (L.set i x) := by
 unfold OwnI at *
 rw [<- set_flat L i x hi, List.length_set]
 subst hn
 exact ((((h.stored _ _).1.stored _ _).1.stored _ _).1.stored _ _).1.stored _ _ |>.1
theorem Tryz.infoSl : (Tryz.prog.info? 36).map (fun i => (i.zero, i.size, i.bytes)) = some (some (.slice none 0 0), 1, 24) := by kernel_rfl
def XC (M : Int) : List Value := [.int .i64 M, .int .i64 0, .int .i64 0, .int .i64 0, .int .i64 0]
def rep (M : Int) (n : Nat) : List Value := (List.replicate n (XC M)).flatten
theorem rep_add (M : Int) (n m : Nat) : rep M n ++ rep M m = rep M (n + m) := by unfold rep; rw [<- List.flatten_append, List.replicate_append_replicate]
theorem rep_one (M : Int) (n : Nat) : ∀ u ∈ rep M n, u.oneCell' = true := by
 intro u hu
 simp only [rep, List.mem_flatten, List.mem_replicate] at hu
 obtain ⟨l, ⟨_, rfl⟩, hu⟩ := hu
 simp [XC] at hu
 rcases hu with rfl | rfl <;> rfl
theorem row_new (w : World) (A : Array Value) (t : TypeId) (g : Nat) (news : List Value) (hg : g = w.heap.size) (hA : A.toList = news) : ∀ j u, news[j]? = some u -> (w.alloc (.cells A t)).cell? ((⟨g, 0, none⟩ : Addr).add j) = some u := by
 subst hg; subst hA
 intro j u hj
 rw [addr_add, Nat.zero_add, cell_of_row _ _ _ _ _ _ (heap_alloc_new w _)]
 simpa using hj
theorem own_len {w : World} {B e size n : Nat} {v : Value} {xs : List Value} (h : w.ownsRow B e size v n xs) : ∃ a c, v = .slice a n c := by
 rcases h.2 with ⟨h1, h2⟩ | ⟨g, cap, cur, h1, _⟩
 · exact ⟨none, 0, by rw [h1, h2]⟩
 · exact ⟨_, _, h1⟩
structure PSt (w wr : World) (base xb : Nat) (M : Int) (vl : Value) (N : Nat) : Prop where
 own : wr.ownsRow base 35 5 vl N (rep M N)
 box : wr.heap[xb]? = some (.cells #[.int .i64 M, .int .i64 0, .int .i64 0, .int .i64 0, .int .i64 0] 35 (0, 0))
 bel : Below base w wr
 hbx : base <= xb
 hne : ∀ k, vl.ownBlock = some k -> k < xb
 hbs : base <= wr.heap.size
theorem PSt.step {w wr w' : World} {base xb : Nat} {M : Int} {vl v' : Value} {N m : Nat} {o : Obj} (h : PSt w wr base xb M vl N) (hown : w'.ownsRow base 35 5 v' (N + m) (rep M N ++ rep M m)) (hg : (wr.alloc o).grownBy w' vl.ownBlock)
 (hS : AppRoom (wr.alloc o) w' vl v' N m) :
 PSt w w' base xb M vl N /\ w'.ownsRow base 35 5 v' (N + m) (rep M (N + m)) /\ ∀ (u : Value) (k : Nat), wr.ownsRow base 35 5 u k (rep M k) -> (u.ownBlock = vl.ownBlock -> k <= N + m) -> w'.ownsRow base 35 5 u k (rep M k) := by
 rw [rep_add] at hown
 have hk : ∀ (u : Value) (k : Nat), wr.ownsRow base 35 5 u k (rep M k) -> (u.ownBlock = vl.ownBlock -> k <= N + m) -> w'.ownsRow base 35 5 u k (rep M k) :=
  fun u k hu hle => keep_same (X := XC M) rfl (World.ownsRow.alloc h.own o) hown hg hS (World.ownsRow.alloc hu o) hle
 have hbx := lt_of_block h.box
 refine ⟨⟨hk vl N h.own (fun _ => by omega), ?_, (h.bel.alloc h.hbs o).grown hg (by have := h.hbs; simp; omega) (fun k hk => (World.ownsRow.lt h.own k hk).1), h.hbx, h.hne, ?_⟩, hown, hk⟩
 · rw [hg.block xb (by simp; omega) (fun e => by have := h.hne xb e.symm; omega), Below.heap_alloc _ _ _ hbx]; exact h.box
 · have h1 := hg.size; have h2 := h.hbs; simp at h1; omega
theorem PSt.cells {w wr : World} {base xb : Nat} {M : Int} {vl : Value} {N : Nat} (h : PSt w wr base xb M vl N) : wr.cell? ⟨xb, 0, none⟩ = some (.int .i64 M) /\ wr.cell? ⟨xb, 1, none⟩ = some (.int .i64 0) /\ wr.cell? ⟨xb, 2, none⟩ = some (.int .i64 0) /\ wr.cell? ⟨xb, 3, none⟩ = some (.int .i64 0) /\ wr.cell? ⟨xb, 4, none⟩ = some (.int .i64 0) := by
 refine ⟨?_, ?_, ?_, ?_, ?_⟩ <;> rw [cell_of_row _ _ _ _ _ _ h.box] <;> rfl
theorem prog_any (wb B base : Nat) (lv vd vv vc vl : Value) (xs : List Value) (L : List I5) (w : World) (hw : w.heap[wb]? = some (.cells #[lv, vd, vv, vc] 50 (0, 0)))
 (hd : DList w B 36 35 5 markC vd xs) (hn : xs.length < 5000000000000) (hl : OwnI w base vl L) (hB : B <= base) (hbs : base <= w.heap.size) (hwb : wb < base) (hvd : ∀ k, vd.ownBlock = some k -> k < base) (hold : ∀ k (h : k < xs.length) b, xs[k].ownBlock = some b -> b < base) (hL : L.length <= 900) :
 Calls Tryz.prog 42 #[.pointer (some ⟨wb, 1, none⟩), vl] w fun e w' => e = .returned (.tuple #[]) /\ ∃ vd' xs', xs'.length = xs.length + 4 /\ w'.heap[wb]? = some (.cells #[lv, vd', vv, vc] 50 (0, 0)) /\ DList w' B 36 35 5 markC vd' xs' /\ Fr w w' base wb vd.ownBlock := by
 obtain ⟨i0, ihi, ih0, ihs, ih2⟩ := info_parts Tryz.infoIns
 obtain ⟨j0, jhi, jh0, jhs, jh2⟩ := info_parts Tryz.infoSl
 have q1 : w.cell? ⟨wb, 1, none⟩ = some vd := by rw [cell_of_row _ _ _ _ _ _ hw]; rfl
 obtain ⟨hd1, hd2, hd3⟩ := hd
 obtain ⟨ad, cd, hvde⟩ : ∃ a c, vd = .slice a xs.length c := by
  rcases hd1.2 with ⟨h, h2⟩ | ⟨g, cap, cur, h, _⟩
  · exact ⟨none, 0, by rw [h, h2]⟩
  · exact ⟨_, _, h⟩
 obtain ⟨al, cl, hvl⟩ := hl.slc.len
 have HVD := hide hvde
 rw [hvde] at q1
 clear hvde
 subst hvl
 go_enter Tryz.func42, Tryz.ntmps42
 go_wp2_with fail
 refine (mark_any _ _ (by omega)).mono ?_
 rintro e w' ⟨rfl, rfl⟩
 obtain ⟨M, hM⟩ : ∃ M, M = mrkI xs.length := ⟨_, rfl⟩
 rw [<- hM]
 have HM := hide hM
 clear hM
 go_wp2_with fail
 generalize hW : w.alloc (.cells #[.int .i64 M, .int .i64 0, .int .i64 0, .int .i64 0, .int .i64 0] 35) = w1
 have hX1 : w1.heap[w.heap.size]? = some (.cells #[.int .i64 M, .int .i64 0, .int .i64 0, .int .i64 0, .int .i64 0] 35 (0, 0)) := by rw [<- hW]; exact heap_alloc_new _ _
 have hb1 : Below base w w1 := by rw [<- hW]; exact (Below.refl _ _).alloc hbs _
 have hl1 : OwnI w1 base (.slice al L.length cl) L := by rw [<- hW]; exact World.ownsRow.alloc hl _
 have hs1 : w.heap.size + 1 <= w1.heap.size := by rw [<- hW]; simp
 have hlt1 : ∀ k, (Value.slice al L.length cl).ownBlock = some k -> k < w.heap.size := fun k hk => (World.ownsRow.lt hl k hk).2
 have HLT := hide hlt1
 clear hW hlt1 hl q1
 go_loopw [5] (fun j wr => ∃ n : Nat, n <= L.length /\ j = .int .i64 n /\ OwnI wr base (.slice al L.length cl) (List.replicate n (xI M) ++ L.drop n) /\ wr.heap[w.heap.size]? = some (.cells #[.int .i64 M, .int .i64 0, .int .i64 0, .int .i64 0, .int .i64 0] 35 (0, 0)) /\ Below base w wr /\ w.heap.size + 1 <= wr.heap.size) (fun j _ => L.length - (intOf j).toNat)
 case atStart => exact ⟨0, by omega, rfl, by simpa using hl1, hX1, hb1, hs1⟩
 case round =>
  clear hl1 hX1 hb1 hs1
  obtain ⟨n, hnl, rfl, hown, hX, hbl, hsz⟩ := hrel
  by_cases hlt : n < L.length
  · have hg : ∃ g, al = some ⟨g, 0, none⟩ /\ base <= g /\ g < wr.heap.size /\ ∀ j, wr.frozen? ⟨g, j, none⟩ = false := by
     rcases hown.2 with ⟨h, h2⟩ | ⟨g, cap, cur, h, hb, hh, _⟩
     · simp at h2; omega
     · simp only [Value.slice.injEq] at h
       exact ⟨g, h.1, hb, lt_of_block hh, fun j => by simp [World.frozen?, hh]⟩
    obtain ⟨g, rfl, hbg, hgl, hfz⟩ := hg
    have hgx : g < w.heap.size := HLT.out g rfl
    have x0 : wr.cell? ⟨w.heap.size, 0, none⟩ = some (.int .i64 M) := by rw [cell_of_row _ _ _ _ _ _ hX]; rfl
    have x1 : wr.cell? ⟨w.heap.size, 1, none⟩ = some (.int .i64 0) := by rw [cell_of_row _ _ _ _ _ _ hX]; rfl
    have x2 : wr.cell? ⟨w.heap.size, 2, none⟩ = some (.int .i64 0) := by rw [cell_of_row _ _ _ _ _ _ hX]; rfl
    have x3 : wr.cell? ⟨w.heap.size, 3, none⟩ = some (.int .i64 0) := by rw [cell_of_row _ _ _ _ _ _ hX]; rfl
    have x4 : wr.cell? ⟨w.heap.size, 4, none⟩ = some (.int .i64 0) := by rw [cell_of_row _ _ _ _ _ _ hX]; rfl
    have hlen : (List.replicate n (xI M) ++ L.drop n).length = L.length := by simp; omega
    obtain ⟨y, c0, c1, c2, c3, c4⟩ : ∃ y : I5, InsAt wr g (n * 5) y := by
     refine ⟨(List.replicate n (xI M) ++ L.drop n)[n]'(by omega), ?_⟩
     rcases hown.slc with ⟨_, h⟩ | ⟨b', off', cap', h, _, hii⟩
     · rw [h] at hlen; simp at hlen; omega
     · simp only [Value.slice.injEq, Option.some.injEq, Addr.mk.injEq, and_true] at h
       obtain ⟨⟨rfl, rfl⟩, _⟩ := h
       have := hii n (by omega)
       rw [Nat.zero_add] at this
       exact this
    have f0 := hfz (n * 5)
    have f1 := hfz (n * 5 + 1)
    have f2 := hfz (n * 5 + 2)
    have f3 := hfz (n * 5 + 3)
    have f4 := hfz (n * 5 + 4)
    have HO := hide (own_set5 hown hlen.symm n (xI M) (by omega))
    have hset : (List.replicate n (xI M) ++ L.drop n).set n (xI M) = List.replicate (n + 1) (xI M) ++ L.drop (n + 1) := by
     rw [List.set_append_right _ _ (by simp), List.length_replicate, Nat.sub_self, List.drop_eq_getElem_cons hlt, List.set_cons_zero, List.replicate_succ', List.append_assoc]; rfl
    rw [hset] at HO
    have HB := hide (below_set5 hbl hbg (n * 5) (n * 5 + 1) (n * 5 + 2) (n * 5 + 3) (n * 5 + 4) (.int .i64 M) (.int .i64 0) (.int .i64 0) (.int .i64 0) (.int .i64 0))
    clear hfz hlen hset hown
    go_wp2
    go_roundw
    case rel =>
     refine ⟨n + 1, by omega, by go_num, HO.out, ?_, HB.out, by simpa using hsz⟩
     rw [Below.heap_setCell _ _ _ _ (by simp; omega), Below.heap_setCell _ _ _ _ (by simp; omega), Below.heap_setCell _ _ _ _ (by simp; omega), Below.heap_setCell _ _ _ _ (by simp; omega), Below.heap_setCell _ _ _ _ (by simp; omega)]; exact hX
    case measure => simp [intOf]; omega
  · have P0 : PSt w wr base w.heap.size M (.slice al L.length cl) L.length := by
     refine ⟨?_, hX, hbl, hbs, HLT.out, by omega⟩
     have en : n = L.length := by omega
     subst en
     have := hown
     unfold OwnI at this
     rw [List.drop_length, List.append_nil, rep_flat, List.length_replicate] at this
     exact this
    clear hown hX hbl
    obtain ⟨x0, x1, x2, x3, x4⟩ := P0.cells
    have hbs0 := P0.hbs
    go_wp2_with (at_builtin; go_must (refine wpList_append_strong _ rfl (.tmp 26) (.tmp 28) 36 rfl base 35 i0 _ 5 40 Tryz.underlying36 ihi ih0 ihs ih2 rfl (by decide) (.slice al L.length cl) L.length (rep M L.length) rfl ?o1 ⟨wr.heap.size, 0, none⟩ 1 1 (rep M 1) rfl rfl ?n1 (rep_one M 1) (by omega) ?m1 ?b1 ?s1 ?_))
    case o1 => exact World.ownsRow.alloc P0.own _
    case n1 => exact row_new _ _ _ _ _ rfl rfl
    case m1 => unfold maxLen; omega
    case b1 => omega
    case s1 => simp; omega
    intro va wa hva hga hSa
    obtain ⟨P1, oa, _⟩ := P0.step hva hga hSa
    obtain ⟨aa, ca, rfl⟩ := own_len oa
    clear hva hga hSa P0 x0 x1 x2 x3 x4 hbs0
    obtain ⟨x0, x1, x2, x3, x4⟩ := P1.cells
    have hbs1 := P1.hbs
    go_wp2_with (at_builtin; go_must (refine wpList_append_strong _ rfl (.tmp 30) (.tmp 33) 36 rfl base 35 i0 _ 5 40 Tryz.underlying36 ihi ih0 ihs ih2 rfl (by decide) (.slice al L.length cl) L.length (rep M L.length) rfl ?o2 ⟨wa.heap.size, 0, none⟩ 2 2 (rep M 2) rfl rfl ?n2 (rep_one M 2) (by omega) ?m2 ?b2 ?s2 ?_))
    case o2 => exact World.ownsRow.alloc P1.own _
    case n2 => exact row_new _ _ _ _ _ rfl rfl
    case m2 => unfold maxLen; omega
    case b2 => omega
    case s2 => simp; omega
    intro vb wb2 hvb hgb hSb
    obtain ⟨P2, ob, kb⟩ := P1.step hvb hgb hSb
    obtain ⟨ab, cb, rfl⟩ := own_len ob
    have oa := kb _ (L.length + 1) oa (fun _ => by omega)
    clear hvb hgb hSb P1 x0 x1 x2 x3 x4 hbs1 kb
    obtain ⟨x0, x1, x2, x3, x4⟩ := P2.cells
    have hbs2 := P2.hbs
    go_wp2_with (at_builtin; go_must (refine wpList_append_strong _ rfl (.tmp 35) (.tmp 39) 36 rfl base 35 i0 _ 5 40 Tryz.underlying36 ihi ih0 ihs ih2 rfl (by decide) (.slice al L.length cl) L.length (rep M L.length) rfl ?o3 ⟨wb2.heap.size, 0, none⟩ 3 3 (rep M 3) rfl rfl ?n3 (rep_one M 3) (by omega) ?m3 ?b3 ?s3 ?_))
    case o3 => exact World.ownsRow.alloc P2.own _
    case n3 => exact row_new _ _ _ _ _ rfl rfl
    case m3 => unfold maxLen; omega
    case b3 => omega
    case s3 => simp; omega
    intro vc3 wc hvc hgc hSc
    obtain ⟨P3, oc, kc⟩ := P2.step hvc hgc hSc
    obtain ⟨ac, cc, rfl⟩ := own_len oc
    have oa := kc _ (L.length + 1) oa (fun _ => by omega)
    have ob := kc _ (L.length + 2) ob (fun _ => by omega)
    clear hvc hgc hSc P2 x0 x1 x2 x3 x4 hbs2 kc
    have hbs3 := P3.hbs
    have hwc : wc.heap[wb]? = some (.cells #[lv, vd, vv, vc] 50 (0, 0)) := by rw [P3.bel.block wb hwb]; exact hw
    have hwlt := lt_of_block hwc
    have q1 : wc.cell? ⟨wb, 1, none⟩ = some (.slice ad xs.length cd) := by rw [cell_of_row _ _ _ _ _ _ hwc, <- HVD.out]; rfl
    have fz : wc.frozen? ⟨wb, 1, none⟩ = false := by simp [World.frozen?, hwc]
    have hdc : wc.ownsRow B 36 1 (.slice ad xs.length cd) xs.length xs := by
     rw [<- HVD.out]; exact own_block hd1 (fun k hk _ => P3.bel.block k (hvd k hk))
    go_wp2_with (at_builtin; go_must (refine wpList_append_own _ rfl (.tmp 45) (.tmp 50) 44 rfl B 36 j0 _ 1 24 Tryz.underlying44 jhi jh0 jhs jh2 rfl (by decide) (.slice ad xs.length cd) xs.length xs rfl ?o4 ⟨wc.heap.size, 0, none⟩ 4 4 [.slice al L.length cl, .slice aa (L.length + 1) ca, .slice ab (L.length + 2) cb, .slice ac (L.length + 3) cc] rfl rfl ?n4 ?u4 ?m4 ?b4 ?s4 ?_))
    case o4 => exact World.ownsRow.alloc hdc _
    case n4 => exact row_new _ _ _ _ _ rfl rfl
    case u4 => intro u hu; simp at hu; rcases hu with rfl | rfl | rfl | rfl <;> rfl
    case m4 => unfold maxLen; omega
    case b4 => omega
    case s4 => simp; omega
    intro vd' wd hvd' hgd' _
    obtain ⟨ad', cd', rfl⟩ := own_len hvd'
    have hneb : ∀ (k : Nat) (A : Array Value), wc.heap[k]? = some (Obj.cells A 35 (0, 0)) -> wd.heap[k]? = wc.heap[k]? := by
     intro k A hk
     have hlt := lt_of_block hk
     rw [hgd'.block k (by simp; omega) ?_, Below.heap_alloc _ _ _ hlt]
     intro hx
     rcases hdc.2 with ⟨h, _⟩ | ⟨g, cap, cur, h, _, hh, _⟩
     · rw [h] at hx; cases hx
     · rw [h] at hx
       simp [Value.ownBlock] at hx
       subst hx
       rw [hk] at hh; simp at hh
    have hwd : wd.heap[wb]? = some (.cells #[lv, vd, vv, vc] 50 (0, 0)) := by
     rw [hgd'.block wb (by simp; omega) ?_, Below.heap_alloc _ _ _ hwlt]
     · exact hwc
     · intro hx
       rcases hdc.2 with ⟨h, _⟩ | ⟨g, cap, cur, h, _, hh, _⟩
       · rw [h] at hx; cases hx
       · rw [h] at hx
         simp [Value.ownBlock] at hx
         subst hx
         rw [hwc] at hh; simp at hh
    have q2 : wd.cell? ⟨wb, 1, none⟩ = some vd := by rw [cell_of_row _ _ _ _ _ _ hwd]; rfl
    have fz2 : wd.frozen? ⟨wb, 1, none⟩ = false := by simp [World.frozen?, hwd]
    have hsd := hgd'.size
    simp at hsd
    clear q1 fz
    have HN := hide hneb
    have HP3 := hide P3
    clear hneb P3
    go_wp2
    go_end0
    have P3 := HP3.out
    have keep : ∀ (k : Nat) (A : Array Value), wc.heap[k]? = some (Obj.cells A 35 (0, 0)) -> (wd.setCell ⟨wb, 1, none⟩ (.slice ad' (xs.length + 4) cd')).heap[k]? = wc.heap[k]? := by
     intro k A hk
     rw [Below.heap_setCell _ _ _ _ (fun e => by simp at e; subst e; rw [hwc] at hk; simp at hk)]
     exact HN.out k A hk
    have kl : ∀ (u : Value) (m : Nat), wc.ownsRow base 35 5 u m (rep M m) -> (wd.setCell ⟨wb, 1, none⟩ (.slice ad' (xs.length + 4) cd')).ownsRow B 35 5 u m (rep M m) := fun u m hu =>
     own_base (own_block hu (fun k _ ⟨A, hA⟩ => keep k A hA)) hB
    refine ⟨rfl, .slice ad' (xs.length + 4) cd', xs ++ [.slice al L.length cl, .slice aa (L.length + 1) ca, .slice ab (L.length + 2) cb, .slice ac (L.length + 3) cc], by simp, ?_, ⟨?_, ?_, ?_⟩, ?_⟩
    · rw [set_block hwd]; rfl
    · rw [List.length_append]
      refine own_block hvd' (fun k hk ⟨A, hA⟩ => Below.heap_setCell _ _ _ _ (fun e => ?_))
      simp at e
      subst e
      rw [hwd] at hA; simp at hA
    · simp; omega
    · intro k hk
      by_cases hk2 : k < xs.length
      · obtain ⟨m, hm, ho⟩ := hd3 k hk2
        refine ⟨m, hm, ?_⟩
        rw [List.getElem_append_left hk2]
        exact own_block ho (fun b hb ⟨A, hA⟩ => (keep b A (by rw [P3.bel.block b (hold k hk2 b hb)]; exact hA)).trans (P3.bel.block b (hold k hk2 b hb)))
      · have hmk : markC k = XC M := by
         have := mrkI_same xs.length k hd2 (by omega) (by simp at hk; omega)
         unfold markC XC; rw [this, HM.out]
        rw [hmk]
        simp at hk
        have : k = xs.length \/ k = xs.length + 1 \/ k = xs.length + 2 \/ k = xs.length + 3 := by omega
        rcases this with rfl | rfl | rfl | rfl
        · refine ⟨L.length, by omega, ?_⟩
          rw [List.getElem_append_right (by omega)]
          simpa [rep] using kl _ _ P3.own
        · refine ⟨L.length + 1, by omega, ?_⟩
          rw [List.getElem_append_right (by omega)]
          simpa [rep] using kl _ _ oa
        · refine ⟨L.length + 2, by omega, ?_⟩
          rw [List.getElem_append_right (by omega)]
          simpa [rep] using kl _ _ ob
        · refine ⟨L.length + 3, by omega, ?_⟩
          rw [List.getElem_append_right (by omega)]
          simpa [rep] using kl _ _ oc
    · refine ⟨hgd'.os.trans P3.bel.os, hgd'.tape.trans P3.bel.tape, hgd'.output.trans P3.bel.output, ?_, fun k hk1 hk2 hk3 => ?_⟩
      · have := P3.bel.size; simp [World.setCell]; omega
      · rw [Below.heap_setCell _ _ _ _ (by exact hk2), hgd'.block k (by simp; omega) (by rw [<- HVD.out]; exact hk3), Below.heap_alloc _ _ _ (by omega)]
        exact P3.bel.block k hk1
structure TRec where
 t : Nat
 pv : Value
 l : List I5
 e : St
def tdC (t : Nat) (pv : Value) (s : St) : Array Value := #[.pointer (some ⟨t, 0, none⟩), pv, .int .i64 (s 0).lo, .int .i64 (s 0).hi, .int .i64 (s 1).lo, .int .i64 (s 1).hi, .int .i64 (s 2).lo, .int .i64 (s 2).hi, .int .i64 (s 3).lo, .int .i64 (s 3).hi, .int .i64 (s 4).lo, .int .i64 (s 4).hi, .int .i64 (s 5).lo, .int .i64 (s 5).hi, .int .i64 (s 6).lo, .int .i64 (s 6).hi, .int .i64 (s 7).lo, .int .i64 (s 7).hi]
def TRec.arr (x : TRec) : Array Value := tdC x.t x.pv x.e
def TRec.cells (x : TRec) : List Value := x.arr.toList
theorem TRec.len (x : TRec) : x.cells.length = 18 := rfl
theorem td_st (t : Nat) (pv : Value) (s : St) : (tdC t pv s).extract 2 (2 + 16) = stC s := by kernel_rfl
structure TOk (w : World) (B : Nat) (x : TRec) : Prop where
 th : ThreadAt w x.t x.l x.e B
 own : w.ownsRow B 35 5 x.pv x.l.length (x.l.flatMap I5.cells)
 right : rightR x.l = (0, 0)
 tk : ∃ cl, Taken x.l cl x.e
def TInv (w : World) (B : Nat) (lv : Value) (ts : List TRec) : Prop := w.ownsRow B 113 18 lv ts.length (ts.flatMap TRec.cells) /\ ∀ x, x ∈ ts -> TOk w B x
theorem ProgAt.keep {w w' : World} {pb : Nat} {vf : I5 -> Value} {l : List I5} (h : ProgAt w pb vf l) (hz : w.heap.size <= w'.heap.size) (hb : w'.heap[pb]? = w.heap[pb]?) : ProgAt w' pb vf l :=
 ⟨Nat.lt_of_lt_of_le h.1 hz, fun i hi => (World.cell?_of_block (w := w) (a := ⟨pb, i, none⟩) hb).trans (h.2 i hi)⟩
theorem TOk.keep {w w' : World} {B : Nat} {x : TRec} (h : TOk w B x) (hz : w.heap.size <= w'.heap.size) (hb : ∀ (k : Nat) (A : Array Value) (t : TypeId), t = 62 \/ t = 74 \/ t = 35 -> w.heap[k]? = some (.cells A t (0, 0)) -> w'.heap[k]? = w.heap[k]?) : TOk w' B x := by
 obtain ⟨⟨⟨pb, cap, h1, h2, h3, h4, A, h5⟩, h6⟩, ho, hr, ht⟩ := h
 refine ⟨⟨⟨pb, cap, ?_, h2.keep hz (hb pb A _ (Or.inr (Or.inl rfl)) h5), h3, h4, A, ?_⟩, h6⟩, own_block ho (fun k _ ⟨A, hA⟩ => hb k A _ (Or.inr (Or.inr rfl)) hA), hr, ht⟩
 · unfold At at h1 ⊢; rw [hb _ _ _ (Or.inl rfl) h1, h1]
 · unfold At at h5 ⊢; rw [hb _ _ _ (Or.inr (Or.inl rfl)) h5, h5]
theorem TInv.keep {w w' : World} {B : Nat} {lv : Value} {ts : List TRec} (h : TInv w B lv ts) (hz : w.heap.size <= w'.heap.size) (hb : ∀ (k : Nat) (A : Array Value) (t : TypeId), t = 62 \/ t = 74 \/ t = 35 \/ t = 113 -> w.heap[k]? = some (.cells A t (0, 0)) -> w'.heap[k]? = w.heap[k]?) : TInv w' B lv ts :=
 ⟨own_block h.1 (fun k _ ⟨A, hA⟩ => hb k A _ (Or.inr (Or.inr (Or.inr rfl))) hA), fun x hx => (h.2 x hx).keep hz (fun k A t ht hA => hb k A t (by rcases ht with h | h | h; exact Or.inl h; exact Or.inr (Or.inl h); exact Or.inr (Or.inr (Or.inl h))) hA)⟩
theorem TInv.below {w w' : World} {B : Nat} {lv : Value} {ts : List TRec} (h : TInv w B lv ts) (hb : Below w.heap.size w w') : TInv w' B lv ts := h.keep hb.size (fun k _ _ _ hA => hb.block k (lt_of_block hA))
theorem TInv.len {w : World} {B : Nat} {lv : Value} {ts : List TRec} (h : TInv w B lv ts) : ∃ a c, lv = .slice a ts.length c := own_len h.1
theorem flatT_get (ts : List TRec) (i j : Nat) (hi : i < ts.length) (hj : j < 18) : (ts.flatMap TRec.cells)[i * 18 + j]? = (ts[i]).cells[j]? := by
 induction ts generalizing i with
 | nil => simp at hi
 | cons x r ih =>
   rw [List.flatMap_cons]
   cases i with
   | zero => rw [Nat.zero_mul, Nat.zero_add, List.getElem?_append_left (by rw [TRec.len]; exact hj)]; rfl
   | succ k =>
     rw [List.getElem?_append_right (by rw [TRec.len]; omega), TRec.len, show (k + 1) * 18 + j - 18 = k * 18 + j by omega]
     exact ih k (by simpa using hi)
theorem TInv.at {w : World} {B : Nat} {lv : Value} {ts : List TRec} (h : TInv w B lv ts) {i : Nat} (hi : i < ts.length) : ∃ g c, lv = .slice (some ⟨g, 0, none⟩) ts.length c /\ g < w.heap.size /\ w.rangeAt g (i * 18) (ts[i]).cells := by
 rcases h.1.2 with ⟨h0, h1⟩ | ⟨g, cap, cur, hv, _, hg, _, _, _, ht⟩
 · omega
 · refine ⟨g, cap, hv, lt_of_block hg, fun j u hj => ?_⟩
   have hj18 : j < 18 := by have := (List.getElem?_eq_some_iff.1 hj).1; rw [TRec.len] at this; exact this
   have e := flatT_get ts i j hi hj18
   rw [<- ht, List.getElem?_take, if_pos (by omega), Array.getElem?_toList] at e
   rw [cell_of_row _ _ _ _ _ _ hg, e]
   exact hj
theorem backC2 (cl : List C2) (v hv : Value) (base : Nat) (w0 w : World) (hl : LentC w base v hv cl) (ha : ArgC w0 v cl) (h0 : w0.heap.size <= base) (hbl : Below w0.heap.size w0 w) (hlen : cl.length * 136 <= 140737488351232) :
 Calls Tryz.prog 49 #[hv, v] w fun e w' => e = .returned (.bool true) /\ Below base w w' /\ ∀ k, k < w.heap.size -> some k ≠ hv.ownBlock -> w'.heap[k]? = w.heap[k]? := by
 rcases hl with ⟨rfl, rfl, rfl⟩ | ⟨a, c, g, rfl, rfl, hbg, hat⟩
 · refine (backC_nil _ w).mono ?_
   rintro e w' ⟨rfl, rfl⟩
   exact ⟨rfl, Below.refl _ _, fun _ _ _ => rfl⟩
 · refine (backC_some cl a c g base w hbg hat (fun hp => ?_) hlen).mono ?_
   · rcases ha.1 with ⟨_, rfl⟩ | ⟨b, off, cap, hv, hb, hi⟩
     · simp at hp
     · simp only [Value.slice.injEq, Option.some.injEq] at hv
       obtain ⟨rfl, _, _⟩ := hv
       refine ⟨b, off, rfl, by omega, fun i h j u hj => ?_⟩
       rw [hbl.cell (p := ⟨b, _, none⟩) hb]; exact hi i h j u hj
   · rintro e w' ⟨rfl, hm⟩
     exact ⟨rfl, ⟨hm.os, hm.tape, hm.output, hm.size, fun k hk => hm.block k (by have := lt_of_block hat; omega) (by simp; omega)⟩, fun k hk hne => hm.block k hk (by simp only [List.mem_cons, List.not_mem_nil, or_false]; intro e; exact hne (by rw [e]; rfl))⟩
def okT2 (ops : Array Oper) (F : Nat -> Bool) : OT -> Array Bool -> Bool
 | .nil, listed => (Region.ready .any ops listed).isEmpty
 | .op i r, listed => (match ops[i]? with
    | some o => if stillOp o then (Region.ready .any ops listed == [i]) || Region.free .any ops listed i && (Region.ready .any ops listed).contains i && ((List.range ops.size).all fun j => j == i || listed.getD j true || F j || match ops[j]? with
       | some oj => oj.after.any (fun e => Region.binds .any e && e.on == i)
       | none => true) else Region.ready .any ops listed == [i]
    | none => false) && okT2 ops F r (listed.setIfInBounds i true)
 | .either i j r s, listed => Region.ready .any ops listed == [i, j] && (match ops[i]?, ops[j]? with
    | some o, some o' => !stillOp o && !stillOp o'
    | _, _ => false) && okT2 ops F r (listed.setIfInBounds i true) && okT2 ops F s (listed.setIfInBounds j true)
theorem wpT_sound2 {P : Program} {l : List Oper} {Q : Exit -> Act -> World -> Prop} {F : Nat -> Bool} {S : World -> Prop} (hsel : Region.noSelect l.toArray = true) : ∀ (t : OT) (fuel : Nat) (listed : Array Bool) (a : Act) (w : World), t.size <= fuel -> okT2 l.toArray F t listed = true ->
 wpT P l Q F S t a w -> wpAnyJ P l.toArray (NoPanic Q) F S fuel listed a w := by
 intro t
 induction t with
 | nil =>
   intro fuel listed a w _ hv h
   have hr : Region.ready .any l.toArray listed = [] := by simpa [okT2] using hv
   cases fuel with
   | zero => exact ⟨hr, NoPanic.normal h⟩
   | succ fuel => exact ⟨fun _ => NoPanic.normal h, by rw [hr]; simp⟩
 | op i r ih =>
   intro fuel listed a w hf hv h
   cases fuel with
   | zero => simp [OT.size] at hf
   | succ fuel =>
     simp only [okT2, Bool.and_eq_true] at hv
     obtain ⟨hv1, hv2⟩ := hv
     have hl : l.toArray[i]? = nthO i l := by rw [nthO_eq]; simp
     rw [hl] at hv1
     obtain ⟨o, ho, h⟩ := h
     rw [ho] at hv1 hl
     by_cases hst : stillOp o = true
     · simp only [hst, if_true, Bool.or_eq_true] at hv1 h
       obtain ⟨hS, v, hy, h⟩ := h
       rcases hv1 with hv1 | hv1
       · have hr : Region.ready .any l.toArray listed = [i] := by simpa using hv1
         refine ⟨fun h0 => (by rw [hr] at h0; cases h0), fun k hk => ?_⟩
         rw [hr] at hk
         simp at hk
         subst hk
         exact hy.wpOp hl hS ⟨fun _ => hS, ih fuel _ _ w (by simp [OT.size] at hf; omega) hv2 h⟩
       simp only [Bool.and_eq_true] at hv1
       obtain ⟨⟨hfree, hrd⟩, hall⟩ := hv1
       refine wpAnyJ_first hl (Region.noSelect_spec hsel) (fun _ _ _ h => h.elim) fuel listed a w ?_ (by simpa using hrd) hy hS (ih fuel _ _ w (by simp [OT.size] at hf; omega) hv2 h)
       intro j oj hj hne hun hno
       refine ⟨Region.free_spec hl hfree j oj hj hne hun hno, ?_⟩
       rw [List.all_eq_true] at hall
       have := hall j (List.mem_range.2 (Array.getElem?_eq_some_iff.1 hj).1)
       simp only [hj, Bool.or_eq_true, beq_iff_eq, hne, false_or, hun, Bool.false_eq_true] at this
       rcases this with h1 | h1
       · exact h1
       · obtain ⟨e, he, hb⟩ := Array.any_eq_true'.1 h1
         simp only [Bool.and_eq_true, beq_iff_eq] at hb
         exact absurd hb.2 (hno e he hb.1)
     · simp only [hst, Bool.false_eq_true, if_false] at hv1 h
       have hr : Region.ready .any l.toArray listed = [i] := by simpa using hv1
       refine ⟨fun h0 => (by rw [hr] at h0; cases h0), fun k hk => ?_⟩
       rw [hr] at hk
       simp at hk
       subst hk
       unfold wpOp
       simp only [hl]
       by_cases hw : Region.wanted o (yielded l.toArray a.tmps) = true
       · simp only [hw, if_true] at h ⊢
         refine Or.inl (Oper.wp_mono ?_ h)
         rintro a' w' ⟨h1, h2⟩
         exact ⟨h1, ih fuel _ a' w' (by simp [OT.size] at hf; omega) hv2 h2⟩
       · simp only [hw, Bool.false_eq_true, if_false] at h ⊢
         exact ⟨h.1, ih fuel _ _ w (by simp [OT.size] at hf; omega) hv2 h.2⟩
 | either i j r s ihr ihs =>
   intro fuel listed a w hf hv h
   cases fuel with
   | zero => simp [OT.size] at hf
   | succ fuel =>
     simp only [okT2, Bool.and_eq_true] at hv
     obtain ⟨⟨⟨hv1, _⟩, hv2⟩, hv3⟩ := hv
     have hr : Region.ready .any l.toArray listed = [i, j] := by simpa using hv1
     obtain ⟨⟨o, ho, hw, h1⟩, o', ho', hw', h2⟩ := h
     simp only [OT.size] at hf
     refine ⟨fun h0 => (by rw [hr] at h0; cases h0), fun k hk => ?_⟩
     rw [hr] at hk
     simp at hk
     rcases hk with rfl | rfl
     · have hl : l.toArray[k]? = some o := by rw [<- ho, nthO_eq]; simp
       unfold wpOp
       simp only [hl, hw, if_true]
       refine Or.inl (Oper.wp_mono ?_ h1)
       rintro a' w' ⟨h3, h4⟩
       exact ⟨h3, ihr fuel _ a' w' (by omega) hv2 h4⟩
     · have hl : l.toArray[k]? = some o' := by rw [<- ho', nthO_eq]; simp
       unfold wpOp
       simp only [hl, hw', if_true]
       refine Or.inl (Oper.wp_mono ?_ h2)
       rintro a' w' ⟨h3, h4⟩
       exact ⟨h3, ihs fuel _ a' w' (by omega) hv3 h4⟩
theorem wp_regT2 {P : Program} {id : Nat} {l : List Oper} {Q : Exit -> Act -> World -> Prop} {a : Act} {w : World} (t : OT) (F : Nat -> Bool) (S : World -> Prop) (hm : P.follows .mixedOrders = true) (hn : t.size <= l.length) (hsel : Region.noSelect l.toArray = true)
 (hv : okT2 l.toArray F t (Array.replicate l.length false) = true) (h : wpT P l Q F S t a w.drew) : (Code.region id l.toArray true).wp P Q a w := by
 refine wp_region_noPanic (wp_region_any hm (wpAny_ofJ (F := F) (S := S) _ _ _ _ ?_))
 have := wpT_sound2 (P := P) (Q := Q) (F := F) (S := S) hsel t l.toArray.size (Array.replicate l.length false) a w.drew (by simpa using hn) hv h
 simpa using this
theorem fOp1 : FldT Tryz.prog 53 1 1 := ⟨⟨_, _, Tryz.underlying53, rfl, rfl, fun _ _ _ => by kernel_rfl⟩⟩
theorem fOp3 : FldT Tryz.prog 53 3 3 := ⟨⟨_, _, Tryz.underlying53, rfl, rfl, fun _ _ _ => by kernel_rfl⟩⟩
theorem fOp5 : FldT Tryz.prog 53 5 5 := ⟨⟨_, _, Tryz.underlying53, rfl, rfl, fun _ _ _ => by kernel_rfl⟩⟩
theorem fW0 : FldT Tryz.prog 50 0 0 := ⟨⟨_, _, Tryz.underlying50, rfl, rfl, fun _ _ _ => by kernel_rfl⟩⟩
theorem o1Ths : OneT Tryz.prog 43 := ⟨⟨_, Tryz.underlying43, rfl⟩, by kernel_rfl⟩
theorem o1Tp : OneT Tryz.prog 30 := ⟨⟨_, Tryz.underlying30, rfl⟩, by kernel_rfl⟩
theorem rTd : RowT Tryz.prog 113 18 := ⟨⟨_, Tryz.underlying113, rfl⟩, by kernel_rfl⟩
theorem sTd : SlcT Tryz.prog 43 18 := ⟨⟨_, Tryz.underlying43, by kernel_rfl⟩⟩
def zTd : Array Value := #[.pointer none, .slice none 0 0, .int .i64 0, .int .i64 0, .int .i64 0, .int .i64 0, .int .i64 0, .int .i64 0, .int .i64 0, .int .i64 0, .int .i64 0, .int .i64 0, .int .i64 0, .int .i64 0, .int .i64 0, .int .i64 0, .int .i64 0, .int .i64 0]
theorem zeroTd : (Tryz.prog.info? 113).map (·.zero) = some (some (.agg zTd)) := by kernel_rfl
section
variable {l : List Oper} {Q : Exit -> Act -> World -> Prop} {F : Nat -> Bool} {S : World -> Prop} {i : Nat} {r : OT} {a : Act} {w w0 : World} {M : List Nat} {L L' : RowL} {d : Option Tmp} {x y : Operand} {t tt ty : TypeId} {pos : String} {aft : Array Edge} {g : Option (Nat × Bool)} {b j n k f : Nat} {A A' cs : Array Value} {v : Value} {ops : Array Oper} {rest : List Oper}
theorem sFieldY (hT : FldT Tryz.prog ty f k) (hk : S w) (h : wpT Tryz.prog l Q F S r (a.put d (.pointer (some ⟨b, k, none⟩))) w) (ho : nthO i l = some ⟨d, .fieldAddr ty x f, tt, pos, aft, g⟩ := by rfl) (hw : Region.wanted ⟨d, .fieldAddr ty x f, tt, pos, aft, g⟩ (yielded l.toArray a.tmps) = true := by rfl) (hx : a.eval x = .pointer (some ⟨b, 0, none⟩) := by rfl) : wpT Tryz.prog l Q F S (.op i r) a w := tField0 ho hw hk hx hT h
theorem sOldY (hT : OneT Tryz.prog ty) (hk : Kn M w0 w L) (h : wpT Tryz.prog l Q F (fun wx => Kn M w0 wx L) r (a.put d v) w) (ho : nthO i l = some ⟨d, .load ty x, tt, pos, aft, g⟩ := by rfl) (hw : Region.wanted ⟨d, .load ty x, tt, pos, aft, g⟩ (yielded l.toArray a.tmps) = true := by rfl) (hx : a.eval x = .pointer (some ⟨b, j, none⟩) := by rfl) (hat : At w0 b A t := by assumption) (hM : b ∉ M := by first | exact List.not_mem_nil | assumption) (hv : A[j]? = some v := by rfl) : wpT Tryz.prog l Q F (fun wx => Kn M w0 wx L) (.op i r) a w := tOld1 ho hw hk hx hat hM hT hv h
theorem wOldY (hT : OneT Tryz.prog ty) (hk : Kn M w0 w L) (h : wpList Tryz.prog ops Q rest (a.put d v) w) (hw : Region.wanted ⟨d, .load ty x, tt, pos, aft, g⟩ (yielded ops a.tmps) = true := by rfl) (hx : a.eval x = .pointer (some ⟨b, j, none⟩) := by rfl) (hat : At w0 b A t := by assumption) (hM : b ∉ M := by first | exact List.not_mem_nil | assumption) (hv : A[j]? = some v := by rfl) : wpList Tryz.prog ops Q (⟨d, .load ty x, tt, pos, aft, g⟩ :: rest) a w := wl1 hw (oOld1 hx hk hat hM hT hv h)
theorem wLoadY (hT : OneT Tryz.prog ty) (hk : Kn M w0 w L) (h : wpList Tryz.prog ops Q rest (a.put d v) w) (hw : Region.wanted ⟨d, .load ty x, tt, pos, aft, g⟩ (yielded ops a.tmps) = true := by rfl) (hx : a.eval x = .pointer (some ⟨b, j, none⟩) := by rfl) (hm : (b, A, t) ∈ L := by with_reducible repeat (first | exact List.mem_cons_self | apply List.mem_cons_of_mem)) (hv : A[j]? = some v := by rfl) : wpList Tryz.prog ops Q (⟨d, .load ty x, tt, pos, aft, g⟩ :: rest) a w := wl1 hw (oLoad1 hx hk hm hT hv h)
theorem sOldGY (hT : RowT Tryz.prog ty n) (hk : Kn M w0 w L) (h : wpT Tryz.prog l Q F (fun wx => Kn M w0 wx L) r (a.put d (.agg cs)) w) (hc : w0.rangeAt b j cs.toList) (hb : b < w0.heap.size) (hM : b ∉ M) (ho : nthO i l = some ⟨d, .load ty x, tt, pos, aft, g⟩ := by rfl) (hw : Region.wanted ⟨d, .load ty x, tt, pos, aft, g⟩ (yielded l.toArray a.tmps) = true := by rfl) (hx : a.eval x = .pointer (some ⟨b, j, none⟩) := by rfl) (hn : cs.size = n := by rfl) : wpT Tryz.prog l Q F (fun wx => Kn M w0 wx L) (.op i r) a w := tLoadOldR ho hw hk hx hc hb hM hT hn h
theorem sAllocY {z : Array Value} (hz : (Tryz.prog.info? ty).map (·.zero) = some (some (.agg z))) (hk : Kn M w0 w L) (h : ∀ w1, Kn M w0 w1 ((w.heap.size, z, ty) :: L) -> (F i = true -> S w1) /\ wpT Tryz.prog l Q F S r (a.put d (.pointer (some ⟨w.heap.size, 0, none⟩))) w1) (ho : nthO i l = some ⟨d, .alloc ty, tt, pos, aft, g⟩ := by rfl) (hw : Region.wanted ⟨d, .alloc ty, tt, pos, aft, g⟩ (yielded l.toArray a.tmps) = true := by rfl) : wpT Tryz.prog l Q F S (.op i r) a w := tAct ho rfl hw (oAllocR hz hk h)
theorem sStoreY (hT : RowT Tryz.prog ty n) (hk : Kn M w0 w L) (h : ∀ w1, Kn M w0 w1 L' -> (F i = true -> S w1) /\ wpT Tryz.prog l Q F S r (a.put d undef) w1) (ho : nthO i l = some ⟨d, .store ty x y, tt, pos, aft, g⟩ := by rfl) (hw : Region.wanted ⟨d, .store ty x y, tt, pos, aft, g⟩ (yielded l.toArray a.tmps) = true := by rfl) (hx : a.eval x = .pointer (some ⟨b, j, none⟩) := by rfl) (hy : a.eval y = .agg cs := by rfl) (hm : (b, A, t) ∈ L := by with_reducible repeat (first | exact List.mem_cons_self | apply List.mem_cons_of_mem)) (hn : cs.size = n) (hj : j + n <= A.size) (h1 : cs.toList.all (·.oneCell') = true) (hA : putA A j cs.toList = A') (hs : setB b A' L L' := by with_reducible repeat (first | exact setB_here _ _ _ _ _ | apply setB_next)) : wpT Tryz.prog l Q F S (.op i r) a w :=
 tActK ho rfl hw fun _ hK => oStoreR hx hy hk hm hT hn hj h1 hA hs fun w1 hk1 => hK _ _ (h w1 hk1).1 (h w1 hk1).2
theorem sStore1Y {sp : Option Addr} {sn sc : Nat} (hT : OneT Tryz.prog ty) (hk : Kn M w0 w L) (h : ∀ w1, Kn M w0 w1 L' -> (F i = true -> S w1) /\ wpT Tryz.prog l Q F S r (a.put d undef) w1) (ho : nthO i l = some ⟨d, .store ty x y, tt, pos, aft, g⟩ := by rfl) (hw : Region.wanted ⟨d, .store ty x y, tt, pos, aft, g⟩ (yielded l.toArray a.tmps) = true := by rfl) (hx : a.eval x = .pointer (some ⟨b, j, none⟩) := by rfl) (hy : a.eval y = .slice sp sn sc := by rfl) (hm : (b, A, t) ∈ L := by with_reducible repeat (first | exact List.mem_cons_self | apply List.mem_cons_of_mem)) (hj : j + 1 <= A.size) (hA : A.setIfInBounds j (.slice sp sn sc) = A') (hs : setB b A' L L' := by with_reducible repeat (first | exact setB_here _ _ _ _ _ | apply setB_next)) : wpT Tryz.prog l Q F S (.op i r) a w :=
 tActK ho rfl hw fun _ hK => oStore1 hx hy hk hm hT rfl hj rfl hA hs fun w1 hk1 => hK _ _ (h w1 hk1).1 (h w1 hk1).2
theorem sIndexY (hT : SlcT Tryz.prog ty n) {m c q : Nat} (hk : S w) (h : wpT Tryz.prog l Q F S r (a.put d (.pointer (some ⟨b, q * n, none⟩))) w) (hq : q < m) (ho : nthO i l = some ⟨d, .indexAddr ty x y, tt, pos, aft, g⟩ := by rfl) (hw : Region.wanted ⟨d, .indexAddr ty x y, tt, pos, aft, g⟩ (yielded l.toArray a.tmps) = true := by rfl) (hx : a.eval x = .slice (some ⟨b, 0, none⟩) m c := by rfl) (hy : a.eval y = .int .i64 q := by rfl) : wpT Tryz.prog l Q F S (.op i r) a w := tIndexS0 ho hw hk hx hy hT hq h
end
end Go.Proofs.YtamiichlbmllcabGreatDoor
