/-
  Walks: what is handed out to go over a table; nothing of a nil one. Walks: the law's first look. Walks: the law's first look. Walks: a table gone over. A law for a loop over an iterator of the program's own whose rounds tell others' yields; a region that draws its order within a round, with a yield in it. Walks: all of a table, by the law. Walks: all of a table, by the law, put into a list.
-/
import Derived.RangeFuncNested
import Derived.RangeFuncBound
import Derived.RangeFuncCalls
import Derived.RangeFuncLeaves
import Derived.Shelf.Abstract
import Derived.Shelf.RegionOpen
import Derived.OwnWalkIn
import Derived.TacticsInMore
import Derived.LoopNIn
import Derived.LoopIn
import Derived.Test.YtcffpkflijpdjaaJO07
set_option linter.unusedSimpArgs false
set_option linter.unusedVariables false
namespace Go.Proofs.Ytcffpkflijpdjaa
open Go.RowKit
theorem three_new (w : World) (o p q : Obj) : ((((w.alloc o).alloc p).alloc q).heap[w.heap.size]? = some o ∧ (((w.alloc o).alloc p).alloc q).heap[w.heap.size + 1]? = some p ∧ (((w.alloc o).alloc p).alloc q).heap[w.heap.size + 2]? = some q) ∧ Below w.heap.size w (((w.alloc o).alloc p).alloc q) := by
  have h1 := below_new w o
  have h2 := below_new (w.alloc o) p
  have h3 := below_new ((w.alloc o).alloc p) q
  have s1 := World.size_alloc w o
  have s2 := World.size_alloc (w.alloc o) p
  refine ⟨⟨obj_kept (obj_kept (heap_alloc_new w o) h2 (Nat.le_refl _)) h3 (Nat.le_refl _), ?_, ?_⟩, (h1.trans (h2.mono (by omega))).trans (h3.mono (by omega))⟩
  · have := heap_alloc_new (w.alloc o) p
    rw [s1] at this
    exact obj_kept this h3 (Nat.le_refl _)
  · have := heap_alloc_new ((w.alloc o).alloc p) q
    rw [s2, s1] at this
    exact this
theorem sizeFour (w : World) (o p q : Obj) : (((w.alloc o).alloc p).alloc q).heap.size = w.heap.size + 3 := by simp only [World.size_alloc]
theorem set_pair {W : World} {y z : Nat} {a b u v : Value} {s t : TypeId} (hy : W.heap[y]? = some (.cells #[a] s (0, 0))) (hz : W.heap[z]? = some (.cells #[b] t (0, 0))) (hne : y ≠ z) :
    ((W.setCell ⟨y, 0, none⟩ u).setCell ⟨z, 0, none⟩ v).heap[y]? = some (.cells #[u] s (0, 0)) ∧ ((W.setCell ⟨y, 0, none⟩ u).setCell ⟨z, 0, none⟩ v).heap[z]? = some (.cells #[v] t (0, 0)) := by
  have h1 := heap_setCell_same W y 0 _ s u hy
  have h2 : (W.setCell ⟨y, 0, none⟩ u).heap[z]? = W.heap[z]? := heap_setCell_other _ _ _ _ (Ne.symm hne)
  refine ⟨(heap_setCell_other _ _ _ _ hne).trans h1, ?_⟩
  exact heap_setCell_same _ z 0 _ t v (h2.trans hz)
theorem set_pair_other (W : World) (y z j : Nat) (u v : Value) (h1 : j ≠ y) (h2 : j ≠ z) : ((W.setCell ⟨y, 0, none⟩ u).setCell ⟨z, 0, none⟩ v).heap[j]? = W.heap[j]? := by
  rw [heap_setCell_other _ _ _ _ h2, heap_setCell_other _ _ _ _ h1]
theorem set_pair_kp (W : World) (y z B : Nat) (u v : Value) (hy : y < B) (hz : z < B) : Kp (fun j => B ≤ j) W ((W.setCell ⟨y, 0, none⟩ u).setCell ⟨z, 0, none⟩ v) :=
  ((Kp.refl _ W).set y 0 u (by omega)).set z 0 v (by omega)
theorem set_pair_below {w W : World} {B : Nat} (h : Below B w W) (y z : Nat) (u v : Value) (hy : B ≤ y) (hz : B ≤ z) : Below B w ((W.setCell ⟨y, 0, none⟩ u).setCell ⟨z, 0, none⟩ v) :=
  ⟨h.os, h.tape, h.output, by simpa using h.size, fun k hk => (set_pair_other W y z k u v (by omega) (by omega)).trans (h.block k hk)⟩
/-- What Entries hands out. -/
def EntHm (t : Option Addr) (L H : List Int) (w : World) (e : Ending) (w' : World) : Prop := e = .returned (.func (.func 78) #[] #[.pointer (some ⟨w.heap.size, 0, none⟩), .pointer (some ⟨w.heap.size + 1, 0, none⟩), .pointer (some ⟨w.heap.size + 2, 0, none⟩)]) ∧ Below w.heap.size w w' ∧ w'.heap[w.heap.size]? = some (.cells #[.pointer t] 24 (0, 0)) ∧
  ∃ lo hi : Sl, lo.l = L ∧ hi.l = H ∧ w'.heap[w.heap.size + 1]? = some (.cells #[lo.val] 23 (0, 0)) ∧ w'.heap[w.heap.size + 2]? = some (.cells #[hi.val] 23 (0, 0)) ∧ Row w' w.heap.size lo.a lo.c lo.l ∧ Row w' w.heap.size hi.a hi.c hi.l
set_option maxRecDepth 100000 in
set_option maxHeartbeats 8000000 in
theorem mentries_any (t la ha : Option Addr) (L H : List Int) (n m c d : Nat) (w : World) (hl : In w la L n c) (hh : In w ha H m d) (hn9 : n ≤ 140737488355328) (hm9 : m ≤ 140737488355328) : Calls Try.prog 55 #[.pointer t, .slice la n c, .slice ha m d] w (EntHm t L H w) := by
  have HN := Lib.hid hl.len
  have HM := Lib.hid hh.len
  have HCK : Hid (∀ W : World, Below w.heap.size w W → Calls Try.prog 61 #[.slice la n c] W (Longer W W.heap.size L)) := Lib.hid (fun W hb => clone_any la L n c W HN.out (hl.kept hb).bys (by rw [HN.out]; exact hn9))
  have HCV : Hid (∀ W : World, Below w.heap.size w W → Calls Try.prog 61 #[.slice ha m d] W (Longer W W.heap.size H)) := Lib.hid (fun W hb => clone_any ha H m d W HM.out (hh.kept hb).bys (by rw [HM.out]; exact hm9))
  clear hl hh hn9 hm9
  go_enter Try.func55, Try.ntmps55
  go_upto_region 1 with fail
  have N3 := three_new w (.cells #[.pointer t] 24) (.cells #[.slice la n c] 23) (.cells #[.slice ha m d] 23)
  obtain ⟨w1, hw1⟩ : ∃ w1, (((w.alloc (.cells #[.pointer t] 24)).alloc (.cells #[.slice la n c] 23)).alloc (.cells #[.slice ha m d] 23)) = w1 := ⟨_, rfl⟩
  have hz : w1.heap.size = w.heap.size + 3 := by rw [← hw1]; exact sizeFour w _ _ _
  rw [hw1] at N3 ⊢
  clear hw1
  have B1 := Lib.hid N3.2
  have HH : Hid (∀ W : World, Below w1.heap.size w1 W → W.heap[w.heap.size]? = some (.cells #[.pointer t] 24 (0, 0)) ∧ W.heap[w.heap.size + 1]? = some (.cells #[.slice la n c] 23 (0, 0)) ∧ W.heap[w.heap.size + 1 + 1]? = some (.cells #[.slice ha m d] 23 (0, 0))) := Lib.hid (fun W hb => ⟨obj_kept N3.1.1 hb (Nat.le_refl _), obj_kept N3.1.2.1 hb (Nat.le_refl _), obj_kept N3.1.2.2 hb (Nat.le_refl _)⟩)
  clear N3
  have HC : Hid (∀ W : World, Below w1.heap.size w1 W → W.cell? ⟨w.heap.size + 1, 0, none⟩ = some (.slice la n c) ∧ W.cell? ⟨w.heap.size + 1 + 1, 0, none⟩ = some (.slice ha m d) ∧ W.frozen? ⟨w.heap.size + 1, 0, none⟩ = false ∧ W.frozen? ⟨w.heap.size + 1 + 1, 0, none⟩ = false) := Lib.hid (fun W hb => by
    obtain ⟨-, h1, h2⟩ := HH.out W hb
    refine ⟨?_, ?_, ?_, ?_⟩ <;> simp [World.cell?, World.frozen?, h1, h2])
  have CB := Lib.hid (Below.refl w1.heap.size w1)
  obtain ⟨p1, p2, -, -⟩ := HC.out w1 CB.out
  go_region_with (go_at_call 61; first
    | (refine (HCK.out _ (B1.out.trans ((by repeat (first | exact Below.refl _ _ | exact CB.out | refine Below.drew ?_) : Below w1.heap.size w1 _).mono B1.out.size))).mono ?_; rintro e w2 ⟨A1, c1, rfl, r1, b1⟩; have R1 := Lib.hid (r1.mono (by repeat (first | exact Below.refl _ _ | exact CB.out | refine Below.drew ?_) : Below w1.heap.size w1 _).size); replace CB := Lib.hid (below_then (by repeat (first | exact Below.refl _ _ | exact CB.out | refine Below.drew ?_) : Below w1.heap.size w1 _) b1); obtain ⟨q1, q2, -, -⟩ := HC.out w2 CB.out; clear r1 b1)
    | (refine (HCV.out _ (B1.out.trans ((by repeat (first | exact Below.refl _ _ | exact CB.out | refine Below.drew ?_) : Below w1.heap.size w1 _).mono B1.out.size))).mono ?_; rintro e w3 ⟨A2, c2, rfl, r2, b2⟩; have R2 := Lib.hid (r2.mono (by repeat (first | exact Below.refl _ _ | exact CB.out | refine Below.drew ?_) : Below w1.heap.size w1 _).size); have B3 := Lib.hid (below_then (by repeat (first | exact Below.refl _ _ | refine Below.drew ?_) : Below w2.heap.size w2 _) b2); replace CB := Lib.hid (below_then (by repeat (first | exact Below.refl _ _ | exact CB.out | refine Below.drew ?_) : Below w1.heap.size w1 _) b2); obtain ⟨r1, r2, r3, r4⟩ := HC.out w3 CB.out; clear b2))
  all_goals
    have H4 := Lib.hid (set_pair (u := .slice A1 L.length c1) (v := .slice A2 H.length c2) (HH.out w3 CB.out).2.1 (HH.out w3 CB.out).2.2 (by omega))
    have H5 := Lib.hid ((set_pair_other w3 (w.heap.size + 1) (w.heap.size + 1 + 1) w.heap.size (.slice A1 L.length c1) (.slice A2 H.length c2) (by omega) (by omega)).trans (HH.out w3 CB.out).1)
    have K4 := Lib.hid (set_pair_kp w3 (w.heap.size + 1) (w.heap.size + 1 + 1) w1.heap.size (.slice A1 L.length c1) (.slice A2 H.length c2) (by omega) (by omega))
    have B4 := Lib.hid (set_pair_below (B1.out.trans (CB.out.mono B1.out.size)) (w.heap.size + 1) (w.heap.size + 1 + 1) (.slice A1 L.length c1) (.slice A2 H.length c2) (by omega) (by omega))
    clear r1 r2 r3 r4 q1 q2 p1 p2 HH HC HCK HCV
    generalize ((w3.setCell ⟨w.heap.size + 1, 0, none⟩ (.slice A1 L.length c1)).setCell ⟨w.heap.size + 1 + 1, 0, none⟩ (.slice A2 H.length c2)) = w4 at H4 H5 K4 B4 ⊢
    have R3 := own_kp (R1.out.kept B3.out (Nat.le_refl _)) K4.out (fun ad ha => (own_in (R1.out.kept B3.out (Nat.le_refl _)) ad ha).1)
    have R4 := own_kp R2.out K4.out (fun ad ha => (own_in R2.out ad ha).1)
    have Q3 := Lib.hid (own_mono R3 B1.out.size)
    have Q4 := Lib.hid (own_mono R4 B1.out.size)
    clear R3 R4
    go_wp2_with fail
    go_ret
    exact ⟨rfl, B4.out, H5.out, ⟨A1, c1, L⟩, ⟨A2, c2, H⟩, rfl, rfl, H4.out.1, H4.out.2, Q3.out, Q4.out⟩
end Go.Proofs.Ytcffpkflijpdjaa
namespace Go.Proofs.Ytcffpkflijpdjaa
open Go.RowKit
/-- A table that the law made itself. -/
structure WS (w W : World) (b : Nat) (L : List Er) (n : Nat) : Prop where
  tab : ∃ t : MT, t.b = b ∧ MTab W t ∧ t.has.Perm L ∧ t.ns.length = n ∧ ∀ g, t.own g → w.heap.size ≤ g
  low : Below w.heap.size w W
theorem WS.kept {w W W' : World} {b n : Nat} {L : List Er} (h : WS w W b L n) (hb : Below W.heap.size W W') : WS w W' b L n := by
  obtain ⟨⟨t, h1, h2, h3, h4, h5⟩, h6⟩ := h
  exact ⟨⟨t, h1, h2.kept hb, h3, h4, h5⟩, below_then h6 hb⟩
theorem tds_low {S S' : Nat → Prop} {w W W' : World} (h : Below w.heap.size w W) (ht : Tds S S' W W') (hs : ∀ g, S g → w.heap.size ≤ g) : Below w.heap.size w W' ∧ ∀ g, S' g → w.heap.size ≤ g := by
  have := h.size
  exact ⟨⟨ht.os.trans h.os, ht.tape.trans h.tape, ht.output.trans h.output, Nat.le_trans h.size ht.size, fun g hg => (ht.block g (by omega) (fun e => by have := hs g e; omega)).trans (h.block g hg)⟩, fun g hg => (ht.grows g hg).elim (hs g) (fun e => by omega)⟩
theorem wput {w W : World} {b n n' : Nat} {L L' : List Er} (h : WS w W b L n) (c s er : Int) (d : Bool) (hc : 0 ≤ c ∧ c < 256) (hs : -9223372036854775808 ≤ s ∧ s ≤ 9223372036854775807) (hn : n ≤ 5)
    (hr : (¬ GoodE ([c], s, d, []) ∧ er = 30 ∧ L' = L ∧ n' = n) ∨ (GoodE ([c], s, d, []) ∧ er = 31 ∧ (∃ y ∈ L, ordE y ([c], s, d, []) = 0) ∧ L' = L ∧ n' = n) ∨ (GoodE ([c], s, d, []) ∧ er = 0 ∧ (∀ y ∈ L, ordE y ([c], s, d, []) ≠ 0) ∧ L' = ([c], s, d, []) :: L ∧ n' = n + 1)) :
    Calls Try.prog 16 #[.pointer (some ⟨b, 0, none⟩), .agg #[.slice (some ⟨W.heap.size, 0, none⟩) 1 1, .int .i64 s, .bool d, .slice none 0 0]] (W.alloc (.cells #[.int .u8 c] 5 (1, 2))) fun e W' => e = .returned (.int .i64 er) ∧ WS w W' b L' n' := by
  have hW := h.kept (below_new W (.cells #[.int .u8 c] 5 (1, 2)))
  obtain ⟨⟨t, rfl, h2, h3, h4, h5⟩, h6⟩ := hW
  have hi : EIn (W.alloc (.cells #[.int .u8 c] 5 (1, 2))) (⟨⟨some ⟨W.heap.size, 0, none⟩, 1, [c]⟩, s, d, ⟨none, 0, []⟩⟩ : En) := ⟨one_at (heap_alloc_new W _) hc, in_nil _⟩
  refine (mput_any h2 ⟨⟨some ⟨W.heap.size, 0, none⟩, 1, [c]⟩, s, d, ⟨none, 0, []⟩⟩ hi hs (by simp) (by simp) (by omega)).mono ?_
  rintro e W' ⟨er', t', rfl, k1, k2, k3, k4⟩
  obtain ⟨j1, j2⟩ := tds_low h6 k3 h5
  have hrd : (⟨⟨some ⟨W.heap.size, 0, none⟩, 1, [c]⟩, s, d, ⟨none, 0, []⟩⟩ : En).rd = ([c], s, d, []) := rfl
  rw [hrd] at k4
  rcases k4 with ⟨rfl, g1, g2⟩ | ⟨rfl, g1, ⟨y, y1, y2⟩, g2⟩ | ⟨rfl, g1, g2, g3⟩
  · rcases hr with ⟨-, rfl, rfl, rfl⟩ | ⟨r1, -⟩ | ⟨r1, -⟩
    · subst g2
      exact ⟨rfl, ⟨⟨_, k2, k1, h3, h4, j2⟩, j1⟩⟩
    · exact absurd r1 g1
    · exact absurd r1 g1
  · rcases hr with ⟨r1, -⟩ | ⟨-, rfl, -, rfl, rfl⟩ | ⟨-, -, r1, -⟩
    · exact absurd g1 r1
    · subst g2
      exact ⟨rfl, ⟨⟨_, k2, k1, h3, h4, j2⟩, j1⟩⟩
    · exact absurd y2 (r1 y (h3.subset y1))
  · rcases hr with ⟨r1, -⟩ | ⟨-, -, ⟨y, y1, y2⟩, -⟩ | ⟨-, rfl, -, rfl, rfl⟩
    · exact absurd g1 r1
    · have ha := (apt_perm g2).1 (ordL_apt k1.skip.sorted)
      have := (List.pairwise_cons.1 ha).1 y (h3.symm.subset y1)
      rw [ordE_flip, y2] at this
      exact absurd rfl this
    · exact ⟨rfl, ⟨⟨_, k2, k1, g2.trans (h3.cons _), by rw [g3, h4], j2⟩, j1⟩⟩
/-- The law's own two entries. -/
def M2 : List Er := [([97], 2, true, []), ([97], 1, false, [])]
theorem wget {w W : World} {b : Nat} (h : WS w W b M2 3) : Calls Try.prog 15 #[.pointer (some ⟨b, 0, none⟩), .slice (some ⟨W.heap.size, 0, none⟩) 1 1, .int .i64 1] (W.alloc (.cells #[.int .u8 97] 5 (1, 2))) fun e W' => ∃ y : En, y.s = 1 ∧ e = .returned (.tuple #[y.val, .bool true, .int .i64 0]) ∧ WS w W' b M2 3 := by
  have hW := h.kept (below_new W (.cells #[.int .u8 97] 5 (1, 2)))
  have hW2 := hW
  obtain ⟨⟨t, rfl, h2, h3, h4, h5⟩, h6⟩ := hW
  have hx : ∀ c ∈ t.cs, eo t.ns c ∈ M2 := fun c hc => h3.subset (List.mem_map_of_mem hc)
  refine (mget_found h2 (some ⟨W.heap.size, 0, none⟩) [97] 1 1 1 1 (one_at (heap_alloc_new W _) (by decide)) ?_ ?_).mono ?_
  · intro i q hi hq
    have hlt := (List.getElem?_eq_some_iff.1 hq).1
    have hg := h2.skip.good i ((h2.skip.all i).2 ⟨by omega, hlt⟩)
    rw [eo_of hq] at hg
    obtain ⟨⟨-, g1⟩, -, g2, -⟩ := hg
    simp only [En.rd] at g1 g2
    exact ⟨by omega, by omega⟩
  · intro a ha g1 g2
    obtain ⟨C1, C2, hp⟩ := place h2.skip ha g1 g2
    obtain ⟨c, hc, hce⟩ := List.mem_map.1 (h3.symm.subset (show (([97], 1, false, []) : Er) ∈ M2 by simp [M2]))
    have hc2 : c ∈ C2 := by
      rw [hp.cut] at hc
      rcases List.mem_append.1 hc with q | q
      · have := hp.low c q
        rw [hce] at this
        exact absurd this (by decide)
      · exact q
    have hn := hp.next
    have hh := hp.high
    have hcut := hp.cut
    cases C2 with
    | nil => cases hc2
    | cons d D =>
      obtain ⟨e1, e2, e3⟩ := hn
      have hd : d ∈ t.cs := by rw [hcut]; exact List.mem_append_right _ (List.mem_cons_self ..)
      have hl := (h2.skip.all d).1 hd
      have hm := hx d hd
      have hb := hh d (List.mem_cons_self ..)
      rw [e1]
      refine ⟨e2, hl.2, ?_⟩
      simp only [M2, List.mem_cons, List.mem_nil_iff, or_false] at hm
      rcases hm with hm | hm
      · rw [hm] at hb
        exact absurd (by decide) hb
      · rw [hm]
        exact ⟨rfl, rfl⟩
  · rintro e W' ⟨y, y1, rfl, y2⟩
    exact ⟨y, y1, rfl, hW2.kept y2⟩
end Go.Proofs.Ytcffpkflijpdjaa
namespace Go.Proofs.Ytcffpkflijpdjaa
open Go.RowKit
set_option maxRecDepth 100000 in
set_option maxHeartbeats 8000000 in
theorem wakes_mt (w : World) : Calls Try.prog 18 #[] w fun e w' => e = .returned (.bool true) ∧ Below w.heap.size w w' := by
  have HN : Hid (∀ W, Calls Try.prog 22 #[.slice (some ⟨W.heap.size, 0, none⟩) 3 3] (W.alloc (.cells #[.int .i64 3, .int .i64 99, .int .i64 (-1)] 3)) fun e W' => ∃ b, e = .returned (.pointer (some ⟨b, 0, none⟩)) ∧ WS W W' b [] 1) := Lib.hid (fun W => by
    refine (mnew_any (some ⟨W.heap.size, 0, none⟩) [3, 99, -1] 3 3 rfl (lit_lies W _ _ rfl 3) (by decide)).mono ?_
    rintro e W' ⟨t, rfl, h1, h2, h3, h4, h5⟩
    exact ⟨_, rfl, ⟨⟨t, rfl, h1, h2 ▸ List.Perm.refl _, h3, fun g hg => by have := h4 g hg; simp at this; omega⟩, below_then (below_new W _) h5⟩⟩)
  go_enter Try.func18, Try.ntmps18
  have k97 := one_conv 97
  have k98 := one_conv 98
  go_upto_region 2 with (go_at_call 22; refine (HN.out _).mono ?_; rintro e w1 ⟨b, rfl, h1⟩; have HS := Lib.hid h1; clear h1)
  have HP1 : Hid (∀ W, WS w W b [] 1 → Calls Try.prog 16 #[.pointer (some ⟨b, 0, none⟩), .agg #[.slice (some ⟨W.heap.size, 0, none⟩) 1 1, .int .i64 1, .bool false, .slice none 0 0]] (W.alloc (.cells #[.int .u8 97] 5 (1, 2))) fun e W' => e = .returned (.int .i64 0) ∧ WS w W' b [([97], 1, false, [])] 2) := Lib.hid (fun W h => wput (n' := 2) (L' := [([97], 1, false, [])]) h 97 1 0 false (by decide) (by decide) (by decide) (.inr (.inr ⟨by decide +kernel, rfl, by decide +kernel, rfl, rfl⟩)))
  have HP2 : Hid (∀ W, WS w W b [([97], 1, false, [])] 2 → Calls Try.prog 16 #[.pointer (some ⟨b, 0, none⟩), .agg #[.slice (some ⟨W.heap.size, 0, none⟩) 1 1, .int .i64 2, .bool true, .slice none 0 0]] (W.alloc (.cells #[.int .u8 97] 5 (1, 2))) fun e W' => e = .returned (.int .i64 0) ∧ WS w W' b M2 3) := Lib.hid (fun W h => wput (n' := 3) (L' := M2) h 97 2 0 true (by decide) (by decide) (by decide) (.inr (.inr ⟨by decide +kernel, rfl, by decide +kernel, rfl, rfl⟩)))
  have HP3 : Hid (∀ W, WS w W b M2 3 → Calls Try.prog 16 #[.pointer (some ⟨b, 0, none⟩), .agg #[.slice (some ⟨W.heap.size, 0, none⟩) 1 1, .int .i64 2, .bool false, .slice none 0 0]] (W.alloc (.cells #[.int .u8 97] 5 (1, 2))) fun e W' => e = .returned (.int .i64 31) ∧ WS w W' b M2 3) := Lib.hid (fun W h => wput (n' := 3) (L' := M2) h 97 2 31 false (by decide) (by decide) (by decide) (.inr (.inl ⟨by decide +kernel, rfl, by decide +kernel, rfl, rfl⟩)))
  have HP4 : Hid (∀ W, WS w W b M2 3 → Calls Try.prog 16 #[.pointer (some ⟨b, 0, none⟩), .agg #[.slice (some ⟨W.heap.size, 0, none⟩) 1 1, .int .i64 0, .bool false, .slice none 0 0]] (W.alloc (.cells #[.int .u8 98] 5 (1, 2))) fun e W' => e = .returned (.int .i64 30) ∧ WS w W' b M2 3) := Lib.hid (fun W h => wput (n' := 3) (L' := M2) h 98 0 30 false (by decide) (by decide) (by decide) (.inl ⟨by decide +kernel, rfl, rfl, rfl⟩))
  have HG : Hid (∀ W, WS w W b M2 3 → Calls Try.prog 15 #[.pointer (some ⟨b, 0, none⟩), .slice (some ⟨W.heap.size, 0, none⟩) 1 1, .int .i64 1] (W.alloc (.cells #[.int .u8 97] 5 (1, 2))) fun e W' => ∃ (A B : Option Addr) (n c m k : Nat) (d : Bool), e = .returned (.tuple #[.agg #[.slice A n c, .int .i64 1, .bool d, .slice B m k], .bool true, .int .i64 0]) ∧ WS w W' b M2 3) := Lib.hid (fun W h => (wget h).mono (by
    rintro e W' ⟨y, y1, rfl, y2⟩
    rw [En.val_eq, y1]
    exact ⟨_, _, _, _, _, _, _, rfl, y2⟩))
  have HLN : Hid (∀ W, WS w W b M2 3 → Calls Try.prog 20 #[.pointer (some ⟨b, 0, none⟩)] W fun e W' => e = .returned (.int .i64 2) ∧ W' = W) := Lib.hid (fun W h => by
    obtain ⟨⟨t, rfl, h2, h3, h4, h5⟩, h6⟩ := h
    refine (mlen_any h2 (by rw [h4]; decide)).mono ?_
    rintro e W' ⟨rfl, rfl⟩
    rw [h4]
    exact ⟨rfl, rfl⟩)
  clear HN
  go_upto_region 3 with (first
    | (have hp := HP1; go_at_call 16; refine (hp.out _ HS.out).mono ?_; rintro e w2 ⟨rfl, h2⟩; have HS := Lib.hid h2; clear h2 hp HP1)
    | (have hp := HP2; go_at_call 16; refine (hp.out _ HS.out).mono ?_; rintro e w3 ⟨rfl, h2⟩; have HS := Lib.hid h2; clear h2 hp HP2)
    | (have hp := HP3; go_at_call 16; refine (hp.out _ HS.out).mono ?_; rintro e w4 ⟨rfl, h2⟩; have HS := Lib.hid h2; clear h2 hp HP3)
    | (have hp := HP4; go_at_call 16; refine (hp.out _ HS.out).mono ?_; rintro e w5 ⟨rfl, h2⟩; have HS := Lib.hid h2; clear h2 hp HP4))
  clear k97 k98
  go_upto_region 5 with (go_at_call 15; refine (HG.out _ HS.out).mono ?_; rintro e w6 ⟨A6, B6, n6, c6, m6, d6, f6, rfl, h2⟩; have HS := Lib.hid h2; clear h2)
  have HS := Lib.hid (HS.out.kept (below_new w6 (.cells #[.slice A6 n6 c6, .int .i64 1, .bool f6, .slice B6 m6 d6] 26)))
  clear HG
  go_wp2_with (go_at_call 20; refine (HLN.out _ HS.out).mono ?_; rintro e w7 ⟨rfl, rfl⟩)
  go_ret
  exact ⟨rfl, HS.out.low⟩
end Go.Proofs.Ytcffpkflijpdjaa
namespace Go.Proofs.Ytcffpkflijpdjaa
open Go.RowKit Go.Shelf
set_option maxRecDepth 100000 in
theorem below_any (A C : Option Addr) (L H : List Int) (n m c d : Nat) (w : World) (h : In w A L n c) (g : In w C H m d) : Calls Try.prog 79 #[.slice A n c, .slice C m d] w fun e w' => e = .returned (.bool (decide (H = []) || decide (cmpL L H < 0))) ∧ w' = w := by
  have HC := Lib.hid (compare_any A C L H n m c d w h g)
  have hm := g.len
  by_cases h0 : m = 0
  · subst h0
    obtain rfl : H = [] := List.eq_nil_of_length_eq_zero hm
    clear h g hm HC
    go_enter Try.func79, Try.ntmps79
    go_wp2_with fail
    go_ret
    exact ⟨by simp, rfl⟩
  · have e1 : decide (H = []) = false := by
      rw [decide_eq_false_iff_not]
      intro e
      subst e
      exact h0 hm.symm
    have e2 : ((m : Int) == 0) = false := by simpa using h0
    rw [e1]
    obtain ⟨q, hq⟩ : ∃ q, cmpL L H = q := ⟨_, rfl⟩
    rw [hq] at HC ⊢
    clear h g hm h0 e1 hq
    go_enter Try.func79, Try.ntmps79
    go_wp2_with (go_at_call 75; refine HC.out.mono ?_; rintro e w' ⟨rfl, rfl⟩)
    go_ret
    exact ⟨by simp, rfl⟩
/-- Who goes over a table from its first entry to its last. -/
structure GoM (t : MT) (bt bl bh B N l : Nat) (lo hi : Sl) (K : Nat → World → Prop) : Prop where
  tab : ∀ j W, K j W → MTab W t
  box : ∀ j W, K j W → W.cell? ⟨bt, 0, none⟩ = some (.pointer (some ⟨t.b, 0, none⟩)) ∧ W.cell? ⟨bl, 0, none⟩ = some lo.val ∧ W.cell? ⟨bh, 0, none⟩ = some hi.val
  ins : ∀ j W, K j W → In W lo.a lo.l lo.l.length lo.c ∧ In W hi.a hi.l hi.l.length hi.c
  low : ∀ j W, K j W → B ≤ W.heap.size
  bel : ∀ j W W', K j W → Below W.heap.size W W' → K j W'
  yes : ∀ j W (y : En), t.has[j]? = some y.rd → K j W → Row W B y.k.a y.k.c y.k.l → Row W B y.v.a y.v.c y.v.l → YieldAt Fence.wide N Try.prog l #[y.val] W fun e W' => e = .returned (.bool true) ∧ K (j + 1) W'
theorem goM_less {N : List Nd} {C : List Nat} (h : Skip N C) {p : Nat} (hp : p < N.length) : (if nx N 0 p = 0 then 0 else behindC N C (nx N 0 p) + 1) < behindC N C p + 1 := by
  split
  · omega
  · next h0 => have := behind_less h (g := 0) (by omega) hp h0; omega
theorem no_less (x : Er) (s : Int) (h : GoodE x) : ¬ ordE x ([], s, false, []) < 0 := by
  obtain ⟨⟨g, -⟩, -⟩ := h
  rw [ordE_lt]
  rintro (h | ⟨h, -⟩)
  · cases hx : x.1 with
    | nil => rw [hx] at g; simp at g
    | cons a b => rw [hx] at h; simp [cmpL] at h
  · rw [h] at g
    simp at g
theorem cont_get {N : List Nd} {C1 C2 : List Nat} {c : Nat} : (cont N (C1 ++ c :: C2))[C1.length]? = some (eo N c) := by
  simp [cont]
set_option maxRecDepth 100000 in
set_option maxHeartbeats 8000000 in
theorem mentries_iter (N l bt bl bh B : Nat) (t : MT) (lo hi : Sl) (K : Nat → World → Prop) (hK : GoM t bt bl bh B N l lo hi K) (hlo : lo.l = []) (hhi : hi.l = []) (hsz : t.ns.length ≤ 140737488355328) (W : World) (h0 : K 0 W) :
    CallsIn Fence.wide (N + 1) Try.prog 78 (#[.func (.yield l) #[] #[]] ++ #[.pointer (some ⟨bt, 0, none⟩), .pointer (some ⟨bl, 0, none⟩), .pointer (some ⟨bh, 0, none⟩)]) W fun e W' => (∃ v, e = .returned v) ∧ K t.has.length W' := by
  refine callsIn_of_wp Try.func78 rfl trivial ?_ rfl
  simp only [Try.ntmps78, List.size_toArray, List.length_cons, List.length_nil, Nat.reduceAdd, Nat.reduceSub, Array.replicate_succ, Array.replicate_zero, List.push_toArray, List.append_toArray, List.nil_append, List.cons_append]
  obtain ⟨lA, lc, ll⟩ := lo
  obtain ⟨hA, hc, hl⟩ := hi
  simp only at hlo hhi
  subst hlo
  subst hhi
  have HK := Lib.hid hK
  have H0 := Lib.hid h0
  have HS := Lib.hid (hK.tab 0 W h0).skip
  have HF : Hid (Calls Try.prog 47 #[.pointer (some ⟨t.b, 0, none⟩), .agg #[.slice lA 0 lc, .int .i64 9223372036854775807, .bool false, .slice none 0 0]] W fun e w' => e = .returned (.int .i64 (nx t.ns 0 0 : Nat)) ∧ Below W.heap.size W w') := Lib.hid (by
    have hi := (hK.ins 0 W h0).1
    refine (mfrom_any (hK.tab 0 W h0) ⟨⟨lA, lc, []⟩, 9223372036854775807, false, ⟨none, 0, []⟩⟩ ⟨hi, in_nil W⟩).mono ?_
    rintro e w' ⟨a, ha, rfl, h1, -, h2⟩
    obtain rfl : a = 0 := by
      rcases h1 with h1 | h1
      · exact h1
      · by_cases e : a = 0
        · exact e
        · exact absurd h1 (no_less _ _ (HS.out.good a ((HS.out.all a).2 ⟨by omega, ha⟩)))
    exact ⟨rfl, h2⟩)
  obtain ⟨c1, c2, c3⟩ := hK.box 0 W h0
  replace c2 : W.cell? ⟨bl, 0, none⟩ = some (.slice lA 0 lc) := c2
  replace c3 : W.cell? ⟨bh, 0, none⟩ = some (.slice hA 0 hc) := c3
  obtain ⟨-, c5⟩ := (hK.tab 0 W h0).cells
  obtain ⟨n, hn⟩ : ∃ n, t.ns.length = n := ⟨_, rfl⟩
  rw [hn] at c5 hsz
  have HN := Lib.hid hn
  clear hK h0 hn
  gi_wp2_with (refine ⟨trivial, ?_⟩; gi_at_call 47; refine (callsIn_wide.2 HF.out).mono ?_; rintro e1 w1 ⟨rfl, b1⟩; have B1 := Lib.hid (HK.out.bel 0 W w1 H0.out b1); clear b1)
  clear c1 c2 c3 c5
  gi_loopw [6] (fun t6 wr => ∃ (p a : Nat) (C1 C2 : List Nat), t6 = .int .i64 a ∧ Hid (a = nx t.ns 0 p ∧ t.cs = C1 ++ C2 ∧ Chn t.ns p C2 ∧ K C1.length wr)) (fun t6 _ => if (intOf t6).toNat = 0 then 0 else behindC t.ns t.cs (intOf t6).toNat + 1)
  case atStart => exact ⟨0, _, [], t.cs, rfl, Lib.hid ⟨rfl, rfl, HS.out.chain, B1.out⟩⟩
  case round =>
    obtain ⟨p, a, C1, C2, rfl, hr⟩ := hrel
    obtain ⟨h1, h2, h3, h4⟩ := hr.out
    cases C2 with
    | nil =>
      have h3' : nx t.ns 0 p = 0 := h3
      obtain rfl : a = 0 := h1.trans h3'
      have HE : Hid (K t.has.length wr) := Lib.hid (by unfold MT.has cont; rw [h2, List.append_nil, List.length_map]; exact h4)
      clear hr h1 h2 h3 h3' h4
      gi_wp2
      go_end0
      exact ⟨⟨_, rfl⟩, HE.out⟩
    | cons c D =>
      have h3' : nx t.ns 0 p = c ∧ c ≠ 0 ∧ Chn t.ns c D := h3
      obtain rfl : a = c := h1.trans h3'.1
      have hm : a ∈ t.cs := by rw [h2]; exact List.mem_append_right _ (List.mem_cons_self ..)
      have hl := ((HS.out.all a).1 hm).2
      have hg := HS.out.good a hm
      obtain ⟨ad, q, hA', hq, ⟨⟨d2, d3, d4, d5⟩, -⟩, hE, -⟩ := (HK.out.tab _ wr h4).node hl
      obtain ⟨c1, c2, c3⟩ := HK.out.box _ wr h4
      replace c2 : wr.cell? ⟨bl, 0, none⟩ = some (.slice lA 0 lc) := c2
      replace c3 : wr.cell? ⟨bh, 0, none⟩ = some (.slice hA 0 hc) := c3
      obtain ⟨-, c5⟩ := (HK.out.tab _ wr h4).cells
      rw [HN.out, hA'] at c5
      rw [HN.out] at hl
      have HQ := Lib.hid (And.intro hq (And.intro hE (And.intro h4 (And.intro h2 h3'.2))))
      have HG : Hid (GoodE q.e.rd) := Lib.hid (by rw [eo_of hq] at hg; exact hg)
      have ha0 : ((a : Int) == 0) = false := by have := h3'.2.1; simpa using this
      have i0 : (a : Int) < n := by omega
      have HGET : Hid (t.has[C1.length]? = some q.e.rd) := Lib.hid (by unfold MT.has; rw [h2, cont_get, eo_of hq])
      obtain ⟨qn, hqn⟩ : ∃ m, q.e.k.l.length = m := ⟨_, rfl⟩
      obtain ⟨qv, hqv⟩ : ∃ m, q.e.v.l.length = m := ⟨_, rfl⟩
      have HQN := Lib.hid (And.intro hqn hqv)
      rw [hqn] at d2
      rw [hqv] at d5
      clear hr h1 h2 h3 h3' h4 hm hg hA' hq hE hqn hqv
      have c3' := cell_below c3 (below_new wr (.cells #[.slice q.e.k.a qn q.e.k.c, .int .i64 q.e.s, .bool q.e.d, .slice q.e.v.a qv q.e.v.c] 26))
      obtain ⟨W1, hW1⟩ : ∃ W1, wr.alloc (.cells #[.slice q.e.k.a qn q.e.k.c, .int .i64 q.e.s, .bool q.e.d, .slice q.e.v.a qv q.e.v.c] 26) = W1 := ⟨_, rfl⟩
      have HB1 : Hid (Below wr.heap.size wr W1) := Lib.hid (hW1 ▸ below_new wr _)
      have KW1 := Lib.hid (HK.out.bel _ wr W1 HQ.out.2.2.1 HB1.out)
      have HBL : Hid (CallsIn Fence.wide N Try.prog 79 #[.slice q.e.k.a qn q.e.k.c, .slice hA 0 hc] W1 fun e w' => e = .returned (.bool true) ∧ W1 = w') := Lib.hid (callsIn_wide.2 (by
        have := below_any q.e.k.a hA q.e.k.l [] qn 0 q.e.k.c hc W1 (by have := (HQ.out.2.1.kept HB1.out).1; rwa [HQN.out.1] at this) (HK.out.ins _ W1 KW1.out).2
        exact this.mono (fun e w' h => ⟨by simpa using h.1, h.2.symm⟩)))
      have HCL : Hid (CallsIn Fence.wide N Try.prog 49 #[.agg #[.slice q.e.k.a qn q.e.k.c, .int .i64 q.e.s, .bool q.e.d, .slice q.e.v.a qv q.e.v.c]] W1 (ECop W1 q.e)) := Lib.hid (callsIn_wide.2 (by
        obtain ⟨⟨-, g1⟩, -, g2, -⟩ := HG.out
        simp only [En.rd] at g1 g2
        have := eclone_any q.e W1 (HQ.out.2.1.kept HB1.out) (by omega) (by omega)
        rwa [En.val_eq, HQN.out.1, HQN.out.2] at this))
      have hx1 := heap_alloc_new wr (.cells #[.slice q.e.k.a qn q.e.k.c, .int .i64 q.e.s, .bool q.e.d, .slice q.e.v.a qv q.e.v.c] 26)
      rw [hW1] at hx1 c3'
      have e0 : W1.cell? ⟨wr.heap.size, 0, none⟩ = some (.slice q.e.k.a qn q.e.k.c) := by simp [World.cell?, hx1]
      have e1 : W1.cell? ⟨wr.heap.size, 1, none⟩ = some (.int .i64 q.e.s) := by simp [World.cell?, hx1]
      have e2 : W1.cell? ⟨wr.heap.size, 2, none⟩ = some (.bool q.e.d) := by simp [World.cell?, hx1]
      have e3 : W1.cell? ⟨wr.heap.size, 3, none⟩ = some (.slice q.e.v.a qv q.e.v.c) := by simp [World.cell?, hx1]
      clear hx1
      gi_wp2_with (first
        | (refine ⟨trivial, ?_⟩; gi_at_call 79; refine HBL.out.mono ?_; rintro e1 w2 ⟨rfl, rfl⟩)
        | (refine ⟨trivial, ?_⟩; gi_at_call 49; refine HCL.out.mono ?_; rintro e1 w3 ⟨x', hx', rfl, r1, r2, b3⟩; obtain ⟨fn, tmps, assign, body, hy, hY⟩ := HK.out.yes _ w3 x' (HGET.out.trans (congrArg some hx'.symm)) (HK.out.bel _ W1 w3 KW1.out b3) (own_mono r1 (HK.out.low _ W1 KW1.out)) (own_mono r2 (HK.out.low _ W1 KW1.out)); have HY := Lib.hid hY; clear hY r1 r2 b3))
      refine HY.out.mono ?_
      rintro e W4 ⟨rfl, hk4⟩
      have HK4 := Lib.hid hk4
      have HNX : Hid (CallsIn Fence.wide N Try.prog 52 #[.pointer (some ⟨t.b, 0, none⟩), .int .i64 a] W4 fun e w' => e = .returned (.int .i64 (nx t.ns 0 a)) ∧ W4 = w') := Lib.hid (callsIn_wide.2 ((mnext_any (HK.out.tab _ W4 HK4.out) (by rw [HN.out]; omega)).mono (fun e w' h => ⟨h.1, h.2.symm⟩)))
      obtain ⟨c1, -, -⟩ := HK.out.box _ W4 hk4
      have HLE : Hid (nx t.ns 0 a = 0 ∨ nx t.ns 0 a ≠ 0) := Lib.hid (by omega)
      clear hk4 HY hy c2 c3 c3' e0 e1 e2 e3 d2 d3 d4 d5 c5 HBL HCL
      gi_wp2_with (refine ⟨trivial, ?_⟩; gi_at_call 52; refine HNX.out.mono ?_; rintro e1 w5 ⟨rfl, rfl⟩)
      go_roundw
      case rel => exact ⟨a, _, C1 ++ [a], D, rfl, Lib.hid ⟨rfl, by rw [HQ.out.2.2.2.1]; simp, HQ.out.2.2.2.2.2, by simpa using HK4.out⟩⟩
      case measure =>
        have h1 := goM_less HS.out (p := a) (by rw [HN.out]; omega)
        have h2 := HQ.out.2.2.2.2.1
        simp only [intOf, Int.toNat_natCast, h2, if_false]
        exact h1
end Go.Proofs.Ytcffpkflijpdjaa
namespace Go.Proofs.Ytcffpkflijpdjaa
open Go.RowKit
/-- What abides the loop's own two blocks. -/
def OwnAt {β : Type} (h : Nat) (I : β → World → Prop) : Prop := ∀ s W W' row, I s W → W.grownBy W' row → (∀ r, row = some r → (r = h ∨ r = h + 1) ∧ ∃ o : Obj, W.heap[r]? = some o ∧ o.isCells = false) → I s W'
theorem OwnAt.putObj {β : Type} {B : Nat} {I : β → World → Prop} (h : OwnAt B I) {s : β} {W : World} {l : Nat} {o : Obj} (o' : Obj) (hs : I s W) (hB : l = B ∨ l = B + 1) (hl : W.heap[l]? = some o) (ho : o.isCells = false) : I s (W.putObj l o') :=
  h s W _ (some l) hs (grownBy_putObj' W l o') (fun r e => by cases e; exact ⟨hB, o, hl, ho⟩)
theorem OwnAt.alloc {β : Type} {B : Nat} {I : β → World → Prop} (h : OwnAt B I) {s : β} {W : World} (o : Obj) (hs : I s W) : I s (W.alloc o) :=
  h s W _ none hs (World.grownBy_alloc W o none) (fun r e => by cases e)
theorem range_toldK {σ : Type} {P : Program} {g : Operand} {ps : Array Tmp} {assign body : Code} {Q : Exit → Act → World → Prop} {a : Act} {w : World} {n gf : Nat} {lb : Array Value}
    (hg : a.eval g = .func (.func gf) #[] lb) (eg : ∀ args w, (callFunc gf args).run P w = .ok (.enter gf args) w)
    (I Ix : σ → World → Prop) (J : σ → Code) (hI : OwnAt w.heap.size I) (hIx : OwnAt w.heap.size Ix)
    (On Off : σ → Array Value → σ → World → Prop) (s0 : σ) (h0 : I s0 w) (Done Left : σ → Prop)
    (hsz : ∀ s args s' W, On s args s' W ∨ Off s args s' W → args.size = ps.size)
    (hon : ∀ s args s' W, On s args s' W → I s W → w.heap.size + 2 ≤ W.heap.size → RoundOf w.heap.size (n - 1 - 1) P a.tmps ps assign body args W (fun W₂ => Goes w.heap.size W₂ (I s')))
    (hoff : ∀ s args s' W, Off s args s' W → I s W → w.heap.size + 2 ≤ W.heap.size → RoundOf w.heap.size (n - 1 - 1) P a.tmps ps assign body args W (fun W₂ => HaltsJ w.heap.size W₂ (J s') (Ix s')))
    (hiter : ∀ (R : World → Prop) (R' : σ → World → Prop), (∀ W W', R W → Two w.heap.size W W' → R W') → (∀ W, R W → w.heap.size + 2 ≤ W.heap.size ∧ (∃ L, W.heap[w.heap.size + 1]? = some (.loop L)) ∧ ∃ d, W.heap[w.heap.size]? = some (.deferred d)) →
      (∀ s args s' W, On s args s' W → I s W → R W → YieldAt Fence.wide (n - 1 - 1) P (w.heap.size + 1) args W fun e W' => e = .returned (.bool true) ∧ I s' W' ∧ R W') →
      (∀ s args s' W, Off s args s' W → I s W → R W → YieldAt Fence.wide (n - 1 - 1) P (w.heap.size + 1) args W fun e W' => e = .returned (.bool false) ∧ Ix s' W' ∧ R' s' W') →
      (∀ s W W', R' s W → Two w.heap.size W W' → R' s W') → (∀ s W, R' s W → w.heap.size + 2 ≤ W.heap.size ∧ (∃ L, W.heap[w.heap.size + 1]? = some (.loop L)) ∧ ∃ d, W.heap[w.heap.size]? = some (.deferred d)) →
      ∀ W, I s0 W → R W → CallsIn Fence.wide (n - 1) P gf (#[.func (.yield (w.heap.size + 1)) #[] #[]] ++ lb) W fun e W' => (∃ v, e = .returned v) ∧ ((∃ s, Done s ∧ I s W' ∧ R W') ∨ (∃ s, Left s ∧ Ix s W' ∧ R' s W')))
    (hdone : ∀ s W, Done s → I s W → W.heap[w.heap.size]? = some (.deferred (some [])) → Q .normal { a with defers := { target := .collected w.heap.size, args := #[] } :: a.defers } W)
    (hleft : ∀ s W, Left s → Ix s W → W.heap[w.heap.size]? = some (.deferred (some [])) → (J s).wpIn Fence.wide n P Q { a with defers := { target := .collected w.heap.size, args := #[] } :: a.defers } W) :
    (Code.rangeFunc g ps assign body).wpIn Fence.wide n P Q a w := by
  refine wpIn_rangeFunc fun fn _ => ?_
  obtain ⟨L, hL⟩ : ∃ L, recAt fn w.heap.size a.tmps ps assign body = L := ⟨_, rfl⟩
  obtain ⟨f2, f1⟩ := two_laid w (.deferred (some [])) (.loop (L .ready none))
  have fI : I s0 ((w.alloc (.deferred (some []))).alloc (.loop (L .ready none))) := hI.alloc _ (hI.alloc _ h0)
  generalize hW : (w.alloc (.deferred (some []))).alloc (.loop (L .ready none)) = W1 at f1 f2 fI
  have fE : (Instr.enterLoop fn a.tmps ps assign body none).run P w = .ok (w.heap.size + 1, [⟨.collected w.heap.size, #[]⟩]) W1 := by
    rw [← hW, ← hL]
    exact run_enterLoop_outer _ _ _ _ _
  refine ⟨_, _, _, _, _, _, _, _, fE, call_laid hg _ W1, fun _ _ => trivial, call_enters eg _ W1, fun h => by simp [Fence.wide] at h, ?_⟩
  have ended : ∀ (jump : Option Code) (W3 : World), W3.heap[w.heap.size + 1]? = some (.loop (L .busy none)) → (Instr.endRound (w.heap.size + 1) jump).run P W3 = .ok (.bool jump.isNone) (W3.putObj (w.heap.size + 1) (.loop (L (if jump.isNone then .ready else .done) jump))) := fun jump W3 k => by
    have := run_endRound (P := P) jump k
    rw [← hL] at this ⊢
    exact this
  have size2 : ∀ {W : World} {o : Obj}, W.heap[w.heap.size + 1]? = some o → w.heap.size + 2 ≤ W.heap.size := fun k => by
    have := (Array.getElem?_eq_some_iff.1 k).1
    omega
  refine (hiter (fun W => W.heap[w.heap.size + 1]? = some (.loop (L .ready none)) ∧ W.heap[w.heap.size]? = some (.deferred (some [])))
    (fun s W => W.heap[w.heap.size + 1]? = some (.loop (L .done (some (J s)))) ∧ W.heap[w.heap.size]? = some (.deferred (some [])))
    (fun W W' r t => ⟨t.2.trans r.1, t.1.trans r.2⟩) (fun W r => ⟨size2 r.1, ⟨_, r.1⟩, _, r.2⟩) ?_ ?_ (fun s W W' r t => ⟨t.2.trans r.1, t.1.trans r.2⟩) (fun s W r => ⟨size2 r.1, ⟨_, r.1⟩, _, r.2⟩) W1 fI ⟨f1, f2⟩).mono ?_
  · intro s args s' W ho hi r
    have hl := r.1
    rw [← hL] at hl
    refine yield_round hl (hsz s args s' W (.inl ho)) (hon s args s' W ho hi (size2 r.1)) fun W₂ e x W₃ q k1 k2 => ?_
    cases e with
    | normal =>
      obtain ⟨t, hi3⟩ := q
      have k3 := t.2.trans k1
      rw [hL] at k3
      refine ⟨_, _, ended none W₃ k3, rfl, hI.putObj _ hi3 (by omega) k3 rfl, World.putObj_heap_same (Array.getElem?_eq_some_iff.1 k3).1, ?_⟩
      rw [World.putObj_heap_other (by omega), t.1, k2, r.2]
    | ret => exact q.elim
    | exit id => exact q.elim
    | goto t => exact q.elim
    | panic ch => exact q.elim
    | outgrown => exact q.elim
  · intro s args s' W ho hi r
    have hl := r.1
    rw [← hL] at hl
    refine yield_round hl (hsz s args s' W (.inr ho)) (hoff s args s' W ho hi (size2 r.1)) fun W₂ e x W₃ q k1 k2 => ?_
    cases e with
    | ret =>
      obtain ⟨hj, t, hi3⟩ := q
      have k3 := t.2.trans k1
      rw [hL] at k3
      refine ⟨_, _, ended (some .ret) W₃ k3, rfl, hIx.putObj _ hi3 (by omega) k3 rfl, ?_, ?_⟩
      · rw [hj]
        exact World.putObj_heap_same (Array.getElem?_eq_some_iff.1 k3).1
      · rw [World.putObj_heap_other (by omega), t.1, k2, r.2]
    | exit id =>
      obtain ⟨hj, t, hi3⟩ := q
      have k3 := t.2.trans k1
      rw [hL] at k3
      refine ⟨_, _, ended (some (.exit id)) W₃ k3, rfl, hIx.putObj _ hi3 (by omega) k3 rfl, ?_, ?_⟩
      · rw [hj]
        exact World.putObj_heap_same (Array.getElem?_eq_some_iff.1 k3).1
      · rw [World.putObj_heap_other (by omega), t.1, k2, r.2]
    | normal => exact q.elim
    | goto t => exact q.elim
    | panic ch => exact q.elim
    | outgrown => exact q.elim
  · rintro e W2 ⟨⟨v, rfl⟩, (⟨s, hd, hi, k1, k2⟩ | ⟨s, hd, hi, k1, k2⟩)⟩
    · have h := run_endLoop (P := P) k1 (by rw [← hL]; simp [recAt])
      have e : (L .ready none).pending = none := by rw [← hL]; rfl
      rw [e] at h
      exact ⟨none, _, h, hdone s _ hd (hI.putObj _ hi (by omega) k1 rfl) ((World.putObj_heap_other (by omega)).trans k2)⟩
    · have h := run_endLoop (P := P) k1 (by rw [← hL]; simp [recAt])
      have e : (L .done (some (J s))).pending = some (J s) := by rw [← hL]; rfl
      rw [e] at h
      exact ⟨some (J s), _, h, hleft s _ hd (hIx.putObj _ hi (by omega) k1 rfl) ((World.putObj_heap_other (by omega)).trans k2)⟩
end Go.Proofs.Ytcffpkflijpdjaa
namespace Go.Proofs.Ytcffpkflijpdjaa
open Go.RowKit Go.Shelf
attribute [local go_sem] Oper.semAt_some
/-- What stands while all is asked for. -/
structure KM (H L : Nat) (w3 : World) (M : List Er) (j : Nat) (W : World) : Prop where
  kp : Kp (fun g => g < L ∧ g ≠ H) w3 W
  out : ∃ (l : List En) (A : Option Addr) (c : Nat), W.heap[H]? = some (.cells #[.slice A j c] 22 (0, 0)) ∧ l.length = j ∧ Erow W (L + 2) A c l ∧ EMades W (L + 2) l ∧ ers l = M.take j
theorem own_of {W W' : World} {B n : Nat} {e : TypeId} {size : Nat} {v : Value} {xs : List Value} (h : W.ownsRow B e size v n xs) (hk : ∀ g o, B ≤ g → W.heap[g]? = some o → o.isCells = true → W'.heap[g]? = some o) : W'.ownsRow B e size v n xs := by
  refine ⟨h.1, ?_⟩
  rcases h.2 with hn | ⟨g, cap, cur, e1, k1, k2, k3⟩
  · exact .inl hn
  · exact .inr ⟨g, cap, cur, e1, k1, hk _ _ k1 k2 rfl, k3⟩
theorem KM.step {H L j : Nat} {w3 W W' : World} {M : List Er} (h : KM H L w3 M j W) (h1 : W'.os = W.os) (h2 : W'.tape = W.tape) (h3 : W'.output = W.output) (h4 : W.heap.size ≤ W'.heap.size) (hL : L ≤ W.heap.size) (hH : H < L)
    (hk : ∀ g o, W.heap[g]? = some o → (g < L ∨ (L + 2 ≤ g ∧ o.isCells = true)) → W'.heap[g]? = some o) : KM H L w3 M j W' := by
  have hb : ∀ g, g < L → W'.heap[g]? = W.heap[g]? := fun g hg => by
    have e := Array.getElem?_eq_getElem (xs := W.heap) (i := g) (by omega)
    rw [e]
    exact hk g _ e (.inl hg)
  obtain ⟨l, A, c, o1, o2, o3, o4, o5⟩ := h.out
  have ho : ∀ {e : TypeId} {size n : Nat} {v : Value} {xs : List Value}, W.ownsRow (L + 2) e size v n xs → W'.ownsRow (L + 2) e size v n xs := fun h => own_of h (fun g o g1 g2 g3 => hk g o g2 (.inr ⟨g1, g3⟩))
  exact ⟨kp_step h.kp h1 h2 h3 h4 (fun g hg => hb g hg.1), l, A, c, (hb H hH).trans o1, o2, ho o3, fun q hq => ⟨ho (o4 q hq).1, ho (o4 q hq).2⟩, o5⟩
theorem KM.grow {H L j : Nat} {w3 W W' : World} {row : Option Nat} {M : List Er} (h : KM H L w3 M j W) (hL : L ≤ W.heap.size) (hH : H < L) (hg : W.grownBy W' row) (hr : ∀ r, row = some r → r = L ∨ r = L + 1) : KM H L w3 M j W' :=
  h.step hg.os hg.tape hg.output hg.size hL hH (fun g o e q => (hg.block g (Array.getElem?_eq_some_iff.1 e).1 (fun k => by have := hr g k.symm; omega)).trans e)
theorem KM.below {H L j : Nat} {w3 W W' : World} {M : List Er} (h : KM H L w3 M j W) (hL : L ≤ W.heap.size) (hH : H < L) (hb : Below W.heap.size W W') : KM H L w3 M j W' :=
  h.step hb.os hb.tape hb.output hb.size hL hH (fun g o e _ => obj_kept e hb (Nat.le_refl _))
/-- A round's end: one more. -/
theorem km_next {H L j : Nat} {w3 W₂ W3 : World} {M : List Er} {y : En} {A A2 : Option Addr} {c c2 : Nat} {l : List En} {o : Obj} (hH : H < L) (hk : Kp (fun g => g < L ∧ g ≠ H) w3 W₂)
    (o1 : W₂.heap[H]? = some (.cells #[.slice A j c] 22 (0, 0))) (o2 : l.length = j) (o3 : Erow W₂ (L + 2) A c l) (o4 : EMades W₂ (L + 2) l) (hl : ers l = M.take j) (hz : L + 2 ≤ W₂.heap.size)
    (hy : M[j]? = some y.rd) (r1 : Row W₂ (L + 2) y.k.a y.k.c y.k.l) (r2 : Row W₂ (L + 2) y.v.a y.v.c y.v.l)
    (r3 : Erow W3 (L + 2) A2 c2 (l ++ [y])) (b3 : Below (L + 2) (W₂.alloc o) W3) (g3 : (W₂.alloc o).grownBy W3 (Value.slice A j c).ownBlock) :
    Two L W₂ (W3.setCell ⟨H, 0, none⟩ (.slice A2 (j + 1) c2)) ∧ KM H L w3 M (j + 1) (W3.setCell ⟨H, 0, none⟩ (.slice A2 (j + 1) c2)) := by
  have hs1 := World.size_alloc W₂ o
  have e0 := o3.alloc o
  have hlow : ∀ g, g < L + 2 → g ≠ H → (W3.setCell ⟨H, 0, none⟩ (.slice A2 (j + 1) c2)).heap[g]? = W₂.heap[g]? := fun g hg hn => by
    rw [heap_setCell_other _ _ _ _ (by simp only; omega), b3.block g hg, RowKit.Below.heap_alloc _ _ _ (by omega)]
  have hbox : (W3.setCell ⟨H, 0, none⟩ (.slice A2 (j + 1) c2)).heap[H]? = some (.cells #[.slice A2 (j + 1) c2] 22 (0, 0)) := by
    have h1 : W3.heap[H]? = some (.cells #[.slice A j c] 22 (0, 0)) := by
      rw [b3.block _ (by omega), RowKit.Below.heap_alloc _ _ _ (by omega)]
      exact o1
    exact heap_setCell_same W3 H 0 _ _ _ h1
  have r3' : Erow (W3.setCell ⟨H, 0, none⟩ (.slice A2 (j + 1) c2)) (L + 2) A2 c2 (l ++ [y]) := own_setx r3 (fun ad e => by have := (own_in r3 ad e).1; omega)
  have e0' : Erow (W₂.alloc o) (L + 2) A c l := e0
  have g3' : (W₂.alloc o).grownBy W3 (Value.slice A l.length c).ownBlock := by rw [o2]; exact g3
  have hq : ∀ {a : Option Addr} {d : Nat} {X : List Int}, Row W₂ (L + 2) a d X → Row (W3.setCell ⟨H, 0, none⟩ (.slice A2 (j + 1) c2)) (L + 2) a d X := fun r =>
    have r' := Row.besideE (r.kept (below_new W₂ o) (Nat.le_refl _)) e0' g3'
    own_setx r' (fun ad e => by have := (own_in r' ad e).1; omega)
  have m3 : EMades (W3.setCell ⟨H, 0, none⟩ (.slice A2 (j + 1) c2)) (L + 2) (l ++ [y]) := EMades.snoc (fun q hm => ⟨hq (o4 q hm).1, hq (o4 q hm).2⟩) (hq r1) (hq r2)
  have hsz : W₂.heap.size ≤ (W3.setCell ⟨H, 0, none⟩ (.slice A2 (j + 1) c2)).heap.size := by
    have := g3.size
    simp only [World.size_setCell]
    omega
  refine ⟨⟨hlow L (by omega) (by omega), hlow (L + 1) (by omega) (by omega)⟩, ⟨?_, l ++ [y], A2, c2, hbox, by rw [List.length_append, o2]; rfl, r3', m3, ?_⟩⟩
  · exact kp_step hk (g3.os.trans rfl) (g3.tape.trans rfl) (g3.output.trans rfl) hsz (fun g hg => hlow g (by omega) hg.2)
  · rw [ers_append, hl, List.take_add_one, hy]
    rfl
/-- A round that goes on. -/
def OnM (L : Nat) (M : List Er) (s : Nat) (args : Array Value) (s' : Nat) (W : World) : Prop := s' = s + 1 ∧ ∃ y : En, args = #[y.val] ∧ M[s]? = some y.rd ∧ Row W (L + 2) y.k.a y.k.c y.k.l ∧ Row W (L + 2) y.v.a y.v.c y.v.l
/-- The law, as the one who goes. -/
theorem mall_goer {t : MT} {H L N : Nat} {w3 : World} {lo hi : Sl} (hH : H < L) (hz : w3.heap.size = L) (ht : MTab w3 t) (hown : ∀ g, t.own g → g < H)
    (b3 : w3.heap[H + 1]? = some (.cells #[.pointer (some ⟨t.b, 0, none⟩)] 24 (0, 0))) (b4 : w3.heap[H + 2]? = some (.cells #[lo.val] 23 (0, 0))) (b5 : w3.heap[H + 3]? = some (.cells #[hi.val] 23 (0, 0)))
    (hlo : lo.l = []) (hhi : hi.l = []) (rl : (lo.c : Int) ≤ 9223372036854775807) (rh : (hi.c : Int) ≤ 9223372036854775807) (hL : H + 4 ≤ L)
    (R : World → Prop) (hR : ∀ W W', R W → Two L W W' → R W') (hRs : ∀ W, R W → L + 2 ≤ W.heap.size)
    (hyes : ∀ s args s' W, OnM L t.has s args s' W → KM H L w3 t.has s W → R W → YieldAt Fence.wide N Try.prog (L + 1) args W fun e W' => e = .returned (.bool true) ∧ KM H L w3 t.has s' W' ∧ R W') :
    GoM t (H + 1) (H + 2) (H + 3) (L + 2) N (L + 1) lo hi (fun j W => KM H L w3 t.has j W ∧ R W) where
  tab := fun j W h => ht.same (fun g hg => h.1.kp.block g ⟨by have := hown g hg; omega, by have := hown g hg; omega⟩)
  box := fun j W h => by
    have k1 := (h.1.kp.block (H + 1) ⟨by omega, by omega⟩).trans b3
    have k2 := (h.1.kp.block (H + 2) ⟨by omega, by omega⟩).trans b4
    have k3 := (h.1.kp.block (H + 3) ⟨by omega, by omega⟩).trans b5
    refine ⟨?_, ?_, ?_⟩ <;> simp [World.cell?, k1, k2, k3]
  ins := fun j W h => by
    rw [hlo, hhi]
    exact ⟨⟨rfl, Nat.zero_le _, rl, .inl rfl, fun x hx => by cases hx⟩, ⟨rfl, Nat.zero_le _, rh, .inl rfl, fun x hx => by cases hx⟩⟩
  low := fun j W h => hRs W h.2
  bel := fun j W W' h hb => ⟨h.1.below (by have := hRs W h.2; omega) hH hb, hR W W' h.2 (Two.below hb (by have := hRs W h.2; omega))⟩
  yes := fun j W y hy h r1 r2 => hyes j _ (j + 1) W ⟨rfl, y, rfl, hy, r1, r2⟩ h.1 h.2
end Go.Proofs.Ytcffpkflijpdjaa
namespace Go.Proofs.Ytcffpkflijpdjaa
open Go.RowKit Go.Shelf
attribute [local go_sem] Oper.semAt_some
/-- All that a table has. -/
def AllM (M : List Er) (w : World) (e : Ending) (w' : World) : Prop := ∃ (l : List En) (A : Option Addr) (c : Nat), ers l = M ∧ e = .returned (.slice A l.length c) ∧ Erow w' w.heap.size A c l ∧ EMades w' w.heap.size l ∧ Below w.heap.size w w'
set_option maxRecDepth 100000 in
set_option maxHeartbeats 8000000 in
theorem mall_any {w : World} {t : MT} (h : MTab w t) (hn9 : t.ns.length ≤ 140737488355328) (hM : (t.has.length + 1) * 64 ≤ 140737488355328) :
    Calls Try.prog 21 #[.pointer (some ⟨t.b, 0, none⟩), .slice none 0 0, .slice none 0 0] w (AllM t.has w) := by
  have HT := Lib.hid h
  have HML := Lib.hid hM
  have HN9 := Lib.hid hn9
  obtain ⟨H, hH⟩ : ∃ H, w.heap.size = H := ⟨_, rfl⟩
  obtain ⟨w1, hw1⟩ : ∃ w1, w.alloc (.cells #[.slice none 0 0] 22) = w1 := ⟨_, rfl⟩
  have H1 : Hid (Below w.heap.size w w1 ∧ w1.heap[H]? = some (.cells #[.slice none 0 0] 22 (0, 0)) ∧ w1.heap.size = H + 1) := Lib.hid (by rw [← hw1, ← hH]; exact ⟨below_new w _, heap_alloc_new w _, World.size_alloc _ _⟩)
  have HE := Lib.hid (mentries_any (some ⟨t.b, 0, none⟩) none none [] [] 0 0 0 0 w1 (in_nil w1) (in_nil w1) (by decide) (by decide))
  have HOWN : Hid (∀ g, t.own g → g < H) := Lib.hid (fun g hg => hH ▸ h.in_ g hg)
  have HHH := Lib.hid hH
  clear h hM hn9
  refine (callsIn_wide (n := 12)).1 ?_
  refine callsIn_of_wp_marks Try.func21 rfl trivial ?_ rfl
  simp only [Try.ntmps21, List.size_toArray, List.length_cons, List.length_nil, Nat.reduceAdd, Nat.reduceSub, Array.replicate_succ, Array.replicate_zero, List.push_toArray, List.append_toArray, List.nil_append, List.cons_append]
  gi_wp2
  try rw [hw1]
  try rw [hH]
  clear hw1 hH
  refine ⟨trivial, ?_⟩
  refine (callsIn_wide.2 HE.out).mono ?_
  rintro e w3 ⟨rfl, b3, h3, lo, hi, hlo, hhi, e1, e2, rl, rh⟩
  gi_wp2
  have hs1 := H1.out.2.2
  rw [hs1] at h3 e1 e2 rl rh ⊢
  obtain ⟨L, hL⟩ : ∃ L, w3.heap.size = L := ⟨_, rfl⟩
  have hHL : H + 4 ≤ L := by
    have := (Array.getElem?_eq_some_iff.1 e2).1
    omega
  have HHL := Lib.hid hHL
  have HB3 : Hid (Below w.heap.size w w3) := Lib.hid (below_then H1.out.1 b3)
  have HT3 : Hid (MTab w3 t) := Lib.hid (HT.out.kept HB3.out)
  have HE3 := Lib.hid (And.intro h3 (And.intro e1 (And.intro e2 (And.intro hlo hhi))))
  have HC3 : Hid ((lo.c : Int) ≤ 9223372036854775807 ∧ (hi.c : Int) ≤ 9223372036854775807) := Lib.hid ⟨(own_cap rl).2, (own_cap rh).2⟩
  have HI0 : Hid (KM H L w3 t.has 0 w3) := Lib.hid ⟨Kp.refl _ _, [], none, 0, (b3.block H (by omega)).trans H1.out.2.1, rfl, Erow.nil _ _, EMades.nil _ _, rfl⟩
  have hOI : OwnAt w3.heap.size (fun j W => KM H L w3 t.has j W) := fun j W W' row h hg hr => h.grow (by have := h.kp.size; omega) (by omega) hg (fun r e => by have := (hr r e).1; omega)
  have hOX : OwnAt w3.heap.size (fun (_ : Nat) (_ : World) => False) := fun _ _ _ _ h => h.elim
  clear h3 e1 e2 rl rh b3 HE hlo hhi hs1
  refine range_toldK (σ := Nat) (gf := 78) (lb := #[.pointer (some ⟨H + 1, 0, none⟩), .pointer (some ⟨H + 1 + 1, 0, none⟩), .pointer (some ⟨H + 1 + 2, 0, none⟩)]) rfl (enters_of Try.func78 (by kernel_rfl) rfl)
    (fun j W => KM H L w3 t.has j W) (fun _ _ => False) (fun _ => .ret) hOI hOX (OnM L t.has) (fun _ _ _ _ => False) 0 HI0.out (fun s => s = t.has.length) (fun _ => False) ?size ?on ?off ?iter ?done ?left
  case size =>
    rintro s args s' W (⟨-, y, rfl, -⟩ | h)
    · rfl
    · exact h.elim
  case off => intro s args s' W h; exact h.elim
  case left => intro s W h; exact h.elim
  case iter =>
    intro R R' hR hRs hyes hno hR' hRs' W hi' hr
    rw [hL] at hR hRs hyes hno hR' hRs' ⊢
    have hG := mall_goer (N := 10) (by omega) hL HT3.out HOWN.out HE3.out.1 HE3.out.2.1 HE3.out.2.2.1 HE3.out.2.2.2.1 HE3.out.2.2.2.2 HC3.out.1 HC3.out.2 HHL.out R hR (fun W h => (hRs W h).1) (fun s args s' W ho hi hr => hyes s args s' W ho hi hr)
    refine (mentries_iter 10 (L + 1) (H + 1) (H + 2) (H + 3) (L + 2) t lo hi _ hG HE3.out.2.2.2.1 HE3.out.2.2.2.2 HN9.out W ⟨hi', hr⟩).mono ?_
    rintro e W' ⟨hv, hq⟩
    exact ⟨hv, .inl ⟨_, rfl, hq.1, hq.2⟩⟩
  case done =>
    rintro s W rfl hi' hK
    rw [hL] at hK ⊢
    obtain ⟨l, A, c, o1, o2, o3, o4, o5⟩ := hi'.out
    rw [List.take_of_length_le (Nat.le_refl _)] at o5
    have hall : ∀ g, g ≠ L → (W.putObj L (.deferred none)).heap[g]? = W.heap[g]? := fun g hg => World.putObj_heap_other (by omega)
    have ho : ∀ {e : TypeId} {size n : Nat} {v : Value} {xs : List Value}, W.ownsRow (L + 2) e size v n xs → (W.putObj L (.deferred none)).ownsRow (L + 2) e size v n xs := fun h => own_of h (fun g o g1 g2 _ => (hall g (by omega)).trans g2)
    have hsz : W.heap.size ≤ (W.putObj L (.deferred none)).heap.size := (grownBy_putObj' W L (.deferred none)).size
    have HE : Hid (Erow (W.putObj L (.deferred none)) w.heap.size A c l ∧ EMades (W.putObj L (.deferred none)) w.heap.size l ∧ Below w.heap.size w (W.putObj L (.deferred none))) := Lib.hid (by
      have hw := HHH.out
      refine ⟨own_mono (ho o3) (by omega), fun q hq => ⟨own_mono (ho (o4 q hq).1) (by omega), own_mono (ho (o4 q hq).2) (by omega)⟩, ?_⟩
      refine HB3.out.trans ⟨hi'.kp.os, hi'.kp.tape, hi'.kp.output, Nat.le_trans hi'.kp.size hsz, fun g hg => (hall g (by omega)).trans (hi'.kp.block g ⟨by omega, by omega⟩)⟩)
    obtain ⟨j, hj⟩ : ∃ j, t.has.length = j := ⟨_, rfl⟩
    rw [hj] at o1 o2
    have k0 : W.cell? ⟨H, 0, none⟩ = some (.slice A j c) := by simp [World.cell?, o1]
    have HK := Lib.hid hK
    have HL := Lib.hid (And.intro o5 o2)
    clear hall ho hsz o1 o2 o3 o4 o5 hi' hK hj
    gi_wp2
    refine ⟨by simp, .inl ⟨_, _, rfl, run_takeDeferred HK.out, ?_⟩⟩
    refine ⟨.slice A j c, ?_, l, A, c, HL.out.1, by rw [HL.out.2], HE.out.1, HE.out.2.1, HE.out.2.2⟩
    simp [results, Try.f21, go_sem]
  case on =>
    rintro j args s' W ⟨rfl, y, rfl, hM, r1, r2⟩ hk hsz
    rw [hL] at hsz
    obtain ⟨yn, hyn⟩ : ∃ q, y.k.l.length = q := ⟨_, rfl⟩
    obtain ⟨vn, hvn⟩ : ∃ q, y.v.l.length = q := ⟨_, rfl⟩
    rw [En.val_eq, hyn, hvn]
    unfold RoundOf
    rw [hL]
    gi_wp2
    refine ⟨Two.below ((Below.refl (L + 2) W).alloc hsz _) (by omega), fun W₂ g2 hl => ?_⟩
    have hL0 : L ≤ W.heap.size := by omega
    have k1 := hk.below hL0 (by omega) (below_new W (.cells #[.slice y.k.a yn y.k.c, .int .i64 y.s, .bool y.d, .slice y.v.a vn y.v.c] 26))
    have k2 := k1.grow (by rw [World.size_alloc]; omega) (by omega) g2 (fun r e => by injection e with e; omega)
    have y1 := own_of (r1.kept (below_new W (.cells #[.slice y.k.a yn y.k.c, .int .i64 y.s, .bool y.d, .slice y.v.a vn y.v.c] 26)) (Nat.le_refl _)) (fun g o g1 g3 _ => (g2.block g (Array.getElem?_eq_some_iff.1 g3).1 (fun e => by injection e with e; omega)).trans g3)
    have y2 := own_of (r2.kept (below_new W (.cells #[.slice y.k.a yn y.k.c, .int .i64 y.s, .bool y.d, .slice y.v.a vn y.v.c] 26)) (Nat.le_refl _)) (fun g o g1 g3 _ => (g2.block g (Array.getElem?_eq_some_iff.1 g3).1 (fun e => by injection e with e; omega)).trans g3)
    have hzz := g2.size
    rw [World.size_alloc] at hzz
    have e2 : W₂.heap[W.heap.size]? = some (.cells #[.slice y.k.a yn y.k.c, .int .i64 y.s, .bool y.d, .slice y.v.a vn y.v.c] 26 (0, 0)) := (g2.block _ (by rw [World.size_alloc]; omega) (fun e => by injection e with e; omega)).trans (heap_alloc_new W _)
    obtain ⟨l, A, c', o1, o2, o3, o4, o5⟩ := k2.out
    have HKP := Lib.hid k2.kp
    obtain ⟨E, hE⟩ : ∃ E, W.heap.size = E := ⟨_, rfl⟩
    rw [hE] at e2 hzz ⊢
    obtain ⟨c0, c1, c2, c3⟩ : W₂.cell? ⟨E, 0, none⟩ = some (.slice y.k.a yn y.k.c) ∧ W₂.cell? ⟨E, 1, none⟩ = some (.int .i64 y.s) ∧ W₂.cell? ⟨E, 2, none⟩ = some (.bool y.d) ∧ W₂.cell? ⟨E, 3, none⟩ = some (.slice y.v.a vn y.v.c) := by
      refine ⟨?_, ?_, ?_, ?_⟩ <;> simp [World.cell?, e2]
    have x2 : W₂.cell? ⟨H, 0, none⟩ = some (.slice A j c') := by simp [World.cell?, o1]
    have hjM : j < t.has.length := (List.getElem?_eq_some_iff.1 hM).1
    have HLE := Lib.hid (lit_entry W₂ y.k.a y.v.a y.k.c y.v.c y.k.l y.v.l y.s y.d yn vn hyn hvn)
    have HO := Lib.hid (And.intro o2 o3)
    have HJ := Lib.hid hjM
    have HBX : Hid (∀ (o : Obj) (W3 : World), Below (L + 2) (W₂.alloc o) W3 → W3.cell? ⟨H, 0, none⟩ = some (.slice A j c') ∧ W3.frozen? ⟨H, 0, none⟩ = false) := Lib.hid (fun o W3 b => by
      have : W3.heap[H]? = some (.cells #[.slice A j c'] 22 (0, 0)) := by
        rw [b.block _ (by omega), RowKit.Below.heap_alloc _ _ _ (by omega)]
        exact o1
      refine ⟨?_, ?_⟩ <;> simp [World.cell?, World.frozen?, this])
    have hz2 : L + 2 ≤ W₂.heap.size := by omega
    have HNX := Lib.hid (fun (o : Obj) (A2 : Option Addr) (c2 : Nat) (W3 : World) r3 b3 g3 => km_next (o := o) (A2 := A2) (c2 := c2) (W3 := W3) (by omega : H < L) HKP.out o1 o2 o3 o4 o5 hz2 hM y1 y2 r3 b3 g3)
    have HZ2 := Lib.hid hz2
    clear k1 k2 g2 hl e2 y1 y2 hE hyn hvn hk hM r1 r2 hsz hzz o1 o2 o3 o4 o5 hjM hOI hOX hz2 hL0
    gi_wp2_with (gi_at_builtin; refine wpListIn_append_one _ rfl (.tmp 14) (.tmp 16) rfl (L + 2) A c' l y _ j 1 rfl rfl HO.out.1 (HO.out.2.alloc _) HLE.out (by rw [World.size_alloc]; have := HZ2.out; omega) (by rw [HO.out.1]; have := HML.out; have := HJ.out; omega) ?_; intro A2 c2' W3 r3 b3 g3 p3; have R3 := Lib.hid (And.intro r3 (And.intro b3 g3)); obtain ⟨x3, x4⟩ := HBX.out _ _ b3; clear r3 b3 g3 p3)
    exact HNX.out _ _ _ _ R3.out.1 R3.out.2.1 R3.out.2.2
end Go.Proofs.Ytcffpkflijpdjaa
