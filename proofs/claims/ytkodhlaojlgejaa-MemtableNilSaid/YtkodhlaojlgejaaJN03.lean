/-
  Walks: what is handed out to go over a table; nothing of a nil one. Walks: nothing is told of a nil table. Walks: the law's first look. Walks: the law's first look. The law: a nil table refuses.
-/
import Derived.RangeFuncNested
import Derived.RangeFuncBound
import Derived.RangeFuncCalls
import Derived.RangeFuncLeaves
import Derived.Shelf.Abstract
import Derived.Shelf.RegionOpen
import Derived.OwnWalkIn
import Derived.TacticsInMore
import Derived.LoopNIn
import Derived.LoopIn
import Derived.Test.YtkodhlaojlgejaaJN02
set_option linter.unusedSimpArgs false
set_option linter.unusedVariables false
namespace Go.Proofs.Ytkodhlaojlgejaa
open Go.RowKit
theorem three_new (w : World) (o p q : Obj) : ((((w.alloc o).alloc p).alloc q).heap[w.heap.size]? = some o ∧ (((w.alloc o).alloc p).alloc q).heap[w.heap.size + 1]? = some p ∧ (((w.alloc o).alloc p).alloc q).heap[w.heap.size + 2]? = some q) ∧ Below w.heap.size w (((w.alloc o).alloc p).alloc q) := by
  have h1 := below_new w o
  have h2 := below_new (w.alloc o) p
  have h3 := below_new ((w.alloc o).alloc p) q
  have s1 := World.size_alloc w o
  have s2 := World.size_alloc (w.alloc o) p
  refine ⟨⟨obj_kept (obj_kept (heap_alloc_new w o) h2 (Nat.le_refl _)) h3 (Nat.le_refl _), ?_, ?_⟩, (h1.trans (h2.mono (by omega))).trans (h3.mono (by omega))⟩
  · have := heap_alloc_new (w.alloc o) p
    rw [s1] at this
    exact obj_kept this h3 (Nat.le_refl _)
  · have := heap_alloc_new ((w.alloc o).alloc p) q
    rw [s2, s1] at this
    exact this
theorem sizeFour (w : World) (o p q : Obj) : (((w.alloc o).alloc p).alloc q).heap.size = w.heap.size + 3 := by simp only [World.size_alloc]
theorem set_pair {W : World} {y z : Nat} {a b u v : Value} {s t : TypeId} (hy : W.heap[y]? = some (.cells #[a] s (0, 0))) (hz : W.heap[z]? = some (.cells #[b] t (0, 0))) (hne : y ≠ z) :
    ((W.setCell ⟨y, 0, none⟩ u).setCell ⟨z, 0, none⟩ v).heap[y]? = some (.cells #[u] s (0, 0)) ∧ ((W.setCell ⟨y, 0, none⟩ u).setCell ⟨z, 0, none⟩ v).heap[z]? = some (.cells #[v] t (0, 0)) := by
  have h1 := heap_setCell_same W y 0 _ s u hy
  have h2 : (W.setCell ⟨y, 0, none⟩ u).heap[z]? = W.heap[z]? := heap_setCell_other _ _ _ _ (Ne.symm hne)
  refine ⟨(heap_setCell_other _ _ _ _ hne).trans h1, ?_⟩
  exact heap_setCell_same _ z 0 _ t v (h2.trans hz)
theorem set_pair_other (W : World) (y z j : Nat) (u v : Value) (h1 : j ≠ y) (h2 : j ≠ z) : ((W.setCell ⟨y, 0, none⟩ u).setCell ⟨z, 0, none⟩ v).heap[j]? = W.heap[j]? := by
  rw [heap_setCell_other _ _ _ _ h2, heap_setCell_other _ _ _ _ h1]
theorem set_pair_kp (W : World) (y z B : Nat) (u v : Value) (hy : y < B) (hz : z < B) : Kp (fun j => B ≤ j) W ((W.setCell ⟨y, 0, none⟩ u).setCell ⟨z, 0, none⟩ v) :=
  ((Kp.refl _ W).set y 0 u (by omega)).set z 0 v (by omega)
theorem set_pair_below {w W : World} {B : Nat} (h : Below B w W) (y z : Nat) (u v : Value) (hy : B ≤ y) (hz : B ≤ z) : Below B w ((W.setCell ⟨y, 0, none⟩ u).setCell ⟨z, 0, none⟩ v) :=
  ⟨h.os, h.tape, h.output, by simpa using h.size, fun k hk => (set_pair_other W y z k u v (by omega) (by omega)).trans (h.block k hk)⟩
/-- What Entries hands out. -/
def EntHm (t : Option Addr) (L H : List Int) (w : World) (e : Ending) (w' : World) : Prop := e = .returned (.func (.func 54) #[] #[.pointer (some ⟨w.heap.size, 0, none⟩), .pointer (some ⟨w.heap.size + 1, 0, none⟩), .pointer (some ⟨w.heap.size + 2, 0, none⟩)]) ∧ Below w.heap.size w w' ∧ w'.heap[w.heap.size]? = some (.cells #[.pointer t] 24 (0, 0)) ∧
  ∃ lo hi : Sl, lo.l = L ∧ hi.l = H ∧ w'.heap[w.heap.size + 1]? = some (.cells #[lo.val] 23 (0, 0)) ∧ w'.heap[w.heap.size + 2]? = some (.cells #[hi.val] 23 (0, 0)) ∧ Row w' w.heap.size lo.a lo.c lo.l ∧ Row w' w.heap.size hi.a hi.c hi.l
set_option maxRecDepth 100000 in
set_option maxHeartbeats 8000000 in
theorem mentries_any (t la ha : Option Addr) (L H : List Int) (n m c d : Nat) (w : World) (hl : In w la L n c) (hh : In w ha H m d) (hn9 : n ≤ 140737488355328) (hm9 : m ≤ 140737488355328) : Calls Try.prog 41 #[.pointer t, .slice la n c, .slice ha m d] w (EntHm t L H w) := by
  have HN := Lib.hid hl.len
  have HM := Lib.hid hh.len
  have HCK : Hid (∀ W : World, Below w.heap.size w W → Calls Try.prog 47 #[.slice la n c] W (Longer W W.heap.size L)) := Lib.hid (fun W hb => clone_any la L n c W HN.out (hl.kept hb).bys (by rw [HN.out]; exact hn9))
  have HCV : Hid (∀ W : World, Below w.heap.size w W → Calls Try.prog 47 #[.slice ha m d] W (Longer W W.heap.size H)) := Lib.hid (fun W hb => clone_any ha H m d W HM.out (hh.kept hb).bys (by rw [HM.out]; exact hm9))
  clear hl hh hn9 hm9
  go_enter Try.func41, Try.ntmps41
  go_upto_region 1 with fail
  have N3 := three_new w (.cells #[.pointer t] 24) (.cells #[.slice la n c] 23) (.cells #[.slice ha m d] 23)
  obtain ⟨w1, hw1⟩ : ∃ w1, (((w.alloc (.cells #[.pointer t] 24)).alloc (.cells #[.slice la n c] 23)).alloc (.cells #[.slice ha m d] 23)) = w1 := ⟨_, rfl⟩
  have hz : w1.heap.size = w.heap.size + 3 := by rw [← hw1]; exact sizeFour w _ _ _
  rw [hw1] at N3 ⊢
  clear hw1
  have B1 := Lib.hid N3.2
  have HH : Hid (∀ W : World, Below w1.heap.size w1 W → W.heap[w.heap.size]? = some (.cells #[.pointer t] 24 (0, 0)) ∧ W.heap[w.heap.size + 1]? = some (.cells #[.slice la n c] 23 (0, 0)) ∧ W.heap[w.heap.size + 1 + 1]? = some (.cells #[.slice ha m d] 23 (0, 0))) := Lib.hid (fun W hb => ⟨obj_kept N3.1.1 hb (Nat.le_refl _), obj_kept N3.1.2.1 hb (Nat.le_refl _), obj_kept N3.1.2.2 hb (Nat.le_refl _)⟩)
  clear N3
  have HC : Hid (∀ W : World, Below w1.heap.size w1 W → W.cell? ⟨w.heap.size + 1, 0, none⟩ = some (.slice la n c) ∧ W.cell? ⟨w.heap.size + 1 + 1, 0, none⟩ = some (.slice ha m d) ∧ W.frozen? ⟨w.heap.size + 1, 0, none⟩ = false ∧ W.frozen? ⟨w.heap.size + 1 + 1, 0, none⟩ = false) := Lib.hid (fun W hb => by
    obtain ⟨-, h1, h2⟩ := HH.out W hb
    refine ⟨?_, ?_, ?_, ?_⟩ <;> simp [World.cell?, World.frozen?, h1, h2])
  have CB := Lib.hid (Below.refl w1.heap.size w1)
  obtain ⟨p1, p2, -, -⟩ := HC.out w1 CB.out
  go_region_with (go_at_call 47; first
    | (refine (HCK.out _ (B1.out.trans ((by repeat (first | exact Below.refl _ _ | exact CB.out | refine Below.drew ?_) : Below w1.heap.size w1 _).mono B1.out.size))).mono ?_; rintro e w2 ⟨A1, c1, rfl, r1, b1⟩; have R1 := Lib.hid (r1.mono (by repeat (first | exact Below.refl _ _ | exact CB.out | refine Below.drew ?_) : Below w1.heap.size w1 _).size); replace CB := Lib.hid (below_then (by repeat (first | exact Below.refl _ _ | exact CB.out | refine Below.drew ?_) : Below w1.heap.size w1 _) b1); obtain ⟨q1, q2, -, -⟩ := HC.out w2 CB.out; clear r1 b1)
    | (refine (HCV.out _ (B1.out.trans ((by repeat (first | exact Below.refl _ _ | exact CB.out | refine Below.drew ?_) : Below w1.heap.size w1 _).mono B1.out.size))).mono ?_; rintro e w3 ⟨A2, c2, rfl, r2, b2⟩; have R2 := Lib.hid (r2.mono (by repeat (first | exact Below.refl _ _ | exact CB.out | refine Below.drew ?_) : Below w1.heap.size w1 _).size); have B3 := Lib.hid (below_then (by repeat (first | exact Below.refl _ _ | refine Below.drew ?_) : Below w2.heap.size w2 _) b2); replace CB := Lib.hid (below_then (by repeat (first | exact Below.refl _ _ | exact CB.out | refine Below.drew ?_) : Below w1.heap.size w1 _) b2); obtain ⟨r1, r2, r3, r4⟩ := HC.out w3 CB.out; clear b2))
  all_goals
    have H4 := Lib.hid (set_pair (u := .slice A1 L.length c1) (v := .slice A2 H.length c2) (HH.out w3 CB.out).2.1 (HH.out w3 CB.out).2.2 (by omega))
    have H5 := Lib.hid ((set_pair_other w3 (w.heap.size + 1) (w.heap.size + 1 + 1) w.heap.size (.slice A1 L.length c1) (.slice A2 H.length c2) (by omega) (by omega)).trans (HH.out w3 CB.out).1)
    have K4 := Lib.hid (set_pair_kp w3 (w.heap.size + 1) (w.heap.size + 1 + 1) w1.heap.size (.slice A1 L.length c1) (.slice A2 H.length c2) (by omega) (by omega))
    have B4 := Lib.hid (set_pair_below (B1.out.trans (CB.out.mono B1.out.size)) (w.heap.size + 1) (w.heap.size + 1 + 1) (.slice A1 L.length c1) (.slice A2 H.length c2) (by omega) (by omega))
    clear r1 r2 r3 r4 q1 q2 p1 p2 HH HC HCK HCV
    generalize ((w3.setCell ⟨w.heap.size + 1, 0, none⟩ (.slice A1 L.length c1)).setCell ⟨w.heap.size + 1 + 1, 0, none⟩ (.slice A2 H.length c2)) = w4 at H4 H5 K4 B4 ⊢
    have R3 := own_kp (R1.out.kept B3.out (Nat.le_refl _)) K4.out (fun ad ha => (own_in (R1.out.kept B3.out (Nat.le_refl _)) ad ha).1)
    have R4 := own_kp R2.out K4.out (fun ad ha => (own_in R2.out ad ha).1)
    have Q3 := Lib.hid (own_mono R3 B1.out.size)
    have Q4 := Lib.hid (own_mono R4 B1.out.size)
    clear R3 R4
    go_wp2_with fail
    go_ret
    exact ⟨rfl, B4.out, H5.out, ⟨A1, c1, L⟩, ⟨A2, c2, H⟩, rfl, rfl, H4.out.1, H4.out.2, Q3.out, Q4.out⟩
end Go.Proofs.Ytkodhlaojlgejaa
namespace Go.Proofs.Ytkodhlaojlgejaa
open Go.RowKit
theorem range_none {P : Program} {g : Operand} {ps : Array Tmp} {assign body : Code} {Q : Exit → Act → World → Prop} {a : Act} {w : World} {gf : Nat} {lb : Array Value}
    (hg : a.eval g = .func (.func gf) #[] lb) (eg : ∀ args w, (callFunc gf args).run P w = .ok (.enter gf args) w)
    (hc : ∀ W, Below w.heap.size w W → Calls P gf (#[.func (.yield (w.heap.size + 1)) #[] #[]] ++ lb) W fun e W' => (∃ v, e = .returned v) ∧ W' = W)
    (hdone : ∀ W, Below w.heap.size w W → W.heap[w.heap.size]? = some (.deferred (some [])) → Q .normal { a with defers := { target := .collected w.heap.size, args := #[] } :: a.defers } W) :
    (Code.rangeFunc g ps assign body).wp P Q a w := by
  refine (wpIn_wide (n := 5)).1 ?_
  refine wpIn_rangeFunc fun fn _ => ?_
  obtain ⟨L, hL⟩ : ∃ L : Loop, ({ state := .ready, pending := none, fn := fn, tmps := a.tmps, params := ps, assign := assign, body := body, defers := w.heap.size } : Loop) = L := ⟨_, rfl⟩
  obtain ⟨f2, f1⟩ := two_laid w (.deferred (some [])) (.loop L)
  have fB : Below w.heap.size w ((w.alloc (.deferred (some []))).alloc (.loop L)) := (below_new w _).alloc (by simp) _
  generalize hW : (w.alloc (.deferred (some []))).alloc (.loop L) = W1 at f1 f2 fB
  have fE : (Instr.enterLoop fn a.tmps ps assign body none).run P w = .ok (w.heap.size + 1, [⟨.collected w.heap.size, #[]⟩]) W1 := by
    rw [← hW, ← hL]
    exact run_enterLoop_outer _ _ _ _ _
  refine ⟨_, _, _, _, _, _, _, _, fE, call_laid hg _ W1, fun _ _ => trivial, call_enters eg _ W1, fun h => by simp [Fence.wide] at h, ?_⟩
  refine (callsIn_wide.2 (hc W1 fB)).mono ?_
  rintro e W2 ⟨⟨v, rfl⟩, rfl⟩
  have h := run_endLoop (P := P) f1 (by rw [← hL]; simp)
  have e : L.pending = none := by rw [← hL]
  rw [e] at h
  refine ⟨none, _, h, hdone _ ?_ ((World.putObj_heap_other (by omega)).trans f2)⟩
  exact fB.trans ⟨rfl, rfl, rfl, by simp [World.putObj], fun k hk => World.putObj_heap_other (by omega)⟩
theorem entries_nil (y : Value) (b lo hi : Nat) (w : World) (h : w.cell? ⟨b, 0, none⟩ = some (.pointer none)) :
    Calls Try.prog 54 #[y, .pointer (some ⟨b, 0, none⟩), .pointer (some ⟨lo, 0, none⟩), .pointer (some ⟨hi, 0, none⟩)] w fun e w' => (∃ v, e = .returned v) ∧ w' = w := by
  go_enter Try.func54, Try.ntmps54
  go_wp2_with fail
  first
    | (go_end0; exact ⟨⟨_, rfl⟩, rfl⟩)
    | (refine bodyPost_ret (v := .tuple #[]) ?_ rfl ⟨⟨_, rfl⟩, rfl⟩; unfold results; go_simp)
set_option maxRecDepth 100000 in
set_option maxHeartbeats 8000000 in
theorem mall_nil (w : World) : Calls Try.prog 17 #[.pointer none, .slice none 0 0, .slice none 0 0] w fun e w' => e = .returned (.slice none 0 0) ∧ Below w.heap.size w w' := by
  have H1 : Hid (Below w.heap.size w (w.alloc (.cells #[.slice none 0 0] 22)) ∧ (w.alloc (.cells #[.slice none 0 0] 22)).heap[w.heap.size]? = some (.cells #[.slice none 0 0] 22 (0, 0)) ∧ (w.alloc (.cells #[.slice none 0 0] 22)).heap.size = w.heap.size + 1) := Lib.hid ⟨below_new w _, heap_alloc_new w _, by simp⟩
  obtain ⟨w1, hw1⟩ : ∃ w1, w.alloc (.cells #[.slice none 0 0] 22) = w1 := ⟨_, rfl⟩
  rw [hw1] at H1
  have HE := Lib.hid (mentries_any none none none [] [] 0 0 0 0 w1 (in_nil w1) (in_nil w1) (by decide) (by decide))
  refine (callsIn_wide (n := 12)).1 ?_
  refine callsIn_of_wp_marks Try.func17 rfl trivial ?_ rfl
  simp only [Try.ntmps17, List.size_toArray, List.length_cons, List.length_nil, Nat.reduceAdd, Nat.reduceSub, Array.replicate_succ, Array.replicate_zero, List.push_toArray, List.append_toArray, List.nil_append, List.cons_append]
  refine wpIn_wide.2 ?_
  go_upto_region 2 with fail
  try rw [hw1]
  clear hw1
  go_wp2_with (go_at_call 41; refine HE.out.mono ?_; rintro e w2 ⟨rfl, b2, h2, -⟩; have H2 : Hid (Below w.heap.size w w2 ∧ w2.heap[w1.heap.size]? = some (.cells #[.pointer none] 24 (0, 0)) ∧ w2.heap[w.heap.size]? = some (.cells #[.slice none 0 0] 22 (0, 0))) := Lib.hid ⟨below_then H1.out.1 b2, h2, obj_kept H1.out.2.1 b2 (Nat.le_refl _)⟩; clear b2 h2)
  have S2 := Lib.hid H1.out.2.2
  refine range_none (gf := 54) (lb := #[.pointer (some ⟨w1.heap.size, 0, none⟩), .pointer (some ⟨w1.heap.size + 1, 0, none⟩), .pointer (some ⟨w1.heap.size + 2, 0, none⟩)]) rfl (enters_of Try.func54 (by kernel_rfl) rfl) (fun W hb => entries_nil _ _ _ _ W ?_) (fun W hb hdef => ?_)
  · simp [World.cell?, obj_kept H2.out.2.1 hb (Nat.le_refl _)]
  have HW : Hid (Below w.heap.size w W ∧ W.heap[w.heap.size]? = some (.cells #[.slice none 0 0] 22 (0, 0)) ∧ W.heap[w2.heap.size]? = some (.deferred (some []))) := Lib.hid ⟨below_then H2.out.1 hb, obj_kept H2.out.2.2 hb (Nat.le_refl _), hdef⟩
  have k0 : W.cell? ⟨w.heap.size, 0, none⟩ = some (.slice none 0 0) := by simp [World.cell?, HW.out.2.1]
  have HPB : Hid (Below w.heap.size w (W.putObj w2.heap.size (.deferred none))) := Lib.hid (by
    have h1 := HW.out.1
    have h2 := H2.out.1.size
    exact ⟨h1.os, h1.tape, h1.output, by simpa [World.putObj] using h1.size, fun g hg => (World.putObj_heap_other (by omega)).trans (h1.block g hg)⟩)
  clear hb hdef
  try simp only [Exit.inBlock, Exit.then]
  go_wp2_with fail
  refine ⟨by simp, .inl ⟨_, _, rfl, run_takeDeferred HW.out.2.2, ?_⟩⟩
  refine ⟨_, ?_, rfl, HPB.out⟩
  simp [results, Try.f17, go_sem]
end Go.Proofs.Ytkodhlaojlgejaa
namespace Go.Proofs.Ytkodhlaojlgejaa
open Go.RowKit
/-- A table that the law made itself. -/
structure WS (w W : World) (b : Nat) (L : List Er) (n : Nat) : Prop where
  tab : ∃ t : MT, t.b = b ∧ MTab W t ∧ t.has.Perm L ∧ t.ns.length = n ∧ ∀ g, t.own g → w.heap.size ≤ g
  low : Below w.heap.size w W
theorem WS.kept {w W W' : World} {b n : Nat} {L : List Er} (h : WS w W b L n) (hb : Below W.heap.size W W') : WS w W' b L n := by
  obtain ⟨⟨t, h1, h2, h3, h4, h5⟩, h6⟩ := h
  exact ⟨⟨t, h1, h2.kept hb, h3, h4, h5⟩, below_then h6 hb⟩
theorem tds_low {S S' : Nat → Prop} {w W W' : World} (h : Below w.heap.size w W) (ht : Tds S S' W W') (hs : ∀ g, S g → w.heap.size ≤ g) : Below w.heap.size w W' ∧ ∀ g, S' g → w.heap.size ≤ g := by
  have := h.size
  exact ⟨⟨ht.os.trans h.os, ht.tape.trans h.tape, ht.output.trans h.output, Nat.le_trans h.size ht.size, fun g hg => (ht.block g (by omega) (fun e => by have := hs g e; omega)).trans (h.block g hg)⟩, fun g hg => (ht.grows g hg).elim (hs g) (fun e => by omega)⟩
theorem wput {w W : World} {b n n' : Nat} {L L' : List Er} (h : WS w W b L n) (c s er : Int) (d : Bool) (hc : 0 ≤ c ∧ c < 256) (hs : -9223372036854775808 ≤ s ∧ s ≤ 9223372036854775807) (hn : n ≤ 5)
    (hr : (¬ GoodE ([c], s, d, []) ∧ er = 30 ∧ L' = L ∧ n' = n) ∨ (GoodE ([c], s, d, []) ∧ er = 31 ∧ (∃ y ∈ L, ordE y ([c], s, d, []) = 0) ∧ L' = L ∧ n' = n) ∨ (GoodE ([c], s, d, []) ∧ er = 0 ∧ (∀ y ∈ L, ordE y ([c], s, d, []) ≠ 0) ∧ L' = ([c], s, d, []) :: L ∧ n' = n + 1)) :
    Calls Try.prog 12 #[.pointer (some ⟨b, 0, none⟩), .agg #[.slice (some ⟨W.heap.size, 0, none⟩) 1 1, .int .i64 s, .bool d, .slice none 0 0]] (W.alloc (.cells #[.int .u8 c] 5 (1, 2))) fun e W' => e = .returned (.int .i64 er) ∧ WS w W' b L' n' := by
  have hW := h.kept (below_new W (.cells #[.int .u8 c] 5 (1, 2)))
  obtain ⟨⟨t, rfl, h2, h3, h4, h5⟩, h6⟩ := hW
  have hi : EIn (W.alloc (.cells #[.int .u8 c] 5 (1, 2))) (⟨⟨some ⟨W.heap.size, 0, none⟩, 1, [c]⟩, s, d, ⟨none, 0, []⟩⟩ : En) := ⟨one_at (heap_alloc_new W _) hc, in_nil _⟩
  refine (mput_any h2 ⟨⟨some ⟨W.heap.size, 0, none⟩, 1, [c]⟩, s, d, ⟨none, 0, []⟩⟩ hi hs (by simp) (by simp) (by omega)).mono ?_
  rintro e W' ⟨er', t', rfl, k1, k2, k3, k4⟩
  obtain ⟨j1, j2⟩ := tds_low h6 k3 h5
  have hrd : (⟨⟨some ⟨W.heap.size, 0, none⟩, 1, [c]⟩, s, d, ⟨none, 0, []⟩⟩ : En).rd = ([c], s, d, []) := rfl
  rw [hrd] at k4
  rcases k4 with ⟨rfl, g1, g2⟩ | ⟨rfl, g1, ⟨y, y1, y2⟩, g2⟩ | ⟨rfl, g1, g2, g3⟩
  · rcases hr with ⟨-, rfl, rfl, rfl⟩ | ⟨r1, -⟩ | ⟨r1, -⟩
    · subst g2
      exact ⟨rfl, ⟨⟨_, k2, k1, h3, h4, j2⟩, j1⟩⟩
    · exact absurd r1 g1
    · exact absurd r1 g1
  · rcases hr with ⟨r1, -⟩ | ⟨-, rfl, -, rfl, rfl⟩ | ⟨-, -, r1, -⟩
    · exact absurd g1 r1
    · subst g2
      exact ⟨rfl, ⟨⟨_, k2, k1, h3, h4, j2⟩, j1⟩⟩
    · exact absurd y2 (r1 y (h3.subset y1))
  · rcases hr with ⟨r1, -⟩ | ⟨-, -, ⟨y, y1, y2⟩, -⟩ | ⟨-, rfl, -, rfl, rfl⟩
    · exact absurd g1 r1
    · have ha := (apt_perm g2).1 (ordL_apt k1.skip.sorted)
      have := (List.pairwise_cons.1 ha).1 y (h3.symm.subset y1)
      rw [ordE_flip, y2] at this
      exact absurd rfl this
    · exact ⟨rfl, ⟨⟨_, k2, k1, g2.trans (h3.cons _), by rw [g3, h4], j2⟩, j1⟩⟩
/-- The law's own two entries. -/
def M2 : List Er := [([97], 2, true, []), ([97], 1, false, [])]
theorem wget {w W : World} {b : Nat} (h : WS w W b M2 3) : Calls Try.prog 11 #[.pointer (some ⟨b, 0, none⟩), .slice (some ⟨W.heap.size, 0, none⟩) 1 1, .int .i64 1] (W.alloc (.cells #[.int .u8 97] 5 (1, 2))) fun e W' => ∃ y : En, y.s = 1 ∧ e = .returned (.tuple #[y.val, .bool true, .int .i64 0]) ∧ WS w W' b M2 3 := by
  have hW := h.kept (below_new W (.cells #[.int .u8 97] 5 (1, 2)))
  have hW2 := hW
  obtain ⟨⟨t, rfl, h2, h3, h4, h5⟩, h6⟩ := hW
  have hx : ∀ c ∈ t.cs, eo t.ns c ∈ M2 := fun c hc => h3.subset (List.mem_map_of_mem hc)
  refine (mget_found h2 (some ⟨W.heap.size, 0, none⟩) [97] 1 1 1 1 (one_at (heap_alloc_new W _) (by decide)) ?_ ?_).mono ?_
  · intro i q hi hq
    have hlt := (List.getElem?_eq_some_iff.1 hq).1
    have hg := h2.skip.good i ((h2.skip.all i).2 ⟨by omega, hlt⟩)
    rw [eo_of hq] at hg
    obtain ⟨⟨-, g1⟩, -, g2, -⟩ := hg
    simp only [En.rd] at g1 g2
    exact ⟨by omega, by omega⟩
  · intro a ha g1 g2
    obtain ⟨C1, C2, hp⟩ := place h2.skip ha g1 g2
    obtain ⟨c, hc, hce⟩ := List.mem_map.1 (h3.symm.subset (show (([97], 1, false, []) : Er) ∈ M2 by simp [M2]))
    have hc2 : c ∈ C2 := by
      rw [hp.cut] at hc
      rcases List.mem_append.1 hc with q | q
      · have := hp.low c q
        rw [hce] at this
        exact absurd this (by decide)
      · exact q
    have hn := hp.next
    have hh := hp.high
    have hcut := hp.cut
    cases C2 with
    | nil => cases hc2
    | cons d D =>
      obtain ⟨e1, e2, e3⟩ := hn
      have hd : d ∈ t.cs := by rw [hcut]; exact List.mem_append_right _ (List.mem_cons_self ..)
      have hl := (h2.skip.all d).1 hd
      have hm := hx d hd
      have hb := hh d (List.mem_cons_self ..)
      rw [e1]
      refine ⟨e2, hl.2, ?_⟩
      simp only [M2, List.mem_cons, List.mem_nil_iff, or_false] at hm
      rcases hm with hm | hm
      · rw [hm] at hb
        exact absurd (by decide) hb
      · rw [hm]
        exact ⟨rfl, rfl⟩
  · rintro e W' ⟨y, y1, rfl, y2⟩
    exact ⟨y, y1, rfl, hW2.kept y2⟩
end Go.Proofs.Ytkodhlaojlgejaa
namespace Go.Proofs.Ytkodhlaojlgejaa
open Go.RowKit
set_option maxRecDepth 100000 in
set_option maxHeartbeats 8000000 in
theorem wakes_mt (w : World) : Calls Try.prog 14 #[] w fun e w' => e = .returned (.bool true) ∧ Below w.heap.size w w' := by
  have HN : Hid (∀ W, Calls Try.prog 18 #[.slice (some ⟨W.heap.size, 0, none⟩) 3 3] (W.alloc (.cells #[.int .i64 3, .int .i64 99, .int .i64 (-1)] 3)) fun e W' => ∃ b, e = .returned (.pointer (some ⟨b, 0, none⟩)) ∧ WS W W' b [] 1) := Lib.hid (fun W => by
    refine (mnew_any (some ⟨W.heap.size, 0, none⟩) [3, 99, -1] 3 3 rfl (lit_lies W _ _ rfl 3) (by decide)).mono ?_
    rintro e W' ⟨t, rfl, h1, h2, h3, h4, h5⟩
    exact ⟨_, rfl, ⟨⟨t, rfl, h1, h2 ▸ List.Perm.refl _, h3, fun g hg => by have := h4 g hg; simp at this; omega⟩, below_then (below_new W _) h5⟩⟩)
  go_enter Try.func14, Try.ntmps14
  have k97 := one_conv 97
  have k98 := one_conv 98
  go_upto_region 2 with (go_at_call 18; refine (HN.out _).mono ?_; rintro e w1 ⟨b, rfl, h1⟩; have HS := Lib.hid h1; clear h1)
  have HP1 : Hid (∀ W, WS w W b [] 1 → Calls Try.prog 12 #[.pointer (some ⟨b, 0, none⟩), .agg #[.slice (some ⟨W.heap.size, 0, none⟩) 1 1, .int .i64 1, .bool false, .slice none 0 0]] (W.alloc (.cells #[.int .u8 97] 5 (1, 2))) fun e W' => e = .returned (.int .i64 0) ∧ WS w W' b [([97], 1, false, [])] 2) := Lib.hid (fun W h => wput (n' := 2) (L' := [([97], 1, false, [])]) h 97 1 0 false (by decide) (by decide) (by decide) (.inr (.inr ⟨by decide +kernel, rfl, by decide +kernel, rfl, rfl⟩)))
  have HP2 : Hid (∀ W, WS w W b [([97], 1, false, [])] 2 → Calls Try.prog 12 #[.pointer (some ⟨b, 0, none⟩), .agg #[.slice (some ⟨W.heap.size, 0, none⟩) 1 1, .int .i64 2, .bool true, .slice none 0 0]] (W.alloc (.cells #[.int .u8 97] 5 (1, 2))) fun e W' => e = .returned (.int .i64 0) ∧ WS w W' b M2 3) := Lib.hid (fun W h => wput (n' := 3) (L' := M2) h 97 2 0 true (by decide) (by decide) (by decide) (.inr (.inr ⟨by decide +kernel, rfl, by decide +kernel, rfl, rfl⟩)))
  have HP3 : Hid (∀ W, WS w W b M2 3 → Calls Try.prog 12 #[.pointer (some ⟨b, 0, none⟩), .agg #[.slice (some ⟨W.heap.size, 0, none⟩) 1 1, .int .i64 2, .bool false, .slice none 0 0]] (W.alloc (.cells #[.int .u8 97] 5 (1, 2))) fun e W' => e = .returned (.int .i64 31) ∧ WS w W' b M2 3) := Lib.hid (fun W h => wput (n' := 3) (L' := M2) h 97 2 31 false (by decide) (by decide) (by decide) (.inr (.inl ⟨by decide +kernel, rfl, by decide +kernel, rfl, rfl⟩)))
  have HP4 : Hid (∀ W, WS w W b M2 3 → Calls Try.prog 12 #[.pointer (some ⟨b, 0, none⟩), .agg #[.slice (some ⟨W.heap.size, 0, none⟩) 1 1, .int .i64 0, .bool false, .slice none 0 0]] (W.alloc (.cells #[.int .u8 98] 5 (1, 2))) fun e W' => e = .returned (.int .i64 30) ∧ WS w W' b M2 3) := Lib.hid (fun W h => wput (n' := 3) (L' := M2) h 98 0 30 false (by decide) (by decide) (by decide) (.inl ⟨by decide +kernel, rfl, rfl, rfl⟩))
  have HG : Hid (∀ W, WS w W b M2 3 → Calls Try.prog 11 #[.pointer (some ⟨b, 0, none⟩), .slice (some ⟨W.heap.size, 0, none⟩) 1 1, .int .i64 1] (W.alloc (.cells #[.int .u8 97] 5 (1, 2))) fun e W' => ∃ (A B : Option Addr) (n c m k : Nat) (d : Bool), e = .returned (.tuple #[.agg #[.slice A n c, .int .i64 1, .bool d, .slice B m k], .bool true, .int .i64 0]) ∧ WS w W' b M2 3) := Lib.hid (fun W h => (wget h).mono (by
    rintro e W' ⟨y, y1, rfl, y2⟩
    rw [En.val_eq, y1]
    exact ⟨_, _, _, _, _, _, _, rfl, y2⟩))
  have HLN : Hid (∀ W, WS w W b M2 3 → Calls Try.prog 16 #[.pointer (some ⟨b, 0, none⟩)] W fun e W' => e = .returned (.int .i64 2) ∧ W' = W) := Lib.hid (fun W h => by
    obtain ⟨⟨t, rfl, h2, h3, h4, h5⟩, h6⟩ := h
    refine (mlen_any h2 (by rw [h4]; decide)).mono ?_
    rintro e W' ⟨rfl, rfl⟩
    rw [h4]
    exact ⟨rfl, rfl⟩)
  clear HN
  go_upto_region 3 with (first
    | (have hp := HP1; go_at_call 12; refine (hp.out _ HS.out).mono ?_; rintro e w2 ⟨rfl, h2⟩; have HS := Lib.hid h2; clear h2 hp HP1)
    | (have hp := HP2; go_at_call 12; refine (hp.out _ HS.out).mono ?_; rintro e w3 ⟨rfl, h2⟩; have HS := Lib.hid h2; clear h2 hp HP2)
    | (have hp := HP3; go_at_call 12; refine (hp.out _ HS.out).mono ?_; rintro e w4 ⟨rfl, h2⟩; have HS := Lib.hid h2; clear h2 hp HP3)
    | (have hp := HP4; go_at_call 12; refine (hp.out _ HS.out).mono ?_; rintro e w5 ⟨rfl, h2⟩; have HS := Lib.hid h2; clear h2 hp HP4))
  clear k97 k98
  go_upto_region 5 with (go_at_call 11; refine (HG.out _ HS.out).mono ?_; rintro e w6 ⟨A6, B6, n6, c6, m6, d6, f6, rfl, h2⟩; have HS := Lib.hid h2; clear h2)
  have HS := Lib.hid (HS.out.kept (below_new w6 (.cells #[.slice A6 n6 c6, .int .i64 1, .bool f6, .slice B6 m6 d6] 26)))
  clear HG
  go_wp2_with (go_at_call 16; refine (HLN.out _ HS.out).mono ?_; rintro e w7 ⟨rfl, rfl⟩)
  go_ret
  exact ⟨rfl, HS.out.low⟩
end Go.Proofs.Ytkodhlaojlgejaa
namespace Go.Proofs.Ytkodhlaojlgejaa
open Go.RowKit
theorem wpList_append_zero (w : World) {ops : Array Oper} {rest : List Oper} {o : Oper} {a : Act} {Q : Exit → Act → World → Prop} (hgd : o.guard = none) (s x : Operand)
    (ho : o.op = .call { callee := .builtin .append, args := #[s, x], argTypes := #[23, 23] })
    (g : Nat) (M : List Int) (C : Option Addr) (m cm : Nat) (hs : a.eval s = .slice (some ⟨g, 0, none⟩) 0 0) (hx : a.eval x = .slice C m cm) (em : M.length = m) (h : Lit0 w g) (hm : Bys w C M) (hr : M.length ≤ 140737488355328)
    (k : ∀ A' c' w', Row w' g A' c' M → Below w.heap.size w w' → wpList Try.prog ops Q rest (a.put o.dst (.slice A' m c')) w') : wpList Try.prog ops Q (o :: rest) a w := by
  subst em
  refine wpList_plain hgd fun K hK => ?_
  obtain ⟨A', c', w', r, h2, h3⟩ := run_append_zero w o.type g M C cm h hm hr
  have k' := k A' c' w' h2 h3
  unfold Oper.wp execOp
  simp only [ho, resolve, invoke, builtin, Sem.run_bind, Sem.run_pure, Result.andThen_ok, List.map_toArray, List.map_cons, List.map_nil, hs, hx, r]
  exact hK _ _ k'
set_option maxRecDepth 100000 in
set_option maxHeartbeats 8000000 in
theorem lawMNil (A B : Option Addr) (l : List En) (K : List Int) (n c m d : Nat) (w : World) (h : EF w A l n c) (hk : In w B K m d) (hm : m ≤ 140737488351232) :
    Calls Try.prog 3 #[.slice A n c, .slice B m d] w fun e w' => e = .returned (.bool true) ∧ Below w.heap.size w w' := by
  have HH := Lib.hid h
  have HK : Hid (∀ W, Below w.heap.size w W → In W B K m d) := Lib.hid (fun W hb => hk.kept hb)
  have HM := Lib.hid (And.intro hk.len hm)
  have B0 : Hid (Below w.heap.size w w) := Lib.hid (Below.refl _ _)
  clear h hk hm
  go_enter Try.func3, Try.ntmps3
  go_upto_region 3 with (first
    | (at_builtin; refine wpList_append_zero _ (by rfl) (.tmp 12) (.tmp 13) (by rfl) w.heap.size K B m d (by rfl) (by rfl) HM.out.1 (Lit0.new _ _ rfl) ((HK.out _ B0.out).kept (below_new _ _)).bys (by rw [HM.out.1]; have := HM.out.2; omega) ?_; intro A2 c2 w2 h2 hb; have B2 : Hid (Below w.heap.size w w2) := Lib.hid (below_then (below_new _ _) hb); clear h2 hb)
    | (go_at_call 11; refine (mget_nil _ _ _ _ _).mono ?_; rintro e w3 ⟨rfl, hb⟩; have B3 := Lib.hid (below_then B2.out hb); clear hb))
  obtain ⟨w4, hw4⟩ : ∃ w4, w3.alloc (.cells #[.slice none 0 0, .int .i64 0, .bool false, .slice none 0 0] 26) = w4 := ⟨_, rfl⟩
  have B4 : Hid (Below w.heap.size w w4) := Lib.hid (below_then B3.out (hw4 ▸ below_new w3 _))
  have HX : Hid (∀ W, Below w4.heap.size w4 W → W.cell? ⟨w3.heap.size, 0, none⟩ = some (.slice none 0 0) ∧ W.cell? ⟨w3.heap.size, 1, none⟩ = some (.int .i64 0) ∧ W.cell? ⟨w3.heap.size, 2, none⟩ = some (.bool false) ∧ W.cell? ⟨w3.heap.size, 3, none⟩ = some (.slice none 0 0)) := Lib.hid (fun W hb => by
    have := obj_kept (by rw [← hw4]; exact heap_alloc_new w3 (.cells #[.slice none 0 0, .int .i64 0, .bool false, .slice none 0 0] 26)) hb (Nat.le_refl _)
    refine ⟨?_, ?_, ?_, ?_⟩ <;> simp [World.cell?, this])
  rw [hw4]
  clear hw4
  obtain ⟨z, hz⟩ : ∃ z, w3.heap.size = z := ⟨_, rfl⟩
  rw [hz] at HX ⊢
  clear hz
  have HSO : Hid (∀ W, Calls Try.prog 15 #[.agg #[.slice none 0 0, .int .i64 0, .bool false, .slice none 0 0], .agg #[.slice none 0 0, .int .i64 0, .bool false, .slice none 0 0]] W fun e w' => e = .returned (.bool true) ∧ Below W.heap.size W w') := Lib.hid (fun W => by
    have := refSameOne_any zeroEn zeroEn W ⟨in_nil _, in_nil _⟩ ⟨in_nil _, in_nil _⟩
    rwa [decide_eq_true rfl] at this)
  go_wp2_with fail
  go_loopw [21] (fun t21 wr => ∃ k : Nat, k ≤ n ∧ t21 = .int .i64 k ∧ Hid (Below w4.heap.size w4 wr)) (fun t21 _ => n - (intOf t21).toNat)
  case atStart => exact ⟨0, by omega, rfl, Lib.hid (Below.refl _ _)⟩
  case round =>
    obtain ⟨k, hk, rfl, hr⟩ := hrel
    by_cases hlt : k < n
    · have hq := List.getElem?_eq_getElem (l := l) (i := k) (by have := HH.out.len; omega)
      generalize l[k]'(by have := HH.out.len; omega) = x at hq
      have hmem := List.mem_of_getElem? hq
      have HE := (HH.out.kept B4.out).kept hr.out
      obtain ⟨ad, rfl, c2, c3, c4, c5⟩ := lies_entry HE.lies hq
      have k0 : (k : Int) < n := by omega
      have hfew := HH.out.few
      obtain ⟨xn, hxn⟩ : ∃ m, x.k.l.length = m := ⟨_, rfl⟩
      obtain ⟨xv, hxv⟩ : ∃ m, x.v.l.length = m := ⟨_, rfl⟩
      have HON : Hid (Calls Try.prog 13 #[.agg #[.slice x.k.a xn x.k.c, .int .i64 x.s, .bool x.d, .slice x.v.a xv x.v.c]] wr (fun e w' => ∃ x' : En, e = .returned x'.val ∧ Below wr.heap.size wr w')) := Lib.hid (by
        have hl := HE.longs x hmem
        have := refOne_any x wr (HE.ins x hmem) hl.1 hl.2
        rw [En.val_eq, hxn, hxv] at this
        exact this.mono (fun e w' h => by
          obtain ⟨x', -, h1, -, -, h2⟩ := h
          exact ⟨x', h1, h2⟩))
      rw [hxn] at c2
      rw [hxv] at c5
      clear hq hmem HE hxn hxv
      go_wp2_with (first
        | (go_at_call 13; refine HON.out.mono ?_; rintro e w5 ⟨x', rfl, hb⟩; have R5 : Hid (Below w4.heap.size w4 w5) := Lib.hid (below_then hr.out hb); clear hb)
        | (go_at_call 12; refine (mput_nil _ _).mono ?_; rintro e w6 ⟨rfl, hb⟩; have R6 : Hid (Below w4.heap.size w4 w6) := Lib.hid (below_then R5.out hb); clear hb))
      go_roundw
      case rel => exact ⟨k + 1, by omega, by go_num, R6⟩
      case measure => simp [intOf]; omega
    · obtain rfl : n = k := by omega
      obtain ⟨x0, x1, x2, x3⟩ := HX.out wr hr.out
      have R4 := Lib.hid hr.out
      clear hr hlt hk x0 x1 x2 x3
      go_wp2_with (first
        | (go_at_call 14; refine (wakes_mt _).mono ?_; rintro e w7 ⟨rfl, hb⟩; have R7 : Hid (Below w4.heap.size w4 w7) := Lib.hid (below_then R4.out hb); obtain ⟨x0, x1, x2, x3⟩ := HX.out w7 R7.out; clear hb)
        | (go_at_call 15; refine (HSO.out _).mono ?_; rintro e w8 ⟨rfl, hb⟩; have R8 : Hid (Below w4.heap.size w4 w8) := Lib.hid (below_then R7.out hb); clear hb)
        | (go_at_call 16; refine (mlen_nil _).mono ?_; rintro e w' ⟨rfl, rfl⟩)
        | (go_at_call 17; refine (mall_nil _).mono ?_; rintro e w9 ⟨rfl, hb⟩; have R9 : Hid (Below w4.heap.size w4 w9) := Lib.hid (below_then R8.out hb); clear hb))
      go_ret
      exact ⟨rfl, below_then B4.out R9.out⟩
end Go.Proofs.Ytkodhlaojlgejaa
