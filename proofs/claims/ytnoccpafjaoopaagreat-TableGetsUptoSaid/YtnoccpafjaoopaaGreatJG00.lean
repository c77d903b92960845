/-
  Walks: are pairs alike, by the document. Walks: is a key within a range; the entries within it, by the document. Walks: the last entry of a key up to a number, by the document. Walks: a table made of entries, by the law. What is looked for, as it comes in. Walks: Get, with blocks of who calls apart from the table.
-/
import Derived.Test.YtnoccpafjaoopaaGreatJ00
import Derived.Test.YtnoccpafjaoopaaGreatJ01
import Derived.Test.YtnoccpafjaoopaaGreatJ02
import Derived.Test.YtnoccpafjaoopaaGreatJ03
import Derived.Test.YtnoccpafjaoopaaGreatJ04
import Derived.Test.YtnoccpafjaoopaaGreatJ05
import Derived.Test.YtnoccpafjaoopaaGreatJ06
import Derived.Test.YtnoccpafjaoopaaGreatJ07
import Derived.Test.YtnoccpafjaoopaaGreatJ08
import Derived.Test.YtnoccpafjaoopaaGreatJ09
import Derived.Test.YtnoccpafjaoopaaGreatJ10
import Derived.Test.YtnoccpafjaoopaaGreatJ11
import Derived.Test.YtnoccpafjaoopaaGreatJ12
import Derived.Test.YtnoccpafjaoopaaGreatJ13
import Derived.Test.YtnoccpafjaoopaaGreatJ14
import Derived.Test.YtnoccpafjaoopaaGreatJ15
import Derived.Test.YtnoccpafjaoopaaGreatJ16
import Derived.Test.YtnoccpafjaoopaaGreatJ17
import Derived.Test.YtnoccpafjaoopaaGreatJ18
import Derived.Test.YtnoccpafjaoopaaGreatJ19
import Derived.Test.YtnoccpafjaoopaaGreatJ20
import Derived.Test.YtnoccpafjaoopaaGreatJ21
import Derived.Test.YtnoccpafjaoopaaGreatJ22
import Derived.Test.YtnoccpafjaoopaaGreatJ23
import Derived.Test.YtnoccpafjaoopaaGreatJ24
import Derived.Test.YtnoccpafjaoopaaGreatJ25
set_option linter.unusedSimpArgs false
set_option linter.unusedVariables false
namespace Go.Proofs.YtnoccpafjaoopaaGreat
open Go.RowKit
theorem conv_drew {w : World} {A : Option Addr} {L : List Int} (h : Bys w A L) (n c : Nat) (hn : L.length = n) : ∀ k, (convert 42 9 (.slice A n c)).run Tryz.prog (w.drewN k) = .ok (.string (strOfNums L)) (w.drewN k) := fun k => conv_any (h.kept (below_drewN (Below.refl _ w) k)) n c hn
end Go.Proofs.YtnoccpafjaoopaaGreat
namespace Go.Proofs.YtnoccpafjaoopaaGreat
open Go.RowKit
set_option maxRecDepth 100000 in
set_option maxHeartbeats 4000000 in
theorem refIn_any (A B C : Option Addr) (K L M : List Int) (n m z c d f : Nat) (w : World) (hk : In w A K n c) (hl : In w B L m d) (hm : In w C M z f) (l1 : n ≤ 281474976710656) (l2 : m ≤ 281474976710656) (l3 : z ≤ 281474976710656) :
    Calls Tryz.prog 47 #[.slice A n c, .slice B m d, .slice C z f] w fun e w' => e = .returned (.bool (decide (0 ≤ cmpL K L) && (decide (M = []) || decide (cmpL K M < 0)))) ∧ Below w.heap.size w w' := by
  have C0 := conv_any hk.bys n c hk.len
  have C1 := conv_any hl.bys m d hl.len
  have HC0 : Hid (∀ W, Below w.heap.size w W → (convert 42 9 (.slice A n c)).run Tryz.prog W = .ok (.string (strOfNums K)) W) := Lib.hid (fun W hb => conv_any (hk.kept hb).bys n c hk.len)
  have HC2 : Hid (∀ W, Below w.heap.size w W → (convert 42 9 (.slice C z f)).run Tryz.prog W = .ok (.string (strOfNums M)) W) := Lib.hid (fun W hb => conv_any (hm.kept hb).bys z f hm.len)
  have HL1 := Lib.hid (less_bytes K L w hk.byt hl.byt (by rw [hk.len]; exact l1) (by rw [hl.len]; exact l2))
  have HL2 := Lib.hid (fun W => less_bytes K M W hk.byt hm.byt (by rw [hk.len]; exact l1) (by rw [hm.len]; exact l3))
  have HM : Hid (M.length = z) := Lib.hid hm.len
  obtain ⟨a, ha⟩ : ∃ a, cmpL K L = a := ⟨_, rfl⟩
  obtain ⟨b, hb⟩ : ∃ b, cmpL K M = b := ⟨_, rfl⟩
  rw [ha] at HL1
  rw [hb] at HL2
  rw [ha, hb]
  have T1 := Lib.hid trivial
  clear hk hl hm ha hb l1 l2 l3
  by_cases h0 : 0 ≤ a
  · have d0 : decide (0 ≤ a) = true := decide_eq_true h0
    rw [d0]
    clear h0
    by_cases h1 : z = 0
    · subst h1
      obtain rfl : M = [] := List.eq_nil_of_length_eq_zero HM.out
      go_enter Tryz.func47, Tryz.ntmps47
      go_wp2_with (go_at_call 31; refine HL1.out.mono ?_; rintro e w3 ⟨rfl, kk, hk3⟩; have W3 : Hid (Below w.heap.size w w3) := Lib.hid (hk3 ▸ below_drewN (Below.refl _ _) kk); clear hk3)
      go_ret
      exact ⟨by simp, W3.out⟩
    · have d1 : ((z : Int) == 0) = false := by simpa using h1
      have d2 : decide (M = []) = false := decide_eq_false (fun e => h1 (by rw [← HM.out, e]; rfl))
      rw [d2]
      clear h1
      go_enter Tryz.func47, Tryz.ntmps47
      go_wp2_with (first
        | (have t1 := T1; go_at_call 31; refine HL1.out.mono ?_; rintro e w3 ⟨rfl, kk, hk3⟩; have W3 : Hid (Below w.heap.size w w3) := Lib.hid (hk3 ▸ below_drewN (Below.refl _ _) kk); have c3 := HC0.out w3 W3.out; have c4 := HC2.out w3 W3.out; clear hk3 T1 t1)
        | (go_at_call 31; refine (HL2.out w3).mono ?_; rintro e w4 ⟨rfl, kk2, hk4⟩; have W4 : Hid (Below w.heap.size w w4) := Lib.hid (hk4 ▸ below_drewN W3.out kk2); clear hk4))
      go_ret
      exact ⟨by simp, W4.out⟩
  · have d0 : decide (0 ≤ a) = false := decide_eq_false h0
    rw [d0]
    clear h0
    go_enter Tryz.func47, Tryz.ntmps47
    go_wp2_with (go_at_call 31; refine HL1.out.mono ?_; rintro e w3 ⟨rfl, kk, hk3⟩; have W3 : Hid (Below w.heap.size w w3) := Lib.hid (hk3 ▸ below_drewN (Below.refl _ _) kk); clear hk3)
    go_ret
    exact ⟨by simp, W3.out⟩
/-- Those of some entries that are picked, as new memory of the row alone. -/
def EPicked (w : World) (l : List En) (e : Ending) (w' : World) : Prop := ∃ A c, e = .returned (.slice A l.length c) ∧ Erow w' w.heap.size A c l ∧ Below w.heap.size w w'
set_option maxRecDepth 100000 in
set_option maxHeartbeats 4000000 in
theorem refRange_any (A B C : Option Addr) (l : List En) (L M : List Int) (n m z c d f : Nat) (w : World) (hn : l.length = n) (h : Lies w A (evals l)) (hi : EIns w l) (hl : In w B L m d) (hm : In w C M z f) (hs : n * 64 ≤ 140737488351232) (hk : ∀ q ∈ l, q.k.l.length ≤ 281474976710656) (l2 : m ≤ 281474976710656) (l3 : z ≤ 281474976710656) :
    Calls Tryz.prog 26 #[.slice A n c, .slice B m d, .slice C z f] w (EPicked w (l.filter (fun q => inE L M q.rd))) := by
  have HP := Lib.hid (fun (w' : World) (hb : Below w.heap.size w w') => h.kept hb)
  have HIN : Hid (∀ q ∈ l, ∀ W, Below w.heap.size w W → Calls Tryz.prog 47 #[.slice q.k.a q.k.l.length q.k.c, .slice B m d, .slice C z f] W fun e w' => e = .returned (.bool (inE L M q.rd)) ∧ Below W.heap.size W w') := Lib.hid (fun q hq W hb => refIn_any q.k.a B C q.k.l L M _ m z q.k.c d f W ((hi.kept hb) q hq).1 (hl.kept hb) (hm.kept hb) (hk q hq) l2 l3)
  have HN := Lib.hid hn
  clear h hn hi hl hm hk l2 l3
  go_enter Tryz.func26, Tryz.ntmps26
  go_wp2_with fail
  go_loopw [7, 11] (fun t7 t11 wr => ∃ (k j : Nat) (A2 : Option Addr) (c2 : Nat), k ≤ n ∧ j ≤ k ∧ t11 = .int .i64 k ∧ t7 = .slice A2 j c2 ∧ Hid (((l.take k).filter (fun q => inE L M q.rd)).length = j) ∧ Hid (Erow wr w.heap.size A2 c2 ((l.take k).filter (fun q => inE L M q.rd))) ∧ Hid (Below w.heap.size w wr)) (fun _ t11 _ => n - (intOf t11).toNat)
  case atStart => exact ⟨0, 0, none, 0, by omega, by omega, rfl, rfl, Lib.hid rfl, Lib.hid (Erow.nil _ _), Lib.hid (Below.refl _ _)⟩
  case round =>
    obtain ⟨k, j, A2, c2, hk, hj, rfl, rfl, hl2, r2, b2⟩ := hrel
    by_cases hlt : k < n
    · have hq := List.getElem?_eq_getElem (l := l) (i := k) (by have := HN.out; omega)
      generalize l[k]'(by have := HN.out; omega) = x at hq
      obtain ⟨ad, rfl, a0, a1, a2, a3⟩ := lies_entry (HP.out _ b2.out) hq
      have HA := Lib.hid (fun (w' : World) (hb : Below w.heap.size w w') => lies_entry_at (HP.out w' hb) hq)
      have hmem := List.mem_of_getElem? hq
      have HO := Lib.hid (HIN.out x hmem wr b2.out)
      have HQ := Lib.hid hq
      unfold AtE at HA
      obtain ⟨xm, hm2⟩ : ∃ m, x.k.l.length = m := ⟨_, rfl⟩
      obtain ⟨xz, hz2⟩ : ∃ z, x.v.l.length = z := ⟨_, rfl⟩
      rw [hm2, hz2] at HA
      rw [hm2] at a0 HO
      rw [hz2] at a3
      have HMZ := Lib.hid (And.intro hm2 hz2)
      have k0 : (k : Int) < n := by omega
      clear hq hm2 hz2 hmem
      have WS : Hid (w.heap.size ≤ wr.heap.size) := Lib.hid b2.out.size
      obtain ⟨bb, hbb⟩ : ∃ bb, inE L M x.rd = bb := ⟨_, rfl⟩
      rw [hbb] at HO
      have HBB := Lib.hid hbb
      clear hbb
      cases bb with
      | true =>
        go_wp2_with (first
          | (go_at_call 47; refine HO.out.mono ?_; rintro e w6 ⟨rfl, b6⟩; have B6 := Lib.hid b6; obtain ⟨c0, c1, c2', c3⟩ := HA.out w6 (b2.out.trans (b6.mono WS.out)); clear b6 HO)
          | (refine wpList_append_erow _ (by rfl) (.tmp 22) (.tmp 27) (by rfl) w.heap.size A2 c2 ((l.take k).filter (fun q => inE L M q.rd)) [x] _ j 1 1 (by simp [Act.eval]) (by simp [Act.eval]) hl2.out rfl ((r2.out.kept B6.out (Nat.le_refl _)).alloc _) (lit_entry w6 x.k.a x.v.a x.k.c x.v.c x.k.l x.v.l x.s x.d xm xz HMZ.out.1 HMZ.out.2) (by have := b2.out.size; have := B6.out.size; simp; omega) (by have := hl2.out; simp only [List.length_singleton]; omega) ?_; intro A8 c8 w8 r8 b8 g8))
        have R8 := Lib.hid r8
        have CB : Hid (Below w.heap.size w w8) := Lib.hid (((b2.out.trans (B6.out.mono WS.out)).alloc (by have := B6.out.size; have := WS.out; omega) _).trans b8)
        have e2 : (l.take (k + 1)).filter (fun q => inE L M q.rd) = (l.take k).filter (fun q => inE L M q.rd) ++ [x] := by
          rw [List.take_add_one, HQ.out, Option.toList_some, List.filter_append, List.filter_cons_of_pos (by exact HBB.out), List.filter_nil]
        have E2 := Lib.hid e2
        clear g8 b8 r8 e2 c0 c1 c2' c3 a0 a1 a2 a3
        go_wp2_with fail
        go_roundw
        case rel => exact ⟨k + 1, j + 1, A8, c8, by omega, by omega, by go_num, rfl, Lib.hid (by rw [E2.out, List.length_append, hl2.out]; rfl), Lib.hid (by rw [E2.out]; exact R8.out), CB⟩
        case measure => simp [intOf]; omega
      | false =>
        go_wp2_with (go_at_call 47; refine HO.out.mono ?_; rintro e w6 ⟨rfl, b6⟩; have B6 := Lib.hid b6; clear b6 HO)
        have e2 : (l.take (k + 1)).filter (fun q => inE L M q.rd) = (l.take k).filter (fun q => inE L M q.rd) := by
          rw [List.take_add_one, HQ.out, Option.toList_some, List.filter_append, List.filter_cons_of_neg (by rw [HBB.out]; decide), List.filter_nil, List.append_nil]
        have E2 := Lib.hid e2
        clear e2
        go_roundw
        case rel => exact ⟨k + 1, j, A2, c2, by omega, by omega, by go_num, rfl, Lib.hid (by rw [E2.out]; exact hl2.out), Lib.hid (by rw [E2.out]; exact r2.out.kept B6.out (Nat.le_refl _)), Lib.hid (b2.out.trans (B6.out.mono WS.out))⟩
        case measure => simp [intOf]; omega
    · obtain rfl : k = n := by omega
      have hr2 := r2.out
      have hl3 := hl2.out
      rw [List.take_of_length_le (by have := HN.out; omega)] at hr2 hl3
      have HR := Lib.hid hr2
      have HL3 := Lib.hid hl3
      clear hr2 hl3
      go_wp2_with fail
      go_ret
      exact ⟨_, _, ret_sliceN HL3.out.symm, HR.out, b2.out⟩
end Go.Proofs.YtnoccpafjaoopaaGreat
namespace Go.Proofs.YtnoccpafjaoopaaGreat
open Go.RowKit
def mtE (K : List Int) (s : Int) (q : Er) : Bool := decide (q.1 = K) && decide (q.2.1 ≤ s)
/-- What the document's Get answers. -/
def RGot (w : World) (l : List En) (K : List Int) (s : Int) (e : Ending) (w' : World) : Prop := ∃ (y : En) (b : Bool), e = .returned (.tuple #[y.val, .bool b]) ∧ Below w.heap.size w w' ∧ ((b = true ∧ y ∈ l ∧ getE (ers l) K s = some y.rd) ∨ (b = false ∧ y = zeroEn ∧ getE (ers l) K s = none))
theorem find_at {l : List Er} {p : Er → Bool} {i : Nat} {y : Er} (hy : l[i]? = some y) (hp : p y = true) (hb : ∀ j x, j < i → l[j]? = some x → p x = false) : l.find? p = some y := by
  rw [find_drop p l i hb, List.drop_eq_getElem_cons (List.getElem?_eq_some_iff.1 hy).1, List.find?_cons_of_pos]
  · rw [(List.getElem?_eq_some_iff.1 hy).2]
  · rw [(List.getElem?_eq_some_iff.1 hy).2]
    exact hp
theorem find_no {l : List Er} {p : Er → Bool} (hb : ∀ j x, j < l.length → l[j]? = some x → p x = false) : l.find? p = none := by
  rw [List.find?_eq_none]
  intro x hx
  obtain ⟨i, hi, e⟩ := List.mem_iff_getElem.1 hx
  rw [hb i x hi (by rw [List.getElem?_eq_getElem hi, e])]
  decide
theorem at_next {l : List En} {K : List Int} {s at_ : Int} {k : Nat} {x : En} (h : (at_ = -1 ∧ ∀ i q, i < k → (ers l)[i]? = some q → mtE K s q = false) ∨ (∃ (i0 : Nat) (y : En), at_ = i0 ∧ i0 < k ∧ l[i0]? = some y ∧ mtE K s y.rd = true ∧ ∀ i q, i < i0 → (ers l)[i]? = some q → mtE K s q = false)) (hx : l[k]? = some x) (hm : mtE K s x.rd = false) :
    (at_ = -1 ∧ ∀ i q, i < k + 1 → (ers l)[i]? = some q → mtE K s q = false) ∨ (∃ (i0 : Nat) (y : En), at_ = i0 ∧ i0 < k + 1 ∧ l[i0]? = some y ∧ mtE K s y.rd = true ∧ ∀ i q, i < i0 → (ers l)[i]? = some q → mtE K s q = false) := by
  rcases h with ⟨h1, h2⟩ | ⟨i0, y, h1, h2, h3, h4, h5⟩
  · refine .inl ⟨h1, fun i q hi hq => ?_⟩
    rcases Nat.lt_or_ge i k with g | g
    · exact h2 i q g hq
    · obtain rfl : i = k := by omega
      rw [ers_get hx] at hq
      injection hq with hq
      exact hq ▸ hm
  · exact .inr ⟨i0, y, h1, by omega, h3, h4, h5⟩
set_option maxRecDepth 100000 in
set_option maxHeartbeats 8000000 in
theorem refGet_any (A B : Option Addr) (l : List En) (K : List Int) (s : Int) (n m c d : Nat) (w : World) (hn : l.length = n) (h : Lies w A (evals l)) (hi : EIns w l) (ho : OrdL (ers l)) (hk : In w B K m d) (hl : (n : Int) ≤ 9223372036854775000) :
    Calls Tryz.prog 24 #[.slice A n c, .slice B m d, .int .i64 s] w (RGot w l K s) := by
  have HP := Lib.hid (fun (w' : World) (hb : Below w.heap.size w w') => h.kept hb)
  have HI := Lib.hid (fun (w' : World) (hb : Below w.heap.size w w') => hi.kept hb)
  have HK := Lib.hid (fun (w' : World) (hb : Below w.heap.size w w') => hk.kept hb)
  have HO := Lib.hid ho
  have HN := Lib.hid hn
  have hn9 := Lib.hid hl
  clear h hn hi ho hk hl
  go_enter Tryz.func24, Tryz.ntmps24
  go_wp2_with fail
  obtain ⟨w1, hw1⟩ : ∃ w1, w.alloc (.cells #[.slice none 0 0, .int .i64 0, .bool false, .slice none 0 0] 48) = w1 := ⟨_, rfl⟩
  have B1 : Hid (Below w.heap.size w w1) := Lib.hid (hw1 ▸ below_new w _)
  have HH : Hid (∀ W : World, Below w1.heap.size w1 W → W.heap[w.heap.size]? = some (.cells #[.slice none 0 0, .int .i64 0, .bool false, .slice none 0 0] 48 (0, 0))) := Lib.hid (fun W hb => obj_kept (by rw [← hw1]; exact heap_alloc_new w _) hb (Nat.le_refl _))
  have BW : Hid (∀ W, Below w1.heap.size w1 W → Below w.heap.size w W) := Lib.hid (fun W hb => B1.out.trans (hb.mono B1.out.size))
  have HZ : Hid (w.heap.size < w1.heap.size) := Lib.hid (by rw [← hw1]; simp)
  rw [hw1]
  clear hw1
  go_loopw [8, 12] (fun t8 t12 wr => ∃ (k : Nat) (at_ : Int), k ≤ n ∧ t12 = .int .i64 k ∧ t8 = .int .i64 at_ ∧ Hid ((at_ = -1 ∧ ∀ i q, i < k → (ers l)[i]? = some q → mtE K s q = false) ∨ (∃ (i0 : Nat) (y : En), at_ = i0 ∧ i0 < k ∧ l[i0]? = some y ∧ mtE K s y.rd = true ∧ ∀ i q, i < i0 → (ers l)[i]? = some q → mtE K s q = false)) ∧ Hid (Below w1.heap.size w1 wr)) (fun _ t12 _ => n - (intOf t12).toNat)
  case atStart => exact ⟨0, -1, by omega, rfl, rfl, Lib.hid (.inl ⟨rfl, fun i q hi => by omega⟩), Lib.hid (Below.refl _ _)⟩
  case round =>
    obtain ⟨k, at_, hk, rfl, rfl, hat, b2⟩ := hrel
    by_cases hlt : k < n
    · have hq := List.getElem?_eq_getElem (l := l) (i := k) (by have := HN.out; omega)
      generalize l[k]'(by have := HN.out; omega) = x at hq
      obtain ⟨ad, rfl, a0, a1, -⟩ := lies_entry (HP.out _ (BW.out _ b2.out)) hq
      have hX := HI.out _ (BW.out _ b2.out) x (List.mem_of_getElem? hq)
      have HQ := Lib.hid hq
      obtain ⟨xm, hm2⟩ : ∃ m, x.k.l.length = m := ⟨_, rfl⟩
      rw [hm2] at a0
      have C0 := conv_drew hX.1.bys xm x.k.c hm2
      have C1 := conv_drew (HK.out _ (BW.out _ b2.out)).bys m d (HK.out _ (BW.out _ b2.out)).len
      have HS := Lib.hid (str_of_inj hX.1.byt (HK.out _ (BW.out _ b2.out)).byt)
      have k0 : (k : Int) < n := by omega
      have hn10 := hn9.out
      clear hq hm2 hX
      by_cases e1 : x.k.l = K
      · have d1 : ((strOfNums x.k.l).toList == (strOfNums K).toList) = true := by rw [e1]; exact beq_self_eq_true _
        by_cases e2 : x.s ≤ s
        · have d2 : decide (x.s ≤ s) = true := decide_eq_true e2
          have HMT : Hid (mtE K s x.rd = true) := Lib.hid (by unfold mtE; rw [decide_eq_true (show x.rd.1 = K from e1), decide_eq_true (show x.rd.2.1 ≤ s from e2)]; rfl)
          rcases hat.out with ⟨h1, h2⟩ | ⟨i0, y, h1, h2, h3, h4, h5⟩
          · subst h1
            have HA2 : Hid (∀ i q, i < k → (ers l)[i]? = some q → mtE K s q = false) := Lib.hid h2
            clear h2 e1 e2 hat
            go_upto_region 5 with fail
            go_quiet (fail)
            go_wp2_with fail
            go_roundw
            case rel => exact ⟨k + 1, k, by omega, by go_num, rfl, Lib.hid (.inr ⟨k, x, rfl, by omega, HQ.out, HMT.out, HA2.out⟩), Lib.hid (below_drewN b2.out _)⟩
            case measure => simp [intOf]; omega
          · subst h1
            have hord := ordL_sorted HO.out (i := i0) (j := k) (by omega) (ers_get h3) (ers_get HQ.out)
            have hyk : y.k.l = K := by unfold mtE at h4; simp only [Bool.and_eq_true, decide_eq_true_eq] at h4; exact h4.1
            have hlt2 : x.s < y.s := by
              unfold ordE at hord
              have e3 : y.rd.1 = x.rd.1 := hyk.trans e1.symm
              rw [e3, cmpL_self] at hord
              simp only [ne_eq, not_true_eq_false, if_false] at hord
              have q1 : y.rd.2.1 = y.s := rfl
              have q2 : x.rd.2.1 = x.s := rfl
              rw [q1, q2] at hord
              split at hord
              · assumption
              · split at hord <;> omega
            have y1 := (lies_entry_at (HP.out _ (BW.out _ b2.out)) h3).2.1
            have j0 : (i0 : Int) < n := by omega
            have d3 : decide ((i0 : Int) < 0) = false := decide_eq_false (by omega)
            have d4 : decide (y.s < x.s) = false := decide_eq_false (by omega)
            have HA2 := Lib.hid (And.intro h2 (And.intro h3 (And.intro h4 h5)))
            clear h2 h3 h4 h5 e1 e2 hat hord hyk hlt2
            go_upto_region 5 with fail
            go_quiet (fail)
            go_wp2_with fail
            go_roundw
            case rel => exact ⟨k + 1, i0, by omega, by go_num, rfl, Lib.hid (.inr ⟨i0, y, rfl, by have := HA2.out.1; omega, HA2.out.2.1, HA2.out.2.2.1, HA2.out.2.2.2⟩), Lib.hid (below_drewN b2.out _)⟩
            case measure => simp [intOf]; omega
        · have d2 : decide (x.s ≤ s) = false := decide_eq_false e2
          have HMT : Hid (mtE K s x.rd = false) := Lib.hid (by unfold mtE; rw [decide_eq_false (show ¬ x.rd.2.1 ≤ s from e2), Bool.and_false])
          have HAT := Lib.hid (at_next hat.out HQ.out HMT.out)
          clear e1 e2 hat
          go_upto_region 5 with fail
          go_quiet (fail)
          go_wp2_with fail
          go_roundw
          case rel => exact ⟨k + 1, at_, by omega, by go_num, rfl, HAT, Lib.hid (below_drewN b2.out _)⟩
          case measure => simp [intOf]; omega
      · have d1 : ((strOfNums x.k.l).toList == (strOfNums K).toList) = false := toList_ne (fun e => e1 (HS.out.1 e))
        have HMT : Hid (mtE K s x.rd = false) := Lib.hid (by unfold mtE; rw [decide_eq_false (show ¬ x.rd.1 = K from e1), Bool.false_and])
        have HAT := Lib.hid (at_next hat.out HQ.out HMT.out)
        clear e1 hat
        go_upto_region 5 with fail
        go_quiet (fail)
        go_wp2_with fail
        go_roundw
        case rel => exact ⟨k + 1, at_, by omega, by go_num, rfl, HAT, Lib.hid (below_drewN b2.out _)⟩
        case measure => simp [intOf]; omega
    · obtain rfl : k = n := by omega
      have h0 := HH.out wr b2.out
      obtain ⟨y0, y1, y2, y3, f0, f1, f2, f3⟩ : wr.cell? ⟨w.heap.size, 0, none⟩ = some (.slice none 0 0) ∧ wr.cell? ⟨w.heap.size, 1, none⟩ = some (.int .i64 0) ∧ wr.cell? ⟨w.heap.size, 2, none⟩ = some (.bool false) ∧ wr.cell? ⟨w.heap.size, 3, none⟩ = some (.slice none 0 0) ∧ wr.frozen? ⟨w.heap.size, 0, none⟩ = false ∧ wr.frozen? ⟨w.heap.size, 1, none⟩ = false ∧ wr.frozen? ⟨w.heap.size, 2, none⟩ = false ∧ wr.frozen? ⟨w.heap.size, 3, none⟩ = false := by
        refine ⟨?_, ?_, ?_, ?_, ?_, ?_, ?_, ?_⟩ <;> simp [World.cell?, World.frozen?, h0]
      rcases hat.out with ⟨h1, h2⟩ | ⟨i0, y, h1, h2, h3, h4, h5⟩
      · subst h1
        have HG : Hid (getE (ers l) K s = none) := Lib.hid (find_no (fun j x hj hx => h2 j x (by rw [ers_len] at hj; have := HN.out; omega) hx))
        clear h2 hat
        go_wp2_with fail
        have H6 := set_four (e := .slice none 0 0) (f := .int .i64 0) (g := .bool false) (h := .slice none 0 0) h0
        have B6 := (set_four_kp (Kp.of_below (BW.out _ b2.out)) w.heap.size (.slice none 0 0) (.int .i64 0) (.bool false) (.slice none 0 0) (by omega)).below (fun _ hk => hk)
        try simp only [Exit.inBlock, Exit.then]
        refine bodyPost_ret (results_ct rfl _ _ w.heap.size 48 #[.slice none 0 0, .int .i64 0, .bool false, .slice none 0 0] (0, 0) _ rfl H6 Tryz.underlying48 rfl (by kernel_rfl)) rfl ?_
        exact ⟨zeroEn, false, rfl, B6, .inr ⟨rfl, rfl, HG.out⟩⟩
      · subst h1
        have HG : Hid (getE (ers l) K s = some y.rd) := Lib.hid (find_at (ers_get h3) h4 h5)
        have HM := Lib.hid (List.mem_of_getElem? h3)
        obtain ⟨ad, rfl, z0, z1, z2, z3⟩ := lies_entry (HP.out _ (BW.out _ b2.out)) h3
        have j0 : (i0 : Int) < k := by omega
        have d3 : decide ((i0 : Int) < 0) = false := decide_eq_false (by omega)
        clear h2 h3 h4 h5 hat
        go_wp2_with fail
        have H6 := set_four (e := .slice y.k.a y.k.l.length y.k.c) (f := .int .i64 y.s) (g := .bool y.d) (h := .slice y.v.a y.v.l.length y.v.c) h0
        have B6 := (set_four_kp (Kp.of_below (BW.out _ b2.out)) w.heap.size (.slice y.k.a y.k.l.length y.k.c) (.int .i64 y.s) (.bool y.d) (.slice y.v.a y.v.l.length y.v.c) (by omega)).below (fun _ hk => hk)
        try simp only [Exit.inBlock, Exit.then]
        refine bodyPost_ret (results_ct rfl _ _ w.heap.size 48 #[.slice y.k.a y.k.l.length y.k.c, .int .i64 y.s, .bool y.d, .slice y.v.a y.v.l.length y.v.c] (0, 0) _ rfl H6 Tryz.underlying48 rfl (by kernel_rfl)) rfl ?_
        exact ⟨y, true, rfl, B6, .inl ⟨rfl, HM.out, HG.out⟩⟩
end Go.Proofs.YtnoccpafjaoopaaGreat
namespace Go.Proofs.YtnoccpafjaoopaaGreat
open Go.RowKit
open Go.Maps
/-- What the law makes. -/
def MadeE (w : World) (l : List En) (k : Nat) (e : Ending) (w' : World) : Prop := ∃ (t : Tm) (g : Nat) (p : Pk), e = .returned (.tuple #[.pointer (some ⟨t.b, 0, none⟩), .pointer (some ⟨g, 0, none⟩)]) ∧ TabAt w' t ∧ Whole (ers l) t.tb ∧ t.cnt = (ers l).length ∧ PSt w' w.heap.size g p ∧ p.vm = loneV sT (fileE (ers l) k) (fileE (ers l) k).length ∧ Below w.heap.size w w' ∧ w.heap.size ≤ t.mb
set_option maxRecDepth 100000 in
set_option maxHeartbeats 8000000 in
theorem made_any (A : Option Addr) (l : List En) (n c k : Nat) (w : World) (h : LIn w A l n c) (ho : OrdL (ers l)) (hne : ers l ≠ []) (h1 : 1 ≤ k) (h2 : k ≤ 1024) :
    Calls Tryz.prog 22 #[.slice A n c, .int .i64 k] w (MadeE w l k) := by
  have HH := Lib.hid h
  have W1 := write_calm (s := sT) (L := ers l) (k := k) okT h1 h2 hne ho
  have R1 := read_lone (s := sT) (fileE (ers l) k) (fileE (ers l) k).length okT
  obtain ⟨tb, ht, hW⟩ := whole_file (l := ers l) (size := k) ho hne h.byl h1 h2 (by rw [ers_len, h.len]; have := h.small.1; omega)
  have hF9 := file_few (by have := h.bulk; rw [ers_len, h.len]; exact this) ho hne h.byl h1 h2
  unfold MadeE
  obtain ⟨F, hF⟩ : ∃ F, fileE (ers l) k = F := ⟨_, rfl⟩
  rw [hF] at ht hF9 W1 R1 ⊢
  have HT := Lib.hid ht
  have HW := Lib.hid hW
  have HF9 := Lib.hid hF9
  have HW1 := Lib.hid W1
  have HR1 := Lib.hid R1
  clear h ht hW hF9 W1 R1 hF ho hne h1 h2
  go_enter Tryz.func22, Tryz.ntmps22
  go_wp2_with (first
    | (go_at_call 11; refine (calm_any _).mono ?_; rintro e w1 ⟨rfl, hb⟩; have B1 := Lib.hid hb; clear hb)
    | (go_at_call 10; refine (new_calm w1).mono ?_; rintro e w2 ⟨g, p2, rfl, hps, hv, hb⟩; have E2 : Hid (PSt w2 w.heap.size g p2 ∧ p2.vm = calmV ∧ Below w.heap.size w w2) := Lib.hid ⟨hps.mono B1.out.size, hv, B1.out.trans (hb.mono B1.out.size)⟩; clear hps hv hb)
    | (go_at_call 13; refine (copy_in (HH.out.kept E2.out.2.2)).mono ?_; intro e w3 hc; obtain ⟨l', A', c', he, rfl, hl', -, -, hb⟩ := HH.out.copy hc; have E3 : Hid (ers l' = ers l ∧ LIn w3 A' l' n c' ∧ PSt w3 w.heap.size g p2 ∧ Below w.heap.size w w3) := Lib.hid ⟨he, hl', E2.out.1.kept hb, E2.out.2.2.trans (hb.mono E2.out.2.2.size)⟩; clear hc he hl' hb)
    | (go_at_call 12; refine (write_in (s := sT) E3.out.2.1 E3.out.2.2.1 E2.out.2.1 (by decide) (fits_calm _ (by decide)) (by decide)).mono ?_; rw [E3.out.1, HW1.out]; rintro e w4 ⟨rfl, p4, s4, v4, d4⟩; have E4 : Hid (PSt w4 w.heap.size g p4 ∧ p4.vm = loneV sT F F.length ∧ Below w.heap.size w w4) := Lib.hid ⟨s4, v4, E3.out.2.2.2.trans (d4.below E3.out.2.2.2.size (fun k hk => (E3.out.2.2.1.owned k hk).1))⟩; clear s4 v4 d4)
    | (go_at_call 17; refine (open_any w.heap.size g p4 _ sT w4 E4.out.1 E4.out.2.1 (by decide) (fits_lone (by decide) (by have := HF9.out; omega)) (fun x hx => by rw [show (loneV sT F F.length).fs = [(sT, F, (F.length : Int))] from rfl, List.mem_singleton] at hx; subst hx; have := HF9.out; show F.length ≤ _; omega)).mono ?_; rw [HR1.out]; rintro e w5 ⟨b5, h5⟩; obtain ⟨t, hts, rfl, hta, hcnt, hmb⟩ := opened_whole HT.out HW.out h5; have E5 : Hid (t.tb = tb ∧ TabAt w5 t ∧ t.cnt = (ers l).length ∧ Below w4.heap.size w4 w5 ∧ w4.heap.size ≤ t.mb) := Lib.hid ⟨hts, hta, hcnt, b5, hmb⟩; clear hts hta hcnt b5 h5 hmb))
  go_ret2
  exact ⟨t, g, p4, rfl, E5.out.2.1, by rw [E5.out.1]; exact HW.out, E5.out.2.2.1, E4.out.1.kept E5.out.2.2.2.1, E4.out.2.1, E4.out.2.2.trans (E5.out.2.2.2.1.mono E4.out.2.2.size), by have := E4.out.2.2.size; have := E5.out.2.2.2.2; omega⟩
end Go.Proofs.YtnoccpafjaoopaaGreat
namespace Go.Proofs.YtnoccpafjaoopaaGreat
open Go.ChangeShapes Go.WideShapes Go.ChangeAt Go.RowKit
/-- What is looked for. -/
structure LookIn (w : World) (kx lx hx : Sl) (s : Int) : Prop where
  key : In w kx.a kx.l kx.l.length kx.c
  lo : In w lx.a lx.l lx.l.length lx.c
  hi : In w hx.a hx.l hx.l.length hx.c
  key9 : kx.l.length ≤ 1048576
  lo9 : lx.l.length ≤ 1048576
  hi9 : hx.l.length ≤ 1048576
  fit : -9223372036854775808 ≤ s ∧ s ≤ 9223372036854775807
theorem cells51 : Tryz.prog.cellsOf 51 = 4 := by kernel_rfl
section
variable {H : Type} {enc : TypeId × Value → H} {W : World} {fuel : Nat} {x : DataW H × List MemPlace}
set_option maxRecDepth 100000 in
theorem open_look_cs {cs : List Value} (h : DataW.trod enc Tryz.prog W 0 (fun _ => true) true fuel 51 cs = some x) (hb : Rows.uptoBulk x.1 ≤ 1048576) :
    ∃ (kx lx hx : Sl) (s : Int), cs = [kx.val, lx.val, hx.val, .int .i64 s] ∧ LookIn W kx lx hx s := by
  obtain ⟨xs, n, -, rfl, hlen, hxl, hf⟩ := DataW.trod_struct Tryz.underlying51 h
  rw [cells51] at hlen
  have h0 : DataW.trod enc Tryz.prog W 0 (fun _ => true) true n 42 ((cs.drop 0).take (Tryz.prog.cellsOf 42)) = xs[0]? := hf 0 _ rfl
  have h1 : DataW.trod enc Tryz.prog W 0 (fun _ => true) true n 42 ((cs.drop 1).take (Tryz.prog.cellsOf 42)) = xs[1]? := hf 1 _ rfl
  have h2 : DataW.trod enc Tryz.prog W 0 (fun _ => true) true n 42 ((cs.drop 2).take (Tryz.prog.cellsOf 42)) = xs[2]? := hf 2 _ rfl
  have h3 : DataW.trod enc Tryz.prog W 0 (fun _ => true) true n 3 ((cs.drop 3).take (Tryz.prog.cellsOf 3)) = xs[3]? := hf 3 _ rfl
  rw [cells42] at h0 h1 h2
  rw [cells3] at h3
  match cs, hlen, xs, hxl with
  | [u, v, t, r], _, [y0, y1, y2, y3], _ =>
    obtain ⟨s, e1, e2, e3, -⟩ := open_byts (h0.trans rfl)
    obtain ⟨d, f1, f2, f3, -⟩ := open_byts (h1.trans rfl)
    obtain ⟨m, m1, m2, m3, -⟩ := open_byts (h2.trans rfl)
    obtain ⟨k, g1, g2⟩ := open_num (h3.trans rfl)
    have a1 : u = s.val := by simpa using e1
    have a2 : v = d.val := by simpa using f1
    have a3 : t = m.val := by simpa using m1
    have a4 : r = .int .i64 k := by simpa using g1
    subst a1
    subst a2
    subst a3
    subst a4
    have h4 := bulk_one y3.1
    simp only [Rows.uptoBulk, Rows.uptoBulkAll, List.map_cons, List.map_nil] at hb
    exact ⟨s, d, m, k, rfl, e2, f2, m2, by omega, by omega, by omega, g2⟩
set_option maxRecDepth 100000 in
theorem open_look {v : Value} (h : DataW.trod enc Tryz.prog W 0 (fun _ => true) true fuel 51 v.cells.toList = some x) (hb : Rows.uptoBulk x.1 ≤ 1048576) {base : Nat} (hval : Value.okWide Tryz.prog W .any base 51 v) :
    ∃ (kx lx hx : Sl) (s : Int), v = Value.agg #[kx.val, lx.val, hx.val, .int .i64 s] ∧ LookIn W kx lx hx s := by
  obtain ⟨cs, rfl, -⟩ := okWide_struct Tryz.underlying51 hval
  obtain ⟨kx, lx, hx, s, e, h1⟩ := open_look_cs h hb
  refine ⟨kx, lx, hx, s, ?_, h1⟩
  have e2 : cs.toList = [kx.val, lx.val, hx.val, .int .i64 s] := by simpa [Value.cells] using e
  rw [show cs = cs.toList.toArray by simp, e2]
end
end Go.Proofs.YtnoccpafjaoopaaGreat
namespace Go.Proofs.YtnoccpafjaoopaaGreat.GetX
open Go.RowKit Go.Shelf
attribute [local go_sem] Oper.semAt_some
def ClG (X H : Nat) : World → Nat → Prop := fun _ g => X ≤ g ∧ g < H + 8
/-- What Get answers. -/
def GetE (X : Nat) (t : Tm) (K : List Int) (s : Int) (w : World) (e : Ending) (w' : World) : Prop := ∃ (y : En) (b : Bool) (er : Int), AnsG (getP t.tb K s) y b er ∧ e = .returned (.tuple #[y.val, .bool b, .int .i64 er]) ∧ Row w' w.heap.size y.k.a y.k.c y.k.l ∧ Row w' w.heap.size y.v.a y.v.c y.v.l ∧ Tw t.mb w w' ∧ TabW (fun g => X ≤ g ∧ g < w.heap.size) w' t
def IG (X H : Nat) (w : World) (t : Tm) (k : Sl) (s : Int) (z : Nat × World) (W : World) : Prop := z.1 = 0 ∧ KG H w t k s W ∧ TabW (ClG X H W) W t
def XG (X H : Nat) (w : World) (t : Tm) (k : Sl) (s : Int) (z : Nat × World) (W : World) : Prop := Fr (ClG X H) z.2 W ∧ TabW (ClG X H W) W t ∧ Tw t.mb w W ∧ GotG H (getP t.tb k.l s) W ∧ (z.1 = 2 → getP t.tb k.l s = (none, false))
section
variable {X H : Nat} {w W W' : World} {t : Tm} {k : Sl} {s : Int}
theorem fr_grown (hX : X ≤ H) {row : Option Nat} (hg : W.grownBy W' row) (hr : ∀ r, row = some r → H + 6 ≤ r ∧ r < H + 8) : Fr (ClG X H) W W' := fun g o ho hn => ⟨grown_obj ho hg (fun e => hn (by have := hr g e.symm; unfold ClG; omega)), hn⟩
theorem OwnAt.ig (hw : w.heap.size ≤ H) (hm : t.mb < X ∧ X ≤ H) : OwnAt (H + 6) (IG X H w t k s) := fun z W W' row ⟨h1, h2, h3⟩ hg hr => by
  have hr' : ∀ r, row = some r → H + 6 ≤ r ∧ r < H + 8 := fun r e => by have := (hr r e).1; omega
  exact ⟨h1, h2.grow hw hg (fun r e => (hr' r e).1), h3.fr (fr_grown hm.2 hg hr') (by unfold ClG; omega)⟩
theorem OwnAt.xg (hw : w.heap.size ≤ H) (hm : t.mb < X ∧ X ≤ H) : OwnAt (H + 6) (XG X H w t k s) := fun z W W' row ⟨h1, h2, h3, h4, h5⟩ hg hr => by
  have hr' : ∀ r, row = some r → H + 6 ≤ r ∧ r < H + 8 := fun r e => by have := (hr r e).1; omega
  have hf := fr_grown (X := X) (H := H) hm.2 hg hr'
  exact ⟨h1.trans hf, h2.fr hf (by unfold ClG; omega), h3.grow hg (fun r e => by have := (hr' r e).1; omega), h4.grow hg (fun r e => ⟨(hr' r e).1, (hr r e).2⟩), h5⟩
/-- The one who looks, as the one who asks. -/
theorem get_asks {M : Nat} (hw : w.heap.size = H) (hk0 : In w k.a k.l k.l.length k.c) (hm : t.mb < X ∧ X ≤ H) (hmm : MapAt w t.mb) (R : World → Prop) (R' : Nat × World → World → Prop)
    (hR : ∀ W W', R W → Two (H + 6) W W' → R W') (hRs : ∀ W, R W → H + 6 + 2 ≤ W.heap.size ∧ (∃ L, W.heap[H + 6 + 1]? = some (.loop L)) ∧ ∃ d, W.heap[H + 6]? = some (.deferred d))
    (hno : ∀ z args z' W, OffG t k s z args z' W → IG X H w t k s z W → R W → YieldAt Fence.wide M Tryz.prog (H + 6 + 1) args W fun e W' => e = .returned (.bool false) ∧ XG X H w t k s z' W' ∧ R' z' W') :
    Asks t (keyE k s) (H + 4) (H + 5) M (H + 6 + 1) (fun _ => true) (fun j W => (j = 0 ∧ KG H w t k s W) ∧ R W) (fun _ W => ∃ z : Nat × World, z.1 ≠ 0 ∧ XG X H w t k s z W ∧ R' z W) (ClG X H) where
  box := fun j W ⟨⟨_, h⟩, _⟩ => by
    have h4 := h.b4
    have h5 := h.b5
    refine ⟨by simp [World.cell?, h4], ⟨?_, ?_, ?_, ?_⟩, hk0.tw h.tw hmm, in_nil W⟩ <;> simp [World.cell?, h5, keyE, Sl.val]
  own := fun j W ⟨⟨_, h⟩, r⟩ => ⟨fun g q => by have := (hRs W r).1; unfold ClG at q; omega, by unfold ClG; omega⟩
  stay := fun j W W' ⟨⟨h0, h⟩, r⟩ hm' ht => by
    obtain ⟨-, ⟨L, e1⟩, d, e2⟩ := hRs W r
    exact ⟨⟨⟨h0, h.tw2 (by omega) ht⟩, hR W W' r ⟨(ht.obj e2 (by omega)).trans e2.symm, (ht.obj e1 (by omega)).trans e1.symm⟩⟩, fun g q => q⟩
  yes := fun j W y hM hst _ _ _ _ => by cases hst
  no := fun j W y hM _ ⟨⟨h0, h⟩, r⟩ hT hE hF => by
    subst h0
    obtain ⟨M', hM'⟩ : ∃ M', (goP t.tb (keyE k s).rd).1 = y.rd :: M' := by
      cases hq : (goP t.tb (keyE k s).rd).1 with
      | nil => rw [hq] at hM; simp at hM
      | cons a l => rw [hq] at hM; injection hM with hM; exact ⟨l, by rw [hM]⟩
    refine (hno (0, W) _ (if y.k.l = k.l then 1 else 2, W) W ⟨rfl, rfl, .inl ⟨y, M', hM', rfl, hE, hF, rfl⟩⟩ ⟨rfl, h, hT⟩ r).mono ?_
    rintro e W' ⟨rfl, k1, k2⟩
    exact ⟨rfl, ⟨_, by simp only; split <;> decide, k1, k2⟩, k1.1⟩
  bad := fun W hb ⟨⟨h0, h⟩, r⟩ hT => by
    have hp : goP t.tb (keyE k s).rd = ([], true) := Prod.ext (List.eq_nil_of_length_eq_zero h0) hb
    refine (hno (0, W) _ (3, W) W ⟨rfl, rfl, .inr ⟨hp, rfl, rfl⟩⟩ ⟨rfl, h, hT⟩ r).mono ?_
    rintro e W' ⟨rfl, k1, k2⟩
    exact ⟨rfl, ⟨_, by simp, k1, k2⟩, k1.1⟩
/-- A round's beginning. -/
theorem ig_round {z : Nat × World} {W₂ : World} {o : Obj} (hw : w.heap.size = H) (hm : t.mb < X ∧ X ≤ H) (hi : IG X H w t k s z W) (hz : H + 8 ≤ W.heap.size) (g2 : (W.alloc o).grownBy W₂ (some (H + 6 + 1))) (hl : ∃ o' : Obj, (W.alloc o).heap[H + 6 + 1]? = some o' ∧ o'.isCells = false) :
    KG H w t k s W₂ ∧ Fr (ClG X H) W W₂ ∧ TabW (ClG X H W₂) W₂ t ∧ H + 8 ≤ W₂.heap.size ∧ W₂.heap[W.heap.size]? = some o := by
  have hb := below_new W o
  have f1 : Fr (ClG X H) W (W.alloc o) := Fr.below hb (fun g q => q)
  have hr : ∀ r, some (H + 6 + 1) = some r → H + 6 ≤ r ∧ r < H + 8 := fun r e => by injection e with e; omega
  have f2 := f1.trans (fr_grown (H := H) hm.2 g2 hr)
  have hs := g2.size
  rw [World.size_alloc] at hs
  exact ⟨(hi.2.1.tw2 (by omega) (Tw.of_below hb)).grow (by omega) g2 (fun r e => (hr r e).1), f2, hi.2.2.fr f2 (by unfold ClG; omega), by omega, grown_obj (heap_alloc_new W o) g2 (fun e => by injection e with e; omega)⟩
/-- A round's end. -/
theorem xg_core {V W₂ W3 W5 : World} {y : En} {b : Bool} {er : Int} (n : Nat) (hm : t.mb < X ∧ X ≤ H) (hw : w.heap.size = H) (h2 : KG H w t k s W₂) (f2 : Fr (ClG X H) V W₂) (hT : TabW (ClG X H W₂) W₂ t) (hz : H ≤ W₂.heap.size) (b3 : Below W₂.heap.size W₂ W3) (k5 : Kp (fun j => j ≠ H + 1 ∧ j ≠ H + 1 + 1 ∧ j ≠ H + 1 + 1 + 1) W3 W5) (hr : ResG H y b er W5) (ha : AnsG (getP t.tb k.l s) y b er) (r1 : Row W3 W₂.heap.size y.k.a y.k.c y.k.l) (r2 : Row W3 W₂.heap.size y.v.a y.v.c y.v.l) (hx : H + 4 ≤ W₂.heap.size) (h22 : n = 2 → getP t.tb k.l s = (none, false)) :
    (∀ g o, W₂.heap[g]? = some o → (g ≠ H + 1 ∧ g ≠ H + 1 + 1 ∧ g ≠ H + 1 + 1 + 1) → W5.heap[g]? = some o) ∧ XG X H w t k s (n, V) W5 := by
  have ho : ∀ g o, W₂.heap[g]? = some o → (g ≠ H + 1 ∧ g ≠ H + 1 + 1 ∧ g ≠ H + 1 + 1 + 1) → W5.heap[g]? = some o := fun g o hg hn => (k5.block g hn).trans (obj_kept hg b3 (Nat.le_refl _))
  have f5 : Fr (ClG X H) W₂ W5 := fun g o hg hn => ⟨ho g o hg (by unfold ClG at hn; omega), hn⟩
  have hrow : ∀ {A : Option Addr} {c : Nat} {L : List Int}, Row W3 W₂.heap.size A c L → Row W5 H A c L := fun r => own_mono (own_kp r k5 (fun ad ha => by have := (own_in r ad ha).1; omega)) (by omega)
  refine ⟨ho, f2.trans f5, hT.fr f5 (by unfold ClG; omega), ?_, ⟨y, b, er, hr, ha, hrow r1, hrow r2⟩, h22⟩
  refine ⟨k5.os.trans (b3.os.trans h2.tw.os), k5.tape.trans (b3.tape.trans h2.tw.tape), k5.output.trans (b3.output.trans h2.tw.output), Nat.le_trans h2.tw.size (Nat.le_trans b3.size k5.size), fun j hj => ?_⟩
  have hj2 := h2.tw.size
  exact (k5.block j (by omega)).trans ((b3.block j (by omega)).trans (h2.tw.block j hj))
theorem xg_end {V W₂ W3 W5 : World} {y : En} {b : Bool} {er : Int} (n : Nat) (hm : t.mb < X ∧ X ≤ H) (hw : w.heap.size = H) (h2 : KG H w t k s W₂) (f2 : Fr (ClG X H) V W₂) (hT : TabW (ClG X H W₂) W₂ t) (hz : H + 8 ≤ W₂.heap.size) (b3 : Below W₂.heap.size W₂ W3) (k5 : Kp (fun j => j ≠ H + 1 ∧ j ≠ H + 1 + 1 ∧ j ≠ H + 1 + 1 + 1) W3 W5) (hr : ResG H y b er W5) (ha : AnsG (getP t.tb k.l s) y b er) (r1 : Row W3 W₂.heap.size y.k.a y.k.c y.k.l) (r2 : Row W3 W₂.heap.size y.v.a y.v.c y.v.l) (h22 : n = 2 → getP t.tb k.l s = (none, false)) :
    Two (H + 6) W₂ W5 ∧ XG X H w t k s (n, V) W5 := by
  obtain ⟨ho, hx⟩ := xg_core n hm hw h2 f2 hT (by omega) b3 k5 hr ha r1 r2 (by omega) h22
  obtain ⟨o3, g3⟩ : ∃ o, W₂.heap[H + 6]? = some o := ⟨_, Array.getElem?_eq_getElem (by omega)⟩
  obtain ⟨o4, g4⟩ : ∃ o, W₂.heap[H + 6 + 1]? = some o := ⟨_, Array.getElem?_eq_getElem (by omega)⟩
  exact ⟨⟨(ho _ _ g3 (by omega)).trans g3.symm, (ho _ _ g4 (by omega)).trans g4.symm⟩, hx⟩
/-- Behind a break. -/
theorem xg_zero {z : Nat × World} {W5 : World} (hm : t.mb < X ∧ X ≤ H) (hw : w.heap.size = H) (hx : XG X H w t k s z W) (k5 : Kp (fun j => j ≠ H + 1 ∧ j ≠ H + 1 + 1 ∧ j ≠ H + 1 + 1 + 1) W W5) (hz : H ≤ W.heap.size) : Tw t.mb w W5 ∧ TabW (ClG X H W5) W5 t := by
  obtain ⟨-, h2, h3, -⟩ := hx
  refine ⟨⟨k5.os.trans h3.os, k5.tape.trans h3.tape, k5.output.trans h3.output, Nat.le_trans h3.size k5.size, fun j hj => (k5.block j (by omega)).trans (h3.block j hj)⟩, ?_⟩
  exact h2.fr (fun g o hg hn => ⟨(k5.block g (by unfold ClG at hn; omega)).trans hg, hn⟩) (by unfold ClG; omega)
end
theorem get_answer {X H : Nat} {y : En} {b : Bool} {er : Int} {w W : World} {t : Tm} {K : List Int} {s : Int} (hw : w.heap.size = H) (hr : ResG H y b er W) (ha : AnsG (getP t.tb K s) y b er) (r1 : Row W H y.k.a y.k.c y.k.l) (r2 : Row W H y.v.a y.v.c y.v.l) (ht : Tw t.mb w W) (hT : TabW (ClG X H W) W t) (hm : t.mb < X ∧ X ≤ H) (hK : W.heap[H + 6]? = some (.deferred (some []))) :
    GetE X t K s w (.returned (.tuple #[.agg #[.slice y.k.a y.k.l.length y.k.c, .int .i64 y.s, .bool y.d, .slice y.v.a y.v.l.length y.v.c], .bool b, .int .i64 er])) (W.putObj (H + 6) (.deferred none)) := by
  have hg := grownBy_putObj' W (H + 6) (.deferred none)
  have hr' : ∀ r, some (H + 6) = some r → H + 6 ≤ r ∧ ∃ o : Obj, W.heap[r]? = some o ∧ o.isCells = false := fun r e => by injection e with e; subst e; exact ⟨Nat.le_refl _, _, hK, rfl⟩
  subst hw
  exact ⟨y, b, er, ha, rfl, own_abide r1 hg (fun r e => (hr' r e).2), own_abide r2 hg (fun r e => (hr' r e).2), ht.grow hg (fun r e => by have := (hr' r e).1; omega), (hT.fr (fr_grown (H := w.heap.size) hm.2 hg (fun r e => by injection e with e; omega)) (by unfold ClG; omega)).less (fun g hg => by unfold ClG; omega)⟩
set_option maxRecDepth 100000 in
set_option maxHeartbeats 8000000 in
theorem get_any (X : Nat) (t : Tm) (k : Sl) (s : Int) (w : World) (h : TabW (fun g => X ≤ g ∧ g < w.heap.size) w t) (hmX : t.mb < X) (hX : X ≤ w.heap.size) (hk : In w k.a k.l k.l.length k.c) (hrl : t.R.length ≤ 2305843009213693952) :
    Calls Tryz.prog 23 #[.pointer (some ⟨t.b, 0, none⟩), .slice k.a k.l.length k.c, .int .i64 s] w (GetE X t k.l s w) := by
  have HH := Lib.hid h
  have HK := Lib.hid hk
  have HRL := Lib.hid hrl
  have HMT : Hid (t.mb < X ∧ X ≤ w.heap.size) := Lib.hid ⟨hmX, hX⟩
  obtain ⟨n, hn⟩ : ∃ n, k.l.length = n := ⟨_, rfl⟩
  have HN := Lib.hid hn
  rw [hn]
  clear h hk hrl hn hmX hX
  refine (callsIn_wide (n := 9)).1 ?_
  refine callsIn_of_wp_marks Tryz.func23 rfl trivial ?_ rfl
  simp only [Tryz.ntmps23, List.size_toArray, List.length_cons, List.length_nil, Nat.reduceAdd, Nat.reduceSub, Array.replicate_succ, Array.replicate_zero, List.push_toArray, List.append_toArray, List.nil_append, List.cons_append]
  gi_wp2_with (refine ⟨trivial, ?_⟩; gi_at_call 44; refine (callsIn_wide.2 (from_any _ _ _ _ _ _ _ _ _ _)).mono ?_; rintro e w' ⟨rfl, rfl⟩)
  obtain ⟨hq, hs, hb⟩ := allocs_get [.cells #[.slice k.a n k.c] 42, .cells #[.slice none 0 0, .int .i64 0, .bool false, .slice none 0 0] 48, .cells #[.bool false] 4, .cells #[.int .i64 0] 30, .cells #[.pointer (some ⟨t.b, 0, none⟩)] 37, .cells #[.slice k.a n k.c, .int .i64 s, .bool false, .slice none 0 0] 48] w
  have q0 := hq 0 _ rfl
  have q1 := hq 1 _ rfl
  have q2 := hq 2 _ rfl
  have q3 := hq 3 _ rfl
  have q4 := hq 4 _ rfl
  have q5 := hq 5 _ rfl
  simp only [List.foldl_cons, List.foldl_nil, List.length_cons, List.length_nil, Nat.reduceAdd, Nat.add_zero] at hs hb q0 q1 q2 q3 q4 q5
  clear hq
  obtain ⟨W0, hW0⟩ : ∃ W0, ((((((w.alloc (.cells #[.slice k.a n k.c] 42)).alloc (.cells #[.slice none 0 0, .int .i64 0, .bool false, .slice none 0 0] 48)).alloc (.cells #[.bool false] 4)).alloc (.cells #[.int .i64 0] 30)).alloc (.cells #[.pointer (some ⟨t.b, 0, none⟩)] 37)).alloc (.cells #[.slice k.a n k.c, .int .i64 s, .bool false, .slice none 0 0] 48)) = W0 := ⟨_, rfl⟩
  rw [hW0] at q0 q1 q2 q3 q4 q5 hs hb ⊢
  clear hW0
  obtain ⟨H, hH⟩ : ∃ H, w.heap.size = H := ⟨_, rfl⟩
  have hI0 : IG X H w t k s (0, W0) W0 := by
    rw [hH] at q0 q1 q2 q3 q4 q5
    refine ⟨rfl, ⟨Tw.of_below hb, ?_, ⟨q1, q2, q3⟩, q4, ?_⟩, (HH.out.turn (S' := ClG X H W0) (fun g o ho hn => ⟨ho, fun q => hn ⟨q.1, (Array.getElem?_eq_some_iff.1 ho).1⟩⟩) (fun q => by have := HMT.out; omega)).kept hb⟩
    · rw [q0, ← HN.out]
      rfl
    · rw [q5, ← HN.out]
      rfl
  rw [hH] at hs HMT ⊢
  have hOI : OwnAt (H + 6) (IG X H w t k s) := OwnAt.ig (by omega) HMT.out
  have hOX : OwnAt (H + 6) (XG X H w t k s) := OwnAt.xg (by omega) HMT.out
  rw [← hs] at hOI hOX
  clear q0 q1 q2 q3 q4 q5 hb
  refine range_toldK (σ := Nat × World) (gf := 70) (lb := #[.pointer (some ⟨H + 4, 0, none⟩), .pointer (some ⟨H + 5, 0, none⟩)]) rfl (enters_of Tryz.func70 (by kernel_rfl) rfl)
    (IG X H w t k s) (XG X H w t k s) (fun z => if z.1 = 2 then .exit 0 else .ret) hOI hOX (fun _ _ _ _ => False) (OffG t k s) (0, W0) hI0
    (fun z => z.1 = 0 ∧ goP t.tb (keyE k s).rd = ([], false)) (fun z => z.1 ≠ 0) ?size ?on ?off ?iter ?done ?left
  case size =>
    rintro z args z' W (h | ⟨-, -, (⟨y, M, -, rfl, -⟩ | ⟨-, rfl, -⟩)⟩)
    · exact h.elim
    · rfl
    · rfl
  case on =>
    rintro z args z' W h
    exact h.elim
  case iter =>
    intro R R' hR hRs hyes hno hR' hRs' W hi hr
    rw [hs] at hR hRs hno ⊢
    refine (from_iter 7 (H + 6 + 1) (H + 4) (H + 5) t (keyE k s) _ _ _ _ (get_asks hH HK.out HMT.out HH.out.at_.mapAt R R' hR hRs hno) HRL.out W ⟨⟨⟨rfl, hi.2.1⟩, hr⟩, hi.2.2⟩).mono ?_
    rintro e W' ⟨hv, hq, hT⟩
    rcases hq with ⟨q1, q2, ⟨q3, q4⟩, q5⟩ | ⟨s', q1, z, q2, q3, q4⟩
    · exact ⟨hv, .inl ⟨(0, W'), ⟨rfl, Prod.ext (List.eq_nil_of_length_eq_zero q3) q1⟩, ⟨rfl, q4, hT⟩, q5⟩⟩
    · exact ⟨hv, .inr ⟨z, q2, q3, q4⟩⟩
  case done =>
    rintro z W ⟨d1, d2⟩ hi hK
    rw [hs] at hK ⊢
    obtain ⟨⟨p0, p1, p2, p3, p4, p5⟩, f0, f1, f2, f3, f4, f5⟩ := res_cells hi.2.1.res
    obtain ⟨r1, r2⟩ := setG_facts (e := .slice none 0 0) (f := .int .i64 0) (g := .bool false) (h := .slice none 0 0) (u := .bool false) (v := .int .i64 0) hi.2.1.res.1 hi.2.1.res.2.1 hi.2.1.res.2.2
    have hlt := (Array.getElem?_eq_some_iff.1 hK).1
    obtain ⟨e1, e2⟩ := xg_core (V := W) 0 HMT.out hH hi.2.1 (Fr.refl _ _) hi.2.2 (by omega) (Below.refl _ _) r2 (y := zeroEn) (b := false) (er := 0) r1 (.inr ⟨by rw [getP_of d2]; rfl, rfl, rfl, by rw [getP_of d2]; rfl⟩) (Row.nil _ _) (Row.nil _ _) (by omega) (fun e => by cases e)
    have hK2 := e1 _ _ hK (by omega)
    obtain ⟨-, e3, e4, ⟨y, b, er, e5, e6, e7, e8⟩, -⟩ := e2
    have HA := Lib.hid (get_answer (s := s) hH e5 e6 e7 e8 e4 e3 HMT.out hK2)
    have HR := Lib.hid (put_res e5)
    have HK2 := Lib.hid hK2
    clear hi hK r1 r2 e1 e3 e4 e5 e6 e7 e8 hK2
    gi_wp2
    refine ⟨by simp, .inl ⟨_, _, rfl, run_takeDeferred HK2.out, ?_⟩⟩
    refine ⟨_, ?_, HA.out⟩
    obtain ⟨⟨p0, p1, p2, p3, p4, p5⟩, -⟩ := res_cells HR.out
    rw [results_ccc rfl]
    go_simp
  case left =>
    rintro z W hl hi hK
    rw [hs] at hK ⊢
    have hi' := hi
    obtain ⟨e2, e3, e4, ⟨y, b, er, e5, e6, e7, e8⟩, e9⟩ := hi'
    by_cases hz : z.1 = 2
    · rw [if_pos hz]
      obtain ⟨⟨p0, p1, p2, p3, p4, p5⟩, f0, f1, f2, f3, f4, f5⟩ := res_cells e5
      obtain ⟨r1, r2⟩ := setG_facts (e := .slice none 0 0) (f := .int .i64 0) (g := .bool false) (h := .slice none 0 0) (u := .bool false) (v := .int .i64 0) e5.1 e5.2.1 e5.2.2
      have hlt := (Array.getElem?_eq_some_iff.1 hK).1
      obtain ⟨x1, x2⟩ := xg_zero HMT.out hH hi r2 (by omega)
      have hK2 := (r2.block (H + 6) (by omega)).trans hK
      have HA := Lib.hid (get_answer (y := zeroEn) (b := false) (er := 0) (s := s) hH r1 (.inr ⟨by rw [e9 hz], rfl, rfl, by rw [e9 hz]; rfl⟩) (Row.nil _ _) (Row.nil _ _) x1 x2 HMT.out hK2)
      have HR := Lib.hid (put_res (y := zeroEn) (b := false) (er := 0) r1)
      have HK2 := Lib.hid hK2
      clear hi hK r1 r2 e2 e3 e4 e5 e6 e7 e8 e9 hK2 x1 x2 hz hl
      gi_wp2
      refine ⟨by simp, .inl ⟨_, _, rfl, run_takeDeferred HK2.out, ?_⟩⟩
      refine ⟨_, ?_, HA.out⟩
      obtain ⟨⟨p0, p1, p2, p3, p4, p5⟩, -⟩ := res_cells HR.out
      rw [results_ccc rfl]
      go_simp
    · rw [if_neg hz]
      have HA := Lib.hid (get_answer (s := s) hH e5 e6 e7 e8 e4 e3 HMT.out hK)
      obtain ⟨⟨p0, p1, p2, p3, p4, p5⟩, -⟩ := res_cells (put_res e5)
      have HK2 := Lib.hid hK
      clear hK e2 e3 e4 e5 e6 e7 e8 e9 hi hz hl
      gi_wp2
      refine ⟨by simp, .inl ⟨_, _, rfl, run_takeDeferred HK2.out, ?_⟩⟩
      refine ⟨_, ?_, HA.out⟩
      rw [results_ccc rfl]
      go_simp
  case off =>
    rintro z args z' W ⟨h0, h2, hc⟩ hi hsz
    rw [hs] at hsz
    unfold RoundOf
    rw [hs]
    obtain ⟨J, hJ⟩ : ∃ J, (if z'.1 = 2 then Code.exit 0 else .ret) = J := ⟨_, rfl⟩
    rw [hJ]
    have HJ := Lib.hid hJ
    clear hJ
    rcases hc with ⟨y, M, hM, rfl, hE, hF, hz'⟩ | ⟨hM, rfl, hz'⟩
    · obtain ⟨yn, hyn⟩ : ∃ q, y.k.l.length = q := ⟨_, rfl⟩
      obtain ⟨vn, hvn⟩ : ∃ q, y.v.l.length = q := ⟨_, rfl⟩
      rw [En.val_eq, hyn, hvn]
      replace hz' := Lib.hid hz'
      gi_wp2
      refine ⟨Two.below ((Below.refl (H + 8) W).alloc hsz _) (by omega), fun W₂ g2 hl => ?_⟩
      obtain ⟨k2, f2, t2, s2, e2⟩ := ig_round hH HMT.out hi hsz g2 hl
      have y2 : EIn W₂ y := (hE.kept (below_new W _)).abide g2 (fun r e => by injection e with e; subst e; exact hl)
      clear g2 hl
      obtain ⟨E, hEE⟩ : ∃ E, W.heap.size = E := ⟨_, rfl⟩
      rw [hEE] at e2 ⊢
      obtain ⟨c0, c1, c2, c3⟩ : W₂.cell? ⟨E, 0, none⟩ = some (.slice y.k.a yn y.k.c) ∧ W₂.cell? ⟨E, 1, none⟩ = some (.int .i64 y.s) ∧ W₂.cell? ⟨E, 2, none⟩ = some (.bool y.d) ∧ W₂.cell? ⟨E, 3, none⟩ = some (.slice y.v.a vn y.v.c) := by
        refine ⟨?_, ?_, ?_, ?_⟩ <;> simp [World.cell?, e2]
      have cH : W₂.cell? ⟨H, 0, none⟩ = some (.slice k.a n k.c) := by
        have := k2.b0
        simp [World.cell?, this, Sl.val, HN.out]
      have HEQ := Lib.hid (equal_any y.k.a k.a y.k.l k.l yn n y.k.c k.c W₂ (hyn ▸ y2.1) (HN.out ▸ (HK.out.tw k2.tw HH.out.at_.mapAt)))
      have hgd := goP_good (t := t.tb) (e := (keyE k s).rd) (x := y.rd) (j := 0) (by rw [hM]; rfl)
      have HCL := Lib.hid (eclone_any y W₂ y2 (by have := hgd.1.2; unfold En.rd at this; simp only at this; omega) (by have := hgd.2.2.1; unfold En.rd at this; simp only at this; omega))
      rw [En.val_eq, hyn, hvn] at HCL
      have HK2 := Lib.hid k2
      have HF2 := Lib.hid f2
      have HT2 := Lib.hid t2
      have HS2 := Lib.hid s2
      have HP : Hid (getP t.tb k.l s = firstP k.l (y.rd :: M, (goP t.tb (keyE k s).rd).2)) := Lib.hid (getP_of (Prod.ext hM rfl))
      have HZ2 := Lib.hid h2
      clear k2 f2 t2 s2 e2 hyn hvn hgd hE hF y2 hi hM hsz hEE h0 h2 hOI hOX
      by_cases hk : y.k.l = k.l
      · replace hz' := hz'.out
        rw [if_pos hk] at hz'
        have hkd : decide (y.k.l = k.l) = true := by simpa using hk
        rw [hkd] at HEQ
        have HGP : Hid (getP t.tb k.l s = (some y.rd, false)) := Lib.hid (by rw [HP.out]; exact if_pos hk)
        have HRES : Hid (∀ W3, Below W₂.heap.size W₂ W3 → ResG H zeroEn false 0 W3) := Lib.hid (fun W3 b3 => HK2.out.res.of (fun g o h1 h2 ho => obj_kept ho b3 (Nat.le_refl _)))
        have HZ1 := Lib.hid hz'
        clear hk hkd hz'
        gi_wp2_with (first
          | (refine ⟨trivial, ?_⟩; gi_at_call 45; refine (CallsIn.inRound _ (callsIn_wide.2 HEQ.out)).mono ?_; rintro e w' ⟨rfl, rfl⟩; clear HEQ)
          | (refine ⟨trivial, ?_⟩; gi_at_call 46; refine (CallsIn.inRound _ (callsIn_wide.2 HCL.out)).mono ?_; rintro e W3 ⟨y', hrd, rfl, r1, r2, b3⟩; have HRD := Lib.hid hrd; have R1 := Lib.hid r1; have R2 := Lib.hid r2; have B3 := Lib.hid b3; obtain ⟨⟨p0, p1, p2, p3, p4, p5⟩, f0, f1, f2', f3, f4, f5⟩ := res_cells (HRES.out W3 b3); rw [En.val_eq]; clear hrd r1 r2 b3 HCL c0 c1 c2 c3 cH))
        have hR3 := HRES.out W3 B3.out
        obtain ⟨s1, s2⟩ := setG_facts (e := .slice y'.k.a y'.k.l.length y'.k.c) (f := .int .i64 y'.s) (g := .bool y'.d) (h := .slice y'.v.a y'.v.l.length y'.v.c) (u := .bool true) (v := .int .i64 0) hR3.1 hR3.2.1 hR3.2.2
        obtain ⟨x1, x2⟩ := xg_end z'.1 HMT.out hH HK2.out HF2.out HT2.out HS2.out B3.out s2 (y := y') (b := true) (er := 0) s1 (.inl ⟨by rw [HGP.out, HRD.out], rfl, rfl⟩) R1.out R2.out (fun e => by rw [HZ1.out] at e; cases e)
        refine ⟨by rw [← HJ.out, HZ1.out]; rfl, x1, ?_⟩
        rw [← HZ2.out] at x2
        exact x2
      · replace hz' := hz'.out
        rw [if_neg hk] at hz'
        have hkd : decide (y.k.l = k.l) = false := by simpa using hk
        rw [hkd] at HEQ
        have HGP : Hid (getP t.tb k.l s = (none, false)) := Lib.hid (by rw [HP.out]; exact if_neg hk)
        have HZ1 := Lib.hid hz'
        clear hk hkd hz'
        gi_wp2_with (refine ⟨trivial, ?_⟩; gi_at_call 45; refine (CallsIn.inRound _ (callsIn_wide.2 HEQ.out)).mono ?_; rintro e w' ⟨rfl, rfl⟩; clear HEQ)
        obtain ⟨x1, x2⟩ := xg_end z'.1 HMT.out hH HK2.out HF2.out HT2.out HS2.out (Below.refl _ _) (Kp.refl _ _) (y := zeroEn) (b := false) (er := 0) HK2.out.res (.inr ⟨by rw [HGP.out], rfl, rfl, by rw [HGP.out]; rfl⟩) (Row.nil _ _) (Row.nil _ _) (fun _ => HGP.out)
        refine ⟨by rw [← HJ.out, HZ1.out]; rfl, x1, ?_⟩
        rw [← HZ2.out] at x2
        exact x2
    · gi_wp2
      refine ⟨Two.below ((Below.refl (H + 8) W).alloc hsz _) (by omega), fun W₂ g2 hl => ?_⟩
      obtain ⟨k2, f2, t2, s2, -⟩ := ig_round hH HMT.out hi hsz g2 hl
      clear g2 hl
      obtain ⟨⟨p0, p1, p2, p3, p4, p5⟩, f0, f1, f2', f3, f4, f5⟩ := res_cells k2.res
      obtain ⟨r1, r2⟩ := setG_facts (e := .slice none 0 0) (f := .int .i64 0) (g := .bool false) (h := .slice none 0 0) (u := .bool false) (v := .int .i64 11) k2.res.1 k2.res.2.1 k2.res.2.2
      have HX := Lib.hid (xg_end z'.1 HMT.out hH k2 f2 t2 s2 (Below.refl _ _) r2 (y := zeroEn) (b := false) (er := 11) r1 (.inr ⟨by rw [getP_of hM]; rfl, rfl, rfl, by rw [getP_of hM]; rfl⟩) (Row.nil _ _) (Row.nil _ _) (fun e => by omega))
      clear k2 f2 t2 s2 r1 r2 hi
      gi_wp2
      obtain ⟨x1, x2⟩ := HX.out
      refine ⟨by rw [← HJ.out, hz']; rfl, x1, ?_⟩
      rw [← h2] at x2
      exact x2
end Go.Proofs.YtnoccpafjaoopaaGreat.GetX
