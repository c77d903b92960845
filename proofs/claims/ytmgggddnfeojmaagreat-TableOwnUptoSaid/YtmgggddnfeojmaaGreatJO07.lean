/-
  Walks: whether entries may stand in a table. Walks: how many entries have a key, how many make a block. Walks: bytes with their length, appended and read. Walks: how many entries make a block; what is told of an entry.
-/
import Derived.Deep.QuietTactic
import Derived.BigQuiet
import Derived.Laws.Small
import Derived.Test.YtmgggddnfeojmaaGreatJO02
import Derived.Test.YtmgggddnfeojmaaGreatJO06
set_option linter.unusedSimpArgs false
set_option linter.unusedVariables false
namespace Go.Proofs.YtmgggddnfeojmaaGreat
open Go.RowKit
/-- An entry whose numbers are a machine's. -/
def EFit (q : En) : Prop := -9223372036854775808 ≤ q.s ∧ q.s ≤ 9223372036854775807
theorem en_val (ka va : Option Addr) (kc vc : Nat) (k v : List Int) (s : Int) (d : Bool) (n m : Nat) (hn : k.length = n) (hm : v.length = m) : (⟨⟨ka, kc, k⟩, s, d, ⟨va, vc, v⟩⟩ : En).val = .agg #[.slice ka n kc, .int .i64 s, .bool d, .slice va m vc] := by
  subst hn hm
  rfl
theorem In.len9 {w : World} {A : Option Addr} {L : List Int} {n c : Nat} (h : In w A L n c) : L.length ≤ 9223372036854775807 := by
  have := h.len
  have := h.cap
  have := h.top
  omega
theorem ord_false {l : List Er} {k : Nat} {x : Er} (hx : l[k]? = some x) (h : ¬ GoodE x) : ¬ OrdL l := fun ho => h (ho.good x (List.mem_of_getElem? hx))
set_option maxRecDepth 100000 in
set_option maxHeartbeats 8000000 in
theorem mayStand_any (A : Option Addr) (l : List En) (n c : Nat) (w : World) (hn : l.length = n) (h : Lies w A (evals l)) (hi : EIns w l) (hs : ∀ q ∈ l, EFit q) (hl : n * 64 ≤ 140737488351232) :
    Calls Tryz.prog 33 #[.slice A n c] w fun e w' => e = .returned (.bool (decide (OrdL (ers l)))) ∧ Below w.heap.size w w' := by
  obtain ⟨b, hb⟩ : ∃ b, decide (OrdL (ers l)) = b := ⟨_, rfl⟩
  rw [hb]
  have HB := Lib.hid hb
  have HP := Lib.hid (fun (w' : World) (hb : Below w.heap.size w w') => h.kept hb)
  have HI := Lib.hid (fun (w' : World) (hb : Below w.heap.size w w') => hi.kept hb)
  have HS := Lib.hid hs
  have HN := Lib.hid hn
  have HR := Lib.hid (ers_len l)
  have hn9 : Hid ((n : Int) ≤ 9223372036854775807) := Lib.hid (by omega)
  clear h hi hs hn hb hl
  go_enter Tryz.func33, Tryz.ntmps33
  go_wp2_with fail
  go_loopw [7] (fun t7 wr => ∃ k : Nat, k ≤ n ∧ t7 = .int .i64 k ∧ Hid (OrdL ((ers l).take k)) ∧ Hid (Below w.heap.size w wr)) (fun t7 _ => n - (intOf t7).toNat)
  case atStart => exact ⟨0, by omega, rfl, Lib.hid trivial, Lib.hid (Below.refl _ _)⟩
  case round =>
    obtain ⟨k, hk, rfl, ho, hbl⟩ := hrel
    have CW : Hid (w.heap.size ≤ wr.heap.size) := Lib.hid hbl.out.size
    by_cases hlt : k < n
    · have hq := List.getElem?_eq_getElem (l := l) (i := k) (by have := HN.out; omega)
      generalize l[k]'(by have := HN.out; omega) = x at hq
      have HQ := Lib.hid hq
      have HX := Lib.hid (fun (W : World) (hb : Below w.heap.size w W) => HI.out W hb x (List.mem_of_getElem? hq))
      have HFX := Lib.hid (HS.out x (List.mem_of_getElem? hq))
      obtain ⟨ad, rfl, a0, a1, a2, a3⟩ := lies_entry (HP.out _ hbl.out) hq
      clear hq
      obtain ⟨⟨ka, kc, kl⟩, s, d, ⟨va, vc, vl⟩⟩ := x
      simp only at a0 a1 a2 a3
      obtain ⟨m, hm⟩ : ∃ m, kl.length = m := ⟨_, rfl⟩
      obtain ⟨z, hz⟩ : ∃ m, vl.length = m := ⟨_, rfl⟩
      have HV := Lib.hid (en_val ka va kc vc kl vl s d m z hm hz)
      rw [hm] at a0
      rw [hz] at a3
      have HMB := Lib.hid (fun (W : World) => mayBe_any ⟨⟨ka, kc, kl⟩, s, d, ⟨va, vc, vl⟩⟩ W HFX.out (HX.out w (Below.refl _ _)).1.len9 (HX.out w (Below.refl _ _)).2.len9)
      rw [HV.out] at HMB
      have i0 : (k : Int) < n := by omega
      obtain ⟨B1, C1⟩ := box_cells wr (.slice ka m kc) (.int .i64 s) (.bool d) (.slice va z vc)
      have HB1 := Lib.hid B1
      have HC1 := Lib.hid C1
      obtain ⟨w1, hw1⟩ : ∃ w1, wr.alloc (.cells #[.slice ka m kc, .int .i64 s, .bool d, .slice va z vc] 48) = w1 := ⟨_, rfl⟩
      rw [hw1] at HB1 HC1
      have D1 : Hid (Below w.heap.size w w1) := Lib.hid (hbl.out.trans (HB1.out.mono CW.out))
      clear B1 C1 hm hz
      obtain ⟨gd, hgd⟩ : ∃ g, decide (GoodE (⟨⟨ka, kc, kl⟩, s, d, ⟨va, vc, vl⟩⟩ : En).rd) = g := ⟨_, rfl⟩
      rw [hgd] at HMB
      have HG := Lib.hid hgd
      clear hgd
      cases gd
      · have HBF : Hid (b = false) := Lib.hid (by rw [← HB.out]; simp only [decide_eq_false_iff_not]; exact ord_false (ers_get HQ.out) (by simpa using HG.out))
        go_upto_region 4 with fail
        try rw [hw1]
        refine wp_region_held (S := fun W => W.cell? ⟨wr.heap.size, 0, none⟩ = some (.slice ka m kc) ∧ W.cell? ⟨wr.heap.size, 1, none⟩ = some (.int .i64 s) ∧ W.cell? ⟨wr.heap.size, 2, none⟩ = some (.bool d) ∧ W.cell? ⟨wr.heap.size, 3, none⟩ = some (.slice va z vc)) (by kernel_rfl) ?_
        change wpAnyH _ _ _ _ _ _ _ _ (World.drew _)
        have s0 := HC1.out _ (Below.refl _ _).drew
        refine wpAnyH_take (i := 0) (v := .agg #[.slice ka m kc, .int .i64 s, .bool d, .slice va z vc]) rfl (by kernel_rfl) (by kernel_rfl) (by kernel_rfl) (fun _ _ _ h => h) (Or.inl ⟨by first | kernel_rfl | rfl, fun _ hS => by obtain ⟨k1, k2, k3, k4⟩ := hS; go_simp⟩) s0 ?_
        try simp only [Act.put, List.getElem_toArray, List.getElem_cons_zero, List.getElem_cons_succ, List.setIfInBounds_toArray, List.set_cons_zero, List.set_cons_succ]
        refine wpAnyH_ready (rs := [1]) (by kernel_rfl) (by simp) ?_
        refine AllReadyH.cons rfl (fun K hK => ?_) AllReadyH.nil
        go_simp
        go_at_call 55
        refine (HMB.out _).mono ?_
        rintro e w2 ⟨rfl, hb2⟩
        have CB : Hid (Below w1.heap.size w1 w2) := Lib.hid ((Below.refl _ _).drew.trans hb2)
        clear hb2
        refine hK.out _ _ (HC1.out _ CB.out) (fun _ => ?_)
        clear hK K
        try simp only [Act.put, List.getElem_toArray, List.getElem_cons_zero, List.getElem_cons_succ, List.setIfInBounds_toArray, List.set_cons_zero, List.set_cons_succ]
        have s1 := HC1.out _ CB.out
        refine wpAnyH_take (i := 2) (v := .bool true) rfl (by kernel_rfl) (by kernel_rfl) (by kernel_rfl) (fun _ _ _ h => h) (Or.inl ⟨by first | kernel_rfl | rfl, fun _ hS => by go_simp⟩) s1 ?_
        try simp only [Act.put, List.getElem_toArray, List.getElem_cons_zero, List.getElem_cons_succ, List.setIfInBounds_toArray, List.set_cons_zero, List.set_cons_succ]
        refine wpAnyH_take (i := 3) (v := .bool true) rfl (by kernel_rfl) (by kernel_rfl) (by kernel_rfl) (fun _ _ _ h => h) (Or.inl ⟨by first | kernel_rfl | rfl, fun _ hS => by go_simp⟩) s1 ?_
        try simp only [Act.put, List.getElem_toArray, List.getElem_cons_zero, List.getElem_cons_succ, List.setIfInBounds_toArray, List.set_cons_zero, List.set_cons_succ]
        refine wpAnyH_take (i := 4) (v := undef) rfl (by kernel_rfl) (by kernel_rfl) (by kernel_rfl) (fun _ _ _ h => h) (Or.inr ⟨by first | kernel_rfl | rfl, rfl⟩) s1 ?_
        try simp only [Act.put, List.getElem_toArray, List.getElem_cons_zero, List.getElem_cons_succ, List.setIfInBounds_toArray, List.set_cons_zero, List.set_cons_succ]
        refine wpAnyH_take (i := 5) (v := undef) rfl (by kernel_rfl) (by kernel_rfl) (by kernel_rfl) (fun _ _ _ h => h) (Or.inr ⟨by first | kernel_rfl | rfl, rfl⟩) s1 ?_
        try simp only [Act.put, List.getElem_toArray, List.getElem_cons_zero, List.getElem_cons_succ, List.setIfInBounds_toArray, List.set_cons_zero, List.set_cons_succ]
        refine wpAnyH_take (i := 6) (v := undef) rfl (by kernel_rfl) (by kernel_rfl) (by kernel_rfl) (fun _ _ _ h => h) (Or.inr ⟨by first | kernel_rfl | rfl, rfl⟩) s1 ?_
        try simp only [Act.put, List.getElem_toArray, List.getElem_cons_zero, List.getElem_cons_succ, List.setIfInBounds_toArray, List.set_cons_zero, List.set_cons_succ]
        refine wpAnyH_take (i := 7) (v := undef) rfl (by kernel_rfl) (by kernel_rfl) (by kernel_rfl) (fun _ _ _ h => h) (Or.inr ⟨by first | kernel_rfl | rfl, rfl⟩) s1 ?_
        try simp only [Act.put, List.getElem_toArray, List.getElem_cons_zero, List.getElem_cons_succ, List.setIfInBounds_toArray, List.set_cons_zero, List.set_cons_succ]
        refine wpAnyH_take (i := 8) (v := undef) rfl (by kernel_rfl) (by kernel_rfl) (by kernel_rfl) (fun _ _ _ h => h) (Or.inr ⟨by first | kernel_rfl | rfl, rfl⟩) s1 ?_
        try simp only [Act.put, List.getElem_toArray, List.getElem_cons_zero, List.getElem_cons_succ, List.setIfInBounds_toArray, List.set_cons_zero, List.set_cons_succ]
        refine wpAnyH_take (i := 9) (v := undef) rfl (by kernel_rfl) (by kernel_rfl) (by kernel_rfl) (fun _ _ _ h => h) (Or.inr ⟨by first | kernel_rfl | rfl, rfl⟩) s1 ?_
        try simp only [Act.put, List.getElem_toArray, List.getElem_cons_zero, List.getElem_cons_succ, List.setIfInBounds_toArray, List.set_cons_zero, List.set_cons_succ]
        refine wpAnyH_take (i := 10) (v := undef) rfl (by kernel_rfl) (by kernel_rfl) (by kernel_rfl) (fun _ _ _ h => h) (Or.inr ⟨by first | kernel_rfl | rfl, rfl⟩) s1 ?_
        try simp only [Act.put, List.getElem_toArray, List.getElem_cons_zero, List.getElem_cons_succ, List.setIfInBounds_toArray, List.set_cons_zero, List.set_cons_succ]
        refine wpAnyH_take (i := 11) (v := undef) rfl (by kernel_rfl) (by kernel_rfl) (by kernel_rfl) (fun _ _ _ h => h) (Or.inr ⟨by first | kernel_rfl | rfl, rfl⟩) s1 ?_
        try simp only [Act.put, List.getElem_toArray, List.getElem_cons_zero, List.getElem_cons_succ, List.setIfInBounds_toArray, List.set_cons_zero, List.set_cons_succ]
        refine wpAnyH_take (i := 12) (v := undef) rfl (by kernel_rfl) (by kernel_rfl) (by kernel_rfl) (fun _ _ _ h => h) (Or.inr ⟨by first | kernel_rfl | rfl, rfl⟩) s1 ?_
        try simp only [Act.put, List.getElem_toArray, List.getElem_cons_zero, List.getElem_cons_succ, List.setIfInBounds_toArray, List.set_cons_zero, List.set_cons_succ]
        refine wpAnyH_take (i := 13) (v := undef) rfl (by kernel_rfl) (by kernel_rfl) (by kernel_rfl) (fun _ _ _ h => h) (Or.inr ⟨by first | kernel_rfl | rfl, rfl⟩) s1 ?_
        try simp only [Act.put, List.getElem_toArray, List.getElem_cons_zero, List.getElem_cons_succ, List.setIfInBounds_toArray, List.set_cons_zero, List.set_cons_succ]
        refine wpAnyH_take (i := 14) (v := undef) rfl (by kernel_rfl) (by kernel_rfl) (by kernel_rfl) (fun _ _ _ h => h) (Or.inr ⟨by first | kernel_rfl | rfl, rfl⟩) s1 ?_
        try simp only [Act.put, List.getElem_toArray, List.getElem_cons_zero, List.getElem_cons_succ, List.setIfInBounds_toArray, List.set_cons_zero, List.set_cons_succ]
        refine wpAnyH_take (i := 15) (v := undef) rfl (by kernel_rfl) (by kernel_rfl) (by kernel_rfl) (fun _ _ _ h => h) (Or.inr ⟨by first | kernel_rfl | rfl, rfl⟩) s1 ?_
        try simp only [Act.put, List.getElem_toArray, List.getElem_cons_zero, List.getElem_cons_succ, List.setIfInBounds_toArray, List.set_cons_zero, List.set_cons_succ]
        refine wpAnyH_take (i := 16) (v := .bool true) rfl (by kernel_rfl) (by kernel_rfl) (by kernel_rfl) (fun _ _ _ h => h) (Or.inl ⟨by first | kernel_rfl | rfl, fun _ hS => by go_simp⟩) s1 ?_
        try simp only [Act.put, List.getElem_toArray, List.getElem_cons_zero, List.getElem_cons_succ, List.setIfInBounds_toArray, List.set_cons_zero, List.set_cons_succ]
        refine wpAnyH_done (by kernel_rfl) ?_ _
        try simp only [Act.put, List.getElem_toArray, List.getElem_cons_zero, List.getElem_cons_succ, List.setIfInBounds_toArray, List.set_cons_zero, List.set_cons_succ]
        go_wp2_with fail
        go_ret
        exact ⟨by rw [HBF.out]; rfl, D1.out.trans (CB.out.mono D1.out.size)⟩
      · have HGE : Hid (GoodE (⟨⟨ka, kc, kl⟩, s, d, ⟨va, vc, vl⟩⟩ : En).rd) := Lib.hid (by simpa using HG.out)
        obtain h0 | ⟨j, rfl⟩ : k = 0 ∨ ∃ j, k = j + 1 := by
          cases k with
          | zero => exact .inl rfl
          | succ j => exact .inr ⟨j, rfl⟩
        · have HO : Hid (OrdL ((ers l).take (k + 1))) := Lib.hid ((ordL_step (ers_get HQ.out)).2 ⟨ho.out, HGE.out, fun p hp => by omega⟩)
          have hk0 : ¬ (0 : Int) < k := by omega
          have hn10 := hn9.out
          have HK0 := Lib.hid h0
          clear h0
          go_upto_region 4 with fail
          try rw [hw1]
          refine wp_region_held (S := fun W => W.cell? ⟨wr.heap.size, 0, none⟩ = some (.slice ka m kc) ∧ W.cell? ⟨wr.heap.size, 1, none⟩ = some (.int .i64 s) ∧ W.cell? ⟨wr.heap.size, 2, none⟩ = some (.bool d) ∧ W.cell? ⟨wr.heap.size, 3, none⟩ = some (.slice va z vc)) (by kernel_rfl) ?_
          change wpAnyH _ _ _ _ _ _ _ _ (World.drew _)
          have s0 := HC1.out _ (Below.refl _ _).drew
          refine wpAnyH_take (i := 0) (v := .agg #[.slice ka m kc, .int .i64 s, .bool d, .slice va z vc]) rfl (by kernel_rfl) (by kernel_rfl) (by kernel_rfl) (fun _ _ _ h => h) (Or.inl ⟨by first | kernel_rfl | rfl, fun _ hS => by obtain ⟨k1, k2, k3, k4⟩ := hS; go_simp⟩) s0 ?_
          try simp only [Act.put, List.getElem_toArray, List.getElem_cons_zero, List.getElem_cons_succ, List.setIfInBounds_toArray, List.set_cons_zero, List.set_cons_succ]
          refine wpAnyH_ready (rs := [1]) (by kernel_rfl) (by simp) ?_
          refine AllReadyH.cons rfl (fun K hK => ?_) AllReadyH.nil
          go_simp
          go_at_call 55
          refine (HMB.out _).mono ?_
          rintro e w2 ⟨rfl, hb2⟩
          have CB : Hid (Below w1.heap.size w1 w2) := Lib.hid ((Below.refl _ _).drew.trans hb2)
          clear hb2
          refine hK.out _ _ (HC1.out _ CB.out) (fun _ => ?_)
          clear hK K
          try simp only [Act.put, List.getElem_toArray, List.getElem_cons_zero, List.getElem_cons_succ, List.setIfInBounds_toArray, List.set_cons_zero, List.set_cons_succ]
          have s1 := HC1.out _ CB.out
          refine wpAnyH_take (i := 2) (v := .bool false) rfl (by kernel_rfl) (by kernel_rfl) (by kernel_rfl) (fun _ _ _ h => h) (Or.inl ⟨by first | kernel_rfl | rfl, fun _ hS => by go_simp⟩) s1 ?_
          try simp only [Act.put, List.getElem_toArray, List.getElem_cons_zero, List.getElem_cons_succ, List.setIfInBounds_toArray, List.set_cons_zero, List.set_cons_succ]
          refine wpAnyH_take (i := 3) (v := .bool false) rfl (by kernel_rfl) (by kernel_rfl) (by kernel_rfl) (fun _ _ _ h => h) (Or.inl ⟨by first | kernel_rfl | rfl, fun _ hS => by go_simp⟩) s1 ?_
          try simp only [Act.put, List.getElem_toArray, List.getElem_cons_zero, List.getElem_cons_succ, List.setIfInBounds_toArray, List.set_cons_zero, List.set_cons_succ]
          refine wpAnyH_take (i := 4) (v := .int .i64 (k : Int)) rfl (by kernel_rfl) (by kernel_rfl) (by kernel_rfl) (fun _ _ _ h => h) (Or.inl ⟨by first | kernel_rfl | rfl, fun _ hS => by go_simp⟩) s1 ?_
          try simp only [Act.put, List.getElem_toArray, List.getElem_cons_zero, List.getElem_cons_succ, List.setIfInBounds_toArray, List.set_cons_zero, List.set_cons_succ]
          refine wpAnyH_take (i := 5) (v := .bool false) rfl (by kernel_rfl) (by kernel_rfl) (by kernel_rfl) (fun _ _ _ h => h) (Or.inl ⟨by first | kernel_rfl | rfl, fun _ hS => by go_simp; exact HK0.out⟩) s1 ?_
          try simp only [Act.put, List.getElem_toArray, List.getElem_cons_zero, List.getElem_cons_succ, List.setIfInBounds_toArray, List.set_cons_zero, List.set_cons_succ]
          refine wpAnyH_take (i := 6) (v := .bool false) rfl (by kernel_rfl) (by kernel_rfl) (by kernel_rfl) (fun _ _ _ h => h) (Or.inl ⟨by first | kernel_rfl | rfl, fun _ hS => by go_simp⟩) s1 ?_
          try simp only [Act.put, List.getElem_toArray, List.getElem_cons_zero, List.getElem_cons_succ, List.setIfInBounds_toArray, List.set_cons_zero, List.set_cons_succ]
          refine wpAnyH_take (i := 7) (v := undef) rfl (by kernel_rfl) (by kernel_rfl) (by kernel_rfl) (fun _ _ _ h => h) (Or.inr ⟨by first | kernel_rfl | rfl, rfl⟩) s1 ?_
          try simp only [Act.put, List.getElem_toArray, List.getElem_cons_zero, List.getElem_cons_succ, List.setIfInBounds_toArray, List.set_cons_zero, List.set_cons_succ]
          refine wpAnyH_take (i := 8) (v := undef) rfl (by kernel_rfl) (by kernel_rfl) (by kernel_rfl) (fun _ _ _ h => h) (Or.inr ⟨by first | kernel_rfl | rfl, rfl⟩) s1 ?_
          try simp only [Act.put, List.getElem_toArray, List.getElem_cons_zero, List.getElem_cons_succ, List.setIfInBounds_toArray, List.set_cons_zero, List.set_cons_succ]
          refine wpAnyH_take (i := 9) (v := undef) rfl (by kernel_rfl) (by kernel_rfl) (by kernel_rfl) (fun _ _ _ h => h) (Or.inr ⟨by first | kernel_rfl | rfl, rfl⟩) s1 ?_
          try simp only [Act.put, List.getElem_toArray, List.getElem_cons_zero, List.getElem_cons_succ, List.setIfInBounds_toArray, List.set_cons_zero, List.set_cons_succ]
          refine wpAnyH_take (i := 10) (v := undef) rfl (by kernel_rfl) (by kernel_rfl) (by kernel_rfl) (fun _ _ _ h => h) (Or.inr ⟨by first | kernel_rfl | rfl, rfl⟩) s1 ?_
          try simp only [Act.put, List.getElem_toArray, List.getElem_cons_zero, List.getElem_cons_succ, List.setIfInBounds_toArray, List.set_cons_zero, List.set_cons_succ]
          refine wpAnyH_take (i := 11) (v := undef) rfl (by kernel_rfl) (by kernel_rfl) (by kernel_rfl) (fun _ _ _ h => h) (Or.inr ⟨by first | kernel_rfl | rfl, rfl⟩) s1 ?_
          try simp only [Act.put, List.getElem_toArray, List.getElem_cons_zero, List.getElem_cons_succ, List.setIfInBounds_toArray, List.set_cons_zero, List.set_cons_succ]
          refine wpAnyH_take (i := 12) (v := undef) rfl (by kernel_rfl) (by kernel_rfl) (by kernel_rfl) (fun _ _ _ h => h) (Or.inr ⟨by first | kernel_rfl | rfl, rfl⟩) s1 ?_
          try simp only [Act.put, List.getElem_toArray, List.getElem_cons_zero, List.getElem_cons_succ, List.setIfInBounds_toArray, List.set_cons_zero, List.set_cons_succ]
          refine wpAnyH_take (i := 13) (v := undef) rfl (by kernel_rfl) (by kernel_rfl) (by kernel_rfl) (fun _ _ _ h => h) (Or.inr ⟨by first | kernel_rfl | rfl, rfl⟩) s1 ?_
          try simp only [Act.put, List.getElem_toArray, List.getElem_cons_zero, List.getElem_cons_succ, List.setIfInBounds_toArray, List.set_cons_zero, List.set_cons_succ]
          refine wpAnyH_take (i := 14) (v := undef) rfl (by kernel_rfl) (by kernel_rfl) (by kernel_rfl) (fun _ _ _ h => h) (Or.inr ⟨by first | kernel_rfl | rfl, rfl⟩) s1 ?_
          try simp only [Act.put, List.getElem_toArray, List.getElem_cons_zero, List.getElem_cons_succ, List.setIfInBounds_toArray, List.set_cons_zero, List.set_cons_succ]
          refine wpAnyH_take (i := 15) (v := .bool false) rfl (by kernel_rfl) (by kernel_rfl) (by kernel_rfl) (fun _ _ _ h => h) (Or.inl ⟨by first | kernel_rfl | rfl, fun _ hS => by go_simp⟩) s1 ?_
          try simp only [Act.put, List.getElem_toArray, List.getElem_cons_zero, List.getElem_cons_succ, List.setIfInBounds_toArray, List.set_cons_zero, List.set_cons_succ]
          refine wpAnyH_take (i := 16) (v := .bool false) rfl (by kernel_rfl) (by kernel_rfl) (by kernel_rfl) (fun _ _ _ h => h) (Or.inl ⟨by first | kernel_rfl | rfl, fun _ hS => by go_simp⟩) s1 ?_
          try simp only [Act.put, List.getElem_toArray, List.getElem_cons_zero, List.getElem_cons_succ, List.setIfInBounds_toArray, List.set_cons_zero, List.set_cons_succ]
          refine wpAnyH_done (by kernel_rfl) ?_ _
          try simp only [Act.put, List.getElem_toArray, List.getElem_cons_zero, List.getElem_cons_succ, List.setIfInBounds_toArray, List.set_cons_zero, List.set_cons_succ]
          go_wp2_with fail
          go_roundw
          case rel => exact ⟨k + 1, by omega, by go_num, HO, Lib.hid (D1.out.trans (CB.out.mono D1.out.size))⟩
          case measure => simp [intOf]; omega
        · have hp := List.getElem?_eq_getElem (l := l) (i := j) (by have := HN.out; omega)
          generalize l[j]'(by have := HN.out; omega) = p at hp
          have HPQ := Lib.hid hp
          have HPX := Lib.hid (fun (W : World) (hb : Below w.heap.size w W) => HI.out W hb p (List.mem_of_getElem? hp))
          have HPA := Lib.hid (fun (W : World) (hb : Below w.heap.size w W) => lies_entry_at (HP.out W hb) hp)
          clear hp
          obtain ⟨⟨pka, pkc, pkl⟩, ps, pd, ⟨pva, pvc, pvl⟩⟩ := p
          obtain ⟨pm, hpm⟩ : ∃ m, pkl.length = m := ⟨_, rfl⟩
          obtain ⟨pz, hpz⟩ : ∃ m, pvl.length = m := ⟨_, rfl⟩
          have HPV := Lib.hid (en_val pka pva pkc pvc pkl pvl ps pd pm pz hpm hpz)
          have HPC : Hid (∀ W : World, Below w.heap.size w W → (W.cell? (ad.add (j * 4)) = some (.slice pka pm pkc) ∧ W.cell? ⟨(ad.add (j * 4)).block, (ad.add (j * 4)).off + 1, none⟩ = some (.int .i64 ps) ∧ W.cell? ⟨(ad.add (j * 4)).block, (ad.add (j * 4)).off + 2, none⟩ = some (.bool pd) ∧ W.cell? ⟨(ad.add (j * 4)).block, (ad.add (j * 4)).off + 3, none⟩ = some (.slice pva pz pvc))) := Lib.hid (fun W hb => by
            have := HPA.out W hb
            unfold AtE at this
            simpa only [hpm, hpz] using this)
          clear hpm hpz HPA
          have HOR := Lib.hid (fun (W : World) (hb : Below w.heap.size w W) => order_any ⟨⟨pka, pkc, pkl⟩, ps, pd, ⟨pva, pvc, pvl⟩⟩ ⟨⟨ka, kc, kl⟩, s, d, ⟨va, vc, vl⟩⟩ W (HPX.out W hb) (HX.out W hb))
          rw [HPV.out, HV.out] at HOR
          have HBC := Lib.hid (fun (W : World) (hb : Below w1.heap.size w1 W) => And.intro (HC1.out W hb) (HPC.out W (D1.out.trans (hb.mono D1.out.size))))
          obtain ⟨o, hor⟩ : ∃ o, ordE (⟨⟨pka, pkc, pkl⟩, ps, pd, ⟨pva, pvc, pvl⟩⟩ : En).rd (⟨⟨ka, kc, kl⟩, s, d, ⟨va, vc, vl⟩⟩ : En).rd = o := ⟨_, rfl⟩
          rw [hor] at HOR
          have HOE := Lib.hid hor
          clear hor
          have hk1 : (0 : Int) < ((j + 1 : Nat) : Int) := by omega
          have hj1 : wrap64 (((j + 1 : Nat) : Int) - 1) = (j : Int) := by have := hn9.out; unfold wrap64; omega
          have HJ2 : Hid (IntKind.i64.wrap (j : Int) = j) := Lib.hid (by have := hn9.out; rw [IntKind.wrap_i64]; omega)
          have j0 : (j : Int) < n := by omega
          have hn10 := hn9.out
          by_cases ho0 : o < 0
          · have HO : Hid (OrdL ((ers l).take (j + 1 + 1))) := Lib.hid ((ordL_step (ers_get HQ.out)).2 ⟨ho.out, HGE.out, fun p _ hp => by
              have e := ers_get HPQ.out
              rw [Nat.add_sub_cancel, e] at hp
              rw [← Option.some.inj hp, HOE.out]
              exact ho0⟩)
            have ho1 : ¬ (0 : Int) ≤ o := by omega
            clear ho0
            go_upto_region 4 with fail
            try rw [hw1]
            refine wp_region_held (S := fun W => (W.cell? ⟨wr.heap.size, 0, none⟩ = some (.slice ka m kc) ∧ W.cell? ⟨wr.heap.size, 1, none⟩ = some (.int .i64 s) ∧ W.cell? ⟨wr.heap.size, 2, none⟩ = some (.bool d) ∧ W.cell? ⟨wr.heap.size, 3, none⟩ = some (.slice va z vc)) ∧ (W.cell? (ad.add (j * 4)) = some (.slice pka pm pkc) ∧ W.cell? ⟨(ad.add (j * 4)).block, (ad.add (j * 4)).off + 1, none⟩ = some (.int .i64 ps) ∧ W.cell? ⟨(ad.add (j * 4)).block, (ad.add (j * 4)).off + 2, none⟩ = some (.bool pd) ∧ W.cell? ⟨(ad.add (j * 4)).block, (ad.add (j * 4)).off + 3, none⟩ = some (.slice pva pz pvc))) (by kernel_rfl) ?_
            change wpAnyH _ _ _ _ _ _ _ _ (World.drew _)
            have s0 := HBC.out _ (Below.refl _ _).drew
            refine wpAnyH_take (i := 0) (v := .agg #[.slice ka m kc, .int .i64 s, .bool d, .slice va z vc]) rfl (by kernel_rfl) (by kernel_rfl) (by kernel_rfl) (fun _ _ _ h => h) (Or.inl ⟨by first | kernel_rfl | rfl, fun _ hS => by obtain ⟨⟨k1, k2, k3, k4⟩, k5, k6, k7, k8⟩ := hS; go_simp⟩) s0 ?_
            try simp only [Act.put, List.getElem_toArray, List.getElem_cons_zero, List.getElem_cons_succ, List.setIfInBounds_toArray, List.set_cons_zero, List.set_cons_succ]
            refine wpAnyH_ready (rs := [1]) (by kernel_rfl) (by simp) ?_
            refine AllReadyH.cons rfl (fun K hK => ?_) AllReadyH.nil
            go_simp
            go_at_call 55
            refine (HMB.out _).mono ?_
            rintro e w2 ⟨rfl, hb2⟩
            have CB : Hid (Below w1.heap.size w1 w2) := Lib.hid ((Below.refl _ _).drew.trans hb2)
            clear hb2
            refine hK.out _ _ (HBC.out _ CB.out) (fun _ => ?_)
            clear hK K
            try simp only [Act.put, List.getElem_toArray, List.getElem_cons_zero, List.getElem_cons_succ, List.setIfInBounds_toArray, List.set_cons_zero, List.set_cons_succ]
            have s1 := HBC.out _ CB.out
            refine wpAnyH_take (i := 2) (v := .bool false) rfl (by kernel_rfl) (by kernel_rfl) (by kernel_rfl) (fun _ _ _ h => h) (Or.inl ⟨by first | kernel_rfl | rfl, fun _ hS => by go_simp⟩) s1 ?_
            try simp only [Act.put, List.getElem_toArray, List.getElem_cons_zero, List.getElem_cons_succ, List.setIfInBounds_toArray, List.set_cons_zero, List.set_cons_succ]
            refine wpAnyH_take (i := 3) (v := .bool false) rfl (by kernel_rfl) (by kernel_rfl) (by kernel_rfl) (fun _ _ _ h => h) (Or.inl ⟨by first | kernel_rfl | rfl, fun _ hS => by go_simp⟩) s1 ?_
            try simp only [Act.put, List.getElem_toArray, List.getElem_cons_zero, List.getElem_cons_succ, List.setIfInBounds_toArray, List.set_cons_zero, List.set_cons_succ]
            refine wpAnyH_take (i := 4) (v := .int .i64 ((j + 1 : Nat) : Int)) rfl (by kernel_rfl) (by kernel_rfl) (by kernel_rfl) (fun _ _ _ h => h) (Or.inl ⟨by first | kernel_rfl | rfl, fun _ hS => by go_simp⟩) s1 ?_
            try simp only [Act.put, List.getElem_toArray, List.getElem_cons_zero, List.getElem_cons_succ, List.setIfInBounds_toArray, List.set_cons_zero, List.set_cons_succ]
            refine wpAnyH_take (i := 5) (v := .bool true) rfl (by kernel_rfl) (by kernel_rfl) (by kernel_rfl) (fun _ _ _ h => h) (Or.inl ⟨by first | kernel_rfl | rfl, fun _ hS => by go_simp⟩) s1 ?_
            try simp only [Act.put, List.getElem_toArray, List.getElem_cons_zero, List.getElem_cons_succ, List.setIfInBounds_toArray, List.set_cons_zero, List.set_cons_succ]
            refine wpAnyH_take (i := 6) (v := .bool true) rfl (by kernel_rfl) (by kernel_rfl) (by kernel_rfl) (fun _ _ _ h => h) (Or.inl ⟨by first | kernel_rfl | rfl, fun _ hS => by go_simp⟩) s1 ?_
            try simp only [Act.put, List.getElem_toArray, List.getElem_cons_zero, List.getElem_cons_succ, List.setIfInBounds_toArray, List.set_cons_zero, List.set_cons_succ]
            refine wpAnyH_take (i := 7) (v := .slice (some ad) n c) rfl (by kernel_rfl) (by kernel_rfl) (by kernel_rfl) (fun _ _ _ h => h) (Or.inl ⟨by first | kernel_rfl | rfl, fun _ hS => by go_simp⟩) s1 ?_
            try simp only [Act.put, List.getElem_toArray, List.getElem_cons_zero, List.getElem_cons_succ, List.setIfInBounds_toArray, List.set_cons_zero, List.set_cons_succ]
            refine wpAnyH_take (i := 8) (v := .int .i64 ((j + 1 : Nat) : Int)) rfl (by kernel_rfl) (by kernel_rfl) (by kernel_rfl) (fun _ _ _ h => h) (Or.inl ⟨by first | kernel_rfl | rfl, fun _ hS => by go_simp⟩) s1 ?_
            try simp only [Act.put, List.getElem_toArray, List.getElem_cons_zero, List.getElem_cons_succ, List.setIfInBounds_toArray, List.set_cons_zero, List.set_cons_succ]
            refine wpAnyH_take (i := 9) (v := .int .i64 (j : Int)) rfl (by kernel_rfl) (by kernel_rfl) (by kernel_rfl) (fun _ _ _ h => h) (Or.inl ⟨by first | kernel_rfl | rfl, fun _ hS => by go_simp; exact HJ2.out⟩) s1 ?_
            try simp only [Act.put, List.getElem_toArray, List.getElem_cons_zero, List.getElem_cons_succ, List.setIfInBounds_toArray, List.set_cons_zero, List.set_cons_succ]
            refine wpAnyH_take (i := 10) (v := .pointer (some (ad.add (j * 4)))) rfl (by kernel_rfl) (by kernel_rfl) (by kernel_rfl) (fun _ _ _ h => h) (Or.inl ⟨by first | kernel_rfl | rfl, fun _ hS => by go_simp⟩) s1 ?_
            try simp only [Act.put, List.getElem_toArray, List.getElem_cons_zero, List.getElem_cons_succ, List.setIfInBounds_toArray, List.set_cons_zero, List.set_cons_succ]
            refine wpAnyH_take (i := 11) (v := .agg #[.slice pka pm pkc, .int .i64 ps, .bool pd, .slice pva pz pvc]) rfl (by kernel_rfl) (by kernel_rfl) (by kernel_rfl) (fun _ _ _ h => h) (Or.inl ⟨by first | kernel_rfl | rfl, fun _ hS => by obtain ⟨⟨k1, k2, k3, k4⟩, k5, k6, k7, k8⟩ := hS; go_simp⟩) s1 ?_
            try simp only [Act.put, List.getElem_toArray, List.getElem_cons_zero, List.getElem_cons_succ, List.setIfInBounds_toArray, List.set_cons_zero, List.set_cons_succ]
            refine wpAnyH_take (i := 12) (v := .agg #[.slice ka m kc, .int .i64 s, .bool d, .slice va z vc]) rfl (by kernel_rfl) (by kernel_rfl) (by kernel_rfl) (fun _ _ _ h => h) (Or.inl ⟨by first | kernel_rfl | rfl, fun _ hS => by obtain ⟨⟨k1, k2, k3, k4⟩, k5, k6, k7, k8⟩ := hS; go_simp⟩) s1 ?_
            try simp only [Act.put, List.getElem_toArray, List.getElem_cons_zero, List.getElem_cons_succ, List.setIfInBounds_toArray, List.set_cons_zero, List.set_cons_succ]
            refine wpAnyH_ready (rs := [13]) (by kernel_rfl) (by simp) ?_
            refine AllReadyH.cons rfl (fun K hK => ?_) AllReadyH.nil
            go_simp
            go_at_call 56
            refine (HOR.out _ (D1.out.trans (CB.out.mono D1.out.size))).mono ?_
            rintro e w3 ⟨rfl, hb3⟩
            have CC : Hid (Below w1.heap.size w1 w3) := Lib.hid (below_then CB.out hb3)
            clear hb3
            refine hK.out _ _ (HBC.out _ CC.out) (fun _ => ?_)
            clear hK K
            try simp only [Act.put, List.getElem_toArray, List.getElem_cons_zero, List.getElem_cons_succ, List.setIfInBounds_toArray, List.set_cons_zero, List.set_cons_succ]
            have s2 := HBC.out _ CC.out
            refine wpAnyH_take (i := 14) (v := .bool false) rfl (by kernel_rfl) (by kernel_rfl) (by kernel_rfl) (fun _ _ _ h => h) (Or.inl ⟨by first | kernel_rfl | rfl, fun _ hS => by go_simp⟩) s2 ?_
            try simp only [Act.put, List.getElem_toArray, List.getElem_cons_zero, List.getElem_cons_succ, List.setIfInBounds_toArray, List.set_cons_zero, List.set_cons_succ]
            refine wpAnyH_take (i := 15) (v := .bool false) rfl (by kernel_rfl) (by kernel_rfl) (by kernel_rfl) (fun _ _ _ h => h) (Or.inl ⟨by first | kernel_rfl | rfl, fun _ hS => by go_simp⟩) s2 ?_
            try simp only [Act.put, List.getElem_toArray, List.getElem_cons_zero, List.getElem_cons_succ, List.setIfInBounds_toArray, List.set_cons_zero, List.set_cons_succ]
            refine wpAnyH_take (i := 16) (v := .bool false) rfl (by kernel_rfl) (by kernel_rfl) (by kernel_rfl) (fun _ _ _ h => h) (Or.inl ⟨by first | kernel_rfl | rfl, fun _ hS => by go_simp⟩) s2 ?_
            try simp only [Act.put, List.getElem_toArray, List.getElem_cons_zero, List.getElem_cons_succ, List.setIfInBounds_toArray, List.set_cons_zero, List.set_cons_succ]
            refine wpAnyH_done (by kernel_rfl) ?_ _
            try simp only [Act.put, List.getElem_toArray, List.getElem_cons_zero, List.getElem_cons_succ, List.setIfInBounds_toArray, List.set_cons_zero, List.set_cons_succ]
            go_wp2_with fail
            go_roundw
            case rel => exact ⟨j + 1 + 1, by omega, by go_num, HO, Lib.hid (D1.out.trans (CC.out.mono D1.out.size))⟩
            case measure => simp [intOf]; omega
          · have HBF : Hid (b = false) := Lib.hid (by
              rw [← HB.out]
              simp only [decide_eq_false_iff_not]
              intro hf
              have := ordL_sorted hf (i := j) (j := j + 1) (by omega) (ers_get HPQ.out) (ers_get HQ.out)
              rw [HOE.out] at this
              exact ho0 this)
            have ho1 : (0 : Int) ≤ o := by omega
            clear ho0
            go_upto_region 4 with fail
            try rw [hw1]
            refine wp_region_held (S := fun W => (W.cell? ⟨wr.heap.size, 0, none⟩ = some (.slice ka m kc) ∧ W.cell? ⟨wr.heap.size, 1, none⟩ = some (.int .i64 s) ∧ W.cell? ⟨wr.heap.size, 2, none⟩ = some (.bool d) ∧ W.cell? ⟨wr.heap.size, 3, none⟩ = some (.slice va z vc)) ∧ (W.cell? (ad.add (j * 4)) = some (.slice pka pm pkc) ∧ W.cell? ⟨(ad.add (j * 4)).block, (ad.add (j * 4)).off + 1, none⟩ = some (.int .i64 ps) ∧ W.cell? ⟨(ad.add (j * 4)).block, (ad.add (j * 4)).off + 2, none⟩ = some (.bool pd) ∧ W.cell? ⟨(ad.add (j * 4)).block, (ad.add (j * 4)).off + 3, none⟩ = some (.slice pva pz pvc))) (by kernel_rfl) ?_
            change wpAnyH _ _ _ _ _ _ _ _ (World.drew _)
            have s0 := HBC.out _ (Below.refl _ _).drew
            refine wpAnyH_take (i := 0) (v := .agg #[.slice ka m kc, .int .i64 s, .bool d, .slice va z vc]) rfl (by kernel_rfl) (by kernel_rfl) (by kernel_rfl) (fun _ _ _ h => h) (Or.inl ⟨by first | kernel_rfl | rfl, fun _ hS => by obtain ⟨⟨k1, k2, k3, k4⟩, k5, k6, k7, k8⟩ := hS; go_simp⟩) s0 ?_
            try simp only [Act.put, List.getElem_toArray, List.getElem_cons_zero, List.getElem_cons_succ, List.setIfInBounds_toArray, List.set_cons_zero, List.set_cons_succ]
            refine wpAnyH_ready (rs := [1]) (by kernel_rfl) (by simp) ?_
            refine AllReadyH.cons rfl (fun K hK => ?_) AllReadyH.nil
            go_simp
            go_at_call 55
            refine (HMB.out _).mono ?_
            rintro e w2 ⟨rfl, hb2⟩
            have CB : Hid (Below w1.heap.size w1 w2) := Lib.hid ((Below.refl _ _).drew.trans hb2)
            clear hb2
            refine hK.out _ _ (HBC.out _ CB.out) (fun _ => ?_)
            clear hK K
            try simp only [Act.put, List.getElem_toArray, List.getElem_cons_zero, List.getElem_cons_succ, List.setIfInBounds_toArray, List.set_cons_zero, List.set_cons_succ]
            have s1 := HBC.out _ CB.out
            refine wpAnyH_take (i := 2) (v := .bool false) rfl (by kernel_rfl) (by kernel_rfl) (by kernel_rfl) (fun _ _ _ h => h) (Or.inl ⟨by first | kernel_rfl | rfl, fun _ hS => by go_simp⟩) s1 ?_
            try simp only [Act.put, List.getElem_toArray, List.getElem_cons_zero, List.getElem_cons_succ, List.setIfInBounds_toArray, List.set_cons_zero, List.set_cons_succ]
            refine wpAnyH_take (i := 3) (v := .bool false) rfl (by kernel_rfl) (by kernel_rfl) (by kernel_rfl) (fun _ _ _ h => h) (Or.inl ⟨by first | kernel_rfl | rfl, fun _ hS => by go_simp⟩) s1 ?_
            try simp only [Act.put, List.getElem_toArray, List.getElem_cons_zero, List.getElem_cons_succ, List.setIfInBounds_toArray, List.set_cons_zero, List.set_cons_succ]
            refine wpAnyH_take (i := 4) (v := .int .i64 ((j + 1 : Nat) : Int)) rfl (by kernel_rfl) (by kernel_rfl) (by kernel_rfl) (fun _ _ _ h => h) (Or.inl ⟨by first | kernel_rfl | rfl, fun _ hS => by go_simp⟩) s1 ?_
            try simp only [Act.put, List.getElem_toArray, List.getElem_cons_zero, List.getElem_cons_succ, List.setIfInBounds_toArray, List.set_cons_zero, List.set_cons_succ]
            refine wpAnyH_take (i := 5) (v := .bool true) rfl (by kernel_rfl) (by kernel_rfl) (by kernel_rfl) (fun _ _ _ h => h) (Or.inl ⟨by first | kernel_rfl | rfl, fun _ hS => by go_simp⟩) s1 ?_
            try simp only [Act.put, List.getElem_toArray, List.getElem_cons_zero, List.getElem_cons_succ, List.setIfInBounds_toArray, List.set_cons_zero, List.set_cons_succ]
            refine wpAnyH_take (i := 6) (v := .bool true) rfl (by kernel_rfl) (by kernel_rfl) (by kernel_rfl) (fun _ _ _ h => h) (Or.inl ⟨by first | kernel_rfl | rfl, fun _ hS => by go_simp⟩) s1 ?_
            try simp only [Act.put, List.getElem_toArray, List.getElem_cons_zero, List.getElem_cons_succ, List.setIfInBounds_toArray, List.set_cons_zero, List.set_cons_succ]
            refine wpAnyH_take (i := 7) (v := .slice (some ad) n c) rfl (by kernel_rfl) (by kernel_rfl) (by kernel_rfl) (fun _ _ _ h => h) (Or.inl ⟨by first | kernel_rfl | rfl, fun _ hS => by go_simp⟩) s1 ?_
            try simp only [Act.put, List.getElem_toArray, List.getElem_cons_zero, List.getElem_cons_succ, List.setIfInBounds_toArray, List.set_cons_zero, List.set_cons_succ]
            refine wpAnyH_take (i := 8) (v := .int .i64 ((j + 1 : Nat) : Int)) rfl (by kernel_rfl) (by kernel_rfl) (by kernel_rfl) (fun _ _ _ h => h) (Or.inl ⟨by first | kernel_rfl | rfl, fun _ hS => by go_simp⟩) s1 ?_
            try simp only [Act.put, List.getElem_toArray, List.getElem_cons_zero, List.getElem_cons_succ, List.setIfInBounds_toArray, List.set_cons_zero, List.set_cons_succ]
            refine wpAnyH_take (i := 9) (v := .int .i64 (j : Int)) rfl (by kernel_rfl) (by kernel_rfl) (by kernel_rfl) (fun _ _ _ h => h) (Or.inl ⟨by first | kernel_rfl | rfl, fun _ hS => by go_simp; exact HJ2.out⟩) s1 ?_
            try simp only [Act.put, List.getElem_toArray, List.getElem_cons_zero, List.getElem_cons_succ, List.setIfInBounds_toArray, List.set_cons_zero, List.set_cons_succ]
            refine wpAnyH_take (i := 10) (v := .pointer (some (ad.add (j * 4)))) rfl (by kernel_rfl) (by kernel_rfl) (by kernel_rfl) (fun _ _ _ h => h) (Or.inl ⟨by first | kernel_rfl | rfl, fun _ hS => by go_simp⟩) s1 ?_
            try simp only [Act.put, List.getElem_toArray, List.getElem_cons_zero, List.getElem_cons_succ, List.setIfInBounds_toArray, List.set_cons_zero, List.set_cons_succ]
            refine wpAnyH_take (i := 11) (v := .agg #[.slice pka pm pkc, .int .i64 ps, .bool pd, .slice pva pz pvc]) rfl (by kernel_rfl) (by kernel_rfl) (by kernel_rfl) (fun _ _ _ h => h) (Or.inl ⟨by first | kernel_rfl | rfl, fun _ hS => by obtain ⟨⟨k1, k2, k3, k4⟩, k5, k6, k7, k8⟩ := hS; go_simp⟩) s1 ?_
            try simp only [Act.put, List.getElem_toArray, List.getElem_cons_zero, List.getElem_cons_succ, List.setIfInBounds_toArray, List.set_cons_zero, List.set_cons_succ]
            refine wpAnyH_take (i := 12) (v := .agg #[.slice ka m kc, .int .i64 s, .bool d, .slice va z vc]) rfl (by kernel_rfl) (by kernel_rfl) (by kernel_rfl) (fun _ _ _ h => h) (Or.inl ⟨by first | kernel_rfl | rfl, fun _ hS => by obtain ⟨⟨k1, k2, k3, k4⟩, k5, k6, k7, k8⟩ := hS; go_simp⟩) s1 ?_
            try simp only [Act.put, List.getElem_toArray, List.getElem_cons_zero, List.getElem_cons_succ, List.setIfInBounds_toArray, List.set_cons_zero, List.set_cons_succ]
            refine wpAnyH_ready (rs := [13]) (by kernel_rfl) (by simp) ?_
            refine AllReadyH.cons rfl (fun K hK => ?_) AllReadyH.nil
            go_simp
            go_at_call 56
            refine (HOR.out _ (D1.out.trans (CB.out.mono D1.out.size))).mono ?_
            rintro e w3 ⟨rfl, hb3⟩
            have CC : Hid (Below w1.heap.size w1 w3) := Lib.hid (below_then CB.out hb3)
            clear hb3
            refine hK.out _ _ (HBC.out _ CC.out) (fun _ => ?_)
            clear hK K
            try simp only [Act.put, List.getElem_toArray, List.getElem_cons_zero, List.getElem_cons_succ, List.setIfInBounds_toArray, List.set_cons_zero, List.set_cons_succ]
            have s2 := HBC.out _ CC.out
            refine wpAnyH_take (i := 14) (v := .bool true) rfl (by kernel_rfl) (by kernel_rfl) (by kernel_rfl) (fun _ _ _ h => h) (Or.inl ⟨by first | kernel_rfl | rfl, fun _ hS => by go_simp⟩) s2 ?_
            try simp only [Act.put, List.getElem_toArray, List.getElem_cons_zero, List.getElem_cons_succ, List.setIfInBounds_toArray, List.set_cons_zero, List.set_cons_succ]
            refine wpAnyH_take (i := 15) (v := .bool true) rfl (by kernel_rfl) (by kernel_rfl) (by kernel_rfl) (fun _ _ _ h => h) (Or.inl ⟨by first | kernel_rfl | rfl, fun _ hS => by go_simp⟩) s2 ?_
            try simp only [Act.put, List.getElem_toArray, List.getElem_cons_zero, List.getElem_cons_succ, List.setIfInBounds_toArray, List.set_cons_zero, List.set_cons_succ]
            refine wpAnyH_take (i := 16) (v := .bool true) rfl (by kernel_rfl) (by kernel_rfl) (by kernel_rfl) (fun _ _ _ h => h) (Or.inl ⟨by first | kernel_rfl | rfl, fun _ hS => by go_simp⟩) s2 ?_
            try simp only [Act.put, List.getElem_toArray, List.getElem_cons_zero, List.getElem_cons_succ, List.setIfInBounds_toArray, List.set_cons_zero, List.set_cons_succ]
            refine wpAnyH_done (by kernel_rfl) ?_ _
            try simp only [Act.put, List.getElem_toArray, List.getElem_cons_zero, List.getElem_cons_succ, List.setIfInBounds_toArray, List.set_cons_zero, List.set_cons_succ]
            go_wp2_with fail
            go_ret
            exact ⟨by rw [HBF.out]; rfl, D1.out.trans (CC.out.mono D1.out.size)⟩
    · obtain rfl : n = k := by omega
      have ho' := ho.out
      rw [List.take_of_length_le (by rw [HR.out, HN.out]; omega)] at ho'
      have HBT : Hid (b = true) := Lib.hid (by rw [← HB.out]; simpa using ho')
      go_wp2_with fail
      go_ret
      exact ⟨by rw [HBT.out]; rfl, hbl.out⟩
end Go.Proofs.YtmgggddnfeojmaaGreat
namespace Go.Proofs.YtmgggddnfeojmaaGreat
open Go.RowKit
set_option maxRecDepth 100000 in
set_option maxHeartbeats 8000000 in
theorem sameKey_any (A : Option Addr) (x : En) (l : List En) (n c : Nat) (w : World) (hn : (x :: l).length = n) (h : Lies w A (evals (x :: l))) (hi : EIns w (x :: l)) (hl : n * 64 ≤ 140737488351232) :
    Calls Tryz.prog 81 #[.slice A n c] w fun e w' => e = .returned (.int .i64 (runN x.k.l (ers (x :: l)) : Nat)) ∧ ∃ q, w' = w.drewN q := by
  obtain ⟨r, hr⟩ : ∃ r, runN x.k.l (ers (x :: l)) = r := ⟨_, rfl⟩
  rw [hr]
  have HR := Lib.hid hr
  have HP := Lib.hid (fun q => h.kept (below_drewN (Below.refl _ w) q))
  have HI := Lib.hid (fun q => hi.kept (below_drewN (Below.refl _ w) q))
  have HN := Lib.hid hn
  have hn9 : Hid ((n : Int) ≤ 9223372036854775807) := Lib.hid (by omega)
  have HPOS : Hid (1 ≤ r) := Lib.hid (by rw [← hr]; exact runN_pos (e := x.rd) (l := ers l))
  have HLE : Hid (r ≤ n) := Lib.hid (by rw [← hr, ← hn, ← ers_len]; exact runN_le _ _)
  obtain ⟨ad, rfl, b0, -, -, -⟩ := lies_entry (j := 0) h rfl
  have HX0 := Lib.hid (fun q => (hi.kept (below_drewN (Below.refl _ w) q) x (by simp)).1)
  have b1 : w.cell? ad = some (.slice x.k.a x.k.l.length x.k.c) := by simpa [Addr.add] using b0
  clear h hi hr hn hl b0
  obtain ⟨m0, hm0⟩ : ∃ m, x.k.l.length = m := ⟨_, rfl⟩
  rw [hm0] at b1
  have HM0 := Lib.hid hm0
  clear hm0
  have HB1 := Lib.hid b1
  go_enter Tryz.func81, Tryz.ntmps81
  go_wp2_with fail
  go_loopw [3] (fun t3 wr => ∃ k q : Nat, k ≤ n ∧ t3 = .int .i64 k ∧ wr = w.drewN q ∧ Hid (r = k + runN x.k.l ((ers (x :: l)).drop k))) (fun t3 _ => n - (intOf t3).toNat)
  case atStart => exact ⟨0, 0, by omega, rfl, rfl, Lib.hid (by rw [List.drop_zero, HR.out]; omega)⟩
  case round =>
    obtain ⟨k, q, hk, rfl, hwr, hrun⟩ := hrel
    have HW : Hid (∀ p, ∃ q', wr.drewN p = w.drewN q') := Lib.hid (fun p => ⟨q + p, by rw [hwr, World.drewN_drewN]⟩)
    have b2 : wr.cell? ad = some (.slice x.k.a m0 x.k.c) := by rw [hwr]; exact b1
    clear hwr b1
    by_cases hlt : k < n
    · have hq := List.getElem?_eq_getElem (l := x :: l) (i := k) (by have := HN.out; omega)
      generalize (x :: l)[k]'(by have := HN.out; omega) = y at hq
      obtain ⟨ad', e', a0, -, -, -⟩ := lies_entry (HP.out 0) hq
      injection e' with e'
      subst e'
      have HY := Lib.hid (fun q => (HI.out q y (List.mem_of_getElem? hq)).1)
      have HQ := Lib.hid (ers_get hq)
      clear hq
      obtain ⟨⟨ya, yc, yl⟩, ys, yd, ⟨yva, yvc, yvl⟩⟩ := y
      simp only at a0 HY
      obtain ⟨m, hm⟩ : ∃ m, yl.length = m := ⟨_, rfl⟩
      rw [hm] at a0 HY
      have HEQ : Hid (∀ p, Calls Tryz.prog 45 #[.slice ya m yc, .slice x.k.a m0 x.k.c] (wr.drewN p) fun e w' => e = .returned (.bool (decide (yl = x.k.l))) ∧ w' = wr.drewN p) := Lib.hid (fun p => by
        obtain ⟨q', e⟩ := HW.out p
        rw [e]
        exact equal_any ya x.k.a yl x.k.l m m0 yc x.k.c _ (HY.out _) (by have := HX0.out q'; rw [HM0.out] at this; exact this))
      have i0 : (k : Int) < n := by omega
      have i00 : (0 : Int) < n := by omega
      have i01 : 0 < n := by omega
      have i02 : n ≠ 0 := by omega
      have hn10 := hn9.out
      have a1 : wr.cell? (ad.add (k * 4)) = some (.slice ya m yc) := by obtain ⟨q', e⟩ := HW.out 0; rw [World.drewN_zero] at e; rw [e]; exact a0
      clear hm a0
      by_cases he : yl = x.k.l
      · have HG : Hid (r = k + 1 + runN x.k.l ((ers (x :: l)).drop (k + 1))) := Lib.hid (by
          rcases runN_step (HR.out.trans hrun.out) HQ.out with ⟨h1, -⟩ | ⟨-, h2⟩
          · exact absurd he h1
          · rw [← HR.out]; exact h2)
        have hd : decide (yl = x.k.l) = true := by simp [he]
        rw [hd] at HEQ
        clear he hd
        go_upto_region 2 with fail
        go_quiet (first | (go_at_call 45; refine Calls.quiet_of_same (HEQ.out _)))
        go_wp2_with fail
        go_roundw
        case rel => exact ⟨k + 1, _, by omega, by go_num, (HW.out _).choose_spec, HG⟩
        case measure => simp [intOf]; omega
      · have HG : Hid (r = k) := Lib.hid (by
          rcases runN_step (HR.out.trans hrun.out) HQ.out with ⟨-, h2⟩ | ⟨h1, -⟩
          · rw [← HR.out]; exact h2
          · exact absurd h1 he)
        have hd : decide (yl = x.k.l) = false := by simp [he]
        rw [hd] at HEQ
        clear he hd
        go_upto_region 2 with fail
        go_quiet (first | (go_at_call 45; refine Calls.quiet_of_same (HEQ.out _)))
        go_wp2_with fail
        go_ret
        exact ⟨by rw [HG.out]; rfl, HW.out _⟩
    · obtain rfl : n = k := by omega
      have HG : Hid (r = n) := Lib.hid (by
        have := hrun.out
        rw [List.drop_of_length_le (by rw [ers_len, HN.out]; exact Nat.le_refl _)] at this
        simpa [runN] using this)
      have i0 : ¬ (n : Int) < n := by omega
      go_upto_region 2 with fail
      go_quiet (fail)
      go_wp2_with fail
      go_ret
      exact ⟨by rw [HG.out]; rfl, HW.out _⟩
end Go.Proofs.YtmgggddnfeojmaaGreat
namespace Go.Proofs.YtmgggddnfeojmaaGreat
open Go.RowKit
theorem pieces_one {w : World} {A : Option Addr} {L : List Int} {n c : Nat} (hn : L.length = n) (h : Bys w A L) :
    Pieces (w.alloc (.cells #[.slice A n c] 42)) w.heap.size [L] := fun i X hi => by
  subst hn
  match i, hi with
  | 0, hi =>
    obtain rfl : L = X := by simpa using hi
    exact ⟨A, c, cell_of_row _ _ 0 _ _ _ (heap_alloc_new w _), h.alloc _⟩
  | i + 1, hi => simp at hi
theorem pieces_three {w : World} {A C E : Option Addr} {L M N : List Int} {n m k c d f : Nat} (hn : L.length = n) (hm : M.length = m) (hk : N.length = k) (h : Bys w A L) (g : Bys w C M) (j : Bys w E N) :
    Pieces (w.alloc (.cells #[.slice A n c, .slice C m d, .slice E k f] 42)) w.heap.size [L, M, N] := fun i X hi => by
  subst hn
  subst hm
  subst hk
  match i, hi with
  | 0, hi =>
    obtain rfl : L = X := by simpa using hi
    exact ⟨A, c, cell_of_row _ _ 0 _ _ _ (heap_alloc_new w _), h.alloc _⟩
  | 1, hi =>
    obtain rfl : M = X := by simpa using hi
    exact ⟨C, d, cell_of_row _ _ 1 _ _ _ (heap_alloc_new w _), g.alloc _⟩
  | 2, hi =>
    obtain rfl : N = X := by simpa using hi
    exact ⟨E, f, cell_of_row _ _ 2 _ _ _ (heap_alloc_new w _), j.alloc _⟩
  | i + 3, hi => simp at hi
set_option maxRecDepth 100000 in
theorem appendBytes_any (A C : Option Addr) (L X : List Int) (n c m d : Nat) (w : World) (hn : L.length = n) (hm : X.length = m) (h : Bys w A L) (k : Bys w C X) (hl : L.length + (digs m).length + X.length ≤ 281474976710656) :
    Calls Tryz.prog 63 #[.slice A n c, .slice C m d] w (New w (L ++ (digs m ++ X))) := by
  have HB := Lib.hid h
  have HK := Lib.hid k
  have HN := Lib.hid hn
  have HM := Lib.hid hm
  have HL := Lib.hid hl
  have HF := Lib.hid (fun w => form_any (m : Int) w (by omega) (by omega))
  have e1 : IntKind.u64.wrap (m : Int) = m := by rw [IntKind.wrap_u64]; omega
  clear h k hn hm hl
  go_enter Tryz.func63, Tryz.ntmps63
  go_wp2_with (first
    | (go_at_call 85; refine (HF.out _).mono ?_; rintro e w1 ⟨g1, rfl, f1, b1⟩; have P1 := Lib.hid (pieces_three (c := c) (d := (digs m).length) (f := d) HN.out rfl HM.out (HB.out.kept b1) f1 (HK.out.kept b1)); have B1 := Lib.hid b1; clear f1 b1)
    | (go_at_call 84; refine (joined_any _ 3 _ [L, digs m, X] _ rfl (by omega) P1.out (by have := HL.out; simp; omega)).mono ?_; rintro e w2 hw; have hw' := hw.later (M := L ++ (digs m ++ X)) B1.out (by simp); obtain ⟨g2, c2, rfl, m2, b2⟩ := hw'; have M2 := Lib.hid m2; have B2 := Lib.hid b2; clear hw m2 b2))
  go_ret
  exact ⟨g2, c2, by simp, M2.out, B2.out⟩
/-- What a read of bytes answers. -/
def GotV (w : World) (p : List Int × Int × Int) (e : Ending) (w' : World) : Prop :=
  ∃ A c, e = .returned (.tuple #[.slice A p.1.length c, .int .i64 p.2.1, .int .i64 p.2.2]) ∧ ((A = none ∧ p.1 = [] ∧ c = 0) ∨ ∃ g, A = some ⟨g, 0, none⟩ ∧ Mine w' w.heap.size g c p.1) ∧ Below w.heap.size w w'
theorem gotV_none {w w' : World} {r : Int} {e : Ending} (h : e = .returned (.tuple #[.slice none 0 0, .int .i64 0, .int .i64 r]) ∧ w = w') : GotV w ([], 0, r) e w' := by
  obtain ⟨rfl, rfl⟩ := h
  exact ⟨none, 0, rfl, .inl ⟨rfl, rfl, rfl⟩, Below.refl _ _⟩
set_option maxRecDepth 100000 in
theorem vbytes_any (A : Option Addr) (L : List Int) (n c : Nat) (at_ most : Int) (w : World) (h : In w A L n c) (hl : n ≤ 281474976710656) (hm : most ≤ 9223372036854775807) :
    Calls Tryz.prog 92 #[.slice A n c, .int .i64 at_, .int .i64 most] w (GotV w (bytesP L at_ most)) := by
  have HU := Lib.hid (uint_any A L n c at_ w h)
  have b := uintP_bd L at_ h.byt
  unfold bytesP
  unfold Ans at HU
  have HI := Lib.hid h
  have hL := h.len
  rw [hL] at b ⊢
  clear h
  generalize uintP L at_ = p at HU b ⊢
  obtain ⟨v, i, e⟩ := p
  simp only at HU b ⊢
  obtain ⟨b0, b1, b2, b3, -⟩ := b
  by_cases he : e = 0
  · have he' : (e != 0) = false := by simpa using he
    rw [if_neg (by simpa using he)]
    obtain ⟨b4, b5, b6⟩ := b2 he
    clear b2 b3 he
    by_cases h0 : most < 0
    · rw [if_pos (.inl h0)]
      clear hL
      go_enter Tryz.func92, Tryz.ntmps92
      go_wp2_with (go_at_call 91; refine HU.out.mono ?_; rintro e w1 ⟨rfl, rfl⟩)
      go_ret3
      exact gotV_none ⟨rfl, rfl⟩
    · have h0' : decide (most < 0) = false := by simpa using h0
      have e1 : IntKind.u64.wrap most = most := by rw [IntKind.wrap_u64]; omega
      by_cases h1 : most < v
      · rw [if_pos (.inr h1)]
        clear hL
        go_enter Tryz.func92, Tryz.ntmps92
        go_wp2_with (go_at_call 91; refine HU.out.mono ?_; rintro e w1 ⟨rfl, rfl⟩)
        go_ret3
        exact gotV_none ⟨rfl, rfl⟩
      · rw [if_neg (by omega)]
        have h1' : decide (most < v) = false := by simpa using h1
        have e2 : IntKind.u64.wrap ((n : Int) - i) = n - i := by rw [IntKind.wrap_u64]; omega
        by_cases h2 : (n : Int) - i < v
        · rw [if_pos h2]
          clear hL
          go_enter Tryz.func92, Tryz.ntmps92
          go_wp2_with (go_at_call 91; refine HU.out.mono ?_; rintro e w1 ⟨rfl, rfl⟩)
          go_ret3
          exact gotV_none ⟨rfl, rfl⟩
        · rw [if_neg h2]
          have h2' : decide ((n : Int) - i < v) = false := by simpa using h2
          obtain ⟨j, rfl⟩ := Int.eq_ofNat_of_zero_le (a := i) (by omega)
          obtain ⟨m, rfl⟩ := Int.eq_ofNat_of_zero_le b0
          have e3 : wrap64 (m : Int) = m := by unfold wrap64; omega
          obtain ⟨A', hsl, hb⟩ := slice_end HI.out.bys n j m c HI.out.len (by omega) HI.out.cap
          have HM : Hid (((L.drop j).take m).length = m) := Lib.hid (by simp; omega)
          have P1 := Lib.hid (pieces_one (c := m) HM.out hb)
          have HV := Lib.hid he'
          simp only [Int.toNat_natCast]
          generalize (L.drop j).take m = X at HM P1 ⊢
          have HX : Hid ([X].flatten.length ≤ 281474976710656) := Lib.hid (by have := HM.out; simp; omega)
          clear hL hb
          go_enter Tryz.func92, Tryz.ntmps92
          go_wp2_with (first
            | (go_at_call 91; refine HU.out.mono ?_; rintro e w1 ⟨rfl, rfl⟩)
            | (go_at_call 84; refine (joined_any _ 1 _ [X] _ rfl (by omega) P1.out HX.out).mono ?_; rintro e w2 hw; have hw' := hw.later (M := X) (Below.refl _ _) (by simp); obtain ⟨g2, c2, rfl, m2, b2⟩ := hw'; have M2 := Lib.hid m2; have B2 := Lib.hid b2; clear hw m2 b2))
          go_ret3
          refine ⟨some ⟨g2, 0, none⟩, c2, ?_, .inr ⟨g2, rfl, M2.out⟩, B2.out⟩
          rfl
  · have he' : (e != 0) = true := by simpa using he
    rw [if_pos (by simpa using he)]
    clear he b2 b3 hL
    go_enter Tryz.func92, Tryz.ntmps92
    go_wp2_with (go_at_call 91; refine HU.out.mono ?_; rintro e w1 ⟨rfl, rfl⟩)
    go_ret3
    exact gotV_none ⟨rfl, rfl⟩
end Go.Proofs.YtmgggddnfeojmaaGreat
namespace Go.Proofs.YtmgggddnfeojmaaGreat
open Go.RowKit
theorem fillF_done {m : Nat} {s : Int} {l : List Er} (h : m = 0 ∨ l = [] ∨ ¬ s < 1048576) : fillF m s l = 0 := by
  rcases h with rfl | rfl | h
  · rfl
  · cases m <;> rfl
  · cases m with
    | zero => rfl
    | succ m =>
      cases l with
      | nil => rfl
      | cons e l => unfold fillF; rw [if_neg h]
theorem fillF_go {m k : Nat} {s : Int} {l : List Er} {e : Er} (hk : k < m) (he : l[k]? = some e) (hs : s < 1048576) :
    fillF (m - k) s (l.drop k) = fillF (m - (k + 1)) (s + (e.1.length + e.2.2.2.length)) (l.drop (k + 1)) + 1 := by
  obtain ⟨j, hj⟩ : ∃ j, m - k = j + 1 := ⟨m - k - 1, by omega⟩
  rw [hj, show m - (k + 1) = j by omega]
  obtain ⟨hl, rfl⟩ := List.getElem?_eq_some_iff.1 he
  rw [List.drop_eq_getElem_cons hl]
  show (if s < 1048576 then _ else _) = _
  rw [if_pos hs]
set_option maxRecDepth 100000 in
set_option maxHeartbeats 8000000 in
theorem fill_any (A : Option Addr) (l : List En) (n c m : Nat) (w : World) (hn : l.length = n) (h : Lies w A (evals l)) (hg : ∀ e ∈ ers l, GoodE e) (hl : n * 64 ≤ 140737488351232) (hm : m ≤ 4611686018427387904) :
    Calls Tryz.prog 80 #[.slice A n c, .int .i64 m] w fun e w' => e = .returned (.int .i64 (fillN m (ers l) : Nat)) ∧ ∃ q, w' = w.drewN q := by
  obtain ⟨r, hr⟩ : ∃ r, fillN m (ers l) = r := ⟨_, rfl⟩
  rw [hr]
  have HR : Hid (fillF m 0 (ers l) = r) := Lib.hid hr
  have HP := Lib.hid (fun q => h.kept (below_drewN (Below.refl _ w) q))
  have HG := Lib.hid hg
  have HN := Lib.hid hn
  have hn9 : Hid ((n : Int) ≤ 4611686018427387904) := Lib.hid (by omega)
  have hm9 : Hid ((m : Int) ≤ 4611686018427387904) := Lib.hid (by omega)
  clear h hg hr hn hl
  go_enter Tryz.func80, Tryz.ntmps80
  go_wp2_with fail
  go_loopw [5, 6] (fun t5 t6 wr => ∃ k q s : Nat, k ≤ n ∧ k ≤ m ∧ s ≤ 1100000 ∧ t5 = .int .i64 k ∧ t6 = .int .i64 s ∧ wr = w.drewN q ∧ Hid (r = k + fillF (m - k) s ((ers l).drop k))) (fun t5 _ _ => n - (intOf t5).toNat)
  case atStart => exact ⟨0, 0, 0, by omega, by omega, by omega, rfl, rfl, rfl, Lib.hid (by rw [List.drop_zero, Nat.sub_zero]; have h : fillF m ((0 : Nat) : Int) (ers l) = r := HR.out; omega)⟩
  case round =>
    obtain ⟨k, q, s, hk, hkm, hs, rfl, rfl, hwr, hrun⟩ := hrel
    by_cases hlt : k < n ∧ k < m
    · obtain ⟨h1, h2⟩ := hlt
      have i0 : (k : Int) < n := by omega
      have i1 : (k : Int) < m := by omega
      by_cases h3 : s < 1048576
      · have i3 : (s : Int) < 1048576 := by omega
        have hq := List.getElem?_eq_getElem (l := l) (i := k) (by have := HN.out; omega)
        generalize l[k]'(by have := HN.out; omega) = y at hq
        obtain ⟨ad, rfl, a0, a1, a2, a3⟩ := lies_entry (HP.out q) hq
        rw [← hwr] at a0 a3
        have gy := HG.out _ (List.mem_of_getElem? (ers_get hq))
        have hst := Lib.hid (fillF_go (s := s) h2 (ers_get hq) (by omega))
        obtain ⟨⟨ya, yc, yl⟩, ys, yd, ⟨yva, yvc, yvl⟩⟩ := y
        simp only at a0 a3
        change _ ∧ _ at gy
        obtain ⟨⟨-, g1⟩, -, g2, -⟩ := gy
        simp only [En.rd] at g1 g2 hst
        obtain ⟨z1, hz1⟩ : ∃ m, yl.length = m := ⟨_, rfl⟩
        obtain ⟨z2, hz2⟩ : ∃ m, yvl.length = m := ⟨_, rfl⟩
        rw [hz1] at a0 g1 hst
        rw [hz2] at a3 g2 hst
        have hn10 := hn9.out
        have hm10 := hm9.out
        have b0 : wr.cell? (ad.add (k * 4)) = some (.slice ya z1 yc) := a0
        have hwr9 := Lib.hid hwr
        have HN1 : Hid (r = k + 1 + fillF (m - (k + 1)) ((s + (z1 + z2) : Nat) : Int) ((ers l).drop (k + 1))) := Lib.hid (by
          have e1 := hrun.out
          rw [hst.out] at e1
          rw [show (((s + (z1 + z2) : Nat) : Int)) = (s : Int) + ((z1 : Int) + (z2 : Int)) by omega]
          omega)
        clear hz1 hz2 hq a0 a1 a2 hwr hst hrun
        have h39 := Lib.hid h3
        have g19 := Lib.hid g1
        have g29 := Lib.hid g2
        have k1 : (z1 : Int) ≤ 200 := by omega
        have k2 : (z2 : Int) ≤ 4096 := by omega
        clear hs h3 h1 h2 g1 g2
        by_cases hnm : (n : Int) < m
        · go_wp2_with fail
          go_quiet (fail)
          go_wp2_with fail
          go_roundw
          case rel => exact ⟨k + 1, q + nq, s + (z1 + z2), by omega, by omega, by have := h39.out; have := g19.out; have := g29.out; omega, by go_num, by go_num, by rw [hwr9.out, World.drewN_drewN], HN1⟩
          case measure => simp [intOf]; omega
        · go_wp2_with fail
          go_quiet (fail)
          go_wp2_with fail
          go_roundw
          case rel => exact ⟨k + 1, q + nq, s + (z1 + z2), by omega, by omega, by have := h39.out; have := g19.out; have := g29.out; omega, by go_num, by go_num, by rw [hwr9.out, World.drewN_drewN], HN1⟩
          case measure => simp [intOf]; omega
      · have i3 : ¬ (s : Int) < 1048576 := by omega
        have HE : Hid (r = k) := Lib.hid (by have := hrun.out; rw [fillF_done (Or.inr (Or.inr i3))] at this; omega)
        have hwr9 := Lib.hid hwr
        clear hwr hrun hs h3
        by_cases hnm : (n : Int) < m
        · go_wp2_with fail
          go_ret
          exact ⟨by rw [HE.out]; rfl, q, hwr9.out⟩
        · go_wp2_with fail
          go_ret
          exact ⟨by rw [HE.out]; rfl, q, hwr9.out⟩
    · have HE : Hid (r = k) := Lib.hid (by
        have := hrun.out
        rw [fillF_done] at this
        · omega
        · by_cases e : k = m
          · left; omega
          · right; left
            refine List.drop_of_length_le ?_
            rw [ers_len, HN.out]
            omega)
      have hwr9 := Lib.hid hwr
      clear hwr hrun hs
      by_cases hnm : (n : Int) < m
      · obtain rfl : n = k := by omega
        have i0 : ¬ (n : Int) < n := by omega
        go_wp2_with fail
        go_ret
        exact ⟨by rw [HE.out]; rfl, q, hwr9.out⟩
      · obtain rfl : m = k := by omega
        have i0 : ¬ (m : Int) < m := by omega
        go_wp2_with fail
        go_ret
        exact ⟨by rw [HE.out]; rfl, q, hwr9.out⟩
end Go.Proofs.YtmgggddnfeojmaaGreat
