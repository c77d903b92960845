/-
  The law VarintOne.
-/
import Derived.Test.YtbgolnaljmeneaaWakes
import Derived.Deep.Cut
import Derived.Deep.CutBlock
import Derived.OrdersHeld
namespace Go.Proofs.Ytbgolnaljmeneaa
open Go.RowKit

section
variable {P : Program} {md : Region.Mode} {ops : Array Oper} {Q : Exit → Act → World → Prop} {S : World → Prop} {fuel i : Nat} {listed : Array Bool} {a : Act} {w : World} {o : Oper} {rs : List Nat}
/-- Each of those that may come up, under S. -/
def AllHeld (P : Program) (md : Region.Mode) (ops : Array Oper) (Q : Exit → Act → World → Prop) (S : World → Prop) (fuel : Nat) (listed : Array Bool) (a : Act) (w : World) (rs : List Nat) : Prop :=
  ∀ i ∈ rs, wpOp P ops Q i (fun a' w' => S w' ∧ wpAnyH P md ops Q S fuel (listed.setIfInBounds i true) a' w') a w
theorem AllHeld.nil : AllHeld P md ops Q S fuel listed a w [] := fun _ h => by cases h
theorem AllHeld.cons (ho : ops[i]? = some o)
    (h : ∀ K' : Act → World → Prop, (∀ a w, S w → wpAnyH P md ops Q S fuel (listed.setIfInBounds i true) a w → K' a w) → if Region.wanted o (yielded ops a.tmps) = true then Oper.wp P o a w K' Q else K' (a.put o.dst undef) w)
    (hs : AllHeld P md ops Q S fuel listed a w rs) : AllHeld P md ops Q S fuel listed a w (i :: rs) := fun j hj => by
  rcases List.mem_cons.1 hj with rfl | hj
  · exact wpOp_step ho fun K' hK => h K' fun a w h1 h2 => hK a w ⟨h1, h2⟩
  · exact hs j hj
end

theorem ans_eq (p : Int × Int × Int) (v i e : Int) (h : p = (v, i, e)) : Ans p = .returned (.tuple #[.int .u64 v, .int .i64 i, .int .i64 e]) := by subst h; rfl

set_option maxRecDepth 100000 in
set_option maxHeartbeats 1000000 in
theorem one_err (A : Option Addr) (L : List Int) (n c : Nat) (at_ : Int) (w : World) (h : In w A L n c) (hl : n ≤ 140737488351232) (he : (uintP L at_).2.2 ≠ 0) :
    Calls Try.prog 6 #[.slice A n c, .int .i64 at_] w fun e w' => e = .returned (.bool true) ∧ Below w.heap.size w w' := by
  obtain ⟨-, -, -, b3, -⟩ := uintP_bd L at_ h.byt
  obtain ⟨v0, i0⟩ := b3 he
  have HU := Lib.hid (fun A n c w h => uint_any A L n c at_ w h)
  unfold Ans at HU
  rw [v0, i0] at HU
  have HI := Lib.hid h
  have HL := Lib.hid hl
  have HN := Lib.hid h.len
  generalize (uintP L at_).2.2 = e at HU he
  have he' : (e != 0) = true := by simpa using he
  clear h hl b3 v0 i0 he
  go_enter Try.func6, Try.ntmps6
  go_wp2_with (first
    | (go_at_call 8; refine (wakes_any _).mono ?_; rintro e1 w1 ⟨rfl, b1⟩; have I1 := Lib.hid (HI.out.kept b1); have B1 := Lib.hid b1; clear b1)
    | (go_at_call 11; refine (own_any _ L n _ _ HN.out I1.out.bys (by have := HN.out; have := HL.out; omega)).mono ?_; rintro e2 w2 ⟨g2, c2, rfl, m2, b2⟩; rw [HN.out]; have I2 := Lib.hid (m2.in_n (n := n) HI.out.byt HN.out); have B2 := Lib.hid (below_then B1.out b2); clear m2 b2)
    | (go_at_call 17; refine (HU.out _ n c2 _ I2.out).mono ?_; rintro e3 w3 ⟨rfl, rfl⟩))
  go_ret
  exact ⟨rfl, B2.out⟩

set_option maxRecDepth 100000 in
set_option maxHeartbeats 4000000 in
theorem one_ok (A : Option Addr) (L : List Int) (n c a j : Nat) (v : Int) (w : World) (h : In w A L n c) (hl : n ≤ 140737488351232) (hu : uintP L a = (v, (j : Int), 0)) :
    Calls Try.prog 6 #[.slice A n c, .int .i64 (a : Int)] w fun e w' => e = .returned (.bool true) ∧ Below w.heap.size w w' := by
  obtain ⟨v0, v1, b2, -⟩ := uintP_bd L a h.byt
  have hf := uintP_form L a h.byt (by rw [hu])
  rw [hu] at v0 v1 b2 hf
  obtain ⟨-, b5, b6⟩ := b2 rfl
  rw [h.len] at b6
  simp only [Int.toNat_natCast] at hf v0 v1 b5 b6
  have HU := Lib.hid (fun A n c w h => uint_any A L n c a w h)
  rw [ans_eq _ _ _ _ hu] at HU
  obtain ⟨sl1, sb1⟩ := slice_high h.bys n a c h.len (by omega) h.cap
  obtain ⟨sl2, sb2⟩ := slice_high h.bys n j c h.len (by omega) h.cap
  have HA := Lib.hid (fun (w' : World) (hb : Below w.heap.size w w') => sb1.kept hb)
  have HB := Lib.hid (fun (w' : World) (hb : Below w.heap.size w w') => sb2.kept hb)
  have NA : Hid ((L.take a).length = a) := Lib.hid (by have := h.len; simp; omega)
  have NB : Hid ((L.take j).length = j) := Lib.hid (by have := h.len; simp; omega)
  have HF := Lib.hid hf
  have HI := Lib.hid h
  have HL := Lib.hid hl
  have HN := Lib.hid h.len
  have HV := Lib.hid (And.intro v0 v1)
  have haj : (a : Int) < j := b5
  have hjn : (j : Int) ≤ n := b6
  have hajd : decide ((a : Int) < j) = true := decide_eq_true haj
  have hajn : a < j := by omega
  have hjnn : j ≤ n := by omega
  clear h hl sb1 sb2 hf hu v0 v1 b2 b5 b6
  go_enter Try.func6, Try.ntmps6
  go_wp2_with (first
    | (go_at_call 8; refine (wakes_any _).mono ?_; rintro e1 w1 ⟨rfl, b1⟩; have I1 := Lib.hid (HI.out.kept b1); have B1 := Lib.hid b1; clear b1)
    | (go_at_call 11; refine (own_any _ L n _ _ HN.out I1.out.bys (by have := HN.out; have := HL.out; omega)).mono ?_; rintro e2 w2 ⟨g2, c2, rfl, m2, b2⟩; rw [HN.out]; have I2 := Lib.hid (m2.in_n (n := n) HI.out.byt HN.out); have B2 := Lib.hid (below_then B1.out b2); clear m2 b2)
    | (go_at_call 17; refine (HU.out _ n c2 _ I2.out).mono ?_; rintro e3 w3 ⟨rfl, hw⟩; subst hw))
  refine wp_region_held (S := fun _ => True) (by kernel_rfl) ?_
  change wpAnyH _ _ _ _ _ _ _ _ (World.drew _)
  have B3 : Hid (Below w.heap.size w w2.drew) := Lib.hid B2.out.drew
  generalize w2.drew = w3 at B3 ⊢
  refine wpAnyH_take (i := 0) (v := .int .i64 (j : Int)) rfl (by kernel_rfl) (by kernel_rfl) (by kernel_rfl) (fun _ _ _ h => h) (Or.inl ⟨by kernel_rfl, fun _ _ => by go_simp⟩) trivial ?_
  refine wpAnyH_take (i := 1) (v := .int .i64 (a : Int)) rfl (by kernel_rfl) (by kernel_rfl) (by kernel_rfl) (fun _ _ _ h => h) (Or.inl ⟨by kernel_rfl, fun _ _ => by go_simp⟩) trivial ?_
  refine wpAnyH_take (i := 2) (v := .bool true) rfl (by kernel_rfl) (by kernel_rfl) (by kernel_rfl) (fun _ _ _ h => h) (Or.inl ⟨by kernel_rfl, fun _ _ => by go_simp⟩) trivial ?_
  refine wpAnyH_take (i := 3) (v := .bool true) rfl (by kernel_rfl) (by kernel_rfl) (by kernel_rfl) (fun _ _ _ h => h) (Or.inl ⟨by kernel_rfl, fun _ _ => by go_simp⟩) trivial ?_
  refine wpAnyH_take (i := 4) (v := .int .i64 (j : Int)) rfl (by kernel_rfl) (by kernel_rfl) (by kernel_rfl) (fun _ _ _ h => h) (Or.inl ⟨by kernel_rfl, fun _ _ => by go_simp⟩) trivial ?_
  refine wpAnyH_take (i := 5) (v := .slice A n c) rfl (by kernel_rfl) (by kernel_rfl) (by kernel_rfl) (fun _ _ _ h => h) (Or.inl ⟨by kernel_rfl, fun _ _ => by go_simp⟩) trivial ?_
  refine wpAnyH_take (i := 6) (v := .int .i64 n) rfl (by kernel_rfl) (by kernel_rfl) (by kernel_rfl) (fun _ _ _ h => h) (Or.inl ⟨by kernel_rfl, fun _ _ => by go_simp⟩) trivial ?_
  refine wpAnyH_take (i := 7) (v := .bool true) rfl (by kernel_rfl) (by kernel_rfl) (by kernel_rfl) (fun _ _ _ h => h) (Or.inl ⟨by kernel_rfl, fun _ _ => by go_simp⟩) trivial ?_
  refine wpAnyH_take (i := 8) (v := .bool true) rfl (by kernel_rfl) (by kernel_rfl) (by kernel_rfl) (fun _ _ _ h => h) (Or.inl ⟨by kernel_rfl, fun _ _ => by go_simp⟩) trivial ?_
  refine wpAnyH_take (i := 9) (v := .bool true) rfl (by kernel_rfl) (by kernel_rfl) (by kernel_rfl) (fun _ _ _ h => h) (Or.inl ⟨by kernel_rfl, fun _ _ => by go_simp⟩) trivial ?_
  refine wpAnyH_take (i := 10) (v := .slice A n c) rfl (by kernel_rfl) (by kernel_rfl) (by kernel_rfl) (fun _ _ _ h => h) (Or.inl ⟨by kernel_rfl, fun _ _ => by go_simp⟩) trivial ?_
  refine wpAnyH_take (i := 11) (v := .int .i64 (a : Int)) rfl (by kernel_rfl) (by kernel_rfl) (by kernel_rfl) (fun _ _ _ h => h) (Or.inl ⟨by kernel_rfl, fun _ _ => by go_simp⟩) trivial ?_
  refine wpAnyH_take (i := 12) (v := .slice A a c) rfl (by kernel_rfl) (by kernel_rfl) (by kernel_rfl) (fun _ _ _ h => h) (Or.inl ⟨by kernel_rfl, fun _ _ => by go_simp⟩) trivial ?_
  refine wpAnyH_take (i := 14) (v := .int .u64 v) rfl (by kernel_rfl) (by kernel_rfl) (by kernel_rfl) (fun _ _ _ h => h) (Or.inl ⟨by kernel_rfl, fun _ _ => by go_simp⟩) trivial ?_
  refine wpAnyH_take (i := 16) (v := .slice A n c) rfl (by kernel_rfl) (by kernel_rfl) (by kernel_rfl) (fun _ _ _ h => h) (Or.inl ⟨by kernel_rfl, fun _ _ => by go_simp⟩) trivial ?_
  refine wpAnyH_take (i := 17) (v := .int .i64 (j : Int)) rfl (by kernel_rfl) (by kernel_rfl) (by kernel_rfl) (fun _ _ _ h => h) (Or.inl ⟨by kernel_rfl, fun _ _ => by go_simp⟩) trivial ?_
  refine wpAnyH_take (i := 18) (v := .slice A j c) rfl (by kernel_rfl) (by kernel_rfl) (by kernel_rfl) (fun _ _ _ h => h) (Or.inl ⟨by kernel_rfl, fun _ _ => by go_simp⟩) trivial ?_
  refine wpAnyH_all (rs := [13]) (by kernel_rfl) (by simp) ?_
  refine AllHeld.cons rfl (fun K hK => ?_) AllHeld.nil
  go_simp
  refine (own_any A (L.take a) a c w3 NA.out (HA.out _ B3.out) (by have := NA.out; have := HL.out; omega)).mono ?_
  rintro e4 w4 ⟨g4, c4, rfl, m4, b4⟩
  rw [NA.out]
  have M4 := Lib.hid m4.bys
  have B4 := Lib.hid (below_then B3.out b4)
  refine hK _ _ trivial ?_
  clear hK K m4 b4
  refine wpAnyH_all (rs := [15]) (by kernel_rfl) (by simp) ?_
  refine AllHeld.cons rfl (fun K hK => ?_) AllHeld.nil
  go_simp
  refine (appendUint_any _ (L.take a) a c4 v w4 NA.out M4.out HV.out.1 HV.out.2 (by have := NA.out; have := HL.out; have := (digs_len v).2; omega)).mono ?_
  rw [HF.out]
  rintro e5 w5 ⟨g5, c5, rfl, m5, b5⟩
  rw [NB.out]
  have M5 := Lib.hid m5.bys
  have B5 := Lib.hid (below_then B4.out b5)
  refine hK _ _ trivial ?_
  clear hK K m5 b5 M4
  refine wpAnyH_all (rs := [19]) (by kernel_rfl) (by simp) ?_
  refine AllHeld.cons rfl (fun K hK => ?_) AllHeld.nil
  go_simp
  refine (same_any _ A (L.take j) j j c5 c w5 NB.out NB.out M5.out (HB.out _ B5.out)).mono ?_
  rintro e6 w6 ⟨rfl, hw⟩
  subst hw
  refine hK _ _ trivial ?_
  clear hK K
  refine wpAnyH_take (i := 20) (v := .bool true) rfl (by kernel_rfl) (by kernel_rfl) (by kernel_rfl) (fun _ _ _ h => h) (Or.inl ⟨by kernel_rfl, fun _ _ => by go_simp⟩) trivial ?_
  refine wpAnyH_take (i := 21) (v := .bool true) rfl (by kernel_rfl) (by kernel_rfl) (by kernel_rfl) (fun _ _ _ h => h) (Or.inl ⟨by kernel_rfl, fun _ _ => by go_simp⟩) trivial ?_
  refine wpAnyH_done (by kernel_rfl) ?_ _
  go_wp2_with fail
  go_ret
  exact ⟨rfl, B5.out⟩

theorem one_law (A : Option Addr) (L : List Int) (n c : Nat) (at_ : Int) (w : World) (h : In w A L n c) (hl : n ≤ 140737488351232) :
    Calls Try.prog 6 #[.slice A n c, .int .i64 at_] w fun e w' => e = .returned (.bool true) ∧ Below w.heap.size w w' := by
  by_cases he : (uintP L at_).2.2 = 0
  · obtain ⟨-, -, b2, -⟩ := uintP_bd L at_ h.byt
    obtain ⟨b4, b5, b6⟩ := b2 he
    obtain ⟨a, rfl⟩ := Int.eq_ofNat_of_zero_le b4
    obtain ⟨j, hj⟩ := Int.eq_ofNat_of_zero_le (a := (uintP L a).2.1) (by omega)
    exact one_ok A L n c a j (uintP L a).1 w h hl (Prod.ext rfl (Prod.ext hj he))
  · exact one_err A L n c at_ w h hl he

end Go.Proofs.Ytbgolnaljmeneaa
