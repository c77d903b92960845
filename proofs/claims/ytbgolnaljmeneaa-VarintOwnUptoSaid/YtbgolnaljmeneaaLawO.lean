/-
  The law VarintOwn.
-/
import Derived.Test.YtbgolnaljmeneaaLawB
namespace Go.Proofs.Ytbgolnaljmeneaa
open Go.RowKit

theorem Mine.set {w : World} {B g c : Nat} {L : List Int} (h : Mine w B g c L) (i : Nat) (x : Int) : Mine (w.setCell ⟨g, i, none⟩ (.int .u8 x)) B g c (L.set i x) := by
  obtain ⟨cur, h1, h2, h3, h4, h5, h6⟩ := h.raw
  refine Mine.of (cur := cur.setIfInBounds i (.int .u8 x)) h1 (by simp [World.setCell, Array.getElem?_modify, h2]) (by simpa using h3) h4 (by simpa using h5) ?_
  rw [List.length_set, Array.toList_setIfInBounds, List.take_set, h6]
  simp [vals, List.map_set]
theorem Mine.other {w : World} {B g c : Nat} {L : List Int} (h : Mine w B g c L) {a : Addr} (ha : g ≠ a.block) (v : Value) : Mine (w.setCell a v) B g c L := h.of_block (RowKit.Below.heap_setCell _ _ _ _ ha)
theorem Mine.grown {w w' : World} {B g k c : Nat} {L : List Int} (h : Mine w B g c L) (hg : w.grownBy w' (some k)) (ne : g ≠ k) : Mine w' B g c L :=
  h.of_block (hg.block g h.lt.2 (fun e => ne (by injection e)))

/-- A slice of the call's own, whatever its bytes. -/
def Marks (w : World) (g c k : Nat) : Prop := ∃ Lc, Lc.length = k ∧ Mine w 0 g c Lc
theorem Marks.set {w : World} {g c k : Nat} (h : Marks w g c k) (i : Nat) (x : Int) : Marks (w.setCell ⟨g, i, none⟩ (.int .u8 x)) g c k := by
  obtain ⟨Lc, h1, h2⟩ := h
  exact ⟨Lc.set i x, by simpa using h1, h2.set i x⟩
theorem Marks.other {w : World} {g c k : Nat} (h : Marks w g c k) {a : Addr} (ha : g ≠ a.block) (v : Value) : Marks (w.setCell a v) g c k := by
  obtain ⟨Lc, h1, h2⟩ := h
  exact ⟨Lc, h1, h2.other ha v⟩
theorem Marks.cell {w : World} {g c k i : Nat} (h : Marks w g c k) (hi : i < k) : (∃ x, w.cell? ⟨g, i, none⟩ = some (.int .u8 x)) ∧ w.frozen? ⟨g, i, none⟩ = false := by
  obtain ⟨Lc, h1, h2⟩ := h
  exact ⟨⟨Lc[i]'(by omega), h2.cell (List.getElem?_eq_getElem _)⟩, h2.frozen i⟩

/-- What lies there while the answers are marked. -/
structure St (w : World) (L3 Li Lb : List Int) (gi ci gb cb gf cf gc cc n1 gd cd n2 : Nat) (A12 : Option Addr) (c12 m : Nat) (wr : World) : Prop where
  bl : Below w.heap.size w wr
  i : Mine wr 0 gi ci Li
  b : Mine wr 0 gb cb Lb
  f : Mine wr 0 gf cf L3
  c : Marks wr gc cc n1
  d : Marks wr gd cd n2
  g : m = 0 ∨ ∃ gg, A12 = some ⟨gg, 0, none⟩ ∧ Marks wr gg c12 m ∧ gi ≠ gg ∧ gb ≠ gg ∧ gf ≠ gg ∧ gc ≠ gg ∧ gd ≠ gg ∧ w.heap.size ≤ gg
  nc : gi ≠ gc ∧ gb ≠ gc ∧ gf ≠ gc ∧ gd ≠ gc ∧ w.heap.size ≤ gc
  nd : gi ≠ gd ∧ gb ≠ gd ∧ gf ≠ gd ∧ w.heap.size ≤ gd

section
variable {w wr : World} {L3 Li Lb : List Int} {gi ci gb cb gf cf gc cc n1 gd cd n2 : Nat} {A12 : Option Addr} {c12 m : Nat}
theorem St.setC (h : St w L3 Li Lb gi ci gb cb gf cf gc cc n1 gd cd n2 A12 c12 m wr) (j : Nat) (x : Int) : St w L3 Li Lb gi ci gb cb gf cf gc cc n1 gd cd n2 A12 c12 m (wr.setCell ⟨gc, j, none⟩ (.int .u8 x)) := by
  obtain ⟨a1, a2, a3, a4, a5⟩ := h.nc
  refine ⟨h.bl.setCell a5 _, h.i.other a1 _, h.b.other a2 _, h.f.other a3 _, h.c.set j x, h.d.other a4 _, ?_, h.nc, h.nd⟩
  rcases h.g with e | ⟨gg, e, k, r⟩
  · exact .inl e
  · exact .inr ⟨gg, e, k.other (fun e => r.2.2.2.1 e.symm) _, r⟩
theorem St.setD (h : St w L3 Li Lb gi ci gb cb gf cf gc cc n1 gd cd n2 A12 c12 m wr) (j : Nat) (x : Int) : St w L3 Li Lb gi ci gb cb gf cf gc cc n1 gd cd n2 A12 c12 m (wr.setCell ⟨gd, j, none⟩ (.int .u8 x)) := by
  obtain ⟨a1, a2, a3, a5⟩ := h.nd
  refine ⟨h.bl.setCell a5 _, h.i.other a1 _, h.b.other a2 _, h.f.other a3 _, h.c.other (fun e => h.nc.2.2.2.1 e.symm) _, h.d.set j x, ?_, h.nc, h.nd⟩
  rcases h.g with e | ⟨gg, e, k, r⟩
  · exact .inl e
  · exact .inr ⟨gg, e, k.other (fun e => r.2.2.2.2.1 e.symm) _, r⟩
theorem St.setG {gg : Nat} (h : St w L3 Li Lb gi ci gb cb gf cf gc cc n1 gd cd n2 (some ⟨gg, 0, none⟩) c12 m wr) (hm : m ≠ 0) (j : Nat) (x : Int) : St w L3 Li Lb gi ci gb cb gf cf gc cc n1 gd cd n2 (some ⟨gg, 0, none⟩) c12 m (wr.setCell ⟨gg, j, none⟩ (.int .u8 x)) := by
  obtain ⟨g', e, k, a1, a2, a3, a4, a5, a6⟩ := h.g.resolve_left hm
  injection e with e
  injection e with e
  subst e
  exact ⟨h.bl.setCell a6 _, h.i.other a1 _, h.b.other a2 _, h.f.other a3 _, h.c.other a4 _, h.d.other a5 _, .inr ⟨gg, rfl, k.set j x, a1, a2, a3, a4, a5, a6⟩, h.nc, h.nd⟩
end

def sevens : List Int := [7, 7, 7, 7, 7, 7, 7, 7, 7, 7, 7]
theorem new_sevens (w : World) : Bys (w.alloc (.cells #[.int .u8 7, .int .u8 7, .int .u8 7, .int .u8 7, .int .u8 7, .int .u8 7, .int .u8 7, .int .u8 7, .int .u8 7, .int .u8 7, .int .u8 7] 5)) (some ⟨w.heap.size, 0, none⟩) sevens :=
  (mine_new w sevens _ rfl (by unfold maxLen; simp [sevens])).bys
theorem sevens_get {L : List Int} {n i : Nat} (hn : L.length = n) (h0 : n ≤ i) (h1 : i < n + 11) : (L ++ sevens)[i]? = some 7 := by
  rw [List.getElem?_append_right (by omega), hn]
  have : i - n = 0 ∨ i - n = 1 ∨ i - n = 2 ∨ i - n = 3 ∨ i - n = 4 ∨ i - n = 5 ∨ i - n = 6 ∨ i - n = 7 ∨ i - n = 8 ∨ i - n = 9 ∨ i - n = 10 := by omega
  rcases this with e | e | e | e | e | e | e | e | e | e | e <;> rw [e] <;> rfl

set_option maxRecDepth 100000 in
set_option maxHeartbeats 2000000 in
theorem own_law (A C : Option Addr) (L X : List Int) (n c m d : Nat) (v : Int) (w : World) (h : In w A L n c) (g : In w C X m d) (hl : n ≤ 1048576) (hx : m ≤ 1048576) (v0 : 0 ≤ v) (v1 : v ≤ 18446744073709551615) :
    Calls Try.prog 7 #[.slice A n c, .int .u64 v, .slice C m d] w fun e w' => e = .returned (.bool true) ∧ Below w.heap.size w w' := by
  obtain ⟨s, hs⟩ : ∃ s, wrap64 v = s := ⟨_, rfl⟩
  have s01 : -9223372036854775808 ≤ s ∧ s ≤ 9223372036854775807 := by rw [← hs]; unfold wrap64; omega
  have dv := (digs_len v).2
  have dz := (digs_len (zig s)).2
  have dm := (digs_len m).2
  have hn := h.len
  have hm := g.len
  obtain ⟨L1, e1⟩ : ∃ L1, L ++ digs v = L1 := ⟨_, rfl⟩
  obtain ⟨L2, e2⟩ : ∃ L2, L ++ digs (zig s) = L2 := ⟨_, rfl⟩
  obtain ⟨L3, e3⟩ : ∃ L3, L ++ (digs m ++ X) = L3 := ⟨_, rfl⟩
  obtain ⟨n1, l1⟩ : ∃ n1, L1.length = n1 := ⟨_, rfl⟩
  obtain ⟨n2, l2⟩ : ∃ n2, L2.length = n2 := ⟨_, rfl⟩
  obtain ⟨n3, l3⟩ : ∃ n3, L3.length = n3 := ⟨_, rfl⟩
  have n3b : n3 ≤ 2097162 := by rw [← l3, ← e3]; simp only [List.length_append]; omega
  have hy : Byt L3 := by rw [← e3]; exact h.byt.append ((digs_byt m (by omega) (by omega)).append g.byt)
  have p3 : bytesP L3 n m = (X, (n3 : Int), 0) := by
    have := bytesP_back L X (by omega)
    rw [hn, hm, e3] at this
    rw [this]
    refine Prod.ext rfl (Prod.ext ?_ rfl)
    show (_ : Int) = _
    rw [← l3, ← e3]
    simp only [List.length_append]
    omega
  have n1b : n1 ≤ 1048586 := by rw [← l1, ← e1]; simp only [List.length_append]; omega
  have n2b : n2 ≤ 1048586 := by rw [← l2, ← e2]; simp only [List.length_append]; omega
  have K1 : Hid (∀ A c w, Bys w A L → Calls Try.prog 10 #[.slice A n c, .int .u64 v] w (New w L1)) := Lib.hid fun A c w h => by rw [← e1]; exact appendUint_any A L n c v w hn h v0 v1 (by omega)
  have K2 : Hid (∀ A c w, Bys w A L → Calls Try.prog 13 #[.slice A n c, .int .i64 s] w (New w L2)) := Lib.hid fun A c w h => by rw [← e2]; exact appendInt_any A L n c s w hn h s01.1 s01.2 (by omega)
  have K3 : Hid (∀ A C c d w, Bys w A L → Bys w C X → Calls Try.prog 15 #[.slice A n c, .slice C m d] w (New w L3)) := Lib.hid fun A C c d w h g => by rw [← e3]; exact appendBytes_any A C L X n c m d w hn hm h g (by omega)
  have K4 : Hid (∀ A c w, In w A L3 n3 c → Calls Try.prog 19 #[.slice A n3 c, .int .i64 (n : Int), .int .i64 (m : Int)] w (Got w (X, (n3 : Int), 0))) := Lib.hid fun A c w h => by
    have := bytes_any A L3 n3 c n m w h (by omega) (by omega)
    rwa [p3] at this
  have R3 : Hid (∀ A C c d w, Bys w A L → Bys w C X → Calls Try.prog 16 #[.slice A n c, .slice C m d] w (New w L3)) := Lib.hid fun A C c d w h g => by rw [← e3]; exact appendBytesR_any A C L X n c m d w hn hm h g (by omega)
  have HI := Lib.hid h
  have HJ := Lib.hid g
  have HN := Lib.hid hn
  have HM := Lib.hid hm
  have HY := Lib.hid hy
  have HL := Lib.hid (And.intro hl hx)
  have E1 := Lib.hid l1
  have E2 := Lib.hid l2
  have E3 := Lib.hid l3
  have N1 := Lib.hid (And.intro n1b n2b)
  clear e1 e2 e3 dv dz dm s01 h g hn hm hl hx hy p3 l1 l2 l3 n1b n2b n3b v0 v1
  go_enter Try.func7, Try.ntmps7
  go_upto_region 4 with (first
    | (go_at_call 8; refine (wakes_any _).mono ?_; rintro r1 w1 ⟨rfl, b1⟩; have I1 := Lib.hid (HI.out.kept b1); have J1 := Lib.hid (HJ.out.kept b1); have B1 := Lib.hid b1; clear b1)
    | (go_at_call 11; (with_reducible refine (own_any _ X m d _ HM.out J3.out.bys (by have := HM.out; have := HL.out; omega)).mono ?_); rintro r4 w4 ⟨g4, c4, rfl, m4, b4⟩; rw [HM.out]; have M4 := Lib.hid m4; have T4 := Lib.hid (M3.out.kept b4 (Nat.le_refl _)); have I4 := Lib.hid (I3.out.kept b4); have J4 := Lib.hid (J3.out.kept b4); have B4 := Lib.hid (below_then B3.out b4); have S4 := Lib.hid b4.size; clear m4 b4)
    | (go_at_call 11; (with_reducible refine (own_any _ L n c _ HN.out I1.out.bys (by have := HN.out; have := HL.out; omega)).mono ?_); rintro r2 w2 ⟨g2, c2, rfl, m2, b2⟩; rw [HN.out]; have M2 := Lib.hid m2; have B2 := Lib.hid (below_then B1.out b2); have S2 := Lib.hid b2.size; have Q2 := Lib.hid (new_sevens w2); clear m2 b2)
    | (at_builtin; refine wpList_append_mine _ rfl (.tmp 22) (.tmp 23) rfl w1.heap.size g2 c2 L sevens _ n 11 11 rfl rfl HN.out rfl (M2.out.alloc _) Q2.out (by have := S2.out; rw [World.size_alloc]; omega) (.inr (.inl (by have := HN.out; have := HL.out; show L.length + 11 ≤ _; omega))) ?_; intro gi ci w3 m3 k3 _; rw [show (L ++ sevens).length = n + 11 by rw [List.length_append, HN.out]; rfl]; have M3 := Lib.hid m3; have b3 : Below w.heap.size w w3 := (B2.out.alloc B2.out.size _).grown k3 (by have := B2.out.size; rw [World.size_alloc]; omega) (fun k hk => by injection hk with hk; have := M2.out.lt.1; have := B1.out.size; omega); have B3 := Lib.hid b3; have I3 := Lib.hid (HI.out.kept b3); have J3 := Lib.hid (HJ.out.kept b3); have Z3 : Hid (w1.heap.size ≤ w3.heap.size) := Lib.hid (by have := S2.out; have := k3.size; rw [World.size_alloc] at this; omega); clear m3 k3 b3)
    | (at_builtin; refine wpList_append_mine _ rfl (.tmp 26) (.tmp 27) rfl w3.heap.size g4 c4 X [8] _ m 1 1 rfl rfl HM.out rfl (M4.out.alloc _) (new_one w4 8) (by have := S4.out; rw [World.size_alloc]; omega) (.inr (.inl (by have := HM.out; have := HL.out; show X.length + 1 ≤ _; omega))) ?_; intro gb cb w5 m5 k5 _; rw [show List.length (X ++ ([8] : List Int)) = m + 1 by rw [List.length_append, HM.out]; rfl]; have M5 := Lib.hid m5; have T5 := Lib.hid ((T4.out.alloc (.cells #[.int .u8 8] 5)).grown k5 (by have := M3.out.lt.2; have := M4.out.lt.1; omega)); have b5 : Below w.heap.size w w5 := (B4.out.alloc B4.out.size _).grown k5 (by have := B4.out.size; rw [World.size_alloc]; omega) (fun k hk => by injection hk with hk; have := M4.out.lt.1; have := B3.out.size; omega); have B5 := Lib.hid b5; have I5 := Lib.hid (HI.out.kept b5); have J5 := Lib.hid (HJ.out.kept b5); clear m5 k5 b5))
  clear M2 M3 M4 T4 Q2 I1 I3 I4 J1 J3 J4 B1 B2 B3 B4 S2 S4 Z3
  obtain ⟨sli, bi⟩ := slice_high T5.out.bys (n + 11) n ci (by rw [List.length_append, HN.out]; rfl) (by omega) (by have := T5.out.cap.1; rw [List.length_append, HN.out] at this; exact this)
  obtain ⟨slb, bb⟩ := slice_high M5.out.bys (m + 1) m cb (by rw [List.length_append, HM.out]; rfl) (by omega) (by have := M5.out.cap.1; rw [List.length_append, HM.out] at this; exact this)
  rw [List.take_left' HN.out] at bi
  rw [List.take_left' HM.out] at bb
  have U5 : Hid (gi < w5.heap.size ∧ gb < w5.heap.size) := Lib.hid ⟨T5.out.lt.2, M5.out.lt.2⟩
  have P5 := Lib.hid bi
  have Q5 := Lib.hid bb
  clear bi bb
  go_upto_region 6 with (first
    | (go_at_call 10; refine (K1.out _ ci _ P5.out).mono ?_; rintro r6 w6 ⟨gc, cc, rfl, m6, b6⟩; rw [E1.out]; have C6 := Lib.hid m6; have U6 := Lib.hid m6.lt; have T6 := Lib.hid (T5.out.kept b6 (Nat.le_refl _)); have M6 := Lib.hid (M5.out.kept b6 (Nat.le_refl _)); have P6 := Lib.hid (P5.out.kept b6); have Q6 := Lib.hid (Q5.out.kept b6); have I6 := Lib.hid (I5.out.kept b6); have J6 := Lib.hid (J5.out.kept b6); have B6 := Lib.hid (below_then B5.out b6); have S6 := Lib.hid b6.size; clear m6 b6)
    | (go_at_call 13; refine (K2.out _ ci _ P6.out).mono ?_; rintro r7 w7 ⟨gd, cd, rfl, m7, b7⟩; rw [E2.out]; have D7 := Lib.hid m7; have U7 := Lib.hid m7.lt; have C7 := Lib.hid (C6.out.kept b7 (Nat.le_refl _)); have T7 := Lib.hid (T6.out.kept b7 (Nat.le_refl _)); have M7 := Lib.hid (M6.out.kept b7 (Nat.le_refl _)); have P7 := Lib.hid (P6.out.kept b7); have Q7 := Lib.hid (Q6.out.kept b7); have I7 := Lib.hid (I6.out.kept b7); have J7 := Lib.hid (J6.out.kept b7); have B7 := Lib.hid (below_then B6.out b7); have S7 := Lib.hid b7.size; clear m7 b7))
  refine wp_region_held (S := fun _ => True) (by kernel_rfl) ?_
  change wpAnyH _ _ _ _ _ _ _ _ (World.drew _)
  have bd : Below w7.heap.size w7 w7.drew := (Below.refl _ _).drew
  have P8 := Lib.hid (P7.out.kept bd)
  have Q8 := Lib.hid (Q7.out.kept bd)
  have C8 := Lib.hid (C7.out.kept bd (Nat.le_refl _))
  have D8 := Lib.hid (D7.out.kept bd (Nat.le_refl _))
  have T8 := Lib.hid (T7.out.kept bd (Nat.le_refl _))
  have M8 := Lib.hid (M7.out.kept bd (Nat.le_refl _))
  have I8 := Lib.hid (I7.out.kept bd)
  have J8 := Lib.hid (J7.out.kept bd)
  have B8 : Hid (Below w.heap.size w w7.drew) := Lib.hid B7.out.drew
  have S8 : Hid (w7.drew.heap.size = w7.heap.size) := Lib.hid rfl
  generalize w7.drew = w8 at P8 Q8 C8 D8 T8 M8 I8 J8 B8 S8 ⊢
  clear bd P5 P6 P7 Q5 Q6 Q7 C6 C7 D7 T5 T6 T7 M5 M6 M7 I5 I6 I7 J5 J6 J7 K1 K2
  refine wpAnyH_take (i := 0) (v := .slice (some ⟨gi, 0, none⟩) (n + 11) ci) rfl (by kernel_rfl) (by kernel_rfl) (by kernel_rfl) (fun _ _ _ h => h) (Or.inl ⟨by kernel_rfl, fun _ _ => by go_simp⟩) trivial ?_
  refine wpAnyH_take (i := 1) (v := .slice A n c) rfl (by kernel_rfl) (by kernel_rfl) (by kernel_rfl) (fun _ _ _ h => h) (Or.inl ⟨by kernel_rfl, fun _ _ => by go_simp⟩) trivial ?_
  refine wpAnyH_take (i := 2) (v := .int .i64 n) rfl (by kernel_rfl) (by kernel_rfl) (by kernel_rfl) (fun _ _ _ h => h) (Or.inl ⟨by kernel_rfl, fun _ _ => by go_simp⟩) trivial ?_
  refine wpAnyH_take (i := 3) (v := .slice (some ⟨gi, 0, none⟩) n ci) rfl (by kernel_rfl) (by kernel_rfl) (by kernel_rfl) (fun _ _ _ h => h) (Or.inl ⟨by kernel_rfl, fun _ _ => by go_simp⟩) trivial ?_
  refine wpAnyH_take (i := 4) (v := .slice (some ⟨gb, 0, none⟩) (m + 1) cb) rfl (by kernel_rfl) (by kernel_rfl) (by kernel_rfl) (fun _ _ _ h => h) (Or.inl ⟨by kernel_rfl, fun _ _ => by go_simp⟩) trivial ?_
  refine wpAnyH_take (i := 5) (v := .slice C m d) rfl (by kernel_rfl) (by kernel_rfl) (by kernel_rfl) (fun _ _ _ h => h) (Or.inl ⟨by kernel_rfl, fun _ _ => by go_simp⟩) trivial ?_
  refine wpAnyH_take (i := 6) (v := .int .i64 m) rfl (by kernel_rfl) (by kernel_rfl) (by kernel_rfl) (fun _ _ _ h => h) (Or.inl ⟨by kernel_rfl, fun _ _ => by go_simp⟩) trivial ?_
  refine wpAnyH_take (i := 7) (v := .slice (some ⟨gb, 0, none⟩) m cb) rfl (by kernel_rfl) (by kernel_rfl) (by kernel_rfl) (fun _ _ _ h => h) (Or.inl ⟨by kernel_rfl, fun _ _ => by go_simp⟩) trivial ?_
  refine wpAnyH_all (rs := [8]) (by kernel_rfl) (by simp) ?_
  refine AllHeld.cons rfl (fun K hK => ?_) AllHeld.nil
  go_simp
  refine (K3.out _ _ ci cb _ P8.out Q8.out).mono ?_
  rintro r9 w9 ⟨gf, cf, rfl, m9, b9⟩
  rw [E3.out]
  have F9 := Lib.hid m9
  have U9 := Lib.hid m9.lt
  have C9 := Lib.hid (C8.out.kept b9 (Nat.le_refl _))
  have D9 := Lib.hid (D8.out.kept b9 (Nat.le_refl _))
  have T9 := Lib.hid (T8.out.kept b9 (Nat.le_refl _))
  have M9 := Lib.hid (M8.out.kept b9 (Nat.le_refl _))
  have I9 := Lib.hid (I8.out.kept b9)
  have J9 := Lib.hid (J8.out.kept b9)
  have B9 := Lib.hid (below_then B8.out b9)
  have S9 := Lib.hid b9.size
  refine hK _ _ trivial ?_
  clear hK K m9 b9 P8 Q8 C8 D8 T8 M8 I8 J8 B8 K3
  refine wpAnyH_take (i := 9) (v := .slice (some ⟨gf, 0, none⟩) n3 cf) rfl (by kernel_rfl) (by kernel_rfl) (by kernel_rfl) (fun _ _ _ h => h) (Or.inl ⟨by kernel_rfl, fun _ _ => by go_simp⟩) trivial ?_
  refine wpAnyH_done (by kernel_rfl) ?_ _
  have IN := Lib.hid (F9.out.in_n HY.out E3.out)
  go_upto_region 8 with (go_at_call 19; refine (K4.out _ cf _ IN.out).mono ?_; rintro r10 w10 ⟨A12, c12, rfl, m10, b10⟩; rw [show (X, (n3 : Int), (0 : Int)).1.length = m from HM.out]; have G10 := Lib.hid m10; have b10' := Lib.hid b10; clear m10 b10)
  have ST : Hid (St w L3 (L ++ sevens) (X ++ [8]) gi ci gb cb gf cf gc cc n1 gd cd n2 A12 c12 m w10) := Lib.hid (by
    have u5 := U5.out
    have u6 := U6.out
    have u7 := U7.out
    have u9 := U9.out
    have z5 := B5.out.size
    have z6 := S6.out
    have z7 := S7.out
    have z8 := S8.out
    have z9 := S9.out
    refine ⟨below_then B9.out b10'.out, (T9.out.kept b10'.out (Nat.le_refl _)).mono (Nat.zero_le _), (M9.out.kept b10'.out (Nat.le_refl _)).mono (Nat.zero_le _), (F9.out.kept b10'.out (Nat.le_refl _)).mono (Nat.zero_le _), ⟨L1, E1.out, (C9.out.kept b10'.out (Nat.le_refl _)).mono (Nat.zero_le _)⟩, ⟨L2, E2.out, (D9.out.kept b10'.out (Nat.le_refl _)).mono (Nat.zero_le _)⟩, ?_, by omega, by omega⟩
    rcases G10.out with ⟨-, e⟩ | ⟨gg, e, k⟩
    · left
      rw [← HM.out, e]
      rfl
    · have := k.lt
      exact .inr ⟨gg, e, ⟨X, HM.out, k.mono (Nat.zero_le _)⟩, by omega, by omega, by omega, by omega, by omega, by omega⟩)
  clear U5 U6 U7 U9 S6 S7 S8 S9 B5 B6 B7 B9 F9 C9 D9 T9 M9 I9 J9 IN G10 b10' K4 E1 E2
  clear hs
  have n1b := N1.out.1
  have n2b := N1.out.2
  go_wp2_with fail
  go_loopw [63] (fun t63 wr => ∃ i : Nat, i ≤ n1 ∧ t63 = .int .i64 i ∧ Hid (St w L3 (L ++ sevens) (X ++ [8]) gi ci gb cb gf cf gc cc n1 gd cd n2 A12 c12 m wr)) (fun t63 _ => n1 - (intOf t63).toNat)
  case atStart => exact ⟨0, by omega, rfl, ST⟩
  case round =>
    obtain ⟨i, hi, rfl, hS⟩ := hrel
    clear ST
    by_cases hlt : i < n1
    · obtain ⟨⟨x, c1⟩, f1⟩ := hS.out.c.cell hlt
      have hij : (i : Int) < n1 := by omega
      have SC := Lib.hid (hS.out.setC i (IntKind.u8.wrap (x + 1)))
      go_wp2_with fail
      go_roundw
      case rel => exact ⟨i + 1, by omega, by go_num, SC⟩
      case measure => simp [intOf]; omega
    · obtain rfl : i = n1 := by omega
      go_wp2_with fail
      go_loopw [77] (fun t77 wr => ∃ j : Nat, j ≤ n2 ∧ t77 = .int .i64 j ∧ Hid (St w L3 (L ++ sevens) (X ++ [8]) gi ci gb cb gf cf gc cc i gd cd n2 A12 c12 m wr)) (fun t77 _ => n2 - (intOf t77).toNat)
      case atStart => exact ⟨0, by omega, rfl, hS⟩
      case round =>
        clear hS
        obtain ⟨j, hj, rfl, hS⟩ := hrel
        by_cases hlt2 : j < n2
        · obtain ⟨⟨x, c1⟩, f1⟩ := hS.out.d.cell hlt2
          have hij : (j : Int) < n2 := by omega
          have SC := Lib.hid (hS.out.setD j (IntKind.u8.wrap (x + 1)))
          go_wp2_with fail
          go_roundw
          case rel => exact ⟨j + 1, by omega, by go_num, SC⟩
          case measure => simp [intOf]; omega
        · obtain rfl : j = n2 := by omega
          go_wp2_with fail
          go_loopw [91] (fun t91 wr => ∃ k : Nat, k ≤ m ∧ t91 = .int .i64 k ∧ Hid (St w L3 (L ++ sevens) (X ++ [8]) gi ci gb cb gf cf gc cc i gd cd j A12 c12 m wr)) (fun t91 _ => m - (intOf t91).toNat)
          case atStart => exact ⟨0, by omega, rfl, hS⟩
          case round =>
            clear hS
            obtain ⟨k, hk, rfl, hS⟩ := hrel
            have hmb := HL.out.2
            by_cases hlt3 : k < m
            · obtain ⟨gg, rfl, hG, -⟩ := hS.out.g.resolve_left (by omega)
              obtain ⟨⟨x, c1⟩, f1⟩ := hG.cell hlt3
              have hij : (k : Int) < m := by omega
              have SC := Lib.hid (hS.out.setG (by omega) k (IntKind.u8.wrap (x + 1)))
              clear hG
              go_wp2_with fail
              go_roundw
              case rel => exact ⟨k + 1, by omega, by go_num, SC⟩
              case measure => simp [intOf]; omega
            · obtain rfl : k = m := by omega
              go_wp2_with fail
              go_loop [18] (fun t18 => ∃ r : Nat, n ≤ r ∧ r ≤ n + 11 ∧ t18 = .int .i64 r) (fun t18 => n + 11 - (intOf t18).toNat)
              case atStart => exact ⟨n, by omega, by omega, rfl⟩
              case round =>
                obtain ⟨r, hr0, hr1, rfl⟩ := hrel
                have hnb := HL.out.1
                by_cases hlt4 : r < n + 11
                · have c1 := hS.out.i.cell (sevens_get HN.out hr0 hlt4)
                  have hij : (r : Int) < (n : Int) + 11 := by omega
                  go_wp2_with fail
                  go_round
                  case rel => exact ⟨r + 1, by omega, by omega, by go_num⟩
                  case measure => simp [intOf]; omega
                · obtain rfl : r = n + 11 := by omega
                  have bi := (slice_high hS.out.i.bys (n + 11) n ci (by rw [List.length_append, HN.out]; rfl) (by omega) (by have := hS.out.i.cap.1; rw [List.length_append, HN.out] at this; exact this)).2
                  have bb := (slice_high hS.out.b.bys (k + 1) k cb (by rw [List.length_append, HM.out]; rfl) (by omega) (by have := hS.out.b.cap.1; rw [List.length_append, HM.out] at this; exact this)).2
                  rw [List.take_left' HN.out] at bi
                  rw [List.take_left' HM.out] at bb
                  have PI := Lib.hid bi
                  have PB := Lib.hid bb
                  have c8 := hS.out.b.cell (j := k) (x := 8) (by rw [List.getElem?_append_right (by have := HM.out; omega), HM.out]; simp)
                  have IA := Lib.hid (HI.out.kept hS.out.bl)
                  have JA := Lib.hid (HJ.out.kept hS.out.bl)
                  clear bi bb
                  go_wp2_with (first
                    | (go_at_call 16; refine (R3.out _ _ c d _ IA.out.bys JA.out.bys).mono ?_; rintro r11 w11 ⟨g11, c11, rfl, m11, b11⟩; have M11 := Lib.hid m11.bys; have N11 := Lib.hid (hS.out.f.bys.kept b11); have B11 := Lib.hid (below_then hS.out.bl b11); clear m11 b11)
                    | (go_at_call 9; (with_reducible refine (same_any _ _ L3 _ _ _ _ _ E3.out rfl N11.out M11.out).mono ?_); rintro r12 w12 ⟨rfl, hw⟩; subst hw)
                    | (go_at_call 9; (with_reducible refine (same_any _ A L n n ci c _ HN.out HN.out PI.out IA.out.bys).mono ?_); rintro r12 w12 ⟨rfl, hw⟩; subst hw)
                    | (go_at_call 9; (with_reducible refine (same_any _ C X k k cb d _ HM.out HM.out PB.out JA.out.bys).mono ?_); rintro r12 w12 ⟨rfl, hw⟩; subst hw))
                  go_ret
                  exact ⟨rfl, B11.out⟩

end Go.Proofs.Ytbgolnaljmeneaa
