/-
  The law WalOwn, walked.
-/
import Derived.Test.YtjppklgegpmfpaaGreatDoorLawB
import Derived.Test.YtjppklgegpmfpaaGreatDoorLast
import Derived.Test.YtjppklgegpmfpaaGreatDoorMemK
import Derived.StillTailTactics
namespace Go.Proofs.YtjppklgegpmfpaaGreatDoor
open Go.RowKit
open Go.Maps

/-- Bytes that may be marked, in blocks from B to E. -/
def Spot (B E : Nat) (w : World) (A : Option Addr) (z : Nat) : Prop := z = 0 ∨ ∃ g cur, A = some ⟨g, 0, none⟩ ∧ B ≤ g ∧ g < E ∧ w.heap[g]? = some (.cells cur 5 (0, 0)) ∧ z ≤ cur.size ∧ ∀ j, j < z → ∃ x, cur[j]? = some (.int .u8 x)
theorem Row.spot {B : Nat} {w : World} {A : Option Addr} {c : Nat} {L : List Int} (h : Row w B A c L) : Spot B w.heap.size w A L.length := by
  rcases h.2 with ⟨_, h0⟩ | ⟨g, cap, cur, e, h1, h2, h3, h4, h5, h6⟩
  · exact .inl h0
  · injection e with e1 e2 e3
    subst e1
    refine .inr ⟨g, cur, rfl, h1, (Array.getElem?_eq_some_iff.1 h2).1, h2, by omega, fun j hj => ?_⟩
    have h7 : (vals L)[j]? = some (.int .u8 L[j]) := vals_of (List.getElem?_eq_getElem hj)
    rw [← h6, List.getElem?_take] at h7
    split at h7
    · exact ⟨L[j], by rw [← h7]; simp⟩
    · cases h7
theorem Spot.kept {B E F : Nat} {w w' : World} {A : Option Addr} {z : Nat} (h : Spot B E w A z) (hb : Below F w w') (hF : E ≤ F) : Spot B E w' A z := by
  rcases h with h | ⟨g, cur, e, h1, h2, h3, h4⟩
  · exact .inl h
  · exact .inr ⟨g, cur, e, h1, h2, by rw [hb.block g (by omega), h3], h4⟩
theorem Spot.set {B E : Nat} {w : World} {A : Option Addr} {z g k : Nat} {y : Int} {cur : Array Value} (h : Spot B E w A z) (_hg : w.heap[g]? = some (.cells cur 5 (0, 0))) : Spot B E (w.setCell ⟨g, k, none⟩ (.int .u8 y)) A z := by
  rcases h with h | ⟨g', cur', e, h1, h2, h3, h4, h5⟩
  · exact .inl h
  · by_cases hgg : g' = g
    · subst hgg
      refine .inr ⟨g', cur'.setIfInBounds k (.int .u8 y), e, h1, h2, ?_, by simpa using h4, fun j hj => ?_⟩
      · simp [World.setCell, Array.getElem?_modify, h3]
      · obtain ⟨x, hx⟩ := h5 j hj
        by_cases hjk : k = j
        · subst hjk
          exact ⟨y, by rw [Array.getElem?_setIfInBounds_self_of_lt (by omega)]⟩
        · exact ⟨x, by rw [Array.getElem?_setIfInBounds_ne hjk, hx]⟩
    · refine .inr ⟨g', cur', e, h1, h2, ?_, h4, h5⟩
      rw [Below.heap_setCell w ⟨g, k, none⟩ _ g' hgg, h3]

/-- While answers are marked: the list stands, its bytes are bytes, all else is as it was. -/
structure Mk (B E : Nat) (w0 : World) (A : Option Addr) (c : Nat) (T : List Sl) (w : World) : Prop where
  row : Srow w B A c T
  spots : ∀ s ∈ T, Spot B E w s.a s.l.length
  kp : Kp (fun b => ¬ RB A T b) w0 w
theorem Mk.at_ {B E : Nat} {w0 w : World} {A : Option Addr} {c k : Nat} {T : List Sl} {s : Sl} (h : Mk B E w0 A c T w) (hs : s ∈ T) (hk : k < s.l.length) :
    ∃ g x, s.a = some ⟨g, 0, none⟩ ∧ w.cell? ⟨g, k, none⟩ = some (.int .u8 x) ∧ w.frozen? ⟨g, k, none⟩ = false ∧ ∀ y, Mk B E w0 A c T (w.setCell ⟨g, k, none⟩ (.int .u8 y)) := by
  obtain ⟨g, cur, e, h1, h2, h3, h4, h5⟩ := (h.spots s hs).resolve_left (by omega)
  obtain ⟨x, hx⟩ := h5 k hk
  refine ⟨g, x, e, by simp [World.cell?, h3, hx], by simp [World.frozen?, h3], fun y => ⟨?_, fun t ht => (h.spots t ht).set h3, h.kp.set g k _ (fun hn => hn (.inr ⟨s, hs, _, e, rfl⟩))⟩⟩
  refine ⟨h.row.1, ?_⟩
  rcases h.row.2 with hn | ⟨g', cap, cur', e1, k1, k2, k3⟩
  · exact .inl hn
  · refine .inr ⟨g', cap, cur', e1, k1, ?_, k3⟩
    rw [Below.heap_setCell w ⟨g, k, none⟩ _ g' ?_, k2]
    intro e
    have e' : g' = g := e
    subst e'
    rw [h3] at k2
    injection k2 with k2
    injection k2 with _ k2
    exact absurd k2 (by decide)

theorem row_place {w : World} {B c k : Nat} {A : Option Addr} {L : List Int} {x : Int} (h : Row w B A c L) (hx : L[k]? = some x) : ∃ ad, A = some ad ∧ w.cell? (ad.add k) = some (.int .u8 x) := by
  rcases h.lies with e | ⟨ad, e, hc⟩
  · rw [e] at hx
    simp at hx
  · exact ⟨ad, e, hc k x hx⟩
theorem Mk.drew {B E : Nat} {w0 w : World} {A : Option Addr} {c : Nat} {T : List Sl} (h : Mk B E w0 A c T w) : Mk B E w0 A c T w.drew := ⟨h.row, h.spots, ⟨h.kp.os, h.kp.tape, h.kp.output, h.kp.size, h.kp.block⟩⟩
theorem lit_one (w : World) (x : Int) : Bys (w.alloc (.cells #[.int .u8 x] 5)) (some ⟨w.heap.size, 0, none⟩) [x] := (row_made w w.heap.size [x] _ rfl (by simp) (Nat.le_refl _)).lies
theorem high_run {w : World} {A : Option Addr} {L M : List Int} (h : Bys w A (L ++ M)) (N n c : Nat) (hN : (L ++ M).length = N) (hn : n ≤ N) (hc : N ≤ c) : ∀ W, (Instr.slice 35 (.slice A N c) none (some (.int .i64 (n : Int))) none).run Tryz.prog W = .ok (.slice A n c) W :=
  (slice_high h N n c hN hn hc).1

/-- What opening finds where nothing has crashed. -/
theorem Kq.here {w wr : World} {g lb size n : Nat} {p : ByteArray} {T : List Sl} {su : Nat} {d : Pk} {s : Ls} {G : List Gr} (h : Kq w wr g lb size n p T n n su 0 d s G) (hn : n = T.length) (hb : n ≤ 100000) (hs : Still s.m) :
    Found ⟨s.m, 0, 0⟩ p (G.map raw) (G.map raw).length ∧ pays ((G.map raw).map (fun x => x.2.1)) = byts T ∧ nextNo (G.map raw) ≤ 999999 := by
  have htk : (total G).length = n := by rw [h.tot, List.length_take, byts_len]; omega
  have ht : ∀ x ∈ G, x.1 ≤ 200000 := fun x hx => by have := h.top x hx; omega
  have hlen := h.k.len ht
  have hF := (h.k.here.found h.k (m' := s.m) h.k.fs hs.down (fun _ => hs) (by omega) (by omega)).1
  refine ⟨hF, ?_, ?_⟩
  · rw [pays_raw G h.k.fine, h.tot, List.take_of_length_le (by rw [byts_len]; omega)]
  · refine Nat.le_trans (next_le (N := 200000) (fun x hx => ?_) (by omega)) (by decide)
    obtain ⟨z, hz, rfl⟩ := List.mem_map.1 hx
    exact ht z hz
theorem mk_new {w7 : World} {B E c : Nat} {A : Option Addr} {T : List Sl} (h : Seen w7 B A c T) (hE : w7.heap.size = E) : Mk B E w7 A c T w7 := by
  subst hE
  exact ⟨h.row, fun s hs => (h.rows s hs).spot, Kp.refl _ _⟩

theorem Kq.kept {w wr w' : World} {g lb size n : Nat} {p : ByteArray} {T : List Sl} {i se su : Nat} {r : Int} {d : Pk} {s : Ls} {G : List Gr} (h : Kq w wr g lb size n p T i se su r d s G) (hb : Below wr.heap.size wr w') : Kq w w' g lb size n p T i se su r d s G :=
  ⟨h.ls.kept hb, h.bel.trans (hb.mono h.bel.size), h.k, h.tot, h.sure, h.sent, h.upto, h.top, h.ways⟩
theorem Kq.set {w wr : World} {g lb size n : Nat} {p : ByteArray} {T : List Sl} {i se su : Nat} {r : Int} {d : Pk} {s : Ls} {G : List Gr} (h : Kq w wr g lb size n p T i se su r d s G) (x k : Nat) (v : Value) (hx : ¬ lown d g lb x) (hB : w.heap.size ≤ x) : Kq w (wr.setCell ⟨x, k, none⟩ v) g lb size n p T i se su r d s G :=
  ⟨h.ls.of (fun j hj => Below.heap_setCell wr ⟨x, k, none⟩ v j (fun e => by have e' : j = x := e; subst e'; exact hx hj)), h.bel.trans ⟨rfl, rfl, rfl, by simp, fun j hj => Below.heap_setCell wr ⟨x, k, none⟩ v j (fun e => by have e' : j = x := e; omega)⟩, h.k, h.tot, h.sure, h.sent, h.upto, h.top, h.ways⟩

set_option maxRecDepth 100000 in
set_option maxHeartbeats 16000000 in
theorem lawOwn (A : Option Addr) (n c : Nat) (T : List Sl) (w : World) (hT : Tab w.heap.size w) (h : SIn w A T n c) :
    Calls Tryz.prog 6 #[.slice A n c] w fun e w' => e = .returned (.bool true) ∧ Below w.heap.size w w' := by
  have H := Lib.hid h
  have HT := Lib.hid hT
  have HW := Lib.hid (wakes_any w hT)
  clear h hT
  by_cases hbig : n ≤ 100000
  · go_enter Tryz.func6, Tryz.ntmps6
    go_upto_region 7 with (first
      | (go_at_call 7; refine HW.out.mono ?_; rintro e w1 ⟨rfl, hb⟩; have B1 := Lib.hid hb; clear hb)
      | (go_at_call 14; refine (calm_any _).mono ?_; rintro e w2 ⟨rfl, hb⟩; have D2 : Hid (Below w.heap.size w w2) := Lib.hid (B1.out.trans (hb.mono B1.out.size)); clear hb)
      | (go_at_call 8; refine (new_any (-1) (-1) none [] 0 0 w2 rfl (.inl rfl) (by decide) (fun x hx => (List.not_mem_nil hx).elim) (by decide) (by decide)).mono ?_; rintro e w3 ⟨g, d, rfl, h31, h32, h33⟩; have D3 : Hid (Below w.heap.size w w3) := Lib.hid (D2.out.trans (h33.mono D2.out.size)); have E3 : Hid (PSt w3 w.heap.size g d ∧ d.vm = m0) := Lib.hid ⟨h31.mono D2.out.size, h32⟩; clear h31 h32 h33)
      | (go_at_call 10; refine (openNew w.heap.size g d m0 ⟨#[119]⟩ 40 w3 E3.out.1 E3.out.2 rfl rfl pre_w (by decide) (HT.out.on D3.out)).mono ?_; rintro e w4 ⟨lb, A4, c4, d4, rfl, hl, hd, hlb⟩; have D4 : Hid (Below w.heap.size w w4) := Lib.hid (D3.out.trans (hd.below D3.out.size (fun k hk => (E3.out.1.owned k hk).1))); have E4 := Lib.hid hl; clear hl hd hlb))
    have S0 : Hid (Still m0) := Lib.hid ⟨rfl, by decide, by decide⟩
    have htop := H.out.top
    have hcap := H.out.cap
    go_wp2_with fail
    go_loopw [35] (fun t35 wr => ∃ (i : Nat) (d : Pk) (s : Ls) (G : List Gr), t35 = .int .i64 i ∧ Hid (Kq w wr g lb 40 n ⟨#[119]⟩ T i i 0 0 d s G ∧ Still s.m)) (fun t35 _ => n - (intOf t35).toNat)
    case atStart =>
      exact ⟨0, d4, _, [], rfl, Lib.hid ⟨⟨E4.out, D4.out, (J.start rfl).k, by simp [total], Nat.zero_le _, Nat.zero_le _, Nat.zero_le _, fun x hx => (List.not_mem_nil hx).elim, .inl ⟨rfl, rfl, Nat.le_refl _, J.start rfl, rfl⟩⟩, S0.out⟩⟩
    case round =>
      obtain ⟨i, d5, s5, G5, rfl, Q⟩ := hrel
      generalize wr = u0 at Q
      by_cases hlt : i < n
      · have hs := List.getElem?_eq_getElem (l := T) (i := i) (by have := H.out.len; omega)
        generalize T[i]'(by have := H.out.len; omega) = x at hs
        have HSX := Lib.hid hs
        obtain ⟨ad, rfl, a0⟩ := lies_at (H.out.kept Q.out.1.bel).lies hs
        have a1 : ∀ o, (u0.alloc o).cell? (ad.add i) = some (.slice x.a x.l.length x.c) := fun o => by
          obtain ⟨ad', e, h⟩ := lies_at (H.out.kept (Q.out.1.bel.alloc Q.out.1.bel.size o)).lies hs
          injection e with e
          subst e
          exact h
        have HI := Lib.hid ((H.out.kept Q.out.1.bel).all x (List.mem_of_getElem? hs))
        obtain ⟨xa, xc, xl⟩ := x
        obtain ⟨q, hq⟩ : ∃ q, xl.length = q := ⟨_, rfl⟩
        simp only [hq] at a0 a1
        have HX : Hid (In u0 xa xl q xc ∧ (byts T)[i]? = some xl) := Lib.hid ⟨hq ▸ HI.out, byts_of hs⟩
        clear hs HI
        by_cases hq5 : q ≤ 5000
        · have A5 := Lib.hid (row_made u0 u0.heap.size [] #[] rfl (by simp) (Nat.le_refl _))
          have E5 := Lib.hid (HX.out.1.bys.alloc (.cells #[] 5))
          go_upto_region 15 with (first
            | (at_builtin; refine wpList_append_row_if _ (by with_unfolding_all rfl) (.tmp 44) (.tmp 48) rfl u0.heap.size _ 0 [] xl xa 0 q xc rfl rfl rfl HX.out.1.len A5.out E5.out (by simp) (by have := HX.out.1.len; simp only [List.length_nil]; omega) ?_; intro A6 c6 w6 r6 b6; have B6 : Hid (Below u0.heap.size u0 w6) := Lib.hid ((below_new u0 _).trans b6); have R6 : Hid (Row w6 u0.heap.size A6 c6 xl) := Lib.hid r6; clear r6 b6 A5)
            | (at_builtin; refine wpList_append_row_if _ (by with_unfolding_all rfl) (.tmp 49) (.tmp 50) rfl u0.heap.size A6 c6 xl [7] _ q 1 1 rfl rfl HX.out.1.len rfl (R6.out.alloc _) (lit_one w6 7) (by have := B6.out.size; rw [World.size_alloc]; omega) (by have := HX.out.1.len; simp only [List.length_singleton]; omega) ?_; intro A7 c7 w7 r7 b7; have R7 : Hid (Row w7 u0.heap.size A7 c7 (xl ++ [7])) := Lib.hid r7; have B7 : Hid (Below u0.heap.size u0 w7) := Lib.hid ((B6.out.alloc B6.out.size _).trans b7); clear r7 b7 R6))
          have HQ := Lib.hid hq
          have HLn : Hid ((xl ++ [7]).length = q + 1) := Lib.hid (by rw [List.length_append, hq]; rfl)
          have hcn : q + 1 ≤ c7 := by have := (own_cap R7.out).1; have := HLn.out; omega
          have hct : (c7 : Int) ≤ 9223372036854775807 := (own_cap R7.out).2
          have si := high_run R7.out.lies (q + 1) q c7 HLn.out (by omega) hcn
          obtain ⟨bd, rfl, b0⟩ := row_place (k := q) (x := 7) R7.out (by rw [List.getElem?_append_right (by omega), hq]; simp)
          have HSG : Hid (∀ W : World, Below w.heap.size w W → Row W u0.heap.size (some bd) c7 (xl ++ [7]) → W.cell? (ad.add i) = some (.slice xa q xc) ∧ W.cell? (bd.add q) = some (.int .u8 7) ∧ (convert 35 9 (.slice (some bd) q c7)).run Tryz.prog W = .ok (.string (strOfNums xl)) W ∧ (convert 35 9 (.slice xa q xc)).run Tryz.prog W = .ok (.string (strOfNums xl)) W) := Lib.hid (fun W hb hr => by
            obtain ⟨ad', e, h⟩ := lies_at (H.out.kept hb).lies HSX.out
            injection e with e
            subst e
            obtain ⟨bd', e, h'⟩ := row_place (k := q) (x := 7) hr (by rw [List.getElem?_append_right (by have := HQ.out; omega), HQ.out]; simp)
            injection e with e
            subst e
            have hby := (slice_high hr.lies (q + 1) q c7 HLn.out (by omega) (by have := (own_cap hr).1; have := HLn.out; omega)).2
            rw [List.take_left' HQ.out] at hby
            refine ⟨?_, h', conv_any hby q c7 HQ.out, conv_any (((H.out.kept hb).all _ (List.mem_of_getElem? HSX.out)).bys) q xc HQ.out⟩
            rw [← HQ.out]
            exact h)
          have D7 : Hid (Below w.heap.size w w7) := Lib.hid (Q.out.1.bel.trans (B7.out.mono Q.out.1.bel.size))
          have HS7 : Hid (∀ W : World, Below w7.heap.size w7 W → W.cell? (ad.add i) = some (.slice xa q xc) ∧ W.cell? (bd.add q) = some (.int .u8 7) ∧ (convert 35 9 (.slice (some bd) q c7)).run Tryz.prog W = .ok (.string (strOfNums xl)) W ∧ (convert 35 9 (.slice xa q xc)).run Tryz.prog W = .ok (.string (strOfNums xl)) W) := Lib.hid (fun W hb => HSG.out W (D7.out.trans (hb.mono D7.out.size)) (R7.out.kept hb (Nat.le_refl _)))
          have HAP : Hid (∀ W : World, Below w7.heap.size w7 W → Calls Tryz.prog 11 #[.pointer (some ⟨lb, 0, none⟩), .slice (some bd) q c7] W fun e w' => ∃ s8 G8 d8, e = .returned (.int .i64 0) ∧ Kq w w' g lb 40 n ⟨#[119]⟩ T (i + 1) (i + 1) 0 0 d8 s8 G8 ∧ Still s8.m ∧ Row w' u0.heap.size (some bd) c7 (xl ++ [7]) ∧ ¬ lown d8 g lb bd.block) := Lib.hid (fun W hb => by
            have hq1 := Q.out.1
            obtain ⟨-, hnum, hj, hd⟩ := hq1.go
            obtain ⟨o1, o2, o3⟩ := hq1.one H.out.len.symm hbig
            have hW : Below u0.heap.size u0 W := B7.out.trans (hb.mono B7.out.size)
            have hDW : Below w.heap.size w W := hq1.bel.trans (hW.mono hq1.bel.size)
            have hR : Row W u0.heap.size (some bd) c7 (xl ++ [7]) := R7.out.kept hb (Nat.le_refl _)
            have hby := (slice_high hR.lies (q + 1) q c7 HLn.out (by omega) (by have := (own_cap hR).1; have := HLn.out; omega)).2
            rw [List.take_left' HQ.out] at hby
            refine (appendJ w.heap.size g lb 200000 d5 s5 G5 ⟨#[119]⟩ 40 (some bd) xl q c7 W (hq1.ls.kept hW) pre_w (by decide) hj hd (HT.out.on hDW) ⟨HQ.out, by have := (own_cap hR).1; have := HLn.out; omega, (own_cap hR).2, hby, HX.out.1.byt⟩ hq5 o3 (by decide) o2 (by rw [o1]; omega)).mono ?_
            rintro e w8 ⟨r8, s8, G8, d8, rfl, hw8, -, hl8, hd8⟩
            obtain ⟨rfl, hs8, -, -⟩ := hw8.stay Q.out.2
            have hD8 := hd8.below (by have := hq1.bel.size; have := hW.size; omega) (fun k hk => ((hq1.ls.kept hW).owned k hk).1)
            obtain ⟨y1, y2⟩ := row_stays hq1.ls hR hd8
            rcases hq1.appended hlt HX.out.2 hw8 hl8 (hDW.trans hD8) with ⟨-, hk⟩ | ⟨h0, -⟩
            · exact ⟨s8, G8, d8, rfl, hk, hs8, y1, (y2 bd rfl).1⟩
            · exact absurd rfl h0)
          have hq1 : (q : Int) < (q : Int) + 1 := by omega
          clear a0 a1 b0 hq
          go_region_held3 (fun W => W.cell? (ad.add i) = some (.slice xa q xc) ∧ W.cell? (bd.add q) = some (.int .u8 7) ∧ (convert 35 9 (.slice (some bd) q c7)).run Tryz.prog W = .ok (.string (strOfNums xl)) W ∧ (convert 35 9 (.slice xa q xc)).run Tryz.prog W = .ok (.string (strOfNums xl)) W) (first | exact HS8.out _ (by repeat (first | exact Below.refl _ _ | refine Below.drew ?_)) | exact HS7.out _ (by repeat (first | exact Below.refl _ _ | refine Below.drew ?_)) | go_keep) (first | (go_at_call 11; refine (HAP.out _ (by repeat (first | exact Below.refl _ _ | refine Below.drew ?_))).mono ?_; rintro e w8 ⟨s8, G8, d8, rfl, h8⟩; have E8 := Lib.hid h8; have HS8 : Hid (∀ W : World, Below w8.heap.size w8 W → W.cell? (ad.add i) = some (.slice xa q xc) ∧ W.cell? (bd.add q) = some (.int .u8 7) ∧ (convert 35 9 (.slice (some bd) q c7)).run Tryz.prog W = .ok (.string (strOfNums xl)) W ∧ (convert 35 9 (.slice xa q xc)).run Tryz.prog W = .ok (.string (strOfNums xl)) W) := Lib.hid (fun W hb => HSG.out W (E8.out.1.bel.trans (hb.mono E8.out.1.bel.size)) (E8.out.2.2.1.kept hb (Nat.le_refl _))); clear h8))
          clear hq1 si HS7 HAP HS8
          have F8 : Hid (u0.heap.size ≤ bd.block ∧ w.heap.size ≤ u0.heap.size) := Lib.hid ⟨(own_in E8.out.2.2.1 bd rfl).1, Q.out.1.bel.size⟩
          obtain ⟨z, hz⟩ : ∃ z, q + 1 = z := ⟨_, rfl⟩
          have HZ := Lib.hid hz
          have HQ5 : z ≤ 9223372036854775807 := by omega
          have hcz : z ≤ c7 := by omega
          simp only [hz]
          clear hz hcn
          go_wp2_with fail
          go_loopw [91] (fun t91 wr => ∃ k : Nat, k ≤ z ∧ t91 = .int .i64 k ∧ Hid ((∃ M : List Int, M.length = z ∧ Row wr u0.heap.size (some bd) c7 M) ∧ Kq w wr g lb 40 n ⟨#[119]⟩ T (i + 1) (i + 1) 0 0 d8 s8 G8)) (fun t91 _ => z - (intOf t91).toNat)
          case atStart => exact ⟨0, by omega, rfl, Lib.hid ⟨⟨_, HLn.out.trans HZ.out, E8.out.2.2.1⟩, E8.out.1⟩⟩
          case round =>
            obtain ⟨k, hk, rfl, hmk⟩ := hrel
            by_cases hlt2 : k < z
            · obtain ⟨⟨M, hM, hR⟩, hK⟩ := hmk.out
              obtain ⟨gx, v, e, hv, v0, v1, v2⟩ := row_at hR (by rw [hM]; exact hlt2)
              injection e with e
              subst e
              have HS := Lib.hid v2
              have HL := Lib.hid hM
              have HKQ := Lib.hid hK
              clear v2 hM hR hv hK
              go_wp2_with fail
              go_roundw
              case rel => exact ⟨k + 1, by omega, by go_num, Lib.hid ⟨⟨M.set k _, by rw [List.length_set, HL.out], HS.out _⟩, HKQ.out.set gx k _ E8.out.2.2.2 (Nat.le_trans F8.out.2 F8.out.1)⟩⟩
              case measure => simp [intOf]; omega
            · obtain rfl : z = k := by omega
              go_wp2_with fail
              go_roundw
              case rel => exact ⟨i + 1, d8, s8, G8, by go_num, Lib.hid ⟨hmk.out.2, E8.out.2.1⟩⟩
              case measure => simp [intOf]; omega
        · go_wp2_with fail
          go_ret
          exact ⟨rfl, Q.out.1.bel⟩
      · obtain rfl : i = n := by have := Q.out.1.upto; omega
        have hh := Q.out.1.here H.out.len.symm hbig Q.out.2
        have HH := Lib.hid hh
        clear hh
        have HO : Hid (Calls Tryz.prog 10 #[.pointer (some ⟨g, 0, none⟩), .string ⟨#[119]⟩, .int .i64 40] u0 (OpenTo u0 w.heap.size g d5 s5.m ⟨#[119]⟩ 40 (G5.map raw))) := Lib.hid (open_any w.heap.size g d5 s5.m ⟨#[119]⟩ 40 _ (G5.map raw) u0 Q.out.1.ls.ps Q.out.1.ls.vm pre_w (by decide) (HT.out.on Q.out.1.bel) HH.out.1 HH.out.2.2)
        go_upto_region 24 with (go_at_call 10; refine HO.out.mono ?_; rintro e w7 ⟨lb2, T7, A7, c7, k, d7, rfl, hk, ht, hs, ho, hl, hd, hlb⟩; rw [HH.out.2.1] at ht; obtain rfl : k = i := (by have := congrArg List.length ht; rw [byts_len, hk, byts_len, H.out.len] at this; exact this); have E7 := Lib.hid (And.intro hk (And.intro ht (And.intro hs (And.intro hl ho)))); have D7 : Hid (Below w.heap.size w w7) := Lib.hid (Q.out.1.bel.trans (hd.below Q.out.1.bel.size (fun k hk => (Q.out.1.ls.ps.owned k hk).1))); clear hk ht hs ho hl hd hlb HO)
        have LU : Hid (w.heap.size ≤ u0.heap.size) := Lib.hid Q.out.1.bel.size
        have M7 : Hid (Mk u0.heap.size w7.heap.size w7 A7 c7 T7 w7) := Lib.hid (mk_new E7.out.2.2.1 rfl)
        have hl9 : Hid (∀ s ∈ T7, s.l.length ≤ 9223372036854775807) := Lib.hid (fun s hs => by have := own_cap (E7.out.2.2.1.rows s hs); omega)
        have hk9 : (k : Int) ≤ 9223372036854775807 := by omega
        go_wp2_with fail
        go_loopw [112] (fun t112 wr => ∃ j : Nat, j ≤ k ∧ t112 = .int .i64 j ∧ Hid (Mk u0.heap.size w7.heap.size w7 A7 c7 T7 wr)) (fun t112 _ => k - (intOf t112).toNat)
        case atStart => exact ⟨0, by omega, rfl, M7⟩
        case round =>
          obtain ⟨j, hj, rfl, hmk⟩ := hrel
          by_cases hlt3 : j < k
          · have hs := List.getElem?_eq_getElem (l := T7) (i := j) (by have := E7.out.1; omega)
            generalize T7[j]'(by have := E7.out.1; omega) = s at hs
            have HS := Lib.hid hs
            obtain ⟨ad, rfl, a0⟩ := lies_at hmk.out.row.lies hs
            have HQ9 := hl9.out s (List.mem_of_getElem? hs)
            obtain ⟨q, hq⟩ : ∃ q, s.l.length = q := ⟨_, rfl⟩
            have HQ := Lib.hid hq
            rw [hq] at a0 HQ9
            have HQ9' := Lib.hid HQ9
            clear hs hq HQ9
            go_wp2_with fail
            go_loopw [120] (fun t120 wr => ∃ m : Nat, m ≤ q ∧ t120 = .int .i64 m ∧ Hid (Mk u0.heap.size w7.heap.size w7 (some ad) c7 T7 wr)) (fun t120 _ => q - (intOf t120).toNat)
            case atStart => exact ⟨0, by omega, rfl, hmk⟩
            case round =>
              obtain ⟨m, hm, rfl, hmk2⟩ := hrel
              by_cases hlt2 : m < q
              · obtain ⟨ad', e', a1⟩ := lies_at hmk2.out.row.lies HS.out
                injection e' with e'
                subst e'
                obtain ⟨gx, y, hsa, d0, f0, hset⟩ := hmk2.out.at_ (List.mem_of_getElem? HS.out) (k := m) (by rw [HQ.out]; exact hlt2)
                rw [hsa, HQ.out] at a1
                have HSET := Lib.hid hset
                clear hset hsa
                go_upto_region 30 with fail
                go_region
                have hq9 := HQ9'.out
                go_wp2_with fail
                go_roundw
                case rel => exact ⟨m + 1, by omega, by go_num, Lib.hid (HSET.out _).drew⟩
                case measure => simp [intOf]; omega
              · obtain rfl : m = q := by omega
                go_wp2_with fail
                go_roundw
                case rel => exact ⟨j + 1, by omega, by go_num, hmk2⟩
                case measure => simp [intOf]; omega
          · obtain rfl : j = k := by omega
            generalize wr = u1 at hmk
            have K1 := Lib.hid hmk.out.kp
            clear hmk
            have L8 : Hid (LSt u1 w.heap.size g lb2 d7 ⟨{ s5.m with fs := segFs ⟨#[119]⟩ ((G5.map raw).map fixS) }, nextNo (G5.map raw), 0⟩ ⟨#[119]⟩ 40) := Lib.hid (E7.out.2.2.2.1.of (fun k hk => K1.out.block k (fun hrb => E7.out.2.2.2.2 k hrb hk)))
            have D8 : Hid (Below w.heap.size w u1) := Lib.hid (D7.out.trans (K1.out.below (B := w.heap.size) (fun k hk hrb => by have := (E7.out.2.2.1.in_ k hrb).1; have := LU.out; omega)))
            have HF := Lib.hid (HH.out.1.fix (m' := { s5.m with fs := segFs ⟨#[119]⟩ ((G5.map raw).map fixS) }) rfl Q.out.2.down (fun _ => ⟨Q.out.2.down, Q.out.2.left, Q.out.2.room⟩))
            have HO2 : Hid (Calls Tryz.prog 10 #[.pointer (some ⟨g, 0, none⟩), .string ⟨#[119]⟩, .int .i64 40] u1 (OpenTo u1 w.heap.size g d7 { s5.m with fs := segFs ⟨#[119]⟩ ((G5.map raw).map fixS) } ⟨#[119]⟩ 40 ((G5.map raw).map fixS))) := Lib.hid (open_any w.heap.size g d7 _ ⟨#[119]⟩ 40 _ ((G5.map raw).map fixS) u1 L8.out.ps L8.out.vm pre_w (by decide) (HT.out.on D8.out) HF.out.1 (by rw [next_fix]; exact HH.out.2.2))
            have HPY : Hid (pays (((G5.map raw).map fixS).map (fun x => x.2.1)) = byts T) := Lib.hid (HF.out.2.trans HH.out.2.1)
            go_upto_region 34 with (go_at_call 10; refine HO2.out.mono ?_; rintro e w9 ⟨lb3, T9, A9, c9, k9, d9, rfl, hk, ht, hs, -, hl, hd, hlb⟩; rw [HPY.out] at ht; obtain rfl : k9 = j := (by have := congrArg List.length ht; rw [byts_len, hk, byts_len, H.out.len] at this; exact this); have E9 := Lib.hid (And.intro hk (And.intro ht hs)); have D9 : Hid (Below w.heap.size w w9) := Lib.hid (D8.out.trans (hd.below D8.out.size (fun k hk => (L8.out.ps.owned k hk).1))); clear hk ht hs hl hd hlb HO2)
            have SA : Hid (Calls Tryz.prog 15 #[.slice A9 k9 c9, .slice A k9 c] w9 fun e w' => e = .returned (.bool true) ∧ Below w9.heap.size w9 w') := Lib.hid ((ssame_any A9 A T9 T k9 k9 c9 c w9 E9.out.1 H.out.len (by omega) E9.out.2.2.row.lies (H.out.kept D9.out).lies (rows_bys E9.out.2.2.rows) (H.out.kept D9.out).all.bys E9.out.2.1).mono (fun e w' hq => ⟨hq.1, by obtain ⟨-, kk, rfl⟩ := hq; exact below_drewN (Below.refl _ _) _⟩))
            go_wp2_with (go_at_call 15; refine SA.out.mono ?_; rintro e w10 ⟨rfl, hb⟩; have B10 := Lib.hid hb; clear hb SA)
            go_ret
            exact ⟨rfl, D9.out.trans (B10.out.mono D9.out.size)⟩
  · go_enter Tryz.func6, Tryz.ntmps6
    go_wp2_with (go_at_call 7; refine HW.out.mono ?_; rintro e w1 ⟨rfl, hb⟩; have B1 := Lib.hid hb; clear hb)
    go_ret
    exact ⟨rfl, B1.out⟩

end Go.Proofs.YtjppklgegpmfpaaGreatDoor
