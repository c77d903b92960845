/-
  Walks: pairs unpacked, by the document.
-/
import Derived.Test.YtimonpoeieenpaaKBh
namespace Go.Proofs.Ytimonpoeieenpaa
open Go.RowKit

/-- What unpacking answers. -/
def GotR (w : World) (p : List Pr × Int) (e : Ending) (w' : World) : Prop :=
  ∃ l A c, rds l = p.1 ∧ e = .returned (.tuple #[.slice A l.length c, .int .i64 p.2]) ∧ Helds w' l ∧ Prow w' w.heap.size A c l ∧ Below w.heap.size w w'
theorem gotR_none {w w' : World} {r : Int} {e : Ending} (h : e = .returned (.tuple #[.slice none 0 0, .int .i64 r]) ∧ Below w.heap.size w w') : GotR w ([], r) e w' := by
  obtain ⟨rfl, hb⟩ := h
  exact ⟨[], none, 0, rfl, rfl, Helds.nil _, Prow.nil _ _, hb⟩
theorem oneP_nums {L : List Int} {a : Nat} {G : List Int} (h : (numsP L a).2.2 ≠ 0) : (oneP L a G).2.2 = (numsP L a).2.2 := by
  unfold oneP
  rw [if_pos h]
theorem oneP_body {L : List Int} {a : Nat} {G : List Int} {x y z s : Int} (h : numsP L a = ((x, y, z), s, 0)) : oneP L a G = bodyP L G x y z s := by
  unfold oneP
  rw [h]
  rfl
theorem bodyP_1 {L G : List Int} {x y z s : Int} (h : (G.length : Int) < x) : (bodyP L G x y z s).2.2 = 11 := by
  unfold bodyP
  rw [if_pos h]
theorem bodyP_2 {L G : List Int} {x y z s : Int} (h : ¬ (G.length : Int) < x) (h2 : 200 - x < y ∨ 4096 < z) : (bodyP L G x y z s).2.2 = 3 := by
  unfold bodyP
  rw [if_neg h, if_pos h2]
theorem bodyP_3 {L G : List Int} {x y z s : Int} (h : ¬ (G.length : Int) < x) (h2 : ¬ (200 - x < y ∨ 4096 < z)) (h3 : (L.length : Int) - s < y + z) : (bodyP L G x y z s).2.2 = 10 := by
  unfold bodyP
  rw [if_neg h, if_neg h2, if_pos h3]
theorem bodyP_4 {L G : List Int} {x y z s : Int} (h : ¬ (G.length : Int) < x) (h2 : ¬ (200 - x < y ∨ 4096 < z)) (h3 : ¬ (L.length : Int) - s < y + z) (h4 : cmpL ((L.drop s.toNat).take y.toNat) (G.drop x.toNat) ≠ 1 ∨ 0 < alike ((L.drop s.toNat).take y.toNat) (G.drop x.toNat)) : (bodyP L G x y z s).2.2 = 11 := by
  unfold bodyP
  rw [if_neg h, if_neg h2, if_neg h3, if_pos h4]
theorem bodyP_5 {L G : List Int} {x y z s : Int} (h : ¬ (G.length : Int) < x) (h2 : ¬ (200 - x < y ∨ 4096 < z)) (h3 : ¬ (L.length : Int) - s < y + z) (h4 : ¬ (cmpL ((L.drop s.toNat).take y.toNat) (G.drop x.toNat) ≠ 1 ∨ 0 < alike ((L.drop s.toNat).take y.toNat) (G.drop x.toNat))) :
    bodyP L G x y z s = ((G.take x.toNat ++ (L.drop s.toNat).take y.toNat, (L.drop (s + y).toNat).take z.toNat), s + y + z, 0) := by
  unfold bodyP
  rw [if_neg h, if_neg h2, if_neg h3, if_neg h4]

theorem cmpL_half (G M : List Int) (X : Nat) : cmpL (G.take X ++ M) G = cmpL M (G.drop X) := by
  have := cmpL_common (G.take X) M (G.drop X)
  rwa [List.take_append_drop] at this
theorem alike_half (G M : List Int) (X : Nat) (h : X ≤ G.length) : alike (G.take X ++ M) G = X + alike M (G.drop X) := by
  have := alike_common (G.take X) M (G.drop X)
  rwa [List.take_append_drop, List.length_take, Nat.min_eq_left h] at this
theorem half_nil {K M : List Int} {X Y : Nat} (h1 : K.length = X + Y) (h2 : M.length = Y) : K = [] → M = [] := fun e => by
  subst e
  simp only [List.length_nil] at h1
  exact List.eq_nil_of_length_eq_zero (by omega)
theorem first_fine {K M G : List Int} {X Y : Nat} (h1 : K.length = X + Y) (h2 : M.length = Y) (hG : G = []) (hX : X ≤ G.length) (hK : K ≠ []) : cmpL M (G.drop X) = 1 ∧ alike M (G.drop X) = 0 := by
  subst hG
  simp only [List.length_nil, Nat.le_zero] at hX
  subst hX
  have hM : M ≠ [] := fun e => hK (by
    subst e
    simp only [List.length_nil] at h2
    exact List.eq_nil_of_length_eq_zero (by omega))
  obtain ⟨u, v, rfl⟩ := List.exists_cons_of_ne_nil hM
  exact ⟨rfl, rfl⟩
theorem good_of {zc : Int} {al : Nat} (h : ¬ (zc ≠ 1 ∨ 0 < al)) : zc = 1 ∧ al = 0 := by omega
theorem bad_m {zc : Int} {al m : Nat} (h : zc ≠ 1 ∨ 0 < al) (g : m = 0 → zc = 1 ∧ al = 0) : m ≠ 0 := fun e => by have := g e; omega
theorem bad_al {zc : Int} {al : Nat} (h : zc ≠ 1 ∨ 0 < al) (g : zc = 1) : 0 < al := by omega
theorem dec_pos {m : Nat} (h : m ≠ 0) : decide (0 < (m : Int)) = true := by simp; omega
theorem ne_more {X al : Nat} (h : 0 < al) : (((X + al : Nat) : Int) != (X : Int)) = true := by simp; omega
theorem ne_more2 {X al : Nat} (h : 0 < al) : ((X : Int) + (al : Int) != (X : Int)) = true := by simp; omega
theorem neg_le {zc : Int} (h : zc = -1 ∨ zc = 0 ∨ zc = 1) (g : zc ≠ 1) : zc ≤ 0 := by omega
theorem dec_neg {zc : Int} (h : zc = -1 ∨ zc = 0 ∨ zc = 1) (g : zc ≠ 1) : decide (0 ≤ -zc) = true := by simp; omega
theorem not_empty {K : List Int} (e : K ≠ []) : (strOfNums K).toList.isEmpty = false := by
  rw [ByteArray.toList_eq]
  cases K with
  | nil => exact absurd rfl e
  | cons x s => simp [strOfNums]
theorem rt_kept {wt w1 w2 : World} {H : Nat} {Z : Int} {D : Nat} {C : Option Addr} {d : Nat} {T : List Bp} (h : ∃ cs, wt.heap[H]? = some (.cells cs 56 (0, 0)) ∧ cs[2]? = some (.int .u64 Z)) (hb : Below wt.heap.size wt w1) (_ht : 56 ≠ 42) (hs : Prow w1 D C d T) (hg : w1.grownBy w2 (Value.slice C T.length d).ownBlock) : w2.cell? ⟨H, 2, none⟩ = some (.int .u64 Z) := by
  obtain ⟨cs, h1, h2⟩ := h
  have hlt := (Array.getElem?_eq_some_iff.1 h1).1
  have h3 := (hb.block _ hlt).trans h1
  have h4 : w2.heap[H]? = w1.heap[H]? := by
    refine hg.block _ (Array.getElem?_eq_some_iff.1 h3).1 (fun e' => ?_)
    rcases hs.2 with ⟨hn, _⟩ | ⟨g', cap', cur', e2, _, h2', _⟩
    · rw [hn] at e'
      simp [Value.ownBlock] at e'
    · rw [e2] at e'
      have eg : H = g' := by simpa [Value.ownBlock] using e'
      rw [eg, h2'] at h3
      injection h3 with h3
      injection h3 with _ h3
      exact absurd h3 (by decide)
  simp only [World.cell?, h4, h3]
  exact h2
theorem wrap_small (k : Nat) (h : k ≤ 9223372036854775807) : wrap64 (k : Int) = k := by unfold wrap64; omega
theorem wrapU_small (k : Int) (h0 : 0 ≤ k) (h : k ≤ 18446744073709551615) : IntKind.u64.wrap k = k := by rw [IntKind.wrap_u64]; omega
set_option maxRecDepth 100000 in
set_option maxHeartbeats 16000000 in
theorem refRead_any (A : Option Addr) (L : List Int) (n c : Nat) (w : World) (h : In w A L n c) (hn : n ≤ 140737488355328) :
    Calls Try.prog 17 #[.slice A n c] w (GotR w (readP L)) := by
  have HI := Lib.hid h
  have HNB := Lib.hid hn
  have htop : (n : Int) ≤ 9223372036854775807 := by omega
  clear h hn
  go_enter Try.func17, Try.ntmps17
  go_wp2_with fail
  go_loopw [4, 5, 6] (fun t4 t5 t6 wr => ∃ (a m c2 : Nat) (A2 : Option Addr) (l : List Bp), t6 = .int .i64 a ∧ t4 = .slice A2 m c2 ∧ t5 = .string (strOfNums (lastK [] (rds l))) ∧ Hid (l.length = m) ∧ Hid (LeftB L (rds l) a) ∧ Hid (Helds wr l) ∧ Hid (Prow wr w.heap.size A2 c2 l) ∧ Hid (Below w.heap.size w wr)) (fun _ _ t6 _ => n - (intOf t6).toNat)
  case atStart => exact ⟨0, 0, 0, none, [], rfl, rfl, rfl, Lib.hid rfl, Lib.hid (LeftB.start L), Lib.hid (Helds.nil _), Lib.hid (Prow.nil _ _), Lib.hid (Below.refl _ _)⟩
  case round =>
    obtain ⟨a, m, c2, A2, l, rfl, rfl, rfl, hlm, hle, hhe, hpr, hbl⟩ := hrel
    rename World => wo
    have HG : Hid ((lastK [] (rds l)).length ≤ 200 ∧ Byt (lastK [] (rds l))) := Lib.hid ⟨lastK_short [] _ (by simp) hle.out.short.2, lastK_byt [] _ Byt.nil hle.out.byt⟩
    by_cases hlt : a < n
    · have i0 : (a : Int) < n := by omega
      have hal : Hid (a < L.length) := Lib.hid (by rw [HI.out.len]; exact hlt)
      generalize hGd : lastK [] (rds l) = G at HG
      have HGD := Lib.hid hGd
      have HGS := str_size G
      obtain ⟨gl, hgl⟩ : ∃ gl, G.length = gl := ⟨_, rfl⟩
      rw [hgl] at HGS HG
      have HGL := Lib.hid hgl
      clear hGd hgl
      obtain ⟨H, hH⟩ : ∃ H, wo.heap.size = H := ⟨_, rfl⟩
      have HH := Lib.hid hH
      have R0 : Hid ((wo.alloc (.cells #[.int .u64 0, .int .u64 0, .int .u64 0] 56)).rowIs H 56 3 (fun j => .int .u64 (if j < 0 then valN L a j else 0))) := Lib.hid (by
        rw [← hH]
        exact World.rowIs_alloc wo #[.int .u64 0, .int .u64 0, .int .u64 0] 56 _ (fun i hi => by
          have hi : i < 3 := hi
          have : i = 0 ∨ i = 1 ∨ i = 2 := by omega
          rcases this with rfl | rfl | rfl <;> rfl))
      have B0 : Hid (Below wo.heap.size wo (wo.alloc (.cells #[.int .u64 0, .int .u64 0, .int .u64 0] 56))) := Lib.hid (below_new _ _)
      clear hH
      go_wp2_with fail
      rw [HH.out]
      go_loopw [6, 8] (fun t6 t8 wr => ∃ i : Nat, i ≤ 3 ∧ t8 = .int .i64 i ∧ t6 = .int .i64 (posN L a i) ∧ Hid (∀ j, j < i → errN L a j = 0) ∧ Hid (wr.rowIs H 56 3 (fun j => .int .u64 (if j < i then valN L a j else 0))) ∧ Hid (Below wo.heap.size wo wr)) (fun _ t8 _ => 3 - (intOf t8).toNat)
      case atStart => exact ⟨0, by omega, rfl, rfl, Lib.hid (fun j hj => by omega), R0, B0⟩
      case round =>
        obtain ⟨i, hi3, rfl, rfl, herr, hrw, hbs⟩ := hrel
        have BW : Hid (Below w.heap.size w wr) := Lib.hid (hbl.out.trans (hbs.out.mono hbl.out.size))
        by_cases hil : i < 3
        · have HU := Lib.hid (uintR_any A L n c (posN L a i) wr (HI.out.kept BW.out))
          have HPN : Hid (posN L a (i + 1) = (uintP L (posN L a i)).2.1) := Lib.hid rfl
          have HVN : Hid (valN L a i = (uintP L (posN L a i)).1) := Lib.hid rfl
          have HEN : Hid (errN L a i = (uintP L (posN L a i)).2.2) := Lib.hid rfl
          have i3 : (i : Int) < 3 := by omega
          obtain ⟨p, hp⟩ : ∃ p, posN L a i = p := ⟨_, rfl⟩
          unfold Ans at HU
          rw [hp] at HU HPN HVN HEN ⊢
          generalize uintP L p = R at HU HPN HVN HEN
          obtain ⟨v, nx, er⟩ := R
          simp only at HU HPN HVN HEN
          have r1 := hrw.out
          have c1 := r1.cell (i := i) (by omega)
          have f1 := r1.frozen i
          clear hp r1
          by_cases he : er = 0
          · subst he
            have HE2 := Lib.hid (errN_next herr.out HEN.out)
            go_wp2_with (go_at_call 28; refine HU.out.mono ?_; rintro e w1 ⟨rfl, hw⟩; subst hw)
            go_roundw
            case rel => exact ⟨i + 1, by omega, by go_num, by rw [HPN.out], HE2, Lib.hid ((hrw.out.set i _).congr fun j hj => by
              by_cases e : j = i
              · subst e
                rw [if_pos rfl, if_pos (by omega), HVN.out]
              · rw [if_neg e]
                by_cases e2 : j < i
                · rw [if_pos e2, if_pos (by omega)]
                · rw [if_neg e2, if_neg (by omega)]), Lib.hid (hbs.out.setCell (by have := HH.out; simp only; omega) _)⟩
            case measure => simp [intOf]; omega
          · have he' : (er != 0) = true := by simpa using he
            have HNB2 := Lib.hid (numsP_bad hil herr.out (by rw [HEN.out]; exact he))
            have HV : Hid (readP L = ([], er)) := Lib.hid (by
              have h1 : (oneP L a (lastK [] (rds l))).2.2 = er := by
                rw [oneP_nums (by rw [HNB2.out]; simp only; rw [HEN.out]; exact he), HNB2.out]
                exact HEN.out
              have := hle.out.bad hal.out (by rw [h1]; exact he)
              rw [h1] at this
              exact this)
            clear he
            go_wp2_with (go_at_call 28; refine HU.out.mono ?_; rintro e w1 ⟨rfl, hw⟩; subst hw)
            go_ret2
            rw [HV.out]
            exact gotR_none ⟨rfl, BW.out⟩
        · obtain rfl : i = 3 := by omega
          have hnum := numsP_fine herr.out
          have hbd := numsP_bd L a HI.out.byt
          rw [hnum] at hbd
          obtain ⟨-, -, b1, b2, b3, b4⟩ := hbd
          obtain ⟨-, b11, b12⟩ := b1 rfl
          rw [HI.out.len] at b12
          have r1 := hrw.out
          have q0 := r1.cell (i := 0) (by omega)
          have q1 := r1.cell (i := 1) (by omega)
          have q2 := r1.cell (i := 2) (by omega)
          rw [if_pos (by omega)] at q0 q1 q2
          have HRC : Hid (∃ cs, wr.heap[H]? = some (.cells cs 56 (0, 0)) ∧ cs[2]? = some (.int .u64 (valN L a 2))) := Lib.hid (by
            obtain ⟨cs, h1, -, h3⟩ := r1
            exact ⟨cs, h1, by rw [h3 2 (by omega)]; rfl⟩)
          clear r1 hrw
          have HBO : Hid (oneP L a (lastK [] (rds l)) = bodyP L G (valN L a 0) (valN L a 1) (valN L a 2) (posN L a 3)) := Lib.hid (by rw [oneP_body hnum, HGD.out])
          simp only at b11 b12 b2 b3 b4
          clear b1 hnum
          generalize valN L a 0 = x at q0 b2 HBO
          generalize valN L a 1 = y at q1 b3 HBO
          generalize valN L a 2 = z at q2 b4 HBO HRC
          generalize posN L a 3 = s at b11 b12 HBO ⊢
          obtain ⟨x0, x1⟩ := b2
          obtain ⟨y0, y1⟩ := b3
          obtain ⟨z0, z1⟩ := b4
          have BAD : Hid (∀ er, (bodyP L G x y z s).2.2 = er → er ≠ 0 → readP L = ([], er)) := Lib.hid (fun er h1 h2 => by
            have e : (oneP L a (lastK [] (rds l))).2.2 = er := by rw [HBO.out, h1]
            have := hle.out.bad hal.out (by rw [e]; exact h2)
            rw [e] at this
            exact this)
          have hgl2 := HG.out.1
          have e1 := wrapU_small (gl : Int) (by omega) (by omega)
          by_cases h1 : (gl : Int) < x
          · have HV := Lib.hid (BAD.out 11 (bodyP_1 (by rw [HGL.out]; exact h1)) (by decide))
            have d1 : decide ((gl : Int) < x) = true := by simpa using h1
            clear h1
            go_wp2_with fail
            go_ret2
            rw [HV.out]
            exact gotR_none ⟨rfl, BW.out⟩
          have d1 : decide ((gl : Int) < x) = false := by simpa using h1
          have h1' : ¬ (G.length : Int) < x := by rw [HGL.out]; exact h1
          by_cases h2 : 200 < y
          · have HV := Lib.hid (BAD.out 3 (bodyP_2 h1' (.inl (by omega))) (by decide))
            have d2 : decide (200 < y) = true := by simpa using h2
            clear h1 h1' h2
            go_wp2_with fail
            go_ret2
            rw [HV.out]
            exact gotR_none ⟨rfl, BW.out⟩
          have d2 : decide (200 < y) = false := by simpa using h2
          have e2 := wrapU_small (x + y) (by omega) (by omega)
          by_cases h3 : 200 < x + y
          · have HV := Lib.hid (BAD.out 3 (bodyP_2 h1' (.inl (by omega))) (by decide))
            have d3 : decide (200 < x + y) = true := by simpa using h3
            clear h1 h1' h2 h3
            go_wp2_with fail
            go_ret2
            rw [HV.out]
            exact gotR_none ⟨rfl, BW.out⟩
          have d3 : decide (200 < x + y) = false := by simpa using h3
          by_cases h4 : 4096 < z
          · have HV := Lib.hid (BAD.out 3 (bodyP_2 h1' (.inr h4)) (by decide))
            have d4 : decide (4096 < z) = true := by simpa using h4
            clear h1 h1' h2 h3 h4
            go_wp2_with fail
            go_ret2
            rw [HV.out]
            exact gotR_none ⟨rfl, BW.out⟩
          have d4 : decide (4096 < z) = false := by simpa using h4
          have h24 : ¬ (200 - x < y ∨ 4096 < z) := by omega
          have e3 := wrapU_small ((n : Int) - s) (by omega) (by omega)
          have e4 := wrapU_small (y + z) (by omega) (by omega)
          by_cases h5 : (n : Int) - s < y + z
          · have HV := Lib.hid (BAD.out 10 (bodyP_3 h1' h24 (by rw [HI.out.len]; exact h5)) (by decide))
            have d5 : decide ((n : Int) - s < y + z) = true := by simpa using h5
            clear h1 h1' h2 h3 h4 h24 h5
            go_wp2_with fail
            go_ret2
            rw [HV.out]
            exact gotR_none ⟨rfl, BW.out⟩
          have d5 : decide ((n : Int) - s < y + z) = false := by simpa using h5
          have h5' : ¬ (L.length : Int) - s < y + z := by rw [HI.out.len]; exact h5
          have HB4 := Lib.hid (fun h4 => bodyP_4 (L := L) (G := G) (x := x) (y := y) (z := z) (s := s) h1' h24 h5' h4)
          have HB5 := Lib.hid (fun h4 => bodyP_5 (L := L) (G := G) (x := x) (y := y) (z := z) (s := s) h1' h24 h5' h4)
          go_upto_region 20 with fail
          obtain ⟨X, rfl⟩ := Int.eq_ofNat_of_zero_le x0
          obtain ⟨Y, rfl⟩ := Int.eq_ofNat_of_zero_le y0
          obtain ⟨Z, rfl⟩ := Int.eq_ofNat_of_zero_le z0
          obtain ⟨S, rfl⟩ := Int.eq_ofNat_of_zero_le (a := s) (by omega)
          have g1 : X ≤ gl := by omega
          have g2 : Y ≤ 200 := by omega
          have g3 : Z ≤ 4096 := by omega
          have g4 : S + Y + Z ≤ n := by omega
          have g5 : X + Y ≤ 200 := by omega
          have g6 : a + 3 ≤ S := by omega
          have hSY : ((S : Int) + (Y : Int)).toNat = S + Y := by omega
          simp only [Int.toNat_natCast, hSY] at HB4 HB5
          have hs1 := str_high G X (by rw [HGL.out]; exact g1) .u64
          obtain ⟨A3, hs2, hby⟩ := slice_mid (HI.out.kept BW.out).bys n S Y c HI.out.len (by omega) HI.out.cap
          have hMl : ((L.drop S).take Y).length = Y := by rw [List.length_take, List.length_drop, HI.out.len]; omega
          have C0 := conv_drew hby Y (c - S) hMl
          have HMB : Hid (Byt ((L.drop S).take Y)) := Lib.hid ((HI.out.byt.drop S).take Y)
          generalize (L.drop S).take Y = M at hMl C0 HMB HB4 HB5
          have hTl : (G.take X).length = X := by rw [List.length_take, HGL.out]; omega
          have hcat := str_cat (G.take X) M (by omega)
          have e5 := wrap_small Y (Nat.le_trans g2 (by decide))
          have e6 := wrap_small Z (Nat.le_trans g3 (by decide))
          have HTM := Lib.hid (And.intro hTl hMl)
          have hcap := HI.out.cap
          have hcp := HI.out.top
          clear e1 e2 e3 e4 d1 d2 d3 d4 d5 h1 h1' h2 h3 h4 h5 h24 h5' hSY hMl hTl hby b11 b12 x0 x1 y0 y1 z0 z1
          go_quiet (fail)
          obtain ⟨wq, hwq⟩ : ∃ wq, wr.drewN nq = wq := ⟨_, rfl⟩
          have BQ : Hid (Below wr.heap.size wr wq) := Lib.hid (hwq ▸ below_drewN (Below.refl _ _) nq)
          have k0 : wq.cell? ⟨H, 0, none⟩ = some (.int .u64 X) := by rw [← hwq]; exact q0
          have k1 : wq.cell? ⟨H, 1, none⟩ = some (.int .u64 Y) := by rw [← hwq]; exact q1
          have k2 : wq.cell? ⟨H, 2, none⟩ = some (.int .u64 Z) := by rw [← hwq]; exact q2
          rw [hwq]
          have HKB : Hid (Byt (G.take X ++ M)) := Lib.hid ((HG.out.2.take X).append HMB.out)
          have HKL : Hid ((G.take X ++ M).length = X + Y) := Lib.hid (by rw [List.length_append, HTM.out.1, HTM.out.2])
          have HC1 := Lib.hid (cmpL_half G M X)
          have HC2 := Lib.hid (alike_half G M X (by rw [HGL.out]; exact g1))
          obtain ⟨K, hK⟩ : ∃ K, G.take X ++ M = K := ⟨_, rfl⟩
          rw [hK] at HB5 HKB HKL HC1 HC2 ⊢
          clear hK hwq hs1 hs2 C0 hcat q0 q1 q2
          have HLs := Lib.hid (fun W => less_any (strOfNums G) (strOfNums K) W (by rw [str_size, HGL.out]; omega) (by rw [str_size, HKL.out]; omega))
          have HSh := Lib.hid (fun W => shared_any (strOfNums G) (strOfNums K) W (by rw [str_size, HGL.out]; omega) (by rw [str_size, HKL.out]; omega))
          rw [nums_of_str _ HG.out.2, nums_of_str _ HKB.out] at HLs HSh
          rw [alike_comm, HC2.out] at HSh
          have hfl := cmpL_flip K G
          rw [HC1.out] at hfl
          rw [hfl] at HLs
          have e7 := wrap_small X (Nat.le_trans g1 (Nat.le_trans hgl2 (by decide)))
          have HKM := Lib.hid (half_nil HKL.out HTM.out.2)
          have HM0 : Hid (m = 0 → K ≠ [] → cmpL M (G.drop X) = 1 ∧ alike M (G.drop X) = 0) := Lib.hid (fun e1 e2 => first_fine HKL.out HTM.out.2 (by rw [← HGD.out, List.eq_nil_of_length_eq_zero (hlm.out.trans e1)]; rfl) (by rw [HGL.out]; exact g1) e2)
          have HZ0 := Lib.hid (cmpL_three M (G.drop X))
          have HKN : Hid (M = [] → cmpL M (G.drop X) ≠ 1) := Lib.hid (fun e => by rw [e]; cases G.drop X <;> simp [cmpL])
          obtain ⟨zc, hzc⟩ : ∃ zc, cmpL M (G.drop X) = zc := ⟨_, rfl⟩
          obtain ⟨al, hal2⟩ : ∃ al, alike M (G.drop X) = al := ⟨_, rfl⟩
          rw [hzc] at HB4 HB5 HLs HM0 HZ0 HKN
          rw [hal2] at HB4 HB5 HSh HM0
          clear hzc hal2 HC1 HC2 hfl
          have HD0 := Lib.hid (fun (e : K ≠ []) => not_empty e)
          by_cases hz : zc ≠ 1 ∨ 0 < al
          · have HV := Lib.hid (BAD.out 11 (HB4.out hz) (by decide))
            by_cases hK : K = []
            · subst hK
              have d0 : strOfNums [] = ({ data := #[] } : ByteArray) := rfl
              rw [d0]
              clear hz d0
              go_upto_region 22 with fail
              clear e5 e6 g1 g2 g3 g4 g5 g6 hcap hcp htop hgl2 HGS i0 hlt k1 k2
              go_quiet (fail)
              go_wp2_with fail
              go_ret2
              rw [HV.out]
              exact gotR_none ⟨rfl, below_drewN (BW.out.trans (BQ.out.mono BW.out.size)) _⟩
            · have d0 := HD0.out hK
              have hm : m ≠ 0 := bad_m hz (fun e => HM0.out e hK)
              have d1 := dec_pos hm
              have d1b : 0 < m := Nat.pos_of_ne_zero hm
              by_cases hz1 : zc = 1
              · subst hz1
                have ha : 0 < al := bad_al hz rfl
                obtain ⟨xa, hxa⟩ : ∃ xa, X + al = xa := ⟨_, rfl⟩
                have d2 := ne_more (X := X) ha
                rw [hxa] at d2 HSh
                clear hxa
                clear hz hm hK ha
                go_upto_region 22 with fail
                clear e5 e6 g1 g2 g3 g4 g5 g6 hcap hcp htop hgl2 HGS i0 hlt k1 k2
                go_quiet (first | (go_at_call 22; exact Calls.quiet_of (HLs.out _)) | (go_at_call 23; exact Calls.quiet_of (HSh.out _)))
                go_wp2_with fail
                go_ret2
                rw [HV.out]
                exact gotR_none ⟨rfl, below_drewN (BW.out.trans (BQ.out.mono BW.out.size)) _⟩
              · have d2 := dec_neg HZ0.out hz1
                have d2b := neg_le HZ0.out hz1
                clear hz hm hK hz1
                go_upto_region 22 with fail
                clear e5 e6 g1 g2 g3 g4 g5 g6 hcap hcp htop hgl2 HGS i0 hlt k1 k2
                go_quiet (first | (go_at_call 22; exact Calls.quiet_of (HLs.out _)) | (go_at_call 23; exact Calls.quiet_of (HSh.out _)))
                go_wp2_with fail
                go_ret2
                rw [HV.out]
                exact gotR_none ⟨rfl, below_drewN (BW.out.trans (BQ.out.mono BW.out.size)) _⟩
          · have hb5 := HB5.out hz
            obtain ⟨rfl, rfl⟩ := good_of hz
            have hK : K ≠ [] := fun e => HKN.out (HKM.out e) rfl
            have d0 := HD0.out hK
            have HB6 := Lib.hid hb5
            clear hz hb5 hK HB4 HB5
            have HK2 : Hid (K.length ≤ 200) := Lib.hid (by rw [HKL.out]; exact g5)
            rw [Nat.add_zero] at HSh
            have HAR := Lib.hid (And.intro g4 (And.intro hcap (And.intro hcp (And.intro i0 (And.intro hlt (And.intro e6 (And.intro k2 (And.intro htop g6))))))))
            have e1s : oneP L a (lastK [] (rds l)) = ((K, (L.drop (S + Y)).take Z), (S : Int) + Y + Z, 0) := by rw [HBO.out, HB6.out]
            have HON := Lib.hid e1s
            clear e1s
            go_upto_region 22 with fail
            clear e5 e6 g1 g2 g3 g4 g5 g6 hcap hcp htop hgl2 HGS i0 hlt k1 k2
            have HJ : Hid (m = 0 ∨ 0 < m) := Lib.hid (Nat.eq_zero_or_pos m)
            rcases HJ.out with rfl | hm
            case inl =>
              go_quiet ((go_at_call 23; exact Calls.quiet_of (HSh.out _)))
              obtain ⟨wt, hwt⟩ : ∃ wt, wq.drewN nq = wt := ⟨_, rfl⟩
              have BT : Hid (Below wq.heap.size wq wt) := Lib.hid (hwt ▸ below_drewN (Below.refl _ _) nq)
              rw [hwt]
              clear hwt
              obtain ⟨g4, hcap, hcp, i0, hlt, e6, k2, htop, g6⟩ := HAR.out
              have SW := Nat.le_trans BW.out.size BQ.out.size
              have DT : Hid (Below w.heap.size w wt) := Lib.hid ((BW.out.trans (BQ.out.mono BW.out.size)).trans (BT.out.mono SW))
              have D0 : Hid (Below wo.heap.size wo wt) := Lib.hid ((hbs.out.trans (BQ.out.mono hbs.out.size)).trans (BT.out.mono (Nat.le_trans hbs.out.size BQ.out.size)))
              have HRT : Hid (∃ cs, wt.heap[H]? = some (.cells cs 56 (0, 0)) ∧ cs[2]? = some (.int .u64 (Z : Int))) := Lib.hid (by
                obtain ⟨cs, h1, h2⟩ := HRC.out
                have hlt := (Array.getElem?_eq_some_iff.1 h1).1
                exact ⟨cs, (BT.out.block _ (Nat.lt_of_lt_of_le hlt BQ.out.size)).trans ((BQ.out.block _ hlt).trans h1), h2⟩)
              obtain ⟨kn, hkn⟩ : ∃ kn, K.length = kn := ⟨_, rfl⟩
              obtain ⟨ck, w5, hcv, hhd, hb5⟩ := conv_str wt K HKB.out (Nat.le_trans HK2.out (by decide))
              rw [hkn] at hcv
              have HKNN := Lib.hid hkn
              have HHD := Lib.hid hhd
              have B5 := Lib.hid hb5
              obtain ⟨A5, hs3, hby⟩ := slice_mid (HI.out.kept (DT.out.trans ((below_al B5.out (.cells #[] 5)).mono DT.out.size))).bys n (S + Y) Z c HI.out.len g4 HI.out.cap
              have HVB : Hid (Byt ((L.drop (S + Y)).take Z)) := Lib.hid ((HI.out.byt.drop (S + Y)).take Z)
              have HVL : Hid (((L.drop (S + Y)).take Z).length = Z) := Lib.hid (by rw [List.length_take, List.length_drop, HI.out.len]; omega)
              simp only [Int.natCast_add] at hs3
              generalize (L.drop (S + Y)).take Z = V at hby HVB HVL HON
              have HBYV := Lib.hid hby
              have k5 : (w5.alloc (.cells #[] 5)).cell? ⟨H, 2, none⟩ = some (.int .u64 Z) := by
                obtain ⟨cs, h1, h2⟩ := HRT.out
                have h3 := ((below_al B5.out (.cells #[] 5)).block _ (Array.getElem?_eq_some_iff.1 h1).1).trans h1
                simp only [World.cell?, h3]
                exact h2
              have R0 := Lib.hid (row_made w5 w5.heap.size [] #[] rfl (by simp) (Nat.le_refl _))
              have T1 := Lib.hid trivial
              clear hkn hhd hb5 hby
              skip
              go_wp2_with (first
                | (have t1 := T1; at_builtin; refine wpList_append_row _ rfl (.tmp 115) (.tmp 123) rfl w5.heap.size _ 0 [] V A5 0 Z _ rfl rfl rfl HVL.out R0.out HBYV.out (by simp) (by rw [HVL.out, List.length_nil]; exact Nat.le_trans (by omega : 0 + Z ≤ n) HNB.out) ?_; intro A7 c7 w7 r7 b7; have R7 := Lib.hid r7; have B7 : Hid (Below wt.heap.size wt w7) := Lib.hid ((below_al B5.out (.cells #[] 5)).trans (b7.mono B5.out.size)); have HH7 := Lib.hid (HHD.out.kept ((below_new w5 (.cells #[] 5)).trans b7)); clear r7 b7 T1 t1)
                | (at_builtin; refine wpList_append_prow _ rfl (.tmp 112) (.tmp 126) rfl w.heap.size A2 c2 l [⟨⟨some ⟨wt.heap.size, 0, none⟩, ck, K⟩, ⟨A7, c7, V⟩⟩] _ 0 1 1 rfl rfl hlm.out rfl (hpr.out.kept (D0.out.trans ((below_al B7.out _).mono D0.out.size)) (Nat.le_refl _)) (lit_pair w7 _ A7 ck c7 K V kn Z HKNN.out HVL.out) (by rw [World.size_alloc]; exact Nat.le_succ_of_le (Nat.le_trans DT.out.size B7.out.size)) (by rw [hlm.out]; simp only [List.length_singleton]; omega) ?_; intro A8 c8 w8 r8 b8 g8; have R8 := Lib.hid r8; have B8 : Hid (Below w.heap.size w w8) := Lib.hid ((DT.out.trans ((below_al B7.out _).mono DT.out.size)).trans b8); have G8 := Lib.hid g8; have k8 : w8.cell? ⟨H, 2, none⟩ = some (.int .u64 Z) := (rt_kept HRT.out (below_al B7.out _) (by decide) (hpr.out.kept (D0.out.trans ((below_al B7.out _).mono D0.out.size)) (Nat.le_refl _)) (by rw [hlm.out]; exact G8.out)); clear r8 b8 g8))
              have HL8 := Lib.hid (((hhe.out.kept D0.out).kept (below_al B7.out _)).besideP (hpr.out.kept (D0.out.trans ((below_al B7.out _).mono D0.out.size)) (Nat.le_refl _)) (by rw [hlm.out]; exact G8.out))
              have HQ8 := Lib.hid ((HH7.out.kept (below_new w7 _)).besideP (hpr.out.kept (D0.out.trans ((below_al B7.out _).mono D0.out.size)) (Nat.le_refl _)) (by rw [hlm.out]; exact G8.out))
              have HV8 := Lib.hid (((Row.held (s := ⟨A7, c7, V⟩) R7.out HVB.out).kept (below_new w7 _)).besideP (hpr.out.kept (D0.out.trans ((below_al B7.out _).mono D0.out.size)) (Nat.le_refl _)) (by rw [hlm.out]; exact G8.out))
              obtain ⟨e, s1, s2, s3, s4⟩ := hle.out.step HI.out.byt hal.out (by rw [HON.out]) (by rw [rds_len, hlm.out]; omega)
              rw [HON.out] at s1 s4
              obtain rfl : e = S + Y + Z := by simp only at s1; omega
              have HLE := Lib.hid s4
              clear s1 s2 s3 s4
              go_roundw
              case rel => exact ⟨S + Y + Z, 0 + 1, c8, A8, l ++ [⟨⟨some ⟨wt.heap.size, 0, none⟩, ck, K⟩, ⟨A7, c7, V⟩⟩], by go_num, rfl, by rw [rds_append]; simp only [rds, List.map_cons, List.map_nil, lastK_snoc, Bp.rd], Lib.hid (by rw [List.length_append, hlm.out]; rfl), by rw [rds_append]; exact HLE, Lib.hid (HL8.out.snoc HQ8.out HV8.out), R8, B8⟩
              case measure => simp [intOf]; omega
            case inr =>
              have d1 := dec_pos (Nat.ne_of_gt hm)
              go_quiet (first | (go_at_call 22; exact Calls.quiet_of (HLs.out _)) | (go_at_call 23; exact Calls.quiet_of (HSh.out _)))
              obtain ⟨wt, hwt⟩ : ∃ wt, wq.drewN nq = wt := ⟨_, rfl⟩
              have BT : Hid (Below wq.heap.size wq wt) := Lib.hid (hwt ▸ below_drewN (Below.refl _ _) nq)
              rw [hwt]
              clear hwt
              by_cases hm4 : m = 4096
              · subst hm4
                have HV := Lib.hid (hle.out.many hal.out (by rw [HON.out]) (by rw [rds_len, hlm.out]; exact Nat.le_refl _))
                go_wp2_with fail
                go_ret2
                rw [HV.out]
                exact gotR_none ⟨rfl, (BW.out.trans (BQ.out.mono BW.out.size)).trans (BT.out.mono (Nat.le_trans BW.out.size BQ.out.size))⟩
              · have d3 : ((m : Int) == 4096) = false := by simp; omega
                have hm5 : m < 4096 := by have := hle.out.short.1; rw [rds_len, hlm.out] at this; omega
                obtain ⟨g4, hcap, hcp, i0, hlt, e6, k2, htop, g6⟩ := HAR.out
                have SW := Nat.le_trans BW.out.size BQ.out.size
                have DT : Hid (Below w.heap.size w wt) := Lib.hid ((BW.out.trans (BQ.out.mono BW.out.size)).trans (BT.out.mono SW))
                have D0 : Hid (Below wo.heap.size wo wt) := Lib.hid ((hbs.out.trans (BQ.out.mono hbs.out.size)).trans (BT.out.mono (Nat.le_trans hbs.out.size BQ.out.size)))
                have HRT : Hid (∃ cs, wt.heap[H]? = some (.cells cs 56 (0, 0)) ∧ cs[2]? = some (.int .u64 (Z : Int))) := Lib.hid (by
                  obtain ⟨cs, h1, h2⟩ := HRC.out
                  have hlt := (Array.getElem?_eq_some_iff.1 h1).1
                  exact ⟨cs, (BT.out.block _ (Nat.lt_of_lt_of_le hlt BQ.out.size)).trans ((BQ.out.block _ hlt).trans h1), h2⟩)
                obtain ⟨kn, hkn⟩ : ∃ kn, K.length = kn := ⟨_, rfl⟩
                obtain ⟨ck, w5, hcv, hhd, hb5⟩ := conv_str wt K HKB.out (Nat.le_trans HK2.out (by decide))
                rw [hkn] at hcv
                have HKNN := Lib.hid hkn
                have HHD := Lib.hid hhd
                have B5 := Lib.hid hb5
                obtain ⟨A5, hs3, hby⟩ := slice_mid (HI.out.kept (DT.out.trans ((below_al B5.out (.cells #[] 5)).mono DT.out.size))).bys n (S + Y) Z c HI.out.len g4 HI.out.cap
                have HVB : Hid (Byt ((L.drop (S + Y)).take Z)) := Lib.hid ((HI.out.byt.drop (S + Y)).take Z)
                have HVL : Hid (((L.drop (S + Y)).take Z).length = Z) := Lib.hid (by rw [List.length_take, List.length_drop, HI.out.len]; omega)
                simp only [Int.natCast_add] at hs3
                generalize (L.drop (S + Y)).take Z = V at hby HVB HVL HON
                have HBYV := Lib.hid hby
                have k5 : (w5.alloc (.cells #[] 5)).cell? ⟨H, 2, none⟩ = some (.int .u64 Z) := by
                  obtain ⟨cs, h1, h2⟩ := HRT.out
                  have h3 := ((below_al B5.out (.cells #[] 5)).block _ (Array.getElem?_eq_some_iff.1 h1).1).trans h1
                  simp only [World.cell?, h3]
                  exact h2
                have R0 := Lib.hid (row_made w5 w5.heap.size [] #[] rfl (by simp) (Nat.le_refl _))
                have T1 := Lib.hid trivial
                clear hkn hhd hb5 hby
                clear hm4
                go_wp2_with (first
                  | (have t1 := T1; at_builtin; refine wpList_append_row _ rfl (.tmp 115) (.tmp 123) rfl w5.heap.size _ 0 [] V A5 0 Z _ rfl rfl rfl HVL.out R0.out HBYV.out (by simp) (by rw [HVL.out, List.length_nil]; exact Nat.le_trans (by omega : 0 + Z ≤ n) HNB.out) ?_; intro A7 c7 w7 r7 b7; have R7 := Lib.hid r7; have B7 : Hid (Below wt.heap.size wt w7) := Lib.hid ((below_al B5.out (.cells #[] 5)).trans (b7.mono B5.out.size)); have HH7 := Lib.hid (HHD.out.kept ((below_new w5 (.cells #[] 5)).trans b7)); clear r7 b7 T1 t1)
                  | (at_builtin; refine wpList_append_prow _ rfl (.tmp 112) (.tmp 126) rfl w.heap.size A2 c2 l [⟨⟨some ⟨wt.heap.size, 0, none⟩, ck, K⟩, ⟨A7, c7, V⟩⟩] _ m 1 1 rfl rfl hlm.out rfl (hpr.out.kept (D0.out.trans ((below_al B7.out _).mono D0.out.size)) (Nat.le_refl _)) (lit_pair w7 _ A7 ck c7 K V kn Z HKNN.out HVL.out) (by rw [World.size_alloc]; exact Nat.le_succ_of_le (Nat.le_trans DT.out.size B7.out.size)) (by rw [hlm.out]; simp only [List.length_singleton]; omega) ?_; intro A8 c8 w8 r8 b8 g8; have R8 := Lib.hid r8; have B8 : Hid (Below w.heap.size w w8) := Lib.hid ((DT.out.trans ((below_al B7.out _).mono DT.out.size)).trans b8); have G8 := Lib.hid g8; have k8 : w8.cell? ⟨H, 2, none⟩ = some (.int .u64 Z) := (rt_kept HRT.out (below_al B7.out _) (by decide) (hpr.out.kept (D0.out.trans ((below_al B7.out _).mono D0.out.size)) (Nat.le_refl _)) (by rw [hlm.out]; exact G8.out)); clear r8 b8 g8))
                have HL8 := Lib.hid (((hhe.out.kept D0.out).kept (below_al B7.out _)).besideP (hpr.out.kept (D0.out.trans ((below_al B7.out _).mono D0.out.size)) (Nat.le_refl _)) (by rw [hlm.out]; exact G8.out))
                have HQ8 := Lib.hid ((HH7.out.kept (below_new w7 _)).besideP (hpr.out.kept (D0.out.trans ((below_al B7.out _).mono D0.out.size)) (Nat.le_refl _)) (by rw [hlm.out]; exact G8.out))
                have HV8 := Lib.hid (((Row.held (s := ⟨A7, c7, V⟩) R7.out HVB.out).kept (below_new w7 _)).besideP (hpr.out.kept (D0.out.trans ((below_al B7.out _).mono D0.out.size)) (Nat.le_refl _)) (by rw [hlm.out]; exact G8.out))
                obtain ⟨e, s1, s2, s3, s4⟩ := hle.out.step HI.out.byt hal.out (by rw [HON.out]) (by rw [rds_len, hlm.out]; omega)
                rw [HON.out] at s1 s4
                obtain rfl : e = S + Y + Z := by simp only at s1; omega
                have HLE := Lib.hid s4
                clear s1 s2 s3 s4
                go_roundw
                case rel => exact ⟨S + Y + Z, m + 1, c8, A8, l ++ [⟨⟨some ⟨wt.heap.size, 0, none⟩, ck, K⟩, ⟨A7, c7, V⟩⟩], by go_num, rfl, by rw [rds_append]; simp only [rds, List.map_cons, List.map_nil, lastK_snoc, Bp.rd], Lib.hid (by rw [List.length_append, hlm.out]; rfl), by rw [rds_append]; exact HLE, Lib.hid (HL8.out.snoc HQ8.out HV8.out), R8, B8⟩
                case measure => simp [intOf]; omega
    · have HV := Lib.hid (hle.out.end_ (by rw [HI.out.len]; omega))
      have hm := hlm.out
      clear hlm
      subst hm
      go_wp2_with fail
      go_ret2
      rw [HV.out]
      exact ⟨l, A2, c2, rfl, rfl, hhe.out, hpr.out, hbl.out⟩

end Go.Proofs.Ytimonpoeieenpaa
