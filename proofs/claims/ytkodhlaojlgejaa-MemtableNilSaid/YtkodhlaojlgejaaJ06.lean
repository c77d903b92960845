/-
  Walks: what is not forgotten of entries, by the program. Walks: what is not forgotten of entries, by the document. Plain: a heap in a list: what goes up, what goes down, the first is the least. Walks: a heap of lists of entries: its length, its order. Walks: a heap of lists of entries: which stands ahead, what changes places.
-/
import Derived.Test.YtkodhlaojlgejaaJ01
import Derived.Test.YtkodhlaojlgejaaJ05
set_option linter.unusedSimpArgs false
set_option linter.unusedVariables false
namespace Go.Proofs.Ytkodhlaojlgejaa
open Go.RowKit
def EMade (ok : Bool) (P : List Er) (w : World) (e : Ending) (w' : World) : Prop := ∃ (l' : List En) (A' : Option Addr) (n' c' : Nat), e = .returned (.tuple #[.slice A' n' c', .int .i64 (if ok = true then 0 else 30)]) ∧ l'.length = n' ∧ ers l' = (if ok = true then P else []) ∧ EMades w' w.heap.size l' ∧ Erow w' w.heap.size A' c' l' ∧ Below w.heap.size w w'
theorem thin_step {L : List Er} {i : Nat} {e : Er} {m : Int} {b : Bool} (h : L[i]? = some e) : pickF (thinK m b) none (L.take (i + 1)) = pickF (thinK m b) none (L.take i) ++ (if thinK m b (aheadE L i) e = true then [e] else []) := pickF_step h
theorem thinK_high {p : Option Er} {e : Er} {m : Int} {b : Bool} (h : m < e.2.1) : thinK m b p e = true := by
  unfold thinK
  rw [decide_eq_true h]
  rfl
theorem thinK_low {p : Option Er} {e : Er} {m : Int} {b : Bool} (h : ¬ m < e.2.1) : thinK m b p e = (lastB p e m && !(b && e.2.2.1)) := by
  unfold thinK
  rw [decide_eq_false h]
  rfl
set_option maxRecDepth 100000 in
set_option maxHeartbeats 8000000 in
theorem thin_any (A : Option Addr) (l : List En) (n c : Nat) (s : Int) (b : Bool) (w : World) (hn : l.length = n) (h : Lies w A (evals l)) (hi : EIns w l) (hf : ∀ q ∈ l, EFit q) (hl : n * 64 ≤ 140737488351232) (hk : ∀ q ∈ l, q.k.l.length ≤ 140737488355328 ∧ q.v.l.length ≤ 140737488355328) :
    Calls Try.prog 29 #[.slice A n c, .int .i64 s, .bool b] w (EMade (decide (OrdL (ers l))) (thinE s b (ers l)) w) := by
  have HMS := Lib.hid (mayStand_any A l n c w hn h hi hf hl)
  obtain ⟨od, hod⟩ : ∃ od, decide (OrdL (ers l)) = od := ⟨_, rfl⟩
  rw [hod] at HMS ⊢
  have HP := Lib.hid (fun (w' : World) (hb : Below w.heap.size w w') => h.kept hb)
  have HI := Lib.hid (fun (w' : World) (hb : Below w.heap.size w w') => hi.kept hb)
  have HK := Lib.hid hk
  have HN := Lib.hid hn
  have HL9 := Lib.hid hl
  clear h hi hn hk hf hod
  cases od
  · go_enter Try.func29, Try.ntmps29
    go_wp2_with (go_at_call 44; refine HMS.out.mono ?_; rintro e w2 ⟨rfl, b2⟩; have B2 := Lib.hid b2; clear b2)
    go_ret2
    exact ⟨[], none, 0, 0, rfl, rfl, rfl, EMades.nil _ _, Erow.nil _ _, B2.out⟩
  go_enter Try.func29, Try.ntmps29
  go_wp2_with (go_at_call 44; refine HMS.out.mono ?_; rintro e w2 ⟨rfl, b2⟩; have B2 := Lib.hid b2; clear b2)
  go_loopw [8, 16] (fun t8 t16 wr => ∃ (k j : Nat) (A2 : Option Addr) (c2 : Nat) (l' : List En), k ≤ n ∧ t16 = .int .i64 k ∧ t8 = .slice A2 j c2 ∧ Hid (l'.length = j ∧ j ≤ k) ∧ Hid (ers l' = pickF (thinK s b) none ((ers l).take k)) ∧ Hid (EMades wr w.heap.size l') ∧ Hid (Erow wr w.heap.size A2 c2 l') ∧ Hid (Below w.heap.size w wr)) (fun _ t16 _ => n - (intOf t16).toNat)
  case atStart => exact ⟨0, 0, none, 0, [], by omega, rfl, rfl, Lib.hid ⟨rfl, Nat.le_refl _⟩, Lib.hid rfl, Lib.hid (EMades.nil _ _), Lib.hid (Erow.nil _ _), B2⟩
  case round =>
    obtain ⟨k, j, A2, c2, l', hk, rfl, rfl, hl2, hr, hm, r2, b2⟩ := hrel
    by_cases hlt : k < n
    · have hq := List.getElem?_eq_getElem (l := l) (i := k) (by have := HN.out; omega)
      generalize l[k]'(by have := HN.out; omega) = x at hq
      obtain ⟨ad, rfl, a0, a1, a2, a3⟩ := lies_entry (HP.out _ b2.out) hq
      have hmem := List.mem_of_getElem? hq
      have HX := Lib.hid (fun (w' : World) (hb : Below w.heap.size w w') => HI.out w' hb x hmem)
      have HXL := Lib.hid (HK.out x hmem)
      have HQ := Lib.hid hq
      have HST : Hid (∀ s, pickF (thinK s b) none ((ers l).take (k + 1)) = pickF (thinK s b) none ((ers l).take k) ++ (if thinK s b (aheadE (ers l) k) x.rd = true then [x.rd] else [])) := Lib.hid (fun s => thin_step (ers_get hq))
      obtain ⟨m, hm2⟩ : ∃ m, x.k.l.length = m := ⟨_, rfl⟩
      obtain ⟨z, hz2⟩ : ∃ z, x.v.l.length = z := ⟨_, rfl⟩
      rw [hm2] at a0
      rw [hz2] at a3
      have HM2 := Lib.hid (And.intro hm2 hz2)
      have k0 : (k : Int) < n := by omega
      have WS : Hid (w.heap.size ≤ wr.heap.size) := Lib.hid b2.out.size
      clear hq hm2 hz2 hmem
      go_upto_region 7 with fail
      obtain ⟨wx, hwx⟩ : ∃ wx, wr.alloc (.cells #[.slice x.k.a m x.k.c, .int .i64 x.s, .bool x.d, .slice x.v.a z x.v.c] 26) = wx := ⟨_, rfl⟩
      have HOB : Hid (∀ W, Below wx.heap.size wx W → W.heap[wr.heap.size]? = some (.cells #[.slice x.k.a m x.k.c, .int .i64 x.s, .bool x.d, .slice x.v.a z x.v.c] 26 (0, 0))) := Lib.hid (fun W hb => by subst hwx; exact box_obj hb)
      have BX : Hid (Below w.heap.size w wx) := Lib.hid (hwx ▸ b2.out.alloc WS.out _)
      have BR : Hid (Below wr.heap.size wr wx) := Lib.hid (hwx ▸ below_new _ _)
      rw [hwx]
      clear hwx a0 a1 a2 a3
      obtain ⟨c0, c1, c2', c3⟩ := box_four (HOB.out wx (Below.refl _ _))
      have HCL : Hid (∀ W, Below wr.heap.size wr W → Calls Try.prog 35 #[.agg #[.slice x.k.a m x.k.c, .int .i64 x.s, .bool x.d, .slice x.v.a z x.v.c]] W (ECop W x)) := Lib.hid (fun W hb => by
        have := eclone_any x W (HX.out W (b2.out.trans (hb.mono WS.out))) HXL.out.1 HXL.out.2
        rwa [En.val_eq, HM2.out.1, HM2.out.2] at this)
      by_cases hs : s < x.s
      · have d1 : decide (s < x.s) = true := decide_eq_true hs
        have HT : Hid (thinK s b (aheadE (ers l) k) x.rd = true) := Lib.hid (thinK_high hs)
        clear hs
        have HB6 : Hid (Below wr.heap.size wr wx) := BR
        go_upto_region 8 with fail
        have RR : Hid (EMades wx w.heap.size l' ∧ Erow wx w.heap.size A2 c2 l') := Lib.hid ⟨hm.out.kept HB6.out (Nat.le_refl _), r2.out.kept HB6.out (Nat.le_refl _)⟩
        have W6 : Hid (Below w.heap.size w wx) := Lib.hid (b2.out.trans (HB6.out.mono WS.out))
        go_wp2_with (first
          | (go_at_call 35; refine (HCL.out _ HB6.out).mono ?_; rintro e w7 ⟨x', hx', rfl, q1, q2, b7⟩; have HXR := Lib.hid hx'; have Q1 := Lib.hid q1; have Q2 := Lib.hid q2; have B7 := Lib.hid b7; rw [En.val_eq]; clear hx' q1 q2 b7 HCL c0 c1 c2' c3)
          | (refine wpList_append_erow _ (by rfl) (.tmp 39) (.tmp 42) (by rfl) w.heap.size A2 c2 l' [x'] _ j 1 1 (by simp [Act.eval]) (by simp [Act.eval]) hl2.out.1 rfl ((RR.out.2.kept B7.out (Nat.le_refl _)).alloc _) (lit_entry w7 x'.k.a x'.v.a x'.k.c x'.v.c x'.k.l x'.v.l x'.s x'.d _ _ rfl rfl) (by have := W6.out.size; have := B7.out.size; simp; omega) (by have := hl2.out; simp only [List.length_singleton]; omega) ?_; intro A8 c8 w8 r8 b8 g8))
        have W7 : w.heap.size ≤ wx.heap.size := W6.out.size
        have R8 := Lib.hid r8
        have G8 : (w7.alloc (.cells #[.slice x'.k.a x'.k.l.length x'.k.c, .int .i64 x'.s, .bool x'.d, .slice x'.v.a x'.v.l.length x'.v.c] 26)).grownBy w8 (Value.slice A2 l'.length c2).ownBlock := by rw [hl2.out.1]; exact g8
        have hE := (RR.out.2.kept B7.out (Nat.le_refl _)).alloc (.cells #[.slice x'.k.a x'.k.l.length x'.k.c, .int .i64 x'.s, .bool x'.d, .slice x'.v.a x'.v.l.length x'.v.c] 26)
        have CM := Lib.hid ((((RR.out.1.kept B7.out (Nat.le_refl _)).kept (below_new w7 _) (Nat.le_refl _)).besideE hE G8))
        have Q3 := Lib.hid (Row.mono ((Q1.out.kept (below_new w7 _) (Nat.le_refl _)).besideE hE G8) W7)
        have Q4 := Lib.hid (Row.mono ((Q2.out.kept (below_new w7 _) (Nat.le_refl _)).besideE hE G8) W7)
        have CB : Hid (Below w.heap.size w w8) := Lib.hid (((W6.out.trans (B7.out.mono W7)).alloc (by have := B7.out.size; omega) _).trans b8)
        clear hE G8 g8 b8 r8 W7
        go_wp2_with fail
        go_roundw
        case rel => exact ⟨k + 1, j + 1, A8, c8, l' ++ [x'], by omega, by go_num, rfl, Lib.hid ⟨by rw [List.length_append, hl2.out.1]; rfl, by have := hl2.out; omega⟩, Lib.hid (by rw [ers_append, hr.out, HST.out, HT.out, ← HXR.out]; rfl), Lib.hid (CM.out.snoc Q3.out Q4.out), Lib.hid R8.out, CB⟩
        case measure => simp [intOf]; omega
      have d1 : decide (s < x.s) = false := decide_eq_false hs
      obtain ⟨bb, hbb⟩ : ∃ bb, lastB (aheadE (ers l) k) x.rd s = bb := ⟨_, rfl⟩
      have HLA : Hid (Calls Try.prog 46 #[.slice (some ad) n c, .int .i64 k, .int .i64 s] wx fun e w' => e = .returned (.bool bb) ∧ ∃ q, w' = wx.drewN q) := Lib.hid (by
        have := isLast_any (some ad) l n c k s _ wx HN.out (HP.out _ BX.out) (HI.out _ BX.out) HL9.out HQ.out
        rwa [hbb] at this)
      have HTK : Hid (thinK s b (aheadE (ers l) k) x.rd = (bb && !(b && x.d))) := Lib.hid (by rw [thinK_low hs, hbb]; rfl)
      clear hbb hs
      cases bb
      · have HT : Hid (thinK s b (aheadE (ers l) k) x.rd = false) := Lib.hid (by rw [HTK.out]; rfl)
        go_wp2_with (go_at_call 46; refine HLA.out.mono ?_; rintro e w6 ⟨rfl, q6, hw6⟩; have B6 : Hid (Below wx.heap.size wx w6) := Lib.hid (by rw [hw6]; exact below_drewN (Below.refl _ _) q6); obtain ⟨c0, c1, c2', c3⟩ := box_four (HOB.out w6 B6.out); clear hw6)
        have R6 : Hid (Below wr.heap.size wr w6) := Lib.hid (below_then BR.out B6.out)
        go_roundw
        case rel => exact ⟨k + 1, j, A2, c2, l', by omega, by go_num, rfl, Lib.hid ⟨hl2.out.1, by have := hl2.out; omega⟩, Lib.hid (by rw [HST.out, HT.out, hr.out]; simp), Lib.hid (hm.out.kept R6.out (Nat.le_refl _)), Lib.hid (r2.out.kept R6.out (Nat.le_refl _)), Lib.hid (b2.out.trans (R6.out.mono WS.out))⟩
        case measure => simp [intOf]; omega
      cases b
      · have HT : Hid (thinK s false (aheadE (ers l) k) x.rd = true) := Lib.hid (by rw [HTK.out]; rfl)
        go_upto_region 8 with (go_at_call 46; refine HLA.out.mono ?_; rintro e w6 ⟨rfl, q6, hw6⟩; have B6 : Hid (Below wx.heap.size wx w6) := Lib.hid (by rw [hw6]; exact below_drewN (Below.refl _ _) q6); obtain ⟨c0, c1, c2', c3⟩ := box_four (HOB.out w6 B6.out); clear hw6)
        have HB6 : Hid (Below wr.heap.size wr w6) := Lib.hid (below_then BR.out B6.out)
        have RR : Hid (EMades w6 w.heap.size l' ∧ Erow w6 w.heap.size A2 c2 l') := Lib.hid ⟨hm.out.kept HB6.out (Nat.le_refl _), r2.out.kept HB6.out (Nat.le_refl _)⟩
        have W6 : Hid (Below w.heap.size w w6) := Lib.hid (b2.out.trans (HB6.out.mono WS.out))
        go_wp2_with (first
          | (go_at_call 35; refine (HCL.out _ HB6.out).mono ?_; rintro e w7 ⟨x', hx', rfl, q1, q2, b7⟩; have HXR := Lib.hid hx'; have Q1 := Lib.hid q1; have Q2 := Lib.hid q2; have B7 := Lib.hid b7; rw [En.val_eq]; clear hx' q1 q2 b7 HCL c0 c1 c2' c3)
          | (refine wpList_append_erow _ (by rfl) (.tmp 39) (.tmp 42) (by rfl) w.heap.size A2 c2 l' [x'] _ j 1 1 (by simp [Act.eval]) (by simp [Act.eval]) hl2.out.1 rfl ((RR.out.2.kept B7.out (Nat.le_refl _)).alloc _) (lit_entry w7 x'.k.a x'.v.a x'.k.c x'.v.c x'.k.l x'.v.l x'.s x'.d _ _ rfl rfl) (by have := W6.out.size; have := B7.out.size; simp; omega) (by have := hl2.out; simp only [List.length_singleton]; omega) ?_; intro A8 c8 w8 r8 b8 g8))
        have W7 : w.heap.size ≤ w6.heap.size := W6.out.size
        have R8 := Lib.hid r8
        have G8 : (w7.alloc (.cells #[.slice x'.k.a x'.k.l.length x'.k.c, .int .i64 x'.s, .bool x'.d, .slice x'.v.a x'.v.l.length x'.v.c] 26)).grownBy w8 (Value.slice A2 l'.length c2).ownBlock := by rw [hl2.out.1]; exact g8
        have hE := (RR.out.2.kept B7.out (Nat.le_refl _)).alloc (.cells #[.slice x'.k.a x'.k.l.length x'.k.c, .int .i64 x'.s, .bool x'.d, .slice x'.v.a x'.v.l.length x'.v.c] 26)
        have CM := Lib.hid ((((RR.out.1.kept B7.out (Nat.le_refl _)).kept (below_new w7 _) (Nat.le_refl _)).besideE hE G8))
        have Q3 := Lib.hid (Row.mono ((Q1.out.kept (below_new w7 _) (Nat.le_refl _)).besideE hE G8) W7)
        have Q4 := Lib.hid (Row.mono ((Q2.out.kept (below_new w7 _) (Nat.le_refl _)).besideE hE G8) W7)
        have CB : Hid (Below w.heap.size w w8) := Lib.hid (((W6.out.trans (B7.out.mono W7)).alloc (by have := B7.out.size; omega) _).trans b8)
        clear hE G8 g8 b8 r8 W7
        go_wp2_with fail
        go_roundw
        case rel => exact ⟨k + 1, j + 1, A8, c8, l' ++ [x'], by omega, by go_num, rfl, Lib.hid ⟨by rw [List.length_append, hl2.out.1]; rfl, by have := hl2.out; omega⟩, Lib.hid (by rw [ers_append, hr.out, HST.out, HT.out, ← HXR.out]; rfl), Lib.hid (CM.out.snoc Q3.out Q4.out), Lib.hid R8.out, CB⟩
        case measure => simp [intOf]; omega
      obtain ⟨d, hd⟩ : ∃ d, x.d = d := ⟨_, rfl⟩
      have HD := Lib.hid hd
      rw [hd] at HTK HOB HCL c2'
      rw [hd]
      clear hd
      cases d
      · have HT : Hid (thinK s true (aheadE (ers l) k) x.rd = true) := Lib.hid (by rw [HTK.out]; rfl)
        go_upto_region 8 with (go_at_call 46; refine HLA.out.mono ?_; rintro e w6 ⟨rfl, q6, hw6⟩; have B6 : Hid (Below wx.heap.size wx w6) := Lib.hid (by rw [hw6]; exact below_drewN (Below.refl _ _) q6); obtain ⟨c0, c1, c2', c3⟩ := box_four (HOB.out w6 B6.out); clear hw6)
        have HB6 : Hid (Below wr.heap.size wr w6) := Lib.hid (below_then BR.out B6.out)
        have RR : Hid (EMades w6 w.heap.size l' ∧ Erow w6 w.heap.size A2 c2 l') := Lib.hid ⟨hm.out.kept HB6.out (Nat.le_refl _), r2.out.kept HB6.out (Nat.le_refl _)⟩
        have W6 : Hid (Below w.heap.size w w6) := Lib.hid (b2.out.trans (HB6.out.mono WS.out))
        go_wp2_with (first
          | (go_at_call 35; refine (HCL.out _ HB6.out).mono ?_; rintro e w7 ⟨x', hx', rfl, q1, q2, b7⟩; have HXR := Lib.hid hx'; have Q1 := Lib.hid q1; have Q2 := Lib.hid q2; have B7 := Lib.hid b7; rw [En.val_eq]; clear hx' q1 q2 b7 HCL c0 c1 c2' c3)
          | (refine wpList_append_erow _ (by rfl) (.tmp 39) (.tmp 42) (by rfl) w.heap.size A2 c2 l' [x'] _ j 1 1 (by simp [Act.eval]) (by simp [Act.eval]) hl2.out.1 rfl ((RR.out.2.kept B7.out (Nat.le_refl _)).alloc _) (lit_entry w7 x'.k.a x'.v.a x'.k.c x'.v.c x'.k.l x'.v.l x'.s x'.d _ _ rfl rfl) (by have := W6.out.size; have := B7.out.size; simp; omega) (by have := hl2.out; simp only [List.length_singleton]; omega) ?_; intro A8 c8 w8 r8 b8 g8))
        have W7 : w.heap.size ≤ w6.heap.size := W6.out.size
        have R8 := Lib.hid r8
        have G8 : (w7.alloc (.cells #[.slice x'.k.a x'.k.l.length x'.k.c, .int .i64 x'.s, .bool x'.d, .slice x'.v.a x'.v.l.length x'.v.c] 26)).grownBy w8 (Value.slice A2 l'.length c2).ownBlock := by rw [hl2.out.1]; exact g8
        have hE := (RR.out.2.kept B7.out (Nat.le_refl _)).alloc (.cells #[.slice x'.k.a x'.k.l.length x'.k.c, .int .i64 x'.s, .bool x'.d, .slice x'.v.a x'.v.l.length x'.v.c] 26)
        have CM := Lib.hid ((((RR.out.1.kept B7.out (Nat.le_refl _)).kept (below_new w7 _) (Nat.le_refl _)).besideE hE G8))
        have Q3 := Lib.hid (Row.mono ((Q1.out.kept (below_new w7 _) (Nat.le_refl _)).besideE hE G8) W7)
        have Q4 := Lib.hid (Row.mono ((Q2.out.kept (below_new w7 _) (Nat.le_refl _)).besideE hE G8) W7)
        have CB : Hid (Below w.heap.size w w8) := Lib.hid (((W6.out.trans (B7.out.mono W7)).alloc (by have := B7.out.size; omega) _).trans b8)
        clear hE G8 g8 b8 r8 W7
        go_wp2_with fail
        go_roundw
        case rel => exact ⟨k + 1, j + 1, A8, c8, l' ++ [x'], by omega, by go_num, rfl, Lib.hid ⟨by rw [List.length_append, hl2.out.1]; rfl, by have := hl2.out; omega⟩, Lib.hid (by rw [ers_append, hr.out, HST.out, HT.out, ← HXR.out]; rfl), Lib.hid (CM.out.snoc Q3.out Q4.out), Lib.hid R8.out, CB⟩
        case measure => simp [intOf]; omega
      · have HT : Hid (thinK s true (aheadE (ers l) k) x.rd = false) := Lib.hid (by rw [HTK.out]; rfl)
        go_wp2_with (go_at_call 46; refine HLA.out.mono ?_; rintro e w6 ⟨rfl, q6, hw6⟩; have B6 : Hid (Below wx.heap.size wx w6) := Lib.hid (by rw [hw6]; exact below_drewN (Below.refl _ _) q6); obtain ⟨c0, c1, c2', c3⟩ := box_four (HOB.out w6 B6.out); clear hw6)
        have R6 : Hid (Below wr.heap.size wr w6) := Lib.hid (below_then BR.out B6.out)
        go_roundw
        case rel => exact ⟨k + 1, j, A2, c2, l', by omega, by go_num, rfl, Lib.hid ⟨hl2.out.1, by have := hl2.out; omega⟩, Lib.hid (by rw [HST.out, HT.out, hr.out]; simp), Lib.hid (hm.out.kept R6.out (Nat.le_refl _)), Lib.hid (r2.out.kept R6.out (Nat.le_refl _)), Lib.hid (b2.out.trans (R6.out.mono WS.out))⟩
        case measure => simp [intOf]; omega
    · obtain rfl : k = n := by omega
      have hr' := hr.out
      rw [List.take_of_length_le (by rw [ers_len]; have := HN.out; omega)] at hr'
      have HR := Lib.hid hr'
      clear hr'
      go_wp2_with fail
      go_ret2
      exact ⟨l', _, _, _, rfl, hl2.out.1, HR.out, hm.out, r2.out, b2.out⟩
end Go.Proofs.Ytkodhlaojlgejaa
namespace Go.Proofs.Ytkodhlaojlgejaa
open Go.RowKit
/-- Some of the entries, or the refusal. -/
def EPick (ok : Bool) (P : List Er) (l : List En) (w : World) (e : Ending) (w' : World) : Prop := ∃ (l' : List En) (A' : Option Addr) (n' c' : Nat), e = .returned (.tuple #[.slice A' n' c', .int .i64 (if ok = true then 0 else 30)]) ∧ l'.length = n' ∧ ers l' = (if ok = true then P else []) ∧ (∀ p ∈ l', p ∈ l) ∧ Erow w' w.heap.size A' c' l' ∧ Below w.heap.size w w'
set_option maxRecDepth 100000 in
set_option maxHeartbeats 8000000 in
theorem refThin_any (A : Option Addr) (l : List En) (n c : Nat) (s : Int) (b : Bool) (w : World) (hn : l.length = n) (h : Lies w A (evals l)) (hi : EIns w l) (hl : n * 64 ≤ 140737488351232) (hk : ∀ q ∈ l, q.k.l.length ≤ 281474976710656) :
    Calls Try.prog 30 #[.slice A n c, .int .i64 s, .bool b] w (EPick (decide (OrdL (ers l))) (thinE s b (ers l)) l w) := by
  have HMS := Lib.hid (refOrdered_any A l n c w hn h hi (by omega) hk)
  obtain ⟨od, hod⟩ : ∃ od, decide (OrdL (ers l)) = od := ⟨_, rfl⟩
  rw [hod] at HMS ⊢
  have HP := Lib.hid (fun (w' : World) (hb : Below w.heap.size w w') => h.kept hb)
  have HI := Lib.hid (fun (w' : World) (hb : Below w.heap.size w w') => hi.kept hb)
  have HN := Lib.hid hn
  have HL9 := Lib.hid hl
  clear h hi hn hk hod
  cases od
  · go_enter Try.func30, Try.ntmps30
    go_wp2_with (go_at_call 31; refine HMS.out.mono ?_; rintro e w2 ⟨rfl, b2⟩; have B2 := Lib.hid b2; clear b2)
    go_ret2
    exact ⟨[], none, 0, 0, rfl, rfl, rfl, (fun _ h => by cases h), Erow.nil _ _, B2.out⟩
  go_enter Try.func30, Try.ntmps30
  go_wp2_with (go_at_call 31; refine HMS.out.mono ?_; rintro e w2 ⟨rfl, b2⟩; have B2 := Lib.hid b2; clear b2)
  go_loopw [8, 15] (fun t8 t15 wr => ∃ (k j : Nat) (A2 : Option Addr) (c2 : Nat) (l' : List En), k ≤ n ∧ t15 = .int .i64 k ∧ t8 = .slice A2 j c2 ∧ Hid (l'.length = j ∧ j ≤ k) ∧ Hid (ers l' = pickF (thinK s b) none ((ers l).take k)) ∧ Hid (∀ p ∈ l', p ∈ l) ∧ Hid (Erow wr w.heap.size A2 c2 l') ∧ Hid (Below w.heap.size w wr)) (fun _ t15 _ => n - (intOf t15).toNat)
  case atStart => exact ⟨0, 0, none, 0, [], by omega, rfl, rfl, Lib.hid ⟨rfl, Nat.le_refl _⟩, Lib.hid rfl, Lib.hid (fun _ h => by cases h), Lib.hid (Erow.nil _ _), B2⟩
  case round =>
    obtain ⟨k, j, A2, c2, l', hk, rfl, rfl, hl2, hr, hm, r2, b2⟩ := hrel
    by_cases hlt : k < n
    · have hq := List.getElem?_eq_getElem (l := l) (i := k) (by have := HN.out; omega)
      generalize l[k]'(by have := HN.out; omega) = x at hq
      obtain ⟨ad, rfl, a0, a1, a2, a3⟩ := lies_entry (HP.out _ b2.out) hq
      have hmem := List.mem_of_getElem? hq
      have HX := Lib.hid (fun (w' : World) (hb : Below w.heap.size w w') => HI.out w' hb x hmem)
      have HQ := Lib.hid hq
      have HMEM := Lib.hid hmem
      have HST : Hid (∀ s, pickF (thinK s b) none ((ers l).take (k + 1)) = pickF (thinK s b) none ((ers l).take k) ++ (if thinK s b (aheadE (ers l) k) x.rd = true then [x.rd] else [])) := Lib.hid (fun s => thin_step (ers_get hq))
      obtain ⟨m, hm2⟩ : ∃ m, x.k.l.length = m := ⟨_, rfl⟩
      obtain ⟨z, hz2⟩ : ∃ z, x.v.l.length = z := ⟨_, rfl⟩
      rw [hm2] at a0
      rw [hz2] at a3
      have HM2 := Lib.hid (And.intro hm2 hz2)
      have k0 : (k : Int) < n := by omega
      have WS : Hid (w.heap.size ≤ wr.heap.size) := Lib.hid b2.out.size
      have HA : Hid (∀ W, Below w.heap.size w W → W.cell? (ad.add (k * 4)) = some (.slice x.k.a m x.k.c) ∧ W.cell? ⟨(ad.add (k * 4)).block, (ad.add (k * 4)).off + 1, none⟩ = some (.int .i64 x.s) ∧ W.cell? ⟨(ad.add (k * 4)).block, (ad.add (k * 4)).off + 2, none⟩ = some (.bool x.d) ∧ W.cell? ⟨(ad.add (k * 4)).block, (ad.add (k * 4)).off + 3, none⟩ = some (.slice x.v.a z x.v.c)) := Lib.hid (fun W hb => by
        have := lies_entry_at (HP.out W hb) HQ.out
        unfold AtE at this
        rwa [HM2.out.1, HM2.out.2] at this)
      clear hq hm2 hz2 hmem
      by_cases hs0 : s < x.s
      · have d1 : decide (s < x.s) = true := decide_eq_true hs0
        have HT : Hid (thinK s b (aheadE (ers l) k) x.rd = true) := Lib.hid (thinK_high hs0)
        clear hs0
        have HBB : Hid (Below wr.heap.size wr wr) := Lib.hid (Below.refl wr.heap.size wr)
        have HWB : Hid (Below w.heap.size w wr) := Lib.hid (b2.out)
        go_wp2_with (refine wpList_append_erow _ (by rfl) (.tmp 25) (.tmp 30) (by rfl) w.heap.size A2 c2 l' [x] _ j 1 1 (by simp [Act.eval]) (by simp [Act.eval]) hl2.out.1 rfl ((r2.out.kept HBB.out (Nat.le_refl _)).alloc _) (lit_entry wr x.k.a x.v.a x.k.c x.v.c x.k.l x.v.l x.s x.d m z HM2.out.1 HM2.out.2) (by have := HWB.out.size; simp; omega) (by have := hl2.out; simp only [List.length_singleton]; omega) ?_; intro A8 c8 w8 r8 b8 g8)
        have R8 := Lib.hid r8
        have CB : Hid (Below w.heap.size w w8) := Lib.hid ((HWB.out.alloc HWB.out.size _).trans b8)
        clear g8 b8 r8 a0 a1 a2 a3
        go_wp2_with fail
        go_roundw
        case rel => exact ⟨k + 1, j + 1, A8, c8, l' ++ [x], by omega, by go_num, rfl, Lib.hid ⟨by rw [List.length_append, hl2.out.1]; rfl, by have := hl2.out; omega⟩, Lib.hid (by rw [ers_append, hr.out, HST.out, HT.out]; rfl), Lib.hid (fun p hp => (List.mem_append.1 hp).elim (hm.out p) (fun hp => by rw [List.mem_singleton.1 hp]; exact HMEM.out)), Lib.hid R8.out, CB⟩
        case measure => simp [intOf]; omega
      have d1 : decide (s < x.s) = false := decide_eq_false hs0
      have HTK := Lib.hid (thinK_low (p := aheadE (ers l) k) (e := x.rd) (b := b) hs0)
      have HXS : Hid (x.s ≤ s) := Lib.hid (by omega)
      clear hs0
      obtain ⟨sk, hsk⟩ : ∃ sk, skipB (aheadE (ers l) k) x.rd s = sk := ⟨_, rfl⟩
      have HSK := Lib.hid hsk
      clear hsk
      go_upto_region 9 with fail
      go_cut [59] from 32 to 59 (fun t43 wx => t43 = .bool sk ∧ ∃ q, wx = wr.drewN q)
      case first =>
        obtain h0 | ⟨i, hik⟩ : k = 0 ∨ ∃ i, k = i + 1 := by
          cases k with
          | zero => exact .inl rfl
          | succ i => exact .inr ⟨i, rfl⟩
        · have d0 : decide ((0 : Int) < k) = false := decide_eq_false (by omega)
          have d0n : decide (0 < k) = false := decide_eq_false (by omega)
          have d0m : ¬ (0 : Int) < k := by omega
          have d0k : ¬ 0 < k := by omega
          have HS : Hid (sk = false) := Lib.hid (by rw [← HSK.out, aheadE, if_pos h0]; rfl)
          clear h0
          go_quiet (fail)
          go_wp2_with fail
          go_meet
          exact ⟨by rw [HS.out], _, rfl⟩
        have d0 : (0 : Int) < k := by omega
        have d0n : 0 < k := by omega
        have hp := List.getElem?_eq_getElem (l := l) (i := i) (by have := HN.out; omega)
        generalize l[i]'(by have := HN.out; omega) = p at hp
        have e1 : aheadE (ers l) k = some p.rd := by rw [aheadE, if_neg (by omega), show k - 1 = i by omega]; exact ers_get hp
        obtain ⟨b0, b1, -, -⟩ := lies_entry_at (HP.out _ b2.out) hp
        have IP := HI.out wr b2.out p (List.mem_of_getElem? hp)
        have IX := HX.out wr b2.out
        have w1 : wrap64 ((k : Int) - 1) = (i : Int) := by unfold wrap64; omega
        have w2 : IntKind.i64.wrap ((k : Int) - 1) = (i : Int) := by rw [IntKind.wrap_i64]; omega
        have j0 : (i : Int) < n := by omega
        obtain ⟨pn, hpn⟩ : ∃ m, p.k.l.length = m := ⟨_, rfl⟩
        rw [hpn] at b0
        have C0 := conv_drew IP.1.bys pn p.k.c hpn
        have C1 := conv_drew IX.1.bys m x.k.c HM2.out.1
        have hE := toList_dec IP.1.byt IX.1.byt
        have HS : Hid (sk = (decide (p.k.l = x.k.l) && decide (p.s ≤ s))) := Lib.hid (by rw [← HSK.out, e1]; rfl)
        clear hp e1 IP IX hpn hik
        by_cases he : p.k.l = x.k.l
        · rw [decide_eq_true he] at hE HS
          by_cases hs : p.s ≤ s
          · have d1 : decide (p.s ≤ s) = true := decide_eq_true hs
            rw [d1] at HS
            clear he hs
            go_quiet (fail)
            go_wp2_with fail
            go_meet
            exact ⟨by rw [HS.out]; rfl, _, rfl⟩
          · have d1 : decide (p.s ≤ s) = false := decide_eq_false hs
            rw [d1] at HS
            clear he hs
            go_quiet (fail)
            go_wp2_with fail
            go_meet
            exact ⟨by rw [HS.out]; rfl, _, rfl⟩
        · rw [decide_eq_false he] at hE HS
          clear he
          go_quiet (fail)
          go_wp2_with fail
          go_meet
          exact ⟨by rw [HS.out]; rfl, _, rfl⟩
      case rest =>
        obtain ⟨rfl, qc, hwc⟩ := hcut
        have BC : Hid (Below wr.heap.size wr wc) := Lib.hid (by rw [hwc]; exact below_drewN (Below.refl _ _) qc)
        have WC : Hid (Below w.heap.size w wc) := Lib.hid (b2.out.trans (BC.out.mono WS.out))
        clear hwc a0 a1 a2 a3
        obtain ⟨a0, a1, a2, a3⟩ := HA.out wc WC.out
        have HLS : Hid (thinK s b (aheadE (ers l) k) x.rd = (!sk && !(b && x.d))) := Lib.hid (by rw [HTK.out, last_skip, HSK.out, decide_eq_true (show x.rd.2.1 ≤ s from HXS.out), Bool.true_and]; rfl)
        obtain ⟨d, hd⟩ : ∃ d, x.d = d := ⟨_, rfl⟩
        have HD := Lib.hid hd
        rw [hd] at a2 HLS HA
        clear hd
        cases sk
        · cases d
          · have HT : Hid (thinK s b (aheadE (ers l) k) x.rd = true) := Lib.hid (by rw [HLS.out]; cases b <;> rfl)
            have HBB : Hid (Below wr.heap.size wr wc) := Lib.hid BC.out
            have HWB : Hid (Below w.heap.size w wc) := Lib.hid (WC.out)
            go_wp2_with (refine wpList_append_erow _ (by rfl) (.tmp 70) (.tmp 75) (by rfl) w.heap.size A2 c2 l' [⟨x.k, x.s, false, x.v⟩] _ j 1 1 (by simp [Act.eval]) (by simp [Act.eval]) hl2.out.1 rfl ((r2.out.kept HBB.out (Nat.le_refl _)).alloc _) (lit_entry wc x.k.a x.v.a x.k.c x.v.c x.k.l x.v.l x.s false m z HM2.out.1 HM2.out.2) (by have := HWB.out.size; simp; omega) (by have := hl2.out; simp only [List.length_singleton]; omega) ?_; intro A8 c8 w8 r8 b8 g8)
            have R8 := Lib.hid r8
            have CB : Hid (Below w.heap.size w w8) := Lib.hid ((HWB.out.alloc HWB.out.size _).trans b8)
            clear g8 b8 r8 a0 a1 a2 a3
            go_wp2_with fail
            go_roundw
            case rel => exact ⟨k + 1, j + 1, A8, c8, l' ++ [⟨x.k, x.s, false, x.v⟩], by omega, by go_num, rfl, Lib.hid ⟨by rw [List.length_append, hl2.out.1]; rfl, by have := hl2.out; omega⟩, Lib.hid (by rw [ers_append, hr.out, HST.out, HT.out, show x.rd = (x.k.l, x.s, x.d, x.v.l) from rfl, HD.out]; rfl), Lib.hid (fun p hp => (List.mem_append.1 hp).elim (hm.out p) (fun hp => by rw [List.mem_singleton.1 hp, ← HD.out]; exact HMEM.out)), Lib.hid R8.out, CB⟩
            case measure => simp [intOf]; omega
          cases b
          · have HT : Hid (thinK s false (aheadE (ers l) k) x.rd = true) := Lib.hid (by rw [HLS.out]; rfl)
            have HBB : Hid (Below wr.heap.size wr wc) := Lib.hid BC.out
            have HWB : Hid (Below w.heap.size w wc) := Lib.hid (WC.out)
            go_wp2_with (refine wpList_append_erow _ (by rfl) (.tmp 70) (.tmp 75) (by rfl) w.heap.size A2 c2 l' [⟨x.k, x.s, true, x.v⟩] _ j 1 1 (by simp [Act.eval]) (by simp [Act.eval]) hl2.out.1 rfl ((r2.out.kept HBB.out (Nat.le_refl _)).alloc _) (lit_entry wc x.k.a x.v.a x.k.c x.v.c x.k.l x.v.l x.s true m z HM2.out.1 HM2.out.2) (by have := HWB.out.size; simp; omega) (by have := hl2.out; simp only [List.length_singleton]; omega) ?_; intro A8 c8 w8 r8 b8 g8)
            have R8 := Lib.hid r8
            have CB : Hid (Below w.heap.size w w8) := Lib.hid ((HWB.out.alloc HWB.out.size _).trans b8)
            clear g8 b8 r8 a0 a1 a2 a3
            go_wp2_with fail
            go_roundw
            case rel => exact ⟨k + 1, j + 1, A8, c8, l' ++ [⟨x.k, x.s, true, x.v⟩], by omega, by go_num, rfl, Lib.hid ⟨by rw [List.length_append, hl2.out.1]; rfl, by have := hl2.out; omega⟩, Lib.hid (by rw [ers_append, hr.out, HST.out, HT.out, show x.rd = (x.k.l, x.s, x.d, x.v.l) from rfl, HD.out]; rfl), Lib.hid (fun p hp => (List.mem_append.1 hp).elim (hm.out p) (fun hp => by rw [List.mem_singleton.1 hp, ← HD.out]; exact HMEM.out)), Lib.hid R8.out, CB⟩
            case measure => simp [intOf]; omega
          · have HT : Hid (thinK s true (aheadE (ers l) k) x.rd = false) := Lib.hid (by rw [HLS.out]; rfl)
            go_wp2_with fail
            go_roundw
            case rel => exact ⟨k + 1, j, A2, c2, l', by omega, by go_num, rfl, Lib.hid ⟨hl2.out.1, by have := hl2.out; omega⟩, Lib.hid (by rw [HST.out, HT.out, hr.out]; simp), hm, Lib.hid (r2.out.kept BC.out (Nat.le_refl _)), WC⟩
            case measure => simp [intOf]; omega
        · have HT : Hid (thinK s b (aheadE (ers l) k) x.rd = false) := Lib.hid (by rw [HLS.out]; rfl)
          go_wp2_with fail
          go_roundw
          case rel => exact ⟨k + 1, j, A2, c2, l', by omega, by go_num, rfl, Lib.hid ⟨hl2.out.1, by have := hl2.out; omega⟩, Lib.hid (by rw [HST.out, HT.out, hr.out]; simp), hm, Lib.hid (r2.out.kept BC.out (Nat.le_refl _)), WC⟩
          case measure => simp [intOf]; omega
    · obtain rfl : k = n := by omega
      have hr' := hr.out
      rw [List.take_of_length_le (by rw [ers_len]; have := HN.out; omega)] at hr'
      have HR := Lib.hid hr'
      clear hr'
      go_wp2_with fail
      go_ret2
      exact ⟨l', _, _, _, rfl, hl2.out.1, HR.out, hm.out, r2.out, b2.out⟩
end Go.Proofs.Ytkodhlaojlgejaa
namespace Go.Proofs.Ytkodhlaojlgejaa
/-- Two places of a list, changed for one another. -/
def swapL {α : Type} (T : List α) (i k : Nat) : List α := match T[i]?, T[k]? with
  | some a, some b => (T.set i b).set k a
  | _, _ => T
theorem swapL_len {α : Type} (T : List α) (i k : Nat) : (swapL T i k).length = T.length := by
  unfold swapL
  split <;> simp
theorem swapL_get {α : Type} {T : List α} {i k : Nat} (hi : i < T.length) (hk : k < T.length) (j : Nat) : (swapL T i k)[j]? = if j = k then T[i]? else if j = i then T[k]? else T[j]? := by
  unfold swapL
  rw [List.getElem?_eq_getElem hi, List.getElem?_eq_getElem hk]
  simp only
  by_cases h1 : j = k
  · subst h1
    rw [if_pos rfl, List.getElem?_set_self (by simpa using hk)]
  · rw [if_neg h1, List.getElem?_set_ne (fun e => h1 e.symm)]
    by_cases h2 : j = i
    · subst h2
      rw [if_pos rfl, List.getElem?_set_self hi]
    · rw [if_neg h2, List.getElem?_set_ne (fun e => h2 e.symm)]
theorem swapL_perm {α : Type} {T : List α} {i k : Nat} (hi : i < T.length) (hk : k < T.length) : (swapL T i k).Perm T := by
  unfold swapL
  rw [List.getElem?_eq_getElem hi, List.getElem?_eq_getElem hk]
  exact List.set_set_perm hi hk
section
variable {α : Type} (le : α → α → Prop)
/-- None stands ahead of the one at half its place. -/
def Heaped (T : List α) : Prop := ∀ i s p, 0 < i → T[i]? = some s → T[(i - 1) / 2]? = some p → le p s
def HeapUp (T : List α) (n : Nat) : Prop := (∀ i s p, 0 < i → i ≠ n → T[i]? = some s → T[(i - 1) / 2]? = some p → le p s) ∧ (∀ i s p, 0 < i → 0 < n → (i - 1) / 2 = n → T[i]? = some s → T[(n - 1) / 2]? = some p → le p s)
def HeapDown (T : List α) (n : Nat) : Prop := (∀ i s p, 0 < i → (i - 1) / 2 ≠ n → T[i]? = some s → T[(i - 1) / 2]? = some p → le p s) ∧ (∀ i s p, 0 < i → 0 < n → (i - 1) / 2 = n → T[i]? = some s → T[(n - 1) / 2]? = some p → le p s)
variable {le}
theorem heaped_nil : Heaped le ([] : List α) := fun i s p _ h => by simp at h
theorem heaped_up {T : List α} (h : Heaped le T) (x : α) : HeapUp le (T ++ [x]) T.length := by
  refine ⟨fun i s p h0 hn hs hp => ?_, fun i s p h0 hn hi hs hp => ?_⟩
  · have h1 := (List.getElem?_eq_some_iff.1 hs).1
    rw [List.length_append, List.length_singleton] at h1
    rw [List.getElem?_append_left (by omega)] at hs hp
    exact h i s p h0 hs hp
  · have h1 := (List.getElem?_eq_some_iff.1 hs).1
    rw [List.length_append, List.length_singleton] at h1
    omega
theorem up_done {T : List α} {n : Nat} (h : HeapUp le T n) (hd : ∀ s p, 0 < n → T[n]? = some s → T[(n - 1) / 2]? = some p → le p s) : Heaped le T := fun i s p h0 hs hp => by
  by_cases e : i = n
  · subst e
    exact hd s p h0 hs hp
  · exact h.1 i s p h0 e hs hp
theorem up_step {T : List α} {n : Nat} {x q : α} (tr : ∀ a b c, le a b → le b c → le a c) (h : HeapUp le T n) (hn : 0 < n) (hx : T[n]? = some x) (hq : T[(n - 1) / 2]? = some q) (hl : le x q) : HeapUp le (swapL T n ((n - 1) / 2)) ((n - 1) / 2) := by
  have n1 := (List.getElem?_eq_some_iff.1 hx).1
  obtain ⟨m, hm⟩ : ∃ m, (n - 1) / 2 = m := ⟨_, rfl⟩
  rw [hm] at hq ⊢
  have hmn : m < n := by omega
  have G := swapL_get (T := T) (i := n) (k := m) n1 (by omega)
  refine ⟨fun i s p h0 hi hs hp => ?_, fun i s p h0 hm0 hi hs hp => ?_⟩
  · rw [G, if_neg hi] at hs
    rw [G] at hp
    by_cases e1 : i = n
    · subst e1
      rw [if_pos rfl, hq] at hs
      rw [if_pos hm, hx] at hp
      injection hs with hs
      injection hp with hp
      subst hs hp
      exact hl
    · rw [if_neg e1] at hs
      by_cases e2 : (i - 1) / 2 = m
      · rw [if_pos e2, hx] at hp
        injection hp with hp
        subst hp
        exact tr _ _ _ hl (h.1 i s q h0 e1 hs (by rw [e2]; exact hq))
      · rw [if_neg e2] at hp
        by_cases e3 : (i - 1) / 2 = n
        · rw [if_pos e3, hq] at hp
          injection hp with hp
          subst hp
          exact h.2 i s q h0 hn e3 hs (by rw [hm]; exact hq)
        · rw [if_neg e3] at hp
          exact h.1 i s p h0 e1 hs hp
  · rw [G, if_neg (by omega), if_neg (by omega)] at hp
    have hqp : le p q := h.1 m q p hm0 (by omega) hq hp
    rw [G, if_neg (by omega)] at hs
    by_cases e1 : i = n
    · rw [if_pos e1, hq] at hs
      injection hs with hs
      subst hs
      exact hqp
    · rw [if_neg e1] at hs
      exact tr _ _ _ hqp (h.1 i s q h0 e1 hs (by rw [hi]; exact hq))
theorem heaped_down {T T' : List α} (h : Heaped le T) (hs : ∀ i, 0 < i → i < T'.length → T'[i]? = T[i]?) : HeapDown le T' 0 := by
  refine ⟨fun i s p h0 hi h1 h2 => ?_, fun i s p h0 hn => by omega⟩
  have := (List.getElem?_eq_some_iff.1 h1).1
  rw [hs i h0 this] at h1
  rw [hs _ (by omega) (by omega)] at h2
  exact h i s p h0 h1 h2
theorem down_done {T : List α} {n : Nat} (h : HeapDown le T n) (hd : ∀ i s p, 0 < i → (i - 1) / 2 = n → T[i]? = some s → T[n]? = some p → le p s) : Heaped le T := fun i s p h0 hs hp => by
  by_cases e : (i - 1) / 2 = n
  · rw [e] at hp
    exact hd i s p h0 e hs hp
  · exact h.1 i s p h0 e hs hp
theorem down_step {T : List α} {n m : Nat} {x q : α} (tr : ∀ a b c, le a b → le b c → le a c) (h : HeapDown le T n) (hm0 : 0 < m) (hm : (m - 1) / 2 = n) (hx : T[m]? = some x) (hq : T[n]? = some q) (hl : le x q) (hmin : ∀ i s, 0 < i → (i - 1) / 2 = n → T[i]? = some s → le x s) : HeapDown le (swapL T m n) m := by
  have n1 := (List.getElem?_eq_some_iff.1 hx).1
  have n2 := (List.getElem?_eq_some_iff.1 hq).1
  have G := swapL_get (T := T) (i := m) (k := n) n1 n2
  refine ⟨fun i s p h0 hi hs hp => ?_, fun i s p h0 hn hi hs hp => ?_⟩
  · rw [G] at hs hp
    by_cases e1 : i = n
    · subst e1
      rw [if_pos rfl, hx] at hs
      rw [if_neg (by omega), if_neg (by omega)] at hp
      injection hs with hs
      subst hs
      exact h.2 m x p hm0 h0 hm hx hp
    · rw [if_neg e1] at hs
      by_cases e2 : (i - 1) / 2 = n
      · rw [if_pos e2, hx] at hp
        injection hp with hp
        subst hp
        by_cases e3 : i = m
        · rw [if_pos e3, hq] at hs
          injection hs with hs
          subst hs
          exact hl
        · rw [if_neg e3] at hs
          exact hmin i s h0 e2 hs
      · rw [if_neg e2, if_neg hi] at hp
        by_cases e3 : i = m
        · omega
        · rw [if_neg e3] at hs
          exact h.1 i s p h0 e2 hs hp
  · rw [G, if_neg (by omega), if_neg (by omega)] at hs
    rw [G, hm, if_pos rfl, hx] at hp
    injection hp with hp
    subst hp
    exact h.1 i s x h0 (by omega) hs (by rw [hi]; exact hx)
theorem heaped_least {T : List α} (tr : ∀ a b c, le a b → le b c → le a c) (rf : ∀ a, le a a) (h : Heaped le T) {r : α} (hr : T[0]? = some r) : ∀ (i : Nat) (s : α), T[i]? = some s → le r s := by
  intro i
  induction i using Nat.strongRecOn with
  | _ i ih =>
    intro s hs
    rcases Nat.eq_zero_or_pos i with e | e
    · subst e
      rw [hr] at hs
      injection hs with hs
      subst hs
      exact rf _
    · have hlt : (i - 1) / 2 < T.length := by have := (List.getElem?_eq_some_iff.1 hs).1; omega
      have hp := List.getElem?_eq_getElem hlt
      exact tr _ _ _ (ih _ (by omega) _ hp) (h i s _ e hs hp)
end
/-- Stands ahead of, or at its place. -/
def leE (x y : Er) : Prop := ordE x y ≤ 0
theorem leE_refl (x : Er) : leE x x := by
  unfold leE
  rw [ordE_self]
  exact Int.le_refl _
theorem ordE_same {x x' y : Er} (h : ordE x x' = 0) : ordE x y = ordE x' y := by
  obtain ⟨h1, h2⟩ := ordE_zero.1 h
  unfold ordE
  rw [h1, h2]
theorem leE_trans (x y z : Er) (h : leE x y) (g : leE y z) : leE x z := by
  unfold leE at *
  rcases Int.lt_or_eq_of_le h with h | h
  · rcases Int.lt_or_eq_of_le g with g | g
    · exact Int.le_of_lt (ordE_trans h g)
    · have e := ordE_same (y := x) g
      have f1 := ordE_flip x y
      have f2 := ordE_flip x z
      omega
  · rw [ordE_same h]
    exact g
theorem not_ahead {x y : Er} (h : ¬ ordE x y < 0) : leE y x := by
  unfold leE
  have := ordE_flip x y
  omega
end Go.Proofs.Ytkodhlaojlgejaa
namespace Go.Proofs.Ytkodhlaojlgejaa
open Go.RowKit
theorem Grow.high {w : World} {B : Nat} {A : Option Addr} {c : Nat} {T : List Gl} (h : Grow w B A c T) (k : Nat) (hk : k ≤ T.length) : Grow w B A c (T.take k) := by
  have hl : (T.take k).length = k := by rw [List.length_take]; omega
  rcases h with ⟨h1, h2⟩
  unfold Grow
  rw [hl]
  refine ⟨by rw [gvals_len, hl]; simp, ?_⟩
  rcases h2 with ⟨e, h0⟩ | ⟨g, cap, cur, e, k1, k2, k3, k4, k5, k6⟩
  · injection e with e1 e2 e3
    subst e1 e3
    have : k = 0 := by omega
    subst this
    exact .inl ⟨rfl, rfl⟩
  · injection e with e1 e2 e3
    subst e1 e3
    refine .inr ⟨g, c, cur, rfl, k1, k2, by omega, k4, k5, ?_⟩
    have e4 : gvals (T.take k) = (gvals T).take k := by simp [gvals, List.map_take]
    rw [e4, ← k6, List.take_take]
    congr 1
    simp
    omega
theorem grow_at {w : World} {B : Nat} {A : Option Addr} {c k : Nat} {T : List Gl} (h : Grow w B A c T) (hk : k < T.length) : ∃ g s, A = some ⟨g, 0, none⟩ ∧ T[k]? = some s ∧ w.cell? ⟨g, k, none⟩ = some s.val ∧ w.frozen? ⟨g, k, none⟩ = false ∧ ∀ u : Gl, Grow (w.setCell ⟨g, k, none⟩ u.val) B A c (T.set k u) := by
  have h' := h
  rcases h.2 with ⟨_, h0⟩ | ⟨g, cap, cur, e, h1, _⟩
  · omega
  · injection e with e1 e2 e3
    subst e1
    subst e3
    unfold Grow at h'
    refine ⟨g, T[k], rfl, List.getElem?_eq_getElem hk, ?_, h'.frozenAt _, fun u => ?_⟩
    · rw [h'.cellAt k (by omega)]
      simp [gvals, hk]
    · have := (h'.stored k u.val).1
      unfold Grow
      have e : (gvals T).set k u.val = gvals (T.set k u) := by simp [gvals, List.map_set]
      rw [List.length_set, ← e]
      exact this
/-- A list that isn't empty, and lies. -/
def GIn (w : World) (s : Gl) : Prop := s.l ≠ [] ∧ Lies w s.a (evals s.l) ∧ EIns w s.l ∧ s.l.length ≤ s.c ∧ (s.c : Int) ≤ 9223372036854775807
theorem GIn.kept {w W : World} {s : Gl} (h : GIn w s) (hb : Below w.heap.size w W) : GIn W s := ⟨h.1, h.2.1.kept hb, h.2.2.1.kept hb, h.2.2.2⟩
/-- Its first entry. -/
def hdE (s : Gl) : Er := match s.l with
  | [] => ([], 0, false, [])
  | x :: _ => x.rd
theorem hd_of {s : Gl} {x : En} (h : s.l[0]? = some x) : hdE s = x.rd := by
  unfold hdE
  cases hl : s.l with
  | nil => rw [hl] at h; simp at h
  | cons y l => rw [hl] at h; simp at h; subst h; rfl
theorem GIn.head {w : World} {s : Gl} (h : GIn w s) : ∃ (ad : Addr) (x : En), s.a = some ad ∧ s.l[0]? = some x ∧ AtE w ad x ∧ EIn w x := by
  obtain ⟨x, hx⟩ : ∃ x, s.l[0]? = some x := by
    cases hl : s.l with
    | nil => exact absurd hl h.1
    | cons y l => exact ⟨y, rfl⟩
  obtain ⟨ad, e, hA⟩ := lies_entry h.2.1 hx
  have e0 : ad.add (0 * 4) = ad := by
    obtain ⟨a, b, c⟩ := ad
    rfl
  rw [e0] at hA
  exact ⟨ad, x, e, hx, hA, h.2.2.1 x (List.mem_of_getElem? hx)⟩
/-- The heap, as it lies. -/
structure Hp (w0 W : World) (hb : Nat) (A : Option Addr) (c : Nat) (T : List Gl) : Prop where
  low : w0.heap.size ≤ hb
  obj : W.heap[hb]? = some (.cells #[.slice A T.length c, .func (.func 57) #[] #[]] 93 (0, 0))
  row : Grow W w0.heap.size A c T
  bel : Below w0.heap.size w0 W
  ins : ∀ s ∈ T, GIn w0 s
theorem Hp.kept {w0 W W' : World} {hb : Nat} {A : Option Addr} {c : Nat} {T : List Gl} (h : Hp w0 W hb A c T) (hw : Below W.heap.size W W') : Hp w0 W' hb A c T :=
  ⟨h.low, (hw.block _ (Array.getElem?_eq_some_iff.1 h.obj).1).trans h.obj, h.row.kept hw (Nat.le_refl _), h.bel.trans (hw.mono h.bel.size), h.ins⟩
theorem Hp.cells {w0 W : World} {hb : Nat} {A : Option Addr} {c : Nat} {T : List Gl} (h : Hp w0 W hb A c T) : W.cell? ⟨hb, 0, none⟩ = some (.slice A T.length c) ∧ W.cell? ⟨hb, 1, none⟩ = some (.func (.func 57) #[] #[]) := by
  refine ⟨?_, ?_⟩ <;> simp [World.cell?, h.obj]
set_option maxRecDepth 100000 in
set_option maxHeartbeats 4000000 in
theorem hlen_any {w0 W : World} {hb : Nat} {A : Option Addr} {c : Nat} {T : List Gl} (h : Hp w0 W hb A c T) : Calls Try.prog 59 #[.pointer (some ⟨hb, 0, none⟩)] W fun e w' => e = .returned (.int .i64 T.length) ∧ w' = W := by
  obtain ⟨n, hn⟩ : ∃ n, T.length = n := ⟨_, rfl⟩
  obtain ⟨c0, -⟩ := h.cells
  rw [hn] at c0 ⊢
  clear h hn
  go_enter Try.func59, Try.ntmps59
  go_wp2_with fail
  go_ret
  exact ⟨rfl, rfl⟩
set_option maxRecDepth 100000 in
set_option maxHeartbeats 4000000 in
theorem hord_any (x y : Gl) (W : World) (hx : GIn W x) (hy : GIn W y) : Calls Try.prog 57 #[x.val, y.val] W fun e w' => e = .returned (.int .i64 (ordE (hdE x) (hdE y))) ∧ Below W.heap.size W w' := by
  obtain ⟨ax, p, ex, hp, -, -⟩ := hx.head
  obtain ⟨ay, q, ey, hq, -, -⟩ := hy.head
  rw [hd_of hp, hd_of hq]
  obtain ⟨n, hn⟩ : ∃ n, x.l.length = n := ⟨_, rfl⟩
  obtain ⟨m, hm⟩ : ∃ m, y.l.length = m := ⟨_, rfl⟩
  have n0 : 0 < n := by have := (List.getElem?_eq_some_iff.1 hp).1; omega
  have m0 : 0 < m := by have := (List.getElem?_eq_some_iff.1 hq).1; omega
  have n1 : (0 : Int) < n := by omega
  have m1 : (0 : Int) < m := by omega
  have n2 : n ≠ 0 := by omega
  have m2 : m ≠ 0 := by omega
  obtain ⟨pn, hpn⟩ : ∃ m, p.k.l.length = m := ⟨_, rfl⟩
  obtain ⟨pv, hpv⟩ : ∃ m, p.v.l.length = m := ⟨_, rfl⟩
  obtain ⟨qn, hqn⟩ : ∃ m, q.k.l.length = m := ⟨_, rfl⟩
  obtain ⟨qv, hqv⟩ : ∃ m, q.v.l.length = m := ⟨_, rfl⟩
  have HS : Hid (∀ V, Below W.heap.size W V → (V.cell? ax = some (.slice p.k.a pn p.k.c) ∧ V.cell? ⟨ax.block, ax.off + 1, none⟩ = some (.int .i64 p.s) ∧ V.cell? ⟨ax.block, ax.off + 2, none⟩ = some (.bool p.d) ∧ V.cell? ⟨ax.block, ax.off + 3, none⟩ = some (.slice p.v.a pv p.v.c)) ∧ V.cell? ay = some (.slice q.k.a qn q.k.c) ∧ V.cell? ⟨ay.block, ay.off + 1, none⟩ = some (.int .i64 q.s) ∧ V.cell? ⟨ay.block, ay.off + 2, none⟩ = some (.bool q.d) ∧ V.cell? ⟨ay.block, ay.off + 3, none⟩ = some (.slice q.v.a qv q.v.c)) := Lib.hid (fun V hb => by
    obtain ⟨a1, p1, e1, h1, k1, -⟩ := (hx.kept hb).head
    obtain ⟨a2, q1, e2, h2, k2, -⟩ := (hy.kept hb).head
    rw [ex] at e1
    rw [ey] at e2
    injection e1 with e1
    injection e2 with e2
    rw [hp] at h1
    rw [hq] at h2
    injection h1 with h1
    injection h2 with h2
    subst e1 e2 h1 h2
    unfold AtE at k1 k2
    rw [hpn, hpv] at k1
    rw [hqn, hqv] at k2
    exact ⟨k1, k2⟩)
  have HO : Hid (∀ V, Below W.heap.size W V → Calls Try.prog 39 #[.agg #[.slice p.k.a pn p.k.c, .int .i64 p.s, .bool p.d, .slice p.v.a pv p.v.c], .agg #[.slice q.k.a qn q.k.c, .int .i64 q.s, .bool q.d, .slice q.v.a qv q.v.c]] V fun e w' => e = .returned (.int .i64 (ordE p.rd q.rd)) ∧ Below V.heap.size V w') := Lib.hid (fun V hb => by
    have := order_any p q V ((hx.2.2.1.kept hb) p (List.mem_of_getElem? hp)) ((hy.2.2.1.kept hb) q (List.mem_of_getElem? hq))
    rwa [En.val_eq, En.val_eq, hpn, hpv, hqn, hqv] at this)
  unfold Gl.val
  rw [ex, ey, hn, hm]
  have BB := Lib.hid (Below.refl W.heap.size W)
  clear hx hy ex ey hp hq hn hm hpn hpv hqn hqv
  go_enter Try.func57, Try.ntmps57
  go_upto_region 1 with fail
  go_region_held3 (fun V => (V.cell? ax = some (.slice p.k.a pn p.k.c) ∧ V.cell? ⟨ax.block, ax.off + 1, none⟩ = some (.int .i64 p.s) ∧ V.cell? ⟨ax.block, ax.off + 2, none⟩ = some (.bool p.d) ∧ V.cell? ⟨ax.block, ax.off + 3, none⟩ = some (.slice p.v.a pv p.v.c)) ∧ V.cell? ay = some (.slice q.k.a qn q.k.c) ∧ V.cell? ⟨ay.block, ay.off + 1, none⟩ = some (.int .i64 q.s) ∧ V.cell? ⟨ay.block, ay.off + 2, none⟩ = some (.bool q.d) ∧ V.cell? ⟨ay.block, ay.off + 3, none⟩ = some (.slice q.v.a qv q.v.c)) (first | exact HS.out _ BB.out | exact HS.out _ BB.out.drew | go_keep) (first
    | (go_at_call 39; refine (HO.out _ (by first | exact BB.out | exact BB.out.drew)).mono ?_; rintro e w2 ⟨rfl, b2⟩; have BB : Hid (Below W.heap.size W w2) := Lib.hid (below_then (by first | exact BB.out | exact BB.out.drew) b2); clear b2))
  all_goals
    go_wp2_with fail
    go_ret
    exact ⟨rfl, BB.out⟩
end Go.Proofs.Ytkodhlaojlgejaa
namespace Go.Proofs.Ytkodhlaojlgejaa
open Go.RowKit
set_option maxRecDepth 100000 in
set_option maxHeartbeats 4000000 in
theorem parent_any (n : Nat) (W : World) (hn : 0 < n) (h9 : (n : Int) ≤ 4611686018427387904) : Calls Try.prog 64 #[.int .i64 n] W fun e w' => e = .returned (.int .i64 ((n - 1) / 2 : Nat)) ∧ w' = W := by
  obtain ⟨m, hm⟩ : ∃ m : Nat, n - 1 = m := ⟨_, rfl⟩
  have w1 : wrap64 ((n : Int) - 1) = (m : Int) := by unfold wrap64; omega
  have w2 : wrap64 ((m : Int) / 2) = ((m / 2 : Nat) : Int) := by unfold wrap64; omega
  have HM := Lib.hid hm
  clear hm h9 hn
  go_enter Try.func64, Try.ntmps64
  go_wp2_with fail
  go_ret
  exact ⟨by rw [HM.out]; show Ending.returned (.int .i64 (wrap64 ((m : Int) / 2))) = _; rw [w2], rfl⟩
set_option maxRecDepth 100000 in
set_option maxHeartbeats 4000000 in
theorem child_any (n : Nat) (W : World) (h9 : (n : Int) ≤ 2305843009213693952) : Calls Try.prog 66 #[.int .i64 n] W fun e w' => e = .returned (.int .i64 (2 * n + 1 : Nat)) ∧ w' = W := by
  obtain ⟨m, hm⟩ : ∃ m : Nat, 2 * n = m := ⟨_, rfl⟩
  have w1 : wrap64 (2 * (n : Int)) = (m : Int) := by unfold wrap64; omega
  have w2 : wrap64 ((m : Int) + 1) = ((m + 1 : Nat) : Int) := by unfold wrap64; omega
  have HM := Lib.hid hm
  clear hm h9
  go_enter Try.func66, Try.ntmps66
  go_wp2_with fail
  go_ret
  exact ⟨by rw [HM.out]; show Ending.returned (.int .i64 (wrap64 ((m : Int) + 1))) = _; rw [w2], rfl⟩
theorem Hp.at_ {w0 W : World} {hb : Nat} {A : Option Addr} {c : Nat} {T : List Gl} (h : Hp w0 W hb A c T) {i : Nat} {s : Gl} (hs : T[i]? = some s) : ∃ g, A = some ⟨g, 0, none⟩ ∧ W.cell? ⟨g, i, none⟩ = some s.val := by
  obtain ⟨g, s', e, h1, h2, -⟩ := grow_at h.row (List.getElem?_eq_some_iff.1 hs).1
  rw [hs] at h1
  injection h1 with h1
  subst h1
  exact ⟨g, e, h2⟩
set_option maxRecDepth 100000 in
set_option maxHeartbeats 4000000 in
theorem isAhead_any {w0 W : World} {hb : Nat} {A : Option Addr} {c : Nat} {T : List Gl} (h : Hp w0 W hb A c T) (i k : Nat) (s p : Gl) (hs : T[i]? = some s) (hp : T[k]? = some p) : Calls Try.prog 63 #[.pointer (some ⟨hb, 0, none⟩), .int .i64 i, .int .i64 k] W fun e w' => e = .returned (.bool (decide (ordE (hdE s) (hdE p) < 0))) ∧ Below W.heap.size W w' := by
  obtain ⟨n, hn⟩ : ∃ n, T.length = n := ⟨_, rfl⟩
  have HH := Lib.hid h
  obtain ⟨g, rfl, -⟩ := h.at_ hs
  have hi := (List.getElem?_eq_some_iff.1 hs).1
  have hk := (List.getElem?_eq_some_iff.1 hp).1
  have i0 : (i : Int) < n := by omega
  have k0 : (k : Int) < n := by omega
  obtain ⟨d, hd⟩ : ∃ d, ordE (hdE s) (hdE p) = d := ⟨_, rfl⟩
  rw [hd]
  obtain ⟨sn, hsn⟩ : ∃ m, s.l.length = m := ⟨_, rfl⟩
  obtain ⟨pn, hpn⟩ : ∃ m, p.l.length = m := ⟨_, rfl⟩
  have HS : Hid (∀ V, Below W.heap.size W V → (V.cell? ⟨hb, 0, none⟩ = some (.slice (some ⟨g, 0, none⟩) n c) ∧ V.cell? ⟨hb, 1, none⟩ = some (.func (.func 57) #[] #[])) ∧ V.cell? ⟨g, i, none⟩ = some (.slice s.a sn s.c) ∧ V.cell? ⟨g, k, none⟩ = some (.slice p.a pn p.c)) := Lib.hid (fun V hV => by
    have h' := HH.out.kept hV
    obtain ⟨g1, e1, a1⟩ := h'.at_ hs
    obtain ⟨g2, e2, a2⟩ := h'.at_ hp
    injection e1 with e1
    injection e1 with e1
    injection e2 with e2
    injection e2 with e2
    subst e1 e2
    have := h'.cells
    rw [hn] at this
    unfold Gl.val at a1 a2
    rw [hsn] at a1
    rw [hpn] at a2
    exact ⟨this, a1, a2⟩)
  have HO : Hid (∀ V, Below W.heap.size W V → Calls Try.prog 57 #[.slice s.a sn s.c, .slice p.a pn p.c] V fun e w' => e = .returned (.int .i64 d) ∧ Below V.heap.size V w') := Lib.hid (fun V hV => by
    have := hord_any s p V ((HH.out.ins s (List.mem_of_getElem? hs)).kept (HH.out.bel.trans (hV.mono HH.out.bel.size))) ((HH.out.ins p (List.mem_of_getElem? hp)).kept (HH.out.bel.trans (hV.mono HH.out.bel.size)))
    unfold Gl.val at this
    rwa [hsn, hpn, hd] at this)
  have BB := Lib.hid (Below.refl W.heap.size W)
  clear h hs hp hn hd hsn hpn hi hk
  go_enter Try.func63, Try.ntmps63
  go_upto_region 1 with fail
  go_region_held3 (fun V => (V.cell? ⟨hb, 0, none⟩ = some (.slice (some ⟨g, 0, none⟩) n c) ∧ V.cell? ⟨hb, 1, none⟩ = some (.func (.func 57) #[] #[])) ∧ V.cell? ⟨g, i, none⟩ = some (.slice s.a sn s.c) ∧ V.cell? ⟨g, k, none⟩ = some (.slice p.a pn p.c)) (first | exact HS.out _ BB.out | exact HS.out _ BB.out.drew | go_keep) (first
    | (go_at_call 57; refine (HO.out _ (by first | exact BB.out | exact BB.out.drew)).mono ?_; rintro e w2 ⟨rfl, b2⟩; have BB : Hid (Below W.heap.size W w2) := Lib.hid (below_then (by first | exact BB.out | exact BB.out.drew) b2); clear b2))
  all_goals
    go_wp2_with fail
    go_ret
    exact ⟨rfl, BB.out⟩
end Go.Proofs.Ytkodhlaojlgejaa
