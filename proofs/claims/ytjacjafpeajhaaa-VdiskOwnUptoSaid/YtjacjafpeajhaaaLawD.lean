/-
  The law VdiskSurvives, walked.
-/
import Derived.Test.YtjacjafpeajhaaaLawC
namespace Go.Proofs.Ytjacjafpeajhaaa
open Go.RowKit
open Go.Maps

theorem PlIn.kept {w w' : World} {ops room : Int} {K : Option Addr} {keep : List Int} {kn kc : Nat} (h : PlIn w ops room K keep kn kc) (hb : Below w.heap.size w w') : PlIn w' ops room K keep kn kc := ⟨h.len, Lies.kept h.ints hb, h.ki, h.ops, h.room, h.few⟩
theorem PlIn.again {w w' : World} {ops room : Int} {K K' : Option Addr} {keep : List Int} {kn kc kc' : Nat} (h : PlIn w ops room K keep kn kc) (hk : Ints w' K' keep) : PlIn w' ops room K' keep kn kc' := ⟨h.len, hk, h.ki, h.ops, h.room, h.few⟩
theorem plan_n {w : World} {ops room : Int} {K : Option Addr} {keep : List Int} {kn kc : Nat} (h : PlIn w ops room K keep kn kc) : Calls Try.prog 12 #[.agg #[.int .i64 ops, .int .i64 room, .slice K kn kc]] w fun e w' => ∃ A' c', e = .returned (.agg #[.int .i64 ops, .int .i64 room, .slice A' kn c']) ∧ Irow w' w.heap.size A' c' keep ∧ Below w.heap.size w w' :=
  plan_any ops room K keep kn kc w h.len h.ints (by have := h.few; omega)

theorem two1 (w : World) (xs ys : Array Value) (t u : TypeId) (j : Nat) (v : Value) (h : xs[j]? = some v) : ((w.alloc (.cells xs t)).alloc (.cells ys u)).cell? ⟨w.heap.size, j, none⟩ = some v :=
  (World.cell?_of_block ((below_new (w.alloc (.cells xs t)) (.cells ys u)).block _ (by simp))).trans ((lit_cell w xs t j).trans h)
theorem two2 (w : World) (xs ys : Array Value) (t u : TypeId) (j : Nat) (v : Value) (h : ys[j]? = some v) : ((w.alloc (.cells xs t)).alloc (.cells ys u)).cell? ⟨w.heap.size + 1, j, none⟩ = some v := by
  have := lit_cell (w.alloc (.cells xs t)) ys u j
  rw [show (w.alloc (.cells xs t)).heap.size = w.heap.size + 1 by simp] at this
  exact this.trans h
theorem two_below (w : World) (o o' : Obj) : Below w.heap.size w ((w.alloc o).alloc o') := (below_new w o).alloc (by simp) o'

set_option maxRecDepth 100000 in
set_option maxHeartbeats 8000000 in
theorem lawSurvives (A : Option Addr) (l : List Fl) (n c : Nat) (ops room : Int) (K : Option Addr) (keep : List Int) (kn kc : Nat) (w : World) (h : FsIn w A l n c) (hp : PlIn w ops room K keep kn kc) :
    Calls Try.prog 4 #[.slice A n c, .agg #[.int .i64 ops, .int .i64 room, .slice K kn kc]] w fun e w' => e = .returned (.bool true) ∧ Below w.heap.size w w' := by
  have H := Lib.hid (And.intro h hp)
  have hn47 : n ≤ 140737488355328 := by have := h.few; omega
  obtain ⟨w0, hw0⟩ : ∃ w0, w.alloc (.cells #[.int .i64 ops, .int .i64 room, .slice K kn kc] 25) = w0 := ⟨_, rfl⟩
  have B0 : Hid (Below w.heap.size w w0) := Lib.hid (hw0 ▸ below_new _ _)
  have HZ : Hid (w0.cell? ⟨w.heap.size, 0, none⟩ = some (.int .i64 ops) ∧ w0.cell? ⟨w.heap.size, 1, none⟩ = some (.int .i64 room) ∧ w0.cell? ⟨w.heap.size, 2, none⟩ = some (.slice K kn kc)) := Lib.hid (by rw [← hw0]; exact ⟨lit_cell w _ _ 0, lit_cell w _ _ 1, lit_cell w _ _ 2⟩)
  have HS0 : Hid (w0.heap.size = w.heap.size + 1) := Lib.hid (by rw [← hw0]; simp)
  have HK : Hid (∀ W, Below w0.heap.size w0 W → W.cell? ⟨w.heap.size, 0, none⟩ = some (.int .i64 ops) ∧ W.cell? ⟨w.heap.size, 1, none⟩ = some (.int .i64 room) ∧ W.cell? ⟨w.heap.size, 2, none⟩ = some (.slice K kn kc)) := Lib.hid (fun W hb => by
    have e := hb.block w.heap.size (by have := HS0.out; omega)
    exact ⟨(World.cell?_of_block e).trans HZ.out.1, (World.cell?_of_block e).trans HZ.out.2.1, (World.cell?_of_block e).trans HZ.out.2.2⟩)
  have HCP := Lib.hid (fun (W : World) (hb : Below w.heap.size w W) => copy_n (H.out.1.kept hb))
  have HPL := Lib.hid (fun (W : World) (hb : Below w.heap.size w W) => plan_n (H.out.2.kept hb))
  have HOF := Lib.hid (fun (W : World) (l' : List Fl) (A' : Option Addr) (c' : Nat) (K' : Option Addr) (kc' : Nat) (h1 : FsIn W A' l' n c') (h2 : l'.map Fl.rd = l.map Fl.rd) (h3 : Ints W K' keep) => of_n (kc := kc') h1 h2 (H.out.2.again h3))
  clear h hp
  obtain ⟨r, hr⟩ : ∃ r, ofE l = r := ⟨_, rfl⟩
  rw [hr] at HOF
  have HR := Lib.hid hr
  clear hr
  by_cases h0 : r = 0
  · subst h0
    go_enter Try.func4, Try.ntmps4
    go_upto_region 3 with (go_at_call 9; refine (wakes_any w0).mono ?_; rintro e w1 ⟨rfl, hb⟩; have B1 := Lib.hid hb; clear hb)
    have D1 : Hid (Below w.heap.size w w1) := Lib.hid (B0.out.trans (B1.out.mono B0.out.size))
    go_region_held3 (fun W => W.cell? ⟨w.heap.size, 0, none⟩ = some (.int .i64 ops) ∧ W.cell? ⟨w.heap.size, 1, none⟩ = some (.int .i64 room) ∧ W.cell? ⟨w.heap.size, 2, none⟩ = some (.slice K kn kc)) (first | exact HK.out _ B7.out | exact HK.out _ B6.out | exact HK.out _ B5.out | exact HK.out _ B1.out | exact HK.out _ B1.out.drew | go_keep) (first
      | (go_at_call 11; refine (HCP.out _ (by repeat (first | exact D1.out | refine Below.drew ?_))).mono ?_; rintro e w5 ⟨l5, A5, c5, rfl, h51, h52, h53, h54⟩; have E5 : Hid (FsIn w5 A5 l5 n c5 ∧ l5.map Fl.rd = l.map Fl.rd) := Lib.hid ⟨copied_in (H.out.1.kept D1.out) h51 h52 h53, h51⟩; have B5 : Hid (Below w0.heap.size w0 w5) := Lib.hid (B1.out.trans (((by repeat (first | exact Below.refl _ _ | refine Below.drew ?_) : Below w1.heap.size w1 _).trans h54).mono B1.out.size)); have D5 : Hid (Below w.heap.size w w5) := Lib.hid (B0.out.trans (B5.out.mono B0.out.size)); clear h51 h52 h53 h54)
      | (go_at_call 12; refine (HPL.out _ (by repeat (first | exact D5.out | refine Below.drew ?_))).mono ?_; rintro e w6 ⟨A6, c6, rfl, h61, h62⟩; have B6 : Hid (Below w0.heap.size w0 w6) := Lib.hid (B5.out.trans (((by repeat (first | exact Below.refl _ _ | refine Below.drew ?_) : Below w5.heap.size w5 _).trans h62).mono B5.out.size)); have E6 : Hid (FsIn w6 A5 l5 n c5 ∧ Ints w6 A6 keep) := Lib.hid ⟨E5.out.1.kept ((by repeat (first | exact Below.refl _ _ | refine Below.drew ?_) : Below w5.heap.size w5 _).trans h62), h61.lies⟩; clear h61 h62)
      | (go_at_call 10; refine (HOF.out _ l5 A5 c5 A6 c6 (by first | exact E6.out.1 | exact E6.out.1.kept (Below.refl _ _).drew) E5.out.2 (by first | exact E6.out.2 | exact Lies.kept E6.out.2 (Below.refl _ _).drew)).mono ?_; rintro e w7 ⟨hb7, h7⟩; obtain ⟨-, g, p, rfl, h71, h72⟩ := h7.resolve_left (fun h => h.1 rfl); have B7 : Hid (Below w0.heap.size w0 w7) := Lib.hid (B6.out.trans (((by repeat (first | exact Below.refl _ _ | refine Below.drew ?_) : Below w6.heap.size w6 _).trans hb7).mono B6.out.size)); have E7 : Hid (PSt w7 w0.heap.size g p ∧ p.vm = m0 l ops room keep) := Lib.hid ⟨h71.mono (by first | exact B6.out.size | (have := B6.out.size; simpa using this)), h72⟩; clear hb7 h7 h71 h72))
    have HFI : Hid (Fits (m0 l ops room keep) 0) := Lib.hid (m0_fits H.out.1 ops room keep)
    have HSN : Hid (Sane (m0 l ops room keep).fs) := Lib.hid (insAll_sane (ofE_zero HR.out).2.2)
    have HLN : Hid ((m0 l ops room keep).fs.length = n) := Lib.hid (by show ((insAll l).map Fl.rd).length = n; rw [List.length_map, insAll_len]; exact H.out.1.len)
    obtain ⟨M0, hM0⟩ : ∃ M, m0 l ops room keep = M := ⟨_, rfl⟩
    rw [hM0] at E7 HFI HSN HLN
    clear hM0 hw0
    obtain ⟨M1, hM1⟩ : ∃ M, M0.revive 0 (-1) [] = M := ⟨_, rfl⟩
    have HM1 := Lib.hid hM1
    have HF1 : Hid (Fits M1 0 ∧ M1.fs.length = n ∧ M1.room = -1 ∧ M1.left = 0 ∧ M1.down = false ∧ M1.fs = revL M0.keep 0 M0.fs) := Lib.hid (by rw [← hM1]; exact ⟨revL_fits HFI.out HSN.out, (revL_len HSN.out).trans HLN.out, rfl, rfl, rfl, rfl⟩)
    clear hM1
    have LO : Hid (w.heap.size ≤ w0.heap.size) := Lib.hid B0.out.size
    have D7 : Hid (Below w.heap.size w w7) := Lib.hid (B0.out.trans (B7.out.mono B0.out.size))
    go_upto_region 10 with (first
      | (go_at_call 16; have P7 := Lib.hid E7.out; clear E7; refine (dump_n P7.out.1 P7.out.2 HFI.out HLN.out).mono ?_; rintro e w8 ⟨l8, A8, c8, rfl, h81, h82, h83⟩; have E8 : Hid (l8.map Fl.rd = M0.fs ∧ Keep7 w8 w7.heap.size A8 c8 l8 (p.own g) ∧ PSt w8 w0.heap.size g p) := Lib.hid ⟨h81, h82, P7.out.1.kept h83⟩; have D8 : Hid (Below w.heap.size w w8) := Lib.hid (D7.out.trans (h83.mono D7.out.size)); clear h81 h82 h83)
      | (go_at_call 17; refine (revive_vm w0.heap.size g p M0 M1 0 (-1) none [] 0 0 w8 E8.out.2.2 P7.out.2 HSN.out HFI.out rfl (.inl rfl) (fun ad e => by cases e) (by decide) (fun x hx => (List.not_mem_nil hx).elim) (by decide) (by decide) HM1.out).mono ?_; rintro e w9 ⟨rfl, p1, h91, h92, h93⟩; have E9 : Hid (PSt w9 w0.heap.size g p1 ∧ p1.vm = M1 ∧ Keep7 w9 w7.heap.size A8 c8 l8 (p1.own g)) := Lib.hid ⟨h91, h92, E8.out.2.1.does h93⟩; have D9 : Hid (Below w.heap.size w w9) := Lib.hid (D8.out.trans ((Rest.below E8.out.2.2 ⟨p1, h91, h92, h93⟩).mono LO.out)); clear h91 h92 h93)
      | (go_at_call 16; refine (dump_n E9.out.1 E9.out.2.1 HF1.out.1 HF1.out.2.1).mono ?_; rintro e w10 ⟨l10, A10, c10, rfl, h81, h82, h83⟩; have E10 : Hid (l10.map Fl.rd = M1.fs ∧ Keep7 w10 w9.heap.size A10 c10 l10 (p1.own g) ∧ PSt w10 w0.heap.size g p1 ∧ Keep7 w10 w7.heap.size A8 c8 l8 (p1.own g)) := Lib.hid ⟨h81, h82, E9.out.1.kept h83, E9.out.2.2.below h83⟩; have D10 : Hid (Below w.heap.size w w10) := Lib.hid (D9.out.trans (h83.mono D9.out.size)); clear h81 h82 h83))
    have HLO : Hid (∀ (i : Nat) (x y : Fl), l8[i]? = some x → l10[i]? = some y → LeftOf x.rd y.rd) := Lib.hid (fun i x y hx hy => by
      have h1 : M0.fs[i]? = some x.rd := by rw [← E8.out.1, List.getElem?_map, hx]; rfl
      have h2 : (revL M0.keep 0 M0.fs)[i]? = some y.rd := by rw [← HF1.out.2.2.2.2.2, ← E10.out.1, List.getElem?_map, hy]; rfl
      exact (revL_left M0.keep M0.fs 0 HSN.out).2 i _ _ h1 h2)
    have HLL : Hid (l8.length = n ∧ l10.length = n) := Lib.hid (by
      have h1 := congrArg List.length E8.out.1
      have h2 := congrArg List.length E10.out.1
      rw [List.length_map] at h1 h2
      exact ⟨h1.trans HLN.out, h2.trans HF1.out.2.1⟩)
    have HBY : Hid ((∀ q ∈ l8, Byt q.d.l) ∧ ∀ q ∈ l10, Byt q.d.l) := Lib.hid (by
      have hb0 : ∀ x ∈ M0.fs, Byt x.2.1 := fun x hx => by
        have h9 := P7.out.2
        rw [← h9] at hx
        obtain ⟨q, hq, rfl⟩ := List.mem_map.1 hx
        exact (P7.out.1.inn.file q hq).byt
      refine ⟨fun q hq => hb0 q.rd (by rw [← E8.out.1]; exact List.mem_map_of_mem hq), fun q hq => ?_⟩
      have hq2 : q.rd ∈ revL M0.keep 0 M0.fs := by
        rw [← HF1.out.2.2.2.2.2, ← E10.out.1]
        exact List.mem_map_of_mem hq
      obtain ⟨a, ha, -, -, -, -, h5⟩ := revL_mem HSN.out hq2
      have := (hb0 a ha).take q.rd.2.1.length
      rw [← h5] at this
      exact this)
    go_wp2_with fail
    go_loopw [48] (fun t48 wr => ∃ i : Nat, i ≤ n ∧ t48 = .int .i64 i ∧ Hid (Below w10.heap.size w10 wr)) (fun t48 _ => n - (intOf t48).toNat)
    case atStart => exact ⟨0, by omega, rfl, Lib.hid (Below.refl _ _)⟩
    case round =>
      obtain ⟨i, hi, rfl, hb⟩ := hrel
      by_cases hlt : i < n
      · have hx := List.getElem?_eq_getElem (l := l8) (i := i) (by have := HLL.out.1; omega)
        generalize l8[i]'(by have := HLL.out.1; omega) = x at hx
        have hy := List.getElem?_eq_getElem (l := l10) (i := i) (by have := HLL.out.2; omega)
        generalize l10[i]'(by have := HLL.out.2; omega) = y at hy
        obtain ⟨e1, e2, e3, e4, e5⟩ := HLO.out i x y hx hy
        have hbx := HBY.out.1 x (List.mem_of_getElem? hx)
        have hby := HBY.out.2 y (List.mem_of_getElem? hy)
        have hdx := E10.out.2.2.2.data x (List.mem_of_getElem? hx)
        have hdy := E10.out.2.1.data y (List.mem_of_getElem? hy)
        obtain ⟨ad8, rfl, a0, a1, a2⟩ := lies_file (E10.out.2.2.2.below hb.out).row.lies hx
        obtain ⟨ad10, rfl, c0, c1, c2⟩ := lies_file (E10.out.2.1.below hb.out).row.lies hy
        have HXY : Hid (∀ W, Below wr.heap.size wr W → AtF W (ad8.add (i * 3)) x ∧ AtF W (ad10.add (i * 3)) y) := Lib.hid (fun W hb' => ⟨lies_file_at ((E10.out.2.2.2.below hb.out).row.lies.kept hb') hx, lies_file_at ((E10.out.2.1.below hb.out).row.lies.kept hb') hy⟩)
        obtain ⟨xs, ⟨xa, xc, xl⟩, xy⟩ := x
        obtain ⟨ys, ⟨ya, yc, yl⟩, yy⟩ := y
        unfold Fl.rd at e1 e2 e3 e4 e5
        unfold AtF at HXY
        simp only at HXY e1 e2 e3 e4 e5 a0 a1 a2 c0 c1 c2 hbx hby hdx hdy
        subst e1
        subst e2
        obtain ⟨m1, hm1⟩ : ∃ m1, xl.length = m1 := ⟨_, rfl⟩
        obtain ⟨m2, hm2⟩ : ∃ m2, yl.length = m2 := ⟨_, rfl⟩
        rw [hm1] at HXY a1 e4
        rw [hm2] at HXY c1 c2 e3 e4 e5
        have HX := Lib.hid (And.intro hdx (And.intro hdy (And.intro hbx (And.intro hby (And.intro hm1 (And.intro hm2 e5))))))
        clear hx hy hbx hby hdx hdy hm1 hm2 e5
        go_upto_region 15 with fail
        go_cut [10, 11] from 51 to 58 (fun t10 t11 wx => ∃ ba bb, t10 = .pointer (some ⟨ba, 0, none⟩) ∧ t11 = .pointer (some ⟨bb, 0, none⟩) ∧ Hid ((wx.cell? ⟨ba, 0, none⟩ = some (.string ys) ∧ wx.cell? ⟨ba, 1, none⟩ = some (.slice xa m1 xc) ∧ wx.cell? ⟨ba, 2, none⟩ = some (.int .i64 xy)) ∧ wx.cell? ⟨bb, 0, none⟩ = some (.string ys) ∧ wx.cell? ⟨bb, 1, none⟩ = some (.slice ya m2 yc) ∧ wx.cell? ⟨bb, 2, none⟩ = some (.int .i64 m2)) ∧ Hid (Below wr.heap.size wr wx))
        case first =>
          go_region_held3 (fun W => (W.cell? (ad8.add (i * 3)) = some (.string ys) ∧ W.cell? ⟨(ad8.add (i * 3)).block, (ad8.add (i * 3)).off + 1, none⟩ = some (.slice xa m1 xc) ∧ W.cell? ⟨(ad8.add (i * 3)).block, (ad8.add (i * 3)).off + 2, none⟩ = some (.int .i64 xy)) ∧ W.cell? (ad10.add (i * 3)) = some (.string ys) ∧ W.cell? ⟨(ad10.add (i * 3)).block, (ad10.add (i * 3)).off + 1, none⟩ = some (.slice ya m2 yc) ∧ W.cell? ⟨(ad10.add (i * 3)).block, (ad10.add (i * 3)).off + 2, none⟩ = some (.int .i64 m2)) (first | exact HXY.out _ (by repeat (first | exact Below.refl _ _ | refine Below.drew ?_ | refine Below.setCell ?_ (Nat.le_refl _) _ | refine Below.alloc ?_ (Nat.le_refl _) _ | refine Below.alloc ?_ (by simp) _ | refine Below.setCell ?_ (by simp) _)) | go_keep) (fail)
          · go_wp2_with fail
            go_meet
            exact ⟨_, _, rfl, rfl, Lib.hid ⟨⟨two1 _ _ _ _ _ 0 _ rfl, two1 _ _ _ _ _ 1 _ rfl, two1 _ _ _ _ _ 2 _ rfl⟩, two2 _ _ _ _ _ 0 _ rfl, two2 _ _ _ _ _ 1 _ rfl, two2 _ _ _ _ _ 2 _ rfl⟩, Lib.hid (two_below _ _ _).drew⟩
          · go_wp2_with fail
            go_meet
            exact ⟨_, _, rfl, rfl, Lib.hid ⟨⟨two2 _ _ _ _ _ 0 _ rfl, two2 _ _ _ _ _ 1 _ rfl, two2 _ _ _ _ _ 2 _ rfl⟩, two1 _ _ _ _ _ 0 _ rfl, two1 _ _ _ _ _ 1 _ rfl, two1 _ _ _ _ _ 2 _ rfl⟩, Lib.hid (two_below _ _ _).drew⟩
        case rest =>
          obtain ⟨ba, bb, rfl, rfl, hcl, hbl⟩ := hcut
          obtain ⟨⟨k0, k1, k2⟩, k3, k4, k5⟩ := hcl.out
          clear hcl
          have HBW : Hid (Below w10.heap.size w10 wc) := Lib.hid (hb.out.trans (hbl.out.mono hb.out.size))
          have hmc : m1 ≤ xc := by have := (own_cap HX.out.1).1; rw [HX.out.2.2.2.2.1] at this; exact this
          have HXB : Hid (∀ W, Below w10.heap.size w10 W → Bys W xa xl ∧ Bys W ya yl) := Lib.hid (fun W hW => ⟨HX.out.1.lies.kept hW, HX.out.2.1.lies.kept hW⟩)
          have HSM : Hid (∀ W, Below w10.heap.size w10 W → Calls Try.prog 18 #[.slice ya m2 yc, .slice xa m2 xc] W fun e w' => e = .returned (.bool true) ∧ w' = W) := Lib.hid (fun W hW => by
            have h1 := (slice_high (HXB.out W hW).1 m1 m2 xc HX.out.2.2.2.2.1 e4 hmc).2
            rw [← HX.out.2.2.2.2.2.2] at h1
            have := sameB_any ya xa yl yl m2 m2 yc xc W HX.out.2.2.2.2.2.1 HX.out.2.2.2.2.2.1 (HXB.out W hW).2 h1 HX.out.2.2.2.1 HX.out.2.2.2.1
            rw [decide_eq_true rfl] at this
            exact this.mono (fun _ _ h => ⟨h.1, h.2.symm⟩))
          obtain ⟨sl, -⟩ := slice_high (HXB.out wc HBW.out).1 m1 m2 xc HX.out.2.2.2.2.1 e4 hmc
          have f1 : decide ((m2 : Int) < xy) = false := by simp; omega
          have f2 : decide ((m1 : Int) < (m2 : Int)) = false := by simp; omega
          go_upto_region 16 with fail
          go_quiet (first | (go_at_call 18; refine Calls.quiet_of_same (HSM.out _ (below_drewN HBW.out _))))
          go_wp2_with fail
          go_roundw
          case rel => exact ⟨i + 1, by omega, by go_num, Lib.hid (below_drewN HBW.out _)⟩
          case measure => simp [intOf]; omega
      · obtain rfl : i = n := by omega
        have HAP : Hid (∀ W, Below w10.heap.size w10 W → Calls Try.prog 19 #[.pointer (some ⟨g, 0, none⟩), .string ⟨#[97]⟩, .slice none 0 0] W fun e w' => e = .returned (.int .i64 20) ∧ ∃ p2, PSt w' w0.heap.size g p2 ∧ p2.vm = { M1 with down := true } ∧ Keep7 w' w9.heap.size A10 c10 l10 (p2.own g) ∧ Below w.heap.size w w') := Lib.hid (fun W hW => by
          have hp := E10.out.2.2.1.kept hW
          have hv := E9.out.2.1
          have d1 : p1.down = false := (congrArg Vm.down hv).trans HF1.out.2.2.2.2.1
          refine (append_crash w0.heap.size g p1 ⟨#[97]⟩ none 0 0 W hp (by decide) (by rw [d1]; rfl) (by rw [show p1.room = -1 from (congrArg Vm.room hv).trans HF1.out.2.2.1]; decide) ((congrArg Vm.left hv).trans HF1.out.2.2.2.1)).mono ?_
          rintro e w' ⟨rfl, hr⟩
          have hbl := Rest.below hp hr
          obtain ⟨p2, h1, h2, h3⟩ := hr
          exact ⟨rfl, p2, h1, by rw [h2, hv], (E10.out.2.1.below hW).does h3, (D10.out.trans (hW.mono D10.out.size)).trans (hbl.mono LO.out)⟩)
        have HRV : Hid (∀ W p2, PSt W w0.heap.size g p2 → p2.vm = { M1 with down := true } → Keep7 W w9.heap.size A10 c10 l10 (p2.own g) → Below w.heap.size w W → Calls Try.prog 17 #[.pointer (some ⟨g, 0, none⟩), .agg #[.int .i64 (-1), .int .i64 (-1), .slice none 0 0]] W fun e w' => e = .returned (.int .i64 0) ∧ ∃ p3, PSt w' w0.heap.size g p3 ∧ p3.vm = ⟨M1.fs, -1, -1, [], false⟩ ∧ Keep7 w' w9.heap.size A10 c10 l10 (p3.own g) ∧ Below w.heap.size w w') := Lib.hid (fun W p2 h1 h2 h3 h4 => by
          have hsn : Sane M1.fs := by rw [HF1.out.2.2.2.2.2]; exact revL_sane HSN.out
          have hsy : revL M1.keep 0 M1.fs = M1.fs := revL_synced _ _ _ (fun x hx => by
            rw [HF1.out.2.2.2.2.2] at hx
            obtain ⟨a, -, -, h, -⟩ := revL_mem HSN.out hx
            exact h)
          refine (revive_vm w0.heap.size g p2 { M1 with down := true } ⟨M1.fs, -1, -1, [], false⟩ (-1) (-1) none [] 0 0 W h1 h2 hsn ⟨HF1.out.1.few, HF1.out.1.long, HF1.out.1.names⟩ rfl (.inl rfl) (fun ad e => by cases e) (by decide) (fun x hx => (List.not_mem_nil hx).elim) (by decide) (by decide) (by show (⟨revL M1.keep 0 M1.fs, -1, -1, [], false⟩ : Vm) = _; rw [hsy])).mono ?_
          rintro e w' ⟨rfl, hr⟩
          have hbl := Rest.below h1 hr
          obtain ⟨p3, g1, g2, g3⟩ := hr
          exact ⟨rfl, p3, g1, g2, h3.does g3, h4.trans (hbl.mono LO.out)⟩)
        have HDP : Hid (∀ W p3, PSt W w0.heap.size g p3 → p3.vm = ⟨M1.fs, -1, -1, [], false⟩ → Keep7 W w9.heap.size A10 c10 l10 (p3.own g) → Below w.heap.size w W → Calls Try.prog 16 #[.pointer (some ⟨g, 0, none⟩)] W fun e w' => ∃ (l' : List Fl) (A : Option Addr) (c : Nat), e = .returned (.slice A i c) ∧ Below w.heap.size w w' ∧ (∀ X, Below w'.heap.size w' X → Calls Try.prog 15 #[.slice A i c, .slice A10 i c10] X (Tells X true)) ∧ l'.map Fl.rd = M1.fs) := Lib.hid (fun W p3 h1 h2 h3 h4 => by
          refine (dump_n h1 h2 ⟨HF1.out.1.few, HF1.out.1.long, HF1.out.1.names⟩ HF1.out.2.1).mono ?_
          rintro e w' ⟨l', A', c', rfl, g1, g2, g3⟩
          refine ⟨l', A', c', rfl, h4.trans (g3.mono h4.size), fun X hX => ?_, g1⟩
          have hk := (h3.below g3).below hX
          have hk2 := g2.below hX
          have hll : l'.length = i := by rw [← HF1.out.2.1, ← g1, List.length_map]
          have hbl : ∀ q ∈ l', Byt q.d.l := byt_rd (g1.trans E10.out.1.symm) HBY.out.2
          have := refSame_wide A' A10 l' l10 i i c' c10 X hll HLL.out.2 hk2.row.lies hk.row.lies (hk2.data.ins hbl) (hk.data.ins HBY.out.2) hn47 hn47
          rwa [show decide (l'.map Fl.rd = l10.map Fl.rd) = true by rw [g1, E10.out.1]; simp] at this)
        go_wp2_with (first
          | (go_at_call 19; refine (HAP.out _ (by repeat (first | exact hb.out | refine Below.drew ?_))).mono ?_; rintro e w11 ⟨rfl, p2, h1, h2, h3, h4⟩; have F1 := Lib.hid (And.intro h1 (And.intro h2 (And.intro h3 h4))); clear h1 h2 h3 h4)
          | (go_at_call 17; refine (HRV.out _ p2 F1.out.1 F1.out.2.1 F1.out.2.2.1 F1.out.2.2.2).mono ?_; rintro e w12 ⟨rfl, p3, h1, h2, h3, h4⟩; have F2 := Lib.hid (And.intro h1 (And.intro h2 (And.intro h3 h4))); clear h1 h2 h3 h4)
          | (go_at_call 16; refine (HDP.out _ p3 F2.out.1 F2.out.2.1 F2.out.2.2.1 F2.out.2.2.2).mono ?_; rintro e w13 ⟨l13, A13, c13, rfl, h1, h2, h3⟩; have F3 := Lib.hid (And.intro h1 h2); clear h1 h2 h3)
          | (go_at_call 15; refine (F3.out.2 _ (by first | exact Below.refl _ _ | exact (Below.refl _ _).drew)).mono ?_; rintro e w14 ⟨rfl, h⟩; have F4 := Lib.hid h; clear h))
        go_ret
        exact ⟨rfl, F3.out.1.trans (((by first | exact F4.out | exact F4.out.mono (Nat.le_refl _) | exact (by repeat (first | exact Below.refl _ _ | refine Below.drew ?_) : Below w13.heap.size w13 _).trans F4.out) : Below w13.heap.size w13 _).mono F3.out.1.size)⟩
  · have hz : (r == 0) = false := by simpa using h0
    go_enter Try.func4, Try.ntmps4
    go_upto_region 3 with (go_at_call 9; refine (wakes_any w0).mono ?_; rintro e w1 ⟨rfl, hb⟩; have B1 := Lib.hid hb; clear hb)
    have D1 : Hid (Below w.heap.size w w1) := Lib.hid (B0.out.trans (B1.out.mono B0.out.size))
    go_region_held3 (fun W => W.cell? ⟨w.heap.size, 0, none⟩ = some (.int .i64 ops) ∧ W.cell? ⟨w.heap.size, 1, none⟩ = some (.int .i64 room) ∧ W.cell? ⟨w.heap.size, 2, none⟩ = some (.slice K kn kc)) (first | exact HK.out _ B7.out | exact HK.out _ B6.out | exact HK.out _ B5.out | exact HK.out _ B1.out | exact HK.out _ B1.out.drew | go_keep) (first
      | (go_at_call 11; refine (HCP.out _ (by repeat (first | exact D1.out | refine Below.drew ?_))).mono ?_; rintro e w5 ⟨l5, A5, c5, rfl, h51, h52, h53, h54⟩; have E5 : Hid (FsIn w5 A5 l5 n c5 ∧ l5.map Fl.rd = l.map Fl.rd) := Lib.hid ⟨copied_in (H.out.1.kept D1.out) h51 h52 h53, h51⟩; have B5 : Hid (Below w0.heap.size w0 w5) := Lib.hid (B1.out.trans (((by repeat (first | exact Below.refl _ _ | refine Below.drew ?_) : Below w1.heap.size w1 _).trans h54).mono B1.out.size)); have D5 : Hid (Below w.heap.size w w5) := Lib.hid (B0.out.trans (B5.out.mono B0.out.size)); clear h51 h52 h53 h54)
      | (go_at_call 12; refine (HPL.out _ (by repeat (first | exact D5.out | refine Below.drew ?_))).mono ?_; rintro e w6 ⟨A6, c6, rfl, h61, h62⟩; have B6 : Hid (Below w0.heap.size w0 w6) := Lib.hid (B5.out.trans (((by repeat (first | exact Below.refl _ _ | refine Below.drew ?_) : Below w5.heap.size w5 _).trans h62).mono B5.out.size)); have E6 : Hid (FsIn w6 A5 l5 n c5 ∧ Ints w6 A6 keep) := Lib.hid ⟨E5.out.1.kept ((by repeat (first | exact Below.refl _ _ | refine Below.drew ?_) : Below w5.heap.size w5 _).trans h62), h61.lies⟩; clear h61 h62)
      | (go_at_call 10; refine (HOF.out _ l5 A5 c5 A6 c6 (by first | exact E6.out.1 | exact E6.out.1.kept (Below.refl _ _).drew) E5.out.2 (by first | exact E6.out.2 | exact Lies.kept E6.out.2 (Below.refl _ _).drew)).mono ?_; rintro e w7 ⟨hb7, h7⟩; obtain ⟨-, rfl⟩ := h7.resolve_right (fun h => h0 h.1); have B7 : Hid (Below w0.heap.size w0 w7) := Lib.hid (B6.out.trans (((by repeat (first | exact Below.refl _ _ | refine Below.drew ?_) : Below w6.heap.size w6 _).trans hb7).mono B6.out.size)); clear hb7 h7))
    go_wp2_with fail
    go_ret
    exact ⟨rfl, B0.out.trans ((by repeat (first | exact B7.out | refine Below.drew ?_) : Below w0.heap.size w0 _).mono B0.out.size)⟩

end Go.Proofs.Ytjacjafpeajhaaa
