/-
  Walks: lists of entries in order, made one, with memory of its own. Plain: two lists in order made one by taking what is less first.
-/
import Derived.Test.YtcffpkflijpdjaaCJ08
set_option linter.unusedSimpArgs false
set_option linter.unusedVariables false
namespace Go.Proofs.Ytcffpkflijpdjaa
open Go.RowKit
theorem evals_cons (x : En) (T : List En) : evals (x :: T) = x.k.val :: .int .i64 x.s :: .bool x.d :: x.v.val :: evals T := by simp [evals, En.cells]
theorem evals_set : ∀ (T : List En) (i : Nat) (u : En), i < T.length → ((((evals T).set (i * 4) u.k.val).set (i * 4 + 1) (.int .i64 u.s)).set (i * 4 + 2) (.bool u.d)).set (i * 4 + 3) u.v.val = evals (T.set i u)
  | [], i, u, h => by simp at h
  | x :: T, 0, u, _ => by simp [evals_cons]
  | x :: T, i + 1, u, h => by
    have ih := evals_set T i u (by simpa using h)
    have e : (i + 1) * 4 = i * 4 + 4 := by omega
    rw [evals_cons, e, List.set_cons_succ (a := u), evals_cons, ← ih]
    simp [List.set_cons_succ]
/-- A place of a row of entries is written. -/
theorem erow_put {w : World} {B c i : Nat} {A : Option Addr} {T : List En} (h : Erow w B A c T) (hi : i < T.length) : ∃ g, A = some ⟨g, 0, none⟩ ∧ B ≤ g ∧ (∃ cur, w.heap[g]? = some (.cells cur 26 (0, 0))) ∧ (∀ j, j < 4 → ∃ v, w.cell? ⟨g, i * 4 + j, none⟩ = some v) ∧ (∀ j, w.frozen? ⟨g, j, none⟩ = false) ∧
    ∀ u : En, Erow ((((w.setCell ⟨g, i * 4, none⟩ u.k.val).setCell ⟨g, i * 4 + 1, none⟩ (.int .i64 u.s)).setCell ⟨g, i * 4 + 2, none⟩ (.bool u.d)).setCell ⟨g, i * 4 + 3, none⟩ u.v.val) B A c (T.set i u) := by
  have h' := h
  rcases h.2 with ⟨_, h0⟩ | ⟨g, cap, cur, e, h1, h2, _⟩
  · omega
  · injection e with e1 e2 e3
    subst e1
    subst e3
    unfold Erow at h'
    refine ⟨g, rfl, h1, ⟨cur, h2⟩, fun j hj => ?_, fun j => h'.frozenAt j, fun u => ?_⟩
    · rw [h'.cellAt (i * 4 + j) (by omega), List.getElem?_eq_getElem (by rw [evals_len]; omega)]
      exact ⟨_, rfl⟩
    · have s1 := (h'.stored (i * 4) u.k.val).1
      have s2 := (s1.stored (i * 4 + 1) (.int .i64 u.s)).1
      have s3 := (s2.stored (i * 4 + 2) (.bool u.d)).1
      have s4 := (s3.stored (i * 4 + 3) u.v.val).1
      rw [evals_set T i u hi] at s4
      unfold Erow
      rw [List.length_set]
      exact s4
theorem add_zero_ (g n : Nat) : (⟨g, 0, none⟩ : Addr).add n = ⟨g, n, none⟩ := by
  unfold Addr.add
  by_cases h : n = 0
  · subst h; rfl
  · rw [if_neg h]; simp
theorem put_four_kp {S : Nat → Prop} {w W : World} (hk : Kp S w W) (g p : Nat) (a b c d : Value) (hg : ¬ S g) : Kp S w ((((W.setCell ⟨g, p, none⟩ a).setCell ⟨g, p + 1, none⟩ b).setCell ⟨g, p + 2, none⟩ c).setCell ⟨g, p + 3, none⟩ d) :=
  (((hk.set g p a hg).set g (p + 1) b hg).set g (p + 2) c hg).set g (p + 3) d hg
/-- Rows of bytes stand while a row of entries is written. -/
theorem row_put {W : World} {B c g p : Nat} {A : Option Addr} {L : List Int} {cur : Array Value} {a b d e : Value} (h : Row W B A c L) (hg : W.heap[g]? = some (.cells cur 26 (0, 0))) : Row ((((W.setCell ⟨g, p, none⟩ a).setCell ⟨g, p + 1, none⟩ b).setCell ⟨g, p + 2, none⟩ d).setCell ⟨g, p + 3, none⟩ e) B A c L := by
  refine own_kp h (put_four_kp (Kp.refl (fun j => j ≠ g) W) g p a b d e (by simp)) (fun ad ha hn => ?_)
  rcases h.2 with ⟨q, _⟩ | ⟨g', cap, cur', q, _, h2, _⟩
  · rw [ha] at q; cases q
  · rw [ha] at q
    injection q with q
    injection q with q
    subst q
    rw [show g' = g from hn, hg] at h2
    injection h2 with h2
    injection h2 with _ h2
    exact absurd h2 (by decide)
theorem take_set_mem {T : List En} {i : Nat} {x q : En} (hi : i < T.length) (h : q ∈ (T.set i x).take (i + 1)) : q ∈ T.take i ∨ q = x := by
  rw [List.take_add_one, List.getElem?_set_self hi, Option.toList_some] at h
  rcases List.mem_append.1 h with e | e
  · left
    rw [List.take_set, List.set_eq_of_length_le (by rw [List.length_take]; omega)] at e
    exact e
  · exact .inr (List.mem_singleton.1 e)
theorem ers_set {T : List En} {i : Nat} {x x' : En} (hx : T[i]? = some x) (he : x'.rd = x.rd) : ers (T.set i x') = ers T := by
  unfold ers
  rw [List.map_set, he]
  refine List.ext_getElem? fun j => ?_
  by_cases hj : i = j
  · subst hj
    have hl := (List.getElem?_eq_some_iff.1 hx).1
    rw [List.getElem?_set_self (by simpa using hl), List.getElem?_map, hx]
    rfl
  · rw [List.getElem?_set_ne hj]
/-- What Merge answers. -/
def Mgd (Ls : List Gl) (w : World) (e : Ending) (w' : World) : Prop := ∃ (M : List En) (A' : Option Addr) (m c' : Nat) (er : Int), e = .returned (.tuple #[.slice A' m c', .int .i64 er]) ∧ M.length = m ∧ ((er = 30 ∧ M = [] ∧ ¬ ∀ g ∈ Ls, OrdL (ers g.l)) ∨ ((∀ g ∈ Ls, OrdL (ers g.l)) ∧ ((er = 0 ∧ OrdL (ers M) ∧ (ers M).Perm (flat Ls)) ∨ (er = 31 ∧ M = [] ∧ ¬ Apt (flat Ls))))) ∧ EMades w' w.heap.size M ∧ Erow w' w.heap.size A' c' M ∧ Below w.heap.size w w'
set_option maxRecDepth 100000 in
set_option maxHeartbeats 16000000 in
theorem merge_any (A : Option Addr) (Ls : List Gl) (n c : Nat) (w : World) (h : LsIn w A Ls n c) (hf : ∀ g ∈ Ls, (∀ q ∈ g.l, EFit q) ∧ g.l.length * 64 ≤ 140737488351232) (hk : ∀ x ∈ flat Ls, x.1.length ≤ 140737488355328 ∧ x.2.2.2.length ≤ 140737488355328) (h9 : n * 24 ≤ 140737488351232) (ht : (flat Ls).length * 64 ≤ 140737488351232) : Calls Try.prog 27 #[.slice A n c] w (Mgd Ls w) := by
  have HH := Lib.hid h
  have HFT := Lib.hid hf
  have HK := Lib.hid hk
  have HN := Lib.hid h.len
  have HT := Lib.hid ht
  unfold Mgd
  clear h hf hk ht
  go_enter Try.func27, Try.ntmps27
  go_wp2_with fail
  go_loopw [12] (fun t12 wr => ∃ k : Nat, k ≤ n ∧ t12 = .int .i64 k ∧ Hid (Below w.heap.size w wr ∧ ∀ g ∈ Ls.take k, OrdL (ers g.l))) (fun t12 _ => n - (intOf t12).toNat)
  case atStart => exact ⟨0, by omega, rfl, Lib.hid ⟨Below.refl _ _, fun _ h => by simp at h⟩⟩
  case round =>
    obtain ⟨k, hk, rfl, hr⟩ := hrel
    by_cases hlt : k < n
    · have hq := List.getElem?_eq_getElem (l := Ls) (i := k) (by have := HN.out; omega)
      generalize Ls[k]'(by have := HN.out; omega) = g at hq
      obtain ⟨ad, rfl, a0⟩ := take_gvals (HH.out.lies.kept hr.out.1) hq
      have hmem := List.mem_of_getElem? hq
      have HE := Lib.hid (HH.out.each g hmem)
      have HG := Lib.hid hmem
      have HTK : Hid (∀ x ∈ Ls.take (k + 1), x ∈ Ls.take k ∨ x = g) := Lib.hid (fun x hx => by
        rw [List.take_add_one, hq, Option.toList_some] at hx
        rcases List.mem_append.1 hx with e | e
        · exact .inl e
        · exact .inr (List.mem_singleton.1 e))
      have k0 : (k : Int) < n := by omega
      obtain ⟨od, hod⟩ : ∃ od, decide (OrdL (ers g.l)) = od := ⟨_, rfl⟩
      obtain ⟨gn, hgn⟩ : ∃ m, g.l.length = m := ⟨_, rfl⟩
      have HMS : Hid (Calls Try.prog 58 #[.slice g.a gn g.c] wr fun e w' => e = .returned (.bool od) ∧ Below wr.heap.size wr w') := Lib.hid (by
        have := mayStand_any g.a g.l gn g.c wr hgn (HE.out.1.kept hr.out.1) (HE.out.2.1.kept hr.out.1) (HFT.out g hmem).1 (by rw [← hgn]; exact (HFT.out g hmem).2)
        rwa [hod] at this)
      have HOD := Lib.hid hod
      unfold Gl.val at a0
      rw [hgn] at a0
      clear hq hmem hod hgn
      cases od
      · go_wp2_with (go_at_call 58; refine HMS.out.mono ?_; rintro e w2 ⟨rfl, b2⟩; have B2 : Hid (Below w.heap.size w w2) := Lib.hid (hr.out.1.trans (b2.mono hr.out.1.size)); clear b2)
        go_ret2
        exact ⟨[], none, 0, 0, 30, rfl, rfl, .inl ⟨rfl, rfl, fun ha => of_decide_eq_false HOD.out (ha g HG.out)⟩, EMades.nil _ _, Erow.nil _ _, B2.out⟩
      · go_wp2_with (go_at_call 58; refine HMS.out.mono ?_; rintro e w2 ⟨rfl, b2⟩; have B2 : Hid (Below w.heap.size w w2) := Lib.hid (hr.out.1.trans (b2.mono hr.out.1.size)); clear b2)
        go_roundw
        case rel => exact ⟨k + 1, by omega, by go_num, Lib.hid ⟨B2.out, fun x hx => (HTK.out x hx).elim (hr.out.2 x) (fun e => e ▸ of_decide_eq_true HOD.out)⟩⟩
        case measure => simp [intOf]; omega
    · obtain rfl : n = k := by omega
      have HORD : Hid (∀ g ∈ Ls, OrdL (ers g.l)) := Lib.hid (by have := hr.out.2; rwa [List.take_of_length_le (by have := HN.out; omega)] at this)
      clear hlt hk
      generalize wr = w1 at hr ⊢
      have HLS : Hid (LsIn w1 A Ls n c) := Lib.hid ⟨HN.out, HH.out.lies.kept hr.out.1, fun g hg => by have := HH.out.each g hg; exact ⟨this.1.kept hr.out.1, this.2.1.kept hr.out.1, this.2.2⟩⟩
      go_upto_region 8 with (go_at_call 59; refine (inOrder_any A Ls n c w1 HLS.out HORD.out h9 HT.out).mono ?_; rintro e w2 ⟨M, A2, m, c2, er, rfl, hM, hcase, hrow, hin, hb⟩; have H2 : Hid (M.length = m ∧ ((er = 0 ∧ OrdL (ers M) ∧ (ers M).Perm (flat Ls)) ∨ (er = 31 ∧ M = [] ∧ ¬ Apt (flat Ls))) ∧ Erow w2 w1.heap.size A2 c2 M ∧ (∀ q ∈ M, EIn w1 q) ∧ Below w1.heap.size w1 w2) := Lib.hid ⟨hM, hcase, hrow, hin, hb⟩; clear hM hcase hrow hin hb)
      have HCAP := Lib.hid (own_cap H2.out.2.2.1)
      have m9 : (m : Int) ≤ 9223372036854775807 := by have := HCAP.out; have := H2.out.1; omega
      have HKM : Hid (∀ q : En, q.rd ∈ ers M → q.k.l.length ≤ 140737488355328 ∧ q.v.l.length ≤ 140737488355328) := Lib.hid (fun q hq => by
        rcases H2.out.2.1 with ⟨-, -, hp⟩ | ⟨-, e, -⟩
        · exact HK.out q.rd (hp.mem_iff.1 hq)
        · rw [e] at hq; cases hq)
      go_wp2_with fail
      go_loopw [27] (fun t27 wv => ∃ (i : Nat) (Mi : List En), i ≤ m ∧ t27 = .int .i64 i ∧ Hid (Erow wv w1.heap.size A2 c2 Mi ∧ ers Mi = ers M ∧ (∀ q ∈ Mi.drop i, EIn w1 q) ∧ EMades wv w1.heap.size (Mi.take i) ∧ Below w1.heap.size w1 wv)) (fun t27 _ => m - (intOf t27).toNat)
      case atStart => exact ⟨0, M, by omega, rfl, Lib.hid ⟨H2.out.2.2.1, rfl, fun q hq => H2.out.2.2.2.1 q hq, fun _ h => by simp at h, H2.out.2.2.2.2⟩⟩
      case round =>
        obtain ⟨i, Mi, hi, rfl, hv⟩ := hrel
        have HML : Hid (Mi.length = m) := Lib.hid (by rw [← ers_len, hv.out.2.1, ers_len, H2.out.1])
        by_cases hlt : i < m
        · have hq := List.getElem?_eq_getElem (l := Mi) (i := i) (by have := HML.out; omega)
          generalize Mi[i]'(by have := HML.out; omega) = x at hq
          obtain ⟨g, hA2, hgB, -, -, -, -⟩ := erow_put hv.out.1 (i := i) (by have := HML.out; omega)
          subst hA2
          have HGB := Lib.hid hgB
          obtain ⟨a0, a1, a2, a3⟩ := lies_entry_at hv.out.1.lies hq
          rw [add_zero_] at a0 a1 a2 a3
          simp only at a1 a2 a3
          have HXE : Hid (EIn w1 x) := Lib.hid (hv.out.2.2.1 x (by
            have := List.getElem?_drop (xs := Mi) (i := i) (j := 0)
            rw [Nat.add_zero, hq] at this
            exact List.mem_of_getElem? this))
          have HXK := Lib.hid (HKM.out x (by rw [← hv.out.2.1]; exact List.mem_map_of_mem (List.mem_of_getElem? hq)))
          have HQ := Lib.hid hq
          obtain ⟨xn, hxn⟩ : ∃ k, x.k.l.length = k := ⟨_, rfl⟩
          obtain ⟨xv, hxv⟩ : ∃ k, x.v.l.length = k := ⟨_, rfl⟩
          rw [hxn] at a0
          rw [hxv] at a3
          have HXN := Lib.hid (And.intro hxn hxv)
          have i0 : (i : Int) < m := by omega
          have WS : Hid (w1.heap.size ≤ wr.heap.size) := Lib.hid hv.out.2.2.2.2.size
          clear hq hxn hxv hgB
          go_upto_region 11 with fail
          obtain ⟨wx, hwx⟩ : ∃ wx, wr.alloc (.cells #[.slice x.k.a xn x.k.c, .int .i64 x.s, .bool x.d, .slice x.v.a xv x.v.c] 26) = wx := ⟨_, rfl⟩
          have HOB : Hid (∀ W, Below wx.heap.size wx W → W.heap[wr.heap.size]? = some (.cells #[.slice x.k.a xn x.k.c, .int .i64 x.s, .bool x.d, .slice x.v.a xv x.v.c] 26 (0, 0))) := Lib.hid (fun W hb => by subst hwx; exact box_obj hb)
          have BR : Hid (Below wr.heap.size wr wx) := Lib.hid (hwx ▸ below_new _ _)
          rw [hwx]
          clear hwx a0 a1 a2 a3
          obtain ⟨c0, c1, c2', c3⟩ := box_four (HOB.out wx (Below.refl _ _))
          have HCL : Hid (Calls Try.prog 49 #[.agg #[.slice x.k.a xn x.k.c, .int .i64 x.s, .bool x.d, .slice x.v.a xv x.v.c]] wx (ECop wx x)) := Lib.hid (by
            have := eclone_any x wx (HXE.out.kept (hv.out.2.2.2.2.trans (BR.out.mono WS.out))) HXK.out.1 HXK.out.2
            rwa [En.val_eq, HXN.out.1, HXN.out.2] at this)
          have HPT : Hid (∀ V, Below wr.heap.size wr V → ((∃ v, V.cell? ⟨g, i * 4, none⟩ = some v) ∧ (∃ v, V.cell? ⟨g, i * 4 + 1, none⟩ = some v) ∧ (∃ v, V.cell? ⟨g, i * 4 + 2, none⟩ = some v) ∧ (∃ v, V.cell? ⟨g, i * 4 + 3, none⟩ = some v)) ∧ (V.frozen? ⟨g, i * 4, none⟩ = false ∧ V.frozen? ⟨g, i * 4 + 1, none⟩ = false ∧ V.frozen? ⟨g, i * 4 + 2, none⟩ = false ∧ V.frozen? ⟨g, i * 4 + 3, none⟩ = false) ∧ (∃ cur, V.heap[g]? = some (.cells cur 26 (0, 0))) ∧ ∀ u : En, Erow ((((V.setCell ⟨g, i * 4, none⟩ u.k.val).setCell ⟨g, i * 4 + 1, none⟩ (.int .i64 u.s)).setCell ⟨g, i * 4 + 2, none⟩ (.bool u.d)).setCell ⟨g, i * 4 + 3, none⟩ u.v.val) w1.heap.size (some ⟨g, 0, none⟩) c2 (Mi.set i u)) := Lib.hid (fun V hV => by
            obtain ⟨g', e, -, h2, h3, h4, h5⟩ := erow_put (hv.out.1.kept hV (Nat.le_refl _)) (i := i) (by have := HML.out; omega)
            injection e with e
            injection e with e
            subst e
            exact ⟨⟨h3 0 (by omega), h3 1 (by omega), h3 2 (by omega), h3 3 (by omega)⟩, ⟨h4 _, h4 _, h4 _, h4 _⟩, h2, h5⟩)
          go_upto_region 12 with (go_at_call 49; refine HCL.out.mono ?_; rintro e w7 ⟨x', hx', rfl, q1, q2, b7⟩; have HXR := Lib.hid hx'; have Q1 := Lib.hid (Row.mono q1 BR.out.size); have Q2 := Lib.hid (Row.mono q2 BR.out.size); have B7 : Hid (Below wr.heap.size wr w7) := Lib.hid (below_then BR.out b7); rw [En.val_eq]; obtain ⟨⟨⟨v0, d0⟩, ⟨v1, d1⟩, ⟨v2, d2⟩, v3, d3⟩, ⟨f0, f1, f2, f3⟩, -⟩ := HPT.out w7 B7.out; clear hx' q1 q2 b7 HCL c0 c1 c2' c3)
          clear d0 d1 d2 d3 f0 f1 f2 f3
          obtain ⟨-, -, ⟨cur, hcur⟩, hput⟩ := HPT.out w7 B7.out
          have HR8 : Hid (Erow ((((w7.setCell ⟨g, i * 4, none⟩ (.slice x'.k.a x'.k.l.length x'.k.c)).setCell ⟨g, i * 4 + 1, none⟩ (.int .i64 x'.s)).setCell ⟨g, i * 4 + 2, none⟩ (.bool x'.d)).setCell ⟨g, i * 4 + 3, none⟩ (.slice x'.v.a x'.v.l.length x'.v.c)) w1.heap.size (some ⟨g, 0, none⟩) c2 (Mi.set i x')) := Lib.hid (hput x')
          have HQ1 := Lib.hid (row_put (p := i * 4) (a := .slice x'.k.a x'.k.l.length x'.k.c) (b := .int .i64 x'.s) (d := .bool x'.d) (e := .slice x'.v.a x'.v.l.length x'.v.c) Q1.out hcur)
          have HQ2 := Lib.hid (row_put (p := i * 4) (a := .slice x'.k.a x'.k.l.length x'.k.c) (b := .int .i64 x'.s) (d := .bool x'.d) (e := .slice x'.v.a x'.v.l.length x'.v.c) Q2.out hcur)
          have HM8 : Hid (EMades ((((w7.setCell ⟨g, i * 4, none⟩ (.slice x'.k.a x'.k.l.length x'.k.c)).setCell ⟨g, i * 4 + 1, none⟩ (.int .i64 x'.s)).setCell ⟨g, i * 4 + 2, none⟩ (.bool x'.d)).setCell ⟨g, i * 4 + 3, none⟩ (.slice x'.v.a x'.v.l.length x'.v.c)) w1.heap.size (Mi.take i)) := Lib.hid (fun q hq => ⟨row_put ((hv.out.2.2.2.1 q hq).1.kept B7.out (Nat.le_refl _)) hcur, row_put ((hv.out.2.2.2.1 q hq).2.kept B7.out (Nat.le_refl _)) hcur⟩)
          have HB8 : Hid (Below w1.heap.size w1 ((((w7.setCell ⟨g, i * 4, none⟩ (.slice x'.k.a x'.k.l.length x'.k.c)).setCell ⟨g, i * 4 + 1, none⟩ (.int .i64 x'.s)).setCell ⟨g, i * 4 + 2, none⟩ (.bool x'.d)).setCell ⟨g, i * 4 + 3, none⟩ (.slice x'.v.a x'.v.l.length x'.v.c))) := Lib.hid ((put_four_kp (Kp.of_below (hv.out.2.2.2.2.trans (B7.out.mono WS.out))) g (i * 4) _ _ _ _ (by have := HGB.out; omega)).below (fun _ hk => hk))
          clear hcur hput
          generalize ((((w7.setCell ⟨g, i * 4, none⟩ (.slice x'.k.a x'.k.l.length x'.k.c)).setCell ⟨g, i * 4 + 1, none⟩ (.int .i64 x'.s)).setCell ⟨g, i * 4 + 2, none⟩ (.bool x'.d)).setCell ⟨g, i * 4 + 3, none⟩ (.slice x'.v.a x'.v.l.length x'.v.c)) = w8 at HR8 HQ1 HQ2 HM8 HB8 ⊢
          go_wp2_with fail
          go_roundw
          case rel => exact ⟨i + 1, Mi.set i x', by omega, by go_num, Lib.hid ⟨HR8.out, by rw [ers_set HQ.out HXR.out]; exact hv.out.2.1, fun q hq => by
            rw [List.drop_set_of_lt (by omega)] at hq
            have e : Mi.drop (i + 1) = (Mi.drop i).drop 1 := by rw [List.drop_drop]
            rw [e] at hq
            exact hv.out.2.2.1 q (List.mem_of_mem_drop hq), fun q hq => (take_set_mem (by have := HML.out; omega) hq).elim (HM8.out q) (fun e => by rw [e]; exact ⟨Row.mono HQ1.out WS.out, Row.mono HQ2.out WS.out⟩), HB8.out⟩⟩
          case measure => simp [intOf]; omega
        · obtain rfl : m = i := by omega
          have HTA : Hid (Mi.take m = Mi) := Lib.hid (List.take_of_length_le (by rw [HML.out]; exact Nat.le_refl _))
          have HBW : Hid (Below w.heap.size w wr) := Lib.hid (hr.out.1.trans (hv.out.2.2.2.2.mono hr.out.1.size))
          go_wp2_with fail
          go_ret2
          refine ⟨Mi, A2, m, c2, er, rfl, HML.out, .inr ⟨HORD.out, ?_⟩, ?_, own_mono hv.out.1 hr.out.1.size, HBW.out⟩
          · rw [hv.out.2.1]
            rcases H2.out.2.1 with h | ⟨h1, h2, h3⟩
            · exact .inl h
            · refine .inr ⟨h1, ?_, h3⟩
              refine List.eq_nil_of_length_eq_zero ?_
              rw [HML.out, ← H2.out.1, h2]
              rfl
          · have := hv.out.2.2.2.1
            rw [HTA.out] at this
            exact this.mono hr.out.1.size
end Go.Proofs.Ytcffpkflijpdjaa
namespace Go.Proofs.Ytcffpkflijpdjaa
open Go.RowKit
/-- While two lists in order are made one. -/
structure InvS (l M la lb : List En) : Prop where
  perm : (M ++ (la ++ lb)).Perm l
  one : List.Pairwise leE (ers (M ++ la))
  two : List.Pairwise leE (ers (M ++ lb))
theorem pw_put {M m : List En} {x : En} (h : List.Pairwise leE (ers (M ++ m))) (hx : ∀ y ∈ ers M, leE y x.rd) (hm : ∀ y, m.head? = some y → leE x.rd y.rd) : List.Pairwise leE (ers ((M ++ [x]) ++ m)) := by
  rw [ers_append, List.pairwise_append] at h
  obtain ⟨h1, h2, h3⟩ := h
  have hxm : ∀ y ∈ ers m, leE x.rd y := fun y hy => by
    cases m with
    | nil => cases hy
    | cons z m =>
      have hz := hm z rfl
      rcases List.mem_cons.1 hy with e | e
      · rw [e]; exact hz
      · exact leE_trans _ _ _ hz ((List.pairwise_cons.1 h2).1 y e)
  rw [ers_append, ers_append, List.pairwise_append, List.pairwise_append]
  refine ⟨⟨h1, List.pairwise_singleton _ _, fun y hy z hz => ?_⟩, h2, fun y hy z hz => ?_⟩
  · rw [List.mem_singleton.1 hz]; exact hx y hy
  · rcases List.mem_append.1 hy with e | e
    · exact h3 y e z hz
    · rw [List.mem_singleton.1 e]; exact hxm z hz
theorem pw_ahead {M m : List En} {x : En} (h : List.Pairwise leE (ers (M ++ x :: m))) : ∀ y ∈ ers M, leE y x.rd := fun y hy => by
  rw [ers_append, List.pairwise_append] at h
  exact h.2.2 y hy _ (List.mem_cons_self ..)
theorem InvS.left {l M la lb : List En} {x : En} (h : InvS l M (x :: la) lb) (hle : ∀ y, lb.head? = some y → leE x.rd y.rd) : InvS l (M ++ [x]) la lb :=
  ⟨by have := h.perm; simpa [List.append_assoc] using this, by have := h.one; simpa [List.append_assoc] using this, pw_put h.two (pw_ahead h.one) hle⟩
theorem InvS.right {l M la lb : List En} {x : En} (h : InvS l M la (x :: lb)) (hle : ∀ y, la.head? = some y → leE x.rd y.rd) : InvS l (M ++ [x]) la lb :=
  ⟨by
    refine List.Perm.trans ?_ h.perm
    rw [List.append_assoc]
    exact List.Perm.append_left M (by simpa using (List.perm_middle (l₁ := la) (a := x) (l₂ := lb)).symm), pw_put h.one (pw_ahead h.two) hle, by have := h.two; simpa [List.append_assoc] using this⟩
theorem InvS.start {l la lb a b : List En} (hl : a ++ b = l) (ha : la.Perm a) (hb : lb.Perm b) (sa : List.Pairwise leE (ers la)) (sb : List.Pairwise leE (ers lb)) : InvS l [] la lb :=
  ⟨by rw [List.nil_append, ← hl]; exact ha.append hb, sa, sb⟩
theorem pw_short {l : List En} (h : l.length < 2) : List.Pairwise leE (ers l) := by
  match l, h with
  | [], _ => exact List.Pairwise.nil
  | [x], _ => exact List.pairwise_singleton _ _
theorem leE_of_not {x y : Er} (h : ¬ ordE x y ≤ 0) : leE y x := by
  have := ordE_flip x y
  unfold leE
  omega
/-- l[:k] of entries. -/
theorem slice_highS (A : Option Addr) (k n c : Nat) (hk : k ≤ n) (hc : n ≤ c) : ∀ W, (Instr.slice 22 (.slice A n c) none (some (.int .i64 (k : Int))) none).run Try.prog W = .ok (.slice A k c) W := fun W => by
  rw [run_slice_h (P := Try.prog) W _ A n c underEn' .i64 (k : Int) (by omega) (by omega), sizeEn']
  cases A <;> simp [Result.andThen, sliced, Addr.add]
/-- Entries brought in order. -/
def SrtE (l : List En) (w : World) (e : Ending) (w' : World) : Prop := ∃ (M : List En) (A' : Option Addr) (m c' : Nat), e = .returned (.slice A' m c') ∧ M.length = m ∧ m ≤ c' ∧ (c' : Int) ≤ 9223372036854775807 ∧ Lies w' A' (evals M) ∧ M.Perm l ∧ List.Pairwise leE (ers M) ∧ Below w.heap.size w w'
end Go.Proofs.Ytcffpkflijpdjaa
