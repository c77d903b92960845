/-
  Walks: lists of entries in order, made one by a heap.
-/
import Derived.Laws.EntriesVeiled
import Derived.Test.YtcffpkflijpdjaaCJ07
set_option linter.unusedSimpArgs false
set_option linter.unusedVariables false
namespace Go.Proofs.Ytcffpkflijpdjaa
open Go.RowKit
theorem sizeEn' (W : World) : (sizeOf (Try.prog.elem 22)).run Try.prog W = .ok 4 W := by
  have h : Try.prog.elem 22 = 26 := by kernel_rfl
  obtain ⟨i, hi, hz0, hz1, hz2⟩ := info_parts info26
  rw [h]
  simp [sizeOf, typeInfo, hi, hz1]
theorem underEn' : Try.prog.underlying 22 = some (.slice (Try.prog.elem 22)) := by kernel_rfl
/-- e[s:] -/
theorem slice_lowS (A : Option Addr) (s n c : Nat) (hs : s ≤ n) (hc : n ≤ c) : ∀ W, (Instr.slice 22 (.slice A n c) (some (.int .i64 (s : Int))) none none).run Try.prog W = .ok (.slice (if c = s then A else A.map (·.add (s * 4))) (n - s) (c - s)) W := fun W => by
  rw [run_slice_l (P := Try.prog) W _ A n c underEn' .i64 (s : Int) (by omega) (by omega), sizeEn']
  simp [Result.andThen, sliced]
theorem slice_one (sd : Addr) (sn sc : Nat) (h1 : 1 < sn) (hc : sn ≤ sc) : ∀ W, (Instr.slice 22 (.slice (some sd) sn sc) (some (.int .i64 1)) none none).run Try.prog W = .ok (.slice (some ⟨sd.block, sd.off + 4, none⟩) (sn - 1) (sc - 1)) W := fun W => by
  have := slice_lowS (some sd) 1 sn sc (by omega) hc W
  rw [if_neg (by omega)] at this
  have e : (some sd).map (fun a : Addr => a.add (1 * 4)) = some ⟨sd.block, sd.off + 4, none⟩ := by simp [Addr.add]
  rw [e] at this
  exact this
def lenV : Value → Nat
  | .slice _ n _ => n
  | _ => 0
/-- Lists that come in. -/
structure LsIn (w : World) (A : Option Addr) (Ls : List Gl) (n c : Nat) : Prop where
  len : Ls.length = n
  lies : Lies w A (gvals Ls)
  each : ∀ g ∈ Ls, Lies w g.a (evals g.l) ∧ EIns w g.l ∧ g.l.length ≤ g.c ∧ (g.c : Int) ≤ 9223372036854775807
def flat (Ls : List Gl) : List Er := (gets Ls).flatMap ers
def fl (T : List Gl) : List (List Er) := T.map (fun g => ers g.l)
theorem flat_fl (Ls : List Gl) : (fl Ls).flatten = flat Ls := by
  unfold flat fl gets
  induction Ls with
  | nil => rfl
  | cons a l ih => simp [ih]
theorem fl_len (T : List Gl) : (fl T).flatten.length = (T.map (fun g => g.l.length)).sum := by
  unfold fl
  induction T with
  | nil => rfl
  | cons a l ih => simp [ih, ers_len]
def some' (g : Gl) : Bool := !g.l.isEmpty
theorem fl_some (Ls : List Gl) : (fl (Ls.filter some')).flatten = (fl Ls).flatten := by
  unfold fl some'
  induction Ls with
  | nil => rfl
  | cons a l ih =>
    cases ha : a.l with
    | nil => simp only [List.map_cons, List.flatten_cons, ha, ers, List.map_nil, List.nil_append]; rw [List.filter_cons_of_neg (by simp [ha])]; exact ih
    | cons x r => rw [List.filter_cons_of_pos (by simp [ha])]; simp only [List.map_cons, List.flatten_cons]; rw [ih]
theorem perm_back {T9 T2 : List Gl} {g : Gl} (h : T9.Perm (T2 ++ [g])) : (fl T9).Perm (ers g.l :: fl T2) := by
  unfold fl
  have h2 := (h.trans (List.perm_append_comm)).map (fun g : Gl => ers g.l)
  simpa using h2
theorem mem_snoc {P : En → Prop} {M : List En} {x : En} (h : ∀ q ∈ M, P q) (hx : P x) : ∀ q ∈ M ++ [x], P q := fun q hq => by
  rcases List.mem_append.1 hq with e | e
  · exact h q e
  · rw [List.mem_singleton.1 e]; exact hx
theorem take_gvals {w : World} {A : Option Addr} {Ls : List Gl} {k : Nat} {g : Gl} (h : Lies w A (gvals Ls)) (hg : Ls[k]? = some g) : ∃ ad, A = some ad ∧ w.cell? (ad.add k) = some g.val := by
  rcases h with h | ⟨ad, e, h⟩
  · have := gvals_len Ls
    rw [h] at this
    have := (List.getElem?_eq_some_iff.1 hg).1
    simp at *
    omega
  · exact ⟨ad, e, h k _ (gvals_of hg)⟩
/-- The heap stands while a row of entries grows. -/
theorem Hp.beside {w0 W W' : World} {hb c D d : Nat} {A C : Option Addr} {T : List Gl} {M : List En} (h : Hp w0 W hb A c T) (hM : Erow W D C d M) (hbel : Below w0.heap.size W W') (hg : W.grownBy W' (Value.slice C M.length d).ownBlock) : Hp w0 W' hb A c T := by
  have hoth : ∀ (j : Nat) (cs : Array Value) (ty : TypeId) (fr : Nat × Nat), W.heap[j]? = some (.cells cs ty fr) → ty ≠ 26 → W'.heap[j]? = some (.cells cs ty fr) := fun j cs ty fr e ht => by
    have hj := (Array.getElem?_eq_some_iff.1 e).1
    rw [hg.block j hj, e]
    intro e'
    rcases hM.2 with ⟨q, _⟩ | ⟨g', cap, cur, q, _, h2, _⟩
    · rw [q] at e'
      simp [Value.ownBlock] at e'
    · rw [q] at e'
      have : j = g' := by simpa [Value.ownBlock] using e'
      subst this
      rw [h2] at e
      injection e with e
      injection e with _ e
      exact ht e.symm
  refine ⟨h.low, hoth _ _ _ _ h.obj (by decide), ⟨h.row.1, ?_⟩, h.bel.trans hbel, h.ins⟩
  rcases h.row.2 with e | ⟨g, cap, cur, e, k1, k2, k3⟩
  · exact .inl e
  · exact .inr ⟨g, cap, cur, e, k1, hoth _ _ _ _ k2 (by decide), k3⟩
theorem fl_ge : ∀ {T : List Gl}, (∀ g ∈ T, g.l ≠ []) → T.length ≤ (fl T).flatten.length
  | [], _ => Nat.zero_le _
  | g :: T, h => by
    have h1 := fl_ge (T := T) (fun x hx => h x (List.mem_cons_of_mem _ hx))
    have h2 := List.length_pos_iff.2 (h g (List.mem_cons_self ..))
    simp only [fl, List.map_cons, List.flatten_cons, List.length_append, List.length_cons, ers_len] at h1 ⊢
    omega
theorem GIn.rest {w : World} {sd : Addr} {sc : Nat} {x : En} {r : List En} (h : GIn w ⟨some sd, sc, x :: r⟩) (hr : 1 < (x :: r).length) : GIn w ⟨some (sd.add (1 * 4)), sc - 1, r⟩ := by
  have h4 : (x :: r).length ≤ sc := h.2.2.2.1
  have h5 : (sc : Int) ≤ 9223372036854775807 := h.2.2.2.2
  simp only [List.length_cons] at hr h4
  have hd := lies_drop (c := sc) h.2.1 1 (by simpa using h4)
  rw [if_neg (by omega)] at hd
  refine ⟨?_, hd, fun q hq => h.2.2.1 q (List.mem_cons_of_mem _ hq), ?_, ?_⟩
  · show r ≠ []
    intro e
    subst e
    simp at hr
  · show r.length ≤ sc - 1
    omega
  · show ((sc - 1 : Nat) : Int) ≤ _
    omega
theorem head_fl {T : List Gl} {l : List Er} {y : Er} (hl : l ∈ fl T) (hy : l.head? = some y) : ∃ g ∈ T, hdE g = y := by
  obtain ⟨g, hg, rfl⟩ := List.mem_map.1 hl
  refine ⟨g, hg, ?_⟩
  unfold hdE
  cases hgl : g.l with
  | nil => rw [hgl] at hy; simp [ers] at hy
  | cons a b => rw [hgl] at hy; simp [ers] at hy; exact hy
/-- The entries of lists in order, or that two are at one place. -/
def Ordd (Ls : List Gl) (w : World) (e : Ending) (w' : World) : Prop := ∃ (M : List En) (A' : Option Addr) (m c' : Nat) (er : Int), e = .returned (.tuple #[.slice A' m c', .int .i64 er]) ∧ M.length = m ∧ ((er = 0 ∧ OrdL (ers M) ∧ (ers M).Perm (flat Ls)) ∨ (er = 31 ∧ M = [] ∧ ¬ Apt (flat Ls))) ∧ Erow w' w.heap.size A' c' M ∧ (∀ q ∈ M, EIn w q) ∧ Below w.heap.size w w'
set_option maxRecDepth 100000 in
set_option maxHeartbeats 16000000 in
theorem inOrder_any (A : Option Addr) (Ls : List Gl) (n c : Nat) (w : World) (h : LsIn w A Ls n c) (ho : ∀ g ∈ Ls, OrdL (ers g.l)) (h9 : n * 24 ≤ 140737488351232) (ht : (flat Ls).length * 64 ≤ 140737488351232) : Calls Try.prog 59 #[.slice A n c] w (Ordd Ls w) := by
  have HH := Lib.hid h
  have HO := Lib.hid ho
  have HN := Lib.hid h.len
  obtain ⟨F, hF⟩ : ∃ F, flat Ls = F := ⟨_, rfl⟩
  obtain ⟨N, hNF⟩ : ∃ N, F.length = N := ⟨_, rfl⟩
  have HF := Lib.hid hF
  have HNF := Lib.hid hNF
  have HTOT : Hid (N * 64 ≤ 140737488351232) := Lib.hid (by rw [← hNF, ← hF]; exact ht)
  unfold Ordd
  rw [hF]
  clear h ho ht hF hNF
  go_enter Try.func59, Try.ntmps59
  go_upto_region 2 with fail
  obtain ⟨wx, hwx⟩ : ∃ wx, w.alloc (.cells #[.slice none 0 0, .func (.func 81) #[] #[]] 128) = wx := ⟨_, rfl⟩
  have ob2 : wx.heap[w.heap.size]? = some (.cells #[.slice none 0 0, .func (.func 81) #[] #[]] 128 (0, 0)) := by
    rw [← hwx]
    exact heap_alloc_new w _
  have bx : Below w.heap.size w wx := hwx ▸ below_new w _
  obtain ⟨hb, hhb⟩ : ∃ hb, w.heap.size = hb := ⟨_, rfl⟩
  have HX : Hid (Hp w wx hb none 0 []) := Lib.hid ⟨by omega, by rw [← hhb]; exact ob2, Grow.nil _ _, bx, fun _ h => by cases h⟩
  have HHB := Lib.hid hhb
  rw [hwx, hhb]
  clear hwx hhb ob2 bx
  go_wp2_with fail
  go_loopw [13] (fun t13 wr => ∃ (k : Nat) (A2 : Option Addr) (c2 : Nat) (T : List Gl), k ≤ n ∧ t13 = .int .i64 k ∧ Hid (Hp w wr hb A2 c2 T ∧ Heaped leG T ∧ T.Perm ((Ls.take k).filter some'))) (fun t13 _ => n - (intOf t13).toNat)
  case atStart => exact ⟨0, none, 0, [], by omega, rfl, Lib.hid ⟨HX.out, heaped_nil, List.Perm.refl _⟩⟩
  case round =>
    obtain ⟨k, A2, c2, T, hk, rfl, hr⟩ := hrel
    by_cases hlt : k < n
    · have hq := List.getElem?_eq_getElem (l := Ls) (i := k) (by have := HN.out; omega)
      generalize Ls[k]'(by have := HN.out; omega) = g at hq
      obtain ⟨ad, rfl, a0⟩ := take_gvals (HH.out.lies.kept hr.out.1.bel) hq
      have HE := Lib.hid (HH.out.each g (List.mem_of_getElem? hq))
      have HTL : Hid (T.length ≤ k) := Lib.hid (by rw [hr.out.2.2.length_eq]; exact Nat.le_trans (List.length_filter_le _ _) (by rw [List.length_take]; omega))
      have HFT : Hid ((Ls.take (k + 1)).filter some' = (Ls.take k).filter some' ++ (if some' g = true then [g] else [])) := Lib.hid (by
        rw [List.take_add_one, hq, Option.toList_some, List.filter_append]
        congr 1
        cases hs : some' g <;> simp [hs])
      have k0 : (k : Int) < n := by omega
      obtain ⟨ga, gc, gl⟩ := g
      unfold Gl.val at a0
      simp only at a0 HE
      obtain ⟨gn, hgn⟩ : ∃ m, gl.length = m := ⟨_, rfl⟩
      rw [hgn] at a0 HE
      have HGN := Lib.hid hgn
      clear hq hgn
      by_cases hg : 0 < gn
      · have g0 : (0 : Int) < gn := by omega
        have HGS : Hid (some' (⟨ga, gc, gl⟩ : Gl) = true) := Lib.hid (by
          unfold some'
          cases gl with
          | nil => have := HGN.out; simp at this; omega
          | cons a l => rfl)
        have HPUT : Hid (Calls Try.prog 82 #[.pointer (some ⟨hb, 0, none⟩), .slice ga gn gc] wr fun e w' => e = .returned (.tuple #[]) ∧ ∃ (A' : Option Addr) (c' : Nat) (T' : List Gl), Hp w w' hb A' c' T' ∧ Heaped leG T' ∧ T'.Perm (T ++ [⟨ga, gc, gl⟩]) ∧ Bes wr w') := Lib.hid (by
          have := put_any hr.out.1 hr.out.2.1 ⟨ga, gc, gl⟩ ⟨by show gl ≠ []; intro e; subst e; have := HGN.out; simp at this; omega, HE.out.1, HE.out.2.1, by show gl.length ≤ gc; rw [HGN.out]; exact HE.out.2.2.1, HE.out.2.2.2⟩ (by have := HTL.out; omega)
          unfold Gl.val at this
          simp only [HGN.out] at this
          exact this)
        go_wp2_with (go_at_call 82; refine HPUT.out.mono ?_; rintro e w2 ⟨rfl, A3, c3, T3, h3, q3, p3, -⟩; have H3 : Hid (Hp w w2 hb A3 c3 T3 ∧ Heaped leG T3 ∧ T3.Perm (T ++ [⟨ga, gc, gl⟩])) := Lib.hid ⟨h3, q3, p3⟩; clear h3 q3 p3)
        go_roundw
        case rel => exact ⟨k + 1, A3, c3, T3, by omega, by go_num, Lib.hid ⟨H3.out.1, H3.out.2.1, by rw [HFT.out, if_pos HGS.out]; exact H3.out.2.2.trans (List.Perm.append_right _ hr.out.2.2)⟩⟩
        case measure => simp [intOf]; omega
      · have g0 : decide ((0 : Int) < gn) = false := decide_eq_false (by omega)
        have g1 : decide (0 < gn) = false := decide_eq_false hg
        have HGS : Hid (some' (⟨ga, gc, gl⟩ : Gl) = false) := Lib.hid (by
          unfold some'
          cases gl with
          | nil => rfl
          | cons a l => have := HGN.out; simp at this; omega)
        clear hg
        go_wp2_with fail
        go_roundw
        case rel => exact ⟨k + 1, A2, c2, T, by omega, by go_num, Lib.hid ⟨hr.out.1, hr.out.2.1, by rw [HFT.out, HGS.out]; simpa using hr.out.2.2⟩⟩
        case measure => simp [intOf]; omega
    · obtain rfl : n = k := by omega
      clear hlt hk
      have HTN : Hid (T.length ≤ n) := Lib.hid (by rw [hr.out.2.2.length_eq]; exact Nat.le_trans (List.length_filter_le _ _) (by rw [List.length_take]; omega))
      have HINV : Hid (InvM F [] (fl T)) := Lib.hid (by
        rw [← HF.out]
        have hp := hr.out.2.2
        rw [List.take_of_length_le (by have := HN.out; omega)] at hp
        refine ⟨?_, fun l hl => ?_, trivial, fun _ h => by cases h⟩
        · rw [List.nil_append, ← flat_fl, ← fl_some Ls]
          exact (hp.map _).flatten
        · obtain ⟨g, hg, rfl⟩ := List.mem_map.1 hl
          exact HO.out g (List.mem_filter.1 (hp.mem_iff.1 hg)).1)
      generalize wr = w1 at hr ⊢
      go_wp2_with fail
      go_loopw [7] (fun t7 wr => ∃ (Am : Option Addr) (m cm : Nat) (M : List En) (A2 : Option Addr) (c2 : Nat) (T : List Gl), t7 = .slice Am m cm ∧ Hid (Hp w wr hb A2 c2 T ∧ Heaped leG T ∧ InvM F (ers M) (fl T) ∧ M.length = m ∧ Erow wr w.heap.size Am cm M ∧ (∀ q ∈ M, EIn w q))) (fun t7 _ => N - lenV t7)
      case atStart => exact ⟨none, 0, 0, [], A2, c2, T, rfl, Lib.hid ⟨hr.out.1, hr.out.2.1, HINV.out, rfl, Erow.nil _ _, fun _ h => by cases h⟩⟩
      case round =>
        obtain ⟨Am, m, cm, M, A2', c2', T', rfl, hr⟩ := hrel
        obtain ⟨tn, htn⟩ : ∃ k, T'.length = k := ⟨_, rfl⟩
        have HT0 := Lib.hid htn
        by_cases hT : T' = []
        · have t0 : tn = 0 := by rw [← htn, hT]; rfl
          subst t0
          have HDN : Hid (OrdL (ers M) ∧ (ers M).Perm F) := Lib.hid (by have := hr.out.2.2.1; rw [hT] at this; exact this.done)
          have HR := Lib.hid hr.out.2.2.2
          have HBL := Lib.hid hr.out.1.bel
          clear hT htn
          go_wp2_with (go_at_call 83; refine (hlen_any hr.out.1).mono ?_; rw [HT0.out]; rintro e w' ⟨rfl, hw'⟩; subst hw')
          go_ret2
          exact ⟨M, _, _, _, _, rfl, HR.out.1, .inl ⟨rfl, HDN.out⟩, HR.out.2.1, HR.out.2.2, HBL.out⟩
        have t0 : 0 < tn := by rw [← htn]; exact List.length_pos_iff.2 hT
        have t1 : (0 : Int) < tn := by omega
        have HTK : Hid (T' ≠ [] ∧ T'.length * 24 ≤ 140737488355328 ∧ M.length + T'.length ≤ N) := Lib.hid (by
          have h1 := fl_ge (fun g hg => (hr.out.1.ins g hg).1)
          have h2 := hr.out.2.2.1.perm.length_eq
          rw [List.length_append, ers_len, HNF.out] at h2
          have := HTOT.out
          exact ⟨hT, by omega, by omega⟩)
        clear hT htn
        go_upto_region 11 with (first
          | (go_at_call 83; refine (hlen_any hr.out.1).mono ?_; rw [HT0.out]; rintro e w' ⟨rfl, hw'⟩; subst hw')
          | (go_at_call 84; refine (take_any hr.out.1 hr.out.2.1 HTK.out.1 HTK.out.2.1).mono ?_; rintro e w5 ⟨s, A2, c2, T2, rfl, hs0, h5, q5, p5, b5⟩; have H5 : Hid (T'[0]? = some s ∧ Hp w w5 hb A2 c2 T2 ∧ Heaped leG T2 ∧ (s :: T2).Perm T' ∧ Erow w5 w.heap.size Am cm M) := Lib.hid ⟨hs0, h5, q5, p5, Bes.erow hr.out.2.2.2.2.1 b5⟩; clear hs0 h5 q5 p5 b5))
        have hG := hr.out.1.ins s (H5.out.2.2.2.1.mem_iff.1 (List.mem_cons_self ..))
        obtain ⟨sd, x, es, hx0, -, hxi⟩ := hG.head
        have HMIN : Hid (∀ l ∈ fl T2, ∀ y, l.head? = some y → leE x.rd y) := Lib.hid (fun l hl y hy => by
          obtain ⟨g, hg, rfl⟩ := head_fl hl hy
          obtain ⟨i, hi, e⟩ := List.mem_iff_getElem.1 (H5.out.2.2.2.1.mem_iff.1 (List.mem_cons_of_mem _ hg))
          have := heaped_least leG_trans leG_refl hr.out.2.1 H5.out.1 i g (by rw [← e]; exact List.getElem?_eq_getElem hi)
          rw [← hd_of hx0]
          exact this)
        obtain ⟨sa, sc, sl⟩ := s
        simp only at es hx0
        subst es
        obtain ⟨r, hsl⟩ : ∃ r, sl = x :: r := by
          cases sl with
          | nil => simp at hx0
          | cons a b => simp at hx0; exact ⟨b, by rw [hx0]⟩
        subst hsl
        have HXI := Lib.hid hxi
        obtain ⟨sn, hsn⟩ : ∃ k, (x :: r).length = k := ⟨_, rfl⟩
        have HSL := Lib.hid hsn
        have HREST : Hid (1 < sn → GIn w ⟨some (sd.add (1 * 4)), sc - 1, r⟩) := Lib.hid (fun h => hG.rest (by rw [hsn]; exact h))
        have HSCAP : Hid (sn ≤ sc ∧ (sc : Int) ≤ 9223372036854775807) := Lib.hid (by have h1 := hG.2.2.2; rw [← hsn]; exact h1)
        obtain ⟨xn, hxn⟩ : ∃ k, x.k.l.length = k := ⟨_, rfl⟩
        obtain ⟨xv, hxv⟩ : ∃ k, x.v.l.length = k := ⟨_, rfl⟩
        have HXN := Lib.hid (And.intro hxn hxv)
        have HXC : Hid (∀ V, Below w.heap.size w V → V.cell? sd = some (.slice x.k.a xn x.k.c) ∧ V.cell? ⟨sd.block, sd.off + 1, none⟩ = some (.int .i64 x.s) ∧ V.cell? ⟨sd.block, sd.off + 2, none⟩ = some (.bool x.d) ∧ V.cell? ⟨sd.block, sd.off + 3, none⟩ = some (.slice x.v.a xv x.v.c)) := Lib.hid (fun V hV => by
          have h1 := lies_entry_at (j := 0) ((hG.kept hV).2.1 : Lies V (some sd) (evals (x :: r))) rfl
          have e0 : sd.add (0 * 4) = sd := by
            obtain ⟨a, b, c⟩ := sd
            rfl
          rw [e0] at h1
          unfold AtE at h1
          rw [hxn, hxv] at h1
          exact h1)
        have HINV : Hid (InvM F (ers M) (ers (x :: r) :: fl T2)) := Lib.hid (hr.out.2.2.1.turn (by have := H5.out.2.2.2.1.map (fun g : Gl => ers g.l); exact this))
        have HML : Hid (M.length = m) := Lib.hid hr.out.2.2.2.1
        have HMN : Hid (m + 1 ≤ N) := Lib.hid (by have := HTK.out.2.2; have := HML.out; have := HT0.out; omega)
        have HHP := Lib.hid H5.out.2.2.1
        have HTL : Hid ((T2.length + 1) * 24 ≤ 140737488355328) := Lib.hid (by have h1 := H5.out.2.2.2.1.length_eq; have := HTK.out.2.1; simp only [List.length_cons] at h1; omega)
        unfold Gl.val
        simp only
        rw [hsn]
        have s0' : 0 < sn := by rw [← hsn]; simp
        have s1' : (0 : Int) < sn := by omega
        have s2' : sn ≠ 0 := by omega
        clear hsn hxn hxv hG hx0 hxi
        by_cases hm : m = 0
        · have HSTEP : Hid (InvM F (ers (M ++ [x])) (ers r :: fl T2)) := Lib.hid (by
            rw [ers_append]
            refine HINV.out.step HMIN.out (fun e he => ?_)
            have : M = [] := List.eq_nil_of_length_eq_zero (by rw [HML.out]; exact hm)
            rw [this] at he
            cases he)
          have HM0 := Lib.hid hm
          have HGT : Hid (decide ((0 : Int) < m) = false) := Lib.hid (decide_eq_false (by omega))
          clear hm
          go_upto_region 12 with fail
          refine wp_region_noPanic ?_
          refine wp_region_held (S := fun _ => True) (by kernel_rfl) ?_
          change wpAnyH _ _ _ _ _ _ _ _ (World.drew _)
          have s0 : (fun _ : World => True) w5.drew := trivial
          refine wpAnyH_take (i := 0) (v := .int .i64 (m : Int)) rfl (by kernel_rfl) (by kernel_rfl) (by kernel_rfl) (fun _ _ _ h => h) (Or.inl ⟨by first | kernel_rfl | rfl, fun _ hS => by go_simp⟩) s0 ?_
          try simp only [Act.put, List.getElem_toArray, List.getElem_cons_zero, List.getElem_cons_succ, List.setIfInBounds_toArray, List.set_cons_zero, List.set_cons_succ]
          refine wpAnyH_take (i := 1) (v := .bool false) rfl (by kernel_rfl) (by kernel_rfl) (by kernel_rfl) (fun _ _ _ h => h) (Or.inl ⟨by first | kernel_rfl | rfl, fun _ hS => by go_simp; first | exact HGT.out | (have := HM0.out; omega) | (have := HM0.out; simp; omega)⟩) s0 ?_
          try simp only [Act.put, List.getElem_toArray, List.getElem_cons_zero, List.getElem_cons_succ, List.setIfInBounds_toArray, List.set_cons_zero, List.set_cons_succ]
          refine wpAnyH_take (i := 2) (v := .bool false) rfl (by kernel_rfl) (by kernel_rfl) (by kernel_rfl) (fun _ _ _ h => h) (Or.inl ⟨by first | kernel_rfl | rfl, fun _ hS => by go_simp⟩) s0 ?_
          try simp only [Act.put, List.getElem_toArray, List.getElem_cons_zero, List.getElem_cons_succ, List.setIfInBounds_toArray, List.set_cons_zero, List.set_cons_succ]
          refine wpAnyH_take (i := 3) (v := undef) rfl (by kernel_rfl) (by kernel_rfl) (by kernel_rfl) (fun _ _ _ h => h) (Or.inr ⟨by first | kernel_rfl | rfl, rfl⟩) s0 ?_
          try simp only [Act.put, List.getElem_toArray, List.getElem_cons_zero, List.getElem_cons_succ, List.setIfInBounds_toArray, List.set_cons_zero, List.set_cons_succ]
          refine wpAnyH_take (i := 4) (v := undef) rfl (by kernel_rfl) (by kernel_rfl) (by kernel_rfl) (fun _ _ _ h => h) (Or.inr ⟨by first | kernel_rfl | rfl, rfl⟩) s0 ?_
          try simp only [Act.put, List.getElem_toArray, List.getElem_cons_zero, List.getElem_cons_succ, List.setIfInBounds_toArray, List.set_cons_zero, List.set_cons_succ]
          refine wpAnyH_take (i := 5) (v := undef) rfl (by kernel_rfl) (by kernel_rfl) (by kernel_rfl) (fun _ _ _ h => h) (Or.inr ⟨by first | kernel_rfl | rfl, rfl⟩) s0 ?_
          try simp only [Act.put, List.getElem_toArray, List.getElem_cons_zero, List.getElem_cons_succ, List.setIfInBounds_toArray, List.set_cons_zero, List.set_cons_succ]
          refine wpAnyH_take (i := 6) (v := undef) rfl (by kernel_rfl) (by kernel_rfl) (by kernel_rfl) (fun _ _ _ h => h) (Or.inr ⟨by first | kernel_rfl | rfl, rfl⟩) s0 ?_
          try simp only [Act.put, List.getElem_toArray, List.getElem_cons_zero, List.getElem_cons_succ, List.setIfInBounds_toArray, List.set_cons_zero, List.set_cons_succ]
          refine wpAnyH_take (i := 7) (v := undef) rfl (by kernel_rfl) (by kernel_rfl) (by kernel_rfl) (fun _ _ _ h => h) (Or.inr ⟨by first | kernel_rfl | rfl, rfl⟩) s0 ?_
          try simp only [Act.put, List.getElem_toArray, List.getElem_cons_zero, List.getElem_cons_succ, List.setIfInBounds_toArray, List.set_cons_zero, List.set_cons_succ]
          refine wpAnyH_take (i := 8) (v := undef) rfl (by kernel_rfl) (by kernel_rfl) (by kernel_rfl) (fun _ _ _ h => h) (Or.inr ⟨by first | kernel_rfl | rfl, rfl⟩) s0 ?_
          try simp only [Act.put, List.getElem_toArray, List.getElem_cons_zero, List.getElem_cons_succ, List.setIfInBounds_toArray, List.set_cons_zero, List.set_cons_succ]
          refine wpAnyH_take (i := 9) (v := undef) rfl (by kernel_rfl) (by kernel_rfl) (by kernel_rfl) (fun _ _ _ h => h) (Or.inr ⟨by first | kernel_rfl | rfl, rfl⟩) s0 ?_
          try simp only [Act.put, List.getElem_toArray, List.getElem_cons_zero, List.getElem_cons_succ, List.setIfInBounds_toArray, List.set_cons_zero, List.set_cons_succ]
          refine wpAnyH_take (i := 10) (v := undef) rfl (by kernel_rfl) (by kernel_rfl) (by kernel_rfl) (fun _ _ _ h => h) (Or.inr ⟨by first | kernel_rfl | rfl, rfl⟩) s0 ?_
          try simp only [Act.put, List.getElem_toArray, List.getElem_cons_zero, List.getElem_cons_succ, List.setIfInBounds_toArray, List.set_cons_zero, List.set_cons_succ]
          refine wpAnyH_take (i := 11) (v := undef) rfl (by kernel_rfl) (by kernel_rfl) (by kernel_rfl) (fun _ _ _ h => h) (Or.inr ⟨by first | kernel_rfl | rfl, rfl⟩) s0 ?_
          try simp only [Act.put, List.getElem_toArray, List.getElem_cons_zero, List.getElem_cons_succ, List.setIfInBounds_toArray, List.set_cons_zero, List.set_cons_succ]
          refine wpAnyH_take (i := 12) (v := undef) rfl (by kernel_rfl) (by kernel_rfl) (by kernel_rfl) (fun _ _ _ h => h) (Or.inr ⟨by first | kernel_rfl | rfl, rfl⟩) s0 ?_
          try simp only [Act.put, List.getElem_toArray, List.getElem_cons_zero, List.getElem_cons_succ, List.setIfInBounds_toArray, List.set_cons_zero, List.set_cons_succ]
          refine wpAnyH_take (i := 13) (v := .bool false) rfl (by kernel_rfl) (by kernel_rfl) (by kernel_rfl) (fun _ _ _ h => h) (Or.inl ⟨by first | kernel_rfl | rfl, fun _ hS => by go_simp⟩) s0 ?_
          try simp only [Act.put, List.getElem_toArray, List.getElem_cons_zero, List.getElem_cons_succ, List.setIfInBounds_toArray, List.set_cons_zero, List.set_cons_succ]
          refine wpAnyH_done (by kernel_rfl) (NoPanic.normal ?_) _
          try simp only [Act.put, List.getElem_toArray, List.getElem_cons_zero, List.getElem_cons_succ, List.setIfInBounds_toArray, List.set_cons_zero, List.set_cons_succ]
          obtain ⟨w6, hw6⟩ : ∃ w6, w5.drew = w6 := ⟨_, rfl⟩
          have B6 : Hid (Below w5.heap.size w5 w6) := Lib.hid (hw6 ▸ (Below.refl _ _).drew)
          rw [hw6]
          clear hw6
          have HE5 : Hid (Hp w w6 hb A2 c2 T2 ∧ Erow w6 w.heap.size Am cm M) := Lib.hid ⟨H5.out.2.1.kept B6.out, H5.out.2.2.2.2.kept B6.out (Nat.le_refl _)⟩
          have HB5 : Hid (Below w.heap.size w w6) := Lib.hid HE5.out.1.bel
          obtain ⟨z0, z1, z2, z3⟩ := HXC.out w6 HB5.out
          go_upto_region 15 with (at_builtin; refine wpList_append_erow _ (by rfl) (.tmp 42) (.tmp 46) (by rfl) w.heap.size Am cm M [x] _ m 1 1 (by first | rfl | (simp [Act.eval]; done)) (by first | rfl | (simp [Act.eval]; done)) HML.out rfl (HE5.out.2.alloc _) (lit_entry w6 x.k.a x.v.a x.k.c x.v.c x.k.l x.v.l x.s x.d xn xv HXN.out.1 HXN.out.2) (by have := HB5.out.size; first | omega | (simp only [World.size_alloc]; omega) | (simp; omega)) (by have := HML.out; have := HMN.out; have := HTOT.out; simp only [List.length_singleton]; omega) ?_; intro A8 c8 w8 r8 b8 g8; have H8 : Hid (Hp w w8 hb A2 c2 T2 ∧ Erow w8 w.heap.size A8 c8 (M ++ [x])) := Lib.hid ⟨(HE5.out.1.kept (below_new _ _)).beside (HE5.out.2.alloc _) b8 (by rw [HML.out]; exact g8), r8⟩; clear r8 b8 g8)
          clear z0 z1 z2 z3
          by_cases h1 : 1 < sn
          · have u1 : (1 : Int) < sn := by omega
            have sh := slice_one sd sn sc h1 HSCAP.out.1
            have H1 := Lib.hid h1
            clear h1
            have HPUT : Hid (∀ V, Hp w V hb A2 c2 T2 → Calls Try.prog 82 #[.pointer (some ⟨hb, 0, none⟩), .slice (some ⟨sd.block, sd.off + 4, none⟩) (sn - 1) (sc - 1)] V fun e w' => e = .returned (.tuple #[]) ∧ ∃ (A' : Option Addr) (c' : Nat) (T' : List Gl), Hp w w' hb A' c' T' ∧ Heaped leG T' ∧ T'.Perm (T2 ++ [⟨some (sd.add (1 * 4)), sc - 1, r⟩]) ∧ Bes V w') := Lib.hid (fun V hV => by
              have hrl : r.length = sn - 1 := by have := HSL.out; simp only [List.length_cons] at this; omega
              have := put_any hV HHP.out ⟨some (sd.add (1 * 4)), sc - 1, r⟩ (HREST.out H1.out) (by have := HTL.out; omega)
              unfold Gl.val at this
              simp only [hrl] at this
              rw [show (Value.slice (some (sd.add (1 * 4))) (sn - 1) (sc - 1)) = Value.slice (some ⟨sd.block, sd.off + 4, none⟩) (sn - 1) (sc - 1) from by simp [Addr.add]] at this
              exact this)
            go_wp2_with (go_at_call 82; (with_reducible refine Calls.mono (HPUT.out _ H8.out.1) ?_); rintro e w9 ⟨rfl, A9, c9, T9, h9, q9, p9, b9⟩; have H9 : Hid (Hp w w9 hb A9 c9 T9 ∧ Heaped leG T9 ∧ T9.Perm (T2 ++ [⟨some (sd.add (1 * 4)), sc - 1, r⟩]) ∧ Erow w9 w.heap.size A8 c8 (M ++ [x])) := Lib.hid ⟨h9, q9, p9, Bes.erow H8.out.2 b9⟩; clear h9 q9 p9 b9)
            go_roundw
            case rel => exact ⟨A8, m + 1, c8, M ++ [x], A9, c9, T9, rfl, Lib.hid ⟨H9.out.1, H9.out.2.1, HSTEP.out.turn (perm_back H9.out.2.2.1), by rw [List.length_append, HML.out]; rfl, H9.out.2.2.2, mem_snoc hr.out.2.2.2.2.2 HXI.out⟩⟩
            case measure => have := HMN.out; simp [lenV]; omega
          · have u1 : decide ((1 : Int) < sn) = false := decide_eq_false (by omega)
            have u2 : decide (1 < sn) = false := decide_eq_false h1
            have HRN : Hid (r = []) := Lib.hid (List.eq_nil_of_length_eq_zero (by have := HSL.out; simp only [List.length_cons] at this; omega))
            clear h1
            go_wp2_with fail
            go_roundw
            case rel => exact ⟨A8, m + 1, c8, M ++ [x], A2, c2, T2, rfl, Lib.hid ⟨H8.out.1, HHP.out, by have := HSTEP.out; rw [HRN.out] at this; exact this.none, by rw [List.length_append, HML.out]; rfl, H8.out.2, mem_snoc hr.out.2.2.2.2.2 HXI.out⟩⟩
            case measure => have := HMN.out; simp [lenV]; omega
        · obtain ⟨j, hj⟩ : ∃ j, m = j + 1 := ⟨m - 1, by omega⟩
          have hp := List.getElem?_eq_getElem (l := M) (i := j) (by have := HML.out; omega)
          generalize M[j]'(by have := HML.out; omega) = p at hp
          obtain ⟨am, rfl, -⟩ := lies_entry H5.out.2.2.2.2.lies hp
          obtain ⟨pn, hpn⟩ : ∃ k, p.k.l.length = k := ⟨_, rfl⟩
          obtain ⟨pv, hpv⟩ : ∃ k, p.v.l.length = k := ⟨_, rfl⟩
          have HSC : Hid (∀ V, Below w5.heap.size w5 V → (V.cell? (am.add (j * 4)) = some (.slice p.k.a pn p.k.c) ∧ V.cell? ⟨(am.add (j * 4)).block, (am.add (j * 4)).off + 1, none⟩ = some (.int .i64 p.s) ∧ V.cell? ⟨(am.add (j * 4)).block, (am.add (j * 4)).off + 2, none⟩ = some (.bool p.d) ∧ V.cell? ⟨(am.add (j * 4)).block, (am.add (j * 4)).off + 3, none⟩ = some (.slice p.v.a pv p.v.c)) ∧ V.cell? sd = some (.slice x.k.a xn x.k.c) ∧ V.cell? ⟨sd.block, sd.off + 1, none⟩ = some (.int .i64 x.s) ∧ V.cell? ⟨sd.block, sd.off + 2, none⟩ = some (.bool x.d) ∧ V.cell? ⟨sd.block, sd.off + 3, none⟩ = some (.slice x.v.a xv x.v.c)) := Lib.hid (fun V hV => by
            have h1 := lies_entry_at (H5.out.2.2.2.2.kept hV (Nat.le_refl _)).lies hp
            unfold AtE at h1
            rw [hpn, hpv] at h1
            exact ⟨h1, HXC.out V (H5.out.2.1.bel.trans (hV.mono H5.out.2.1.bel.size))⟩)
          obtain ⟨d, hd⟩ : ∃ d, ordE p.rd x.rd = d := ⟨_, rfl⟩
          have HOR : Hid (∀ V, Below w5.heap.size w5 V → Calls Try.prog 53 #[.agg #[.slice p.k.a pn p.k.c, .int .i64 p.s, .bool p.d, .slice p.v.a pv p.v.c], .agg #[.slice x.k.a xn x.k.c, .int .i64 x.s, .bool x.d, .slice x.v.a xv x.v.c]] V fun e w' => e = .returned (.int .i64 d) ∧ Below V.heap.size V w') := Lib.hid (fun V hV => by
            have hb := H5.out.2.1.bel.trans (hV.mono H5.out.2.1.bel.size)
            have := order_any p x V ((hr.out.2.2.2.2.2 p (List.mem_of_getElem? hp)).kept hb) (HXI.out.kept hb)
            rwa [En.val_eq, En.val_eq, hpn, hpv, HXN.out.1, HXN.out.2, hd] at this)
          have HLST : Hid ((ers M).getLast? = some p.rd) := Lib.hid (by
            rw [List.getLast?_eq_getElem?, ers_len, HML.out, hj, Nat.add_sub_cancel]
            exact ers_get hp)
          have HJ2 : Hid (IntKind.i64.wrap ((m : Int) - 1) = j) := Lib.hid (by have := HTOT.out; have := HMN.out; rw [IntKind.wrap_i64]; omega)
          have j0 : (j : Int) < m := by omega
          have y1 : (0 : Int) < m := by omega
          have y2 : 0 < m := by omega
          clear hp hpn hpv hj hm
          by_cases hz : d = 0
          · have HDUP : Hid (¬ Apt F) := Lib.hid (HINV.out.dup HLST.out (hd.trans hz))
            have z1 : (d == 0) = true := by simpa using hz
            clear hz hd
            go_upto_region 12 with fail
            refine wp_region_noPanic ?_
            refine wp_region_held (S := fun V => (V.cell? (am.add (j * 4)) = some (.slice p.k.a pn p.k.c) ∧ V.cell? ⟨(am.add (j * 4)).block, (am.add (j * 4)).off + 1, none⟩ = some (.int .i64 p.s) ∧ V.cell? ⟨(am.add (j * 4)).block, (am.add (j * 4)).off + 2, none⟩ = some (.bool p.d) ∧ V.cell? ⟨(am.add (j * 4)).block, (am.add (j * 4)).off + 3, none⟩ = some (.slice p.v.a pv p.v.c)) ∧ V.cell? sd = some (.slice x.k.a xn x.k.c) ∧ V.cell? ⟨sd.block, sd.off + 1, none⟩ = some (.int .i64 x.s) ∧ V.cell? ⟨sd.block, sd.off + 2, none⟩ = some (.bool x.d) ∧ V.cell? ⟨sd.block, sd.off + 3, none⟩ = some (.slice x.v.a xv x.v.c)) (by kernel_rfl) ?_
            change wpAnyH _ _ _ _ _ _ _ _ (World.drew _)
            have s0 := HSC.out _ (Below.refl _ _).drew
            refine wpAnyH_take (i := 0) (v := .int .i64 (m : Int)) rfl (by kernel_rfl) (by kernel_rfl) (by kernel_rfl) (fun _ _ _ h => h) (Or.inl ⟨by first | kernel_rfl | rfl, fun _ hS => by go_simp⟩) s0 ?_
            try simp only [Act.put, List.getElem_toArray, List.getElem_cons_zero, List.getElem_cons_succ, List.setIfInBounds_toArray, List.set_cons_zero, List.set_cons_succ]
            refine wpAnyH_take (i := 1) (v := .bool true) rfl (by kernel_rfl) (by kernel_rfl) (by kernel_rfl) (fun _ _ _ h => h) (Or.inl ⟨by first | kernel_rfl | rfl, fun _ hS => by go_simp⟩) s0 ?_
            try simp only [Act.put, List.getElem_toArray, List.getElem_cons_zero, List.getElem_cons_succ, List.setIfInBounds_toArray, List.set_cons_zero, List.set_cons_succ]
            refine wpAnyH_take (i := 2) (v := .bool true) rfl (by kernel_rfl) (by kernel_rfl) (by kernel_rfl) (fun _ _ _ h => h) (Or.inl ⟨by first | kernel_rfl | rfl, fun _ hS => by go_simp⟩) s0 ?_
            try simp only [Act.put, List.getElem_toArray, List.getElem_cons_zero, List.getElem_cons_succ, List.setIfInBounds_toArray, List.set_cons_zero, List.set_cons_succ]
            refine wpAnyH_take (i := 3) (v := .slice (some am) m cm) rfl (by kernel_rfl) (by kernel_rfl) (by kernel_rfl) (fun _ _ _ h => h) (Or.inl ⟨by first | kernel_rfl | rfl, fun _ hS => by go_simp⟩) s0 ?_
            try simp only [Act.put, List.getElem_toArray, List.getElem_cons_zero, List.getElem_cons_succ, List.setIfInBounds_toArray, List.set_cons_zero, List.set_cons_succ]
            refine wpAnyH_take (i := 4) (v := .int .i64 (m : Int)) rfl (by kernel_rfl) (by kernel_rfl) (by kernel_rfl) (fun _ _ _ h => h) (Or.inl ⟨by first | kernel_rfl | rfl, fun _ hS => by go_simp⟩) s0 ?_
            try simp only [Act.put, List.getElem_toArray, List.getElem_cons_zero, List.getElem_cons_succ, List.setIfInBounds_toArray, List.set_cons_zero, List.set_cons_succ]
            refine wpAnyH_take (i := 5) (v := .int .i64 (j : Int)) rfl (by kernel_rfl) (by kernel_rfl) (by kernel_rfl) (fun _ _ _ h => h) (Or.inl ⟨by first | kernel_rfl | rfl, fun _ hS => by go_simp; exact HJ2.out⟩) s0 ?_
            try simp only [Act.put, List.getElem_toArray, List.getElem_cons_zero, List.getElem_cons_succ, List.setIfInBounds_toArray, List.set_cons_zero, List.set_cons_succ]
            refine wpAnyH_take (i := 6) (v := .pointer (some (am.add (j * 4)))) rfl (by kernel_rfl) (by kernel_rfl) (by kernel_rfl) (fun _ _ _ h => h) (Or.inl ⟨by first | kernel_rfl | rfl, fun _ hS => by go_simp⟩) s0 ?_
            try simp only [Act.put, List.getElem_toArray, List.getElem_cons_zero, List.getElem_cons_succ, List.setIfInBounds_toArray, List.set_cons_zero, List.set_cons_succ]
            refine wpAnyH_take (i := 7) (v := .agg #[.slice p.k.a pn p.k.c, .int .i64 p.s, .bool p.d, .slice p.v.a pv p.v.c]) rfl (by kernel_rfl) (by kernel_rfl) (by kernel_rfl) (fun _ _ _ h => h) (Or.inl ⟨by first | kernel_rfl | rfl, fun _ hS => by obtain ⟨⟨k1, k2, k3, k4⟩, k5, k6, k7, k8⟩ := hS; go_simp⟩) s0 ?_
            try simp only [Act.put, List.getElem_toArray, List.getElem_cons_zero, List.getElem_cons_succ, List.setIfInBounds_toArray, List.set_cons_zero, List.set_cons_succ]
            refine wpAnyH_take (i := 8) (v := .slice (some sd) sn sc) rfl (by kernel_rfl) (by kernel_rfl) (by kernel_rfl) (fun _ _ _ h => h) (Or.inl ⟨by first | kernel_rfl | rfl, fun _ hS => by go_simp⟩) s0 ?_
            try simp only [Act.put, List.getElem_toArray, List.getElem_cons_zero, List.getElem_cons_succ, List.setIfInBounds_toArray, List.set_cons_zero, List.set_cons_succ]
            refine wpAnyH_take (i := 9) (v := .pointer (some sd)) rfl (by kernel_rfl) (by kernel_rfl) (by kernel_rfl) (fun _ _ _ h => h) (Or.inl ⟨by first | kernel_rfl | rfl, fun _ hS => by go_simp⟩) s0 ?_
            try simp only [Act.put, List.getElem_toArray, List.getElem_cons_zero, List.getElem_cons_succ, List.setIfInBounds_toArray, List.set_cons_zero, List.set_cons_succ]
            refine wpAnyH_take (i := 10) (v := .agg #[.slice x.k.a xn x.k.c, .int .i64 x.s, .bool x.d, .slice x.v.a xv x.v.c]) rfl (by kernel_rfl) (by kernel_rfl) (by kernel_rfl) (fun _ _ _ h => h) (Or.inl ⟨by first | kernel_rfl | rfl, fun _ hS => by obtain ⟨⟨k1, k2, k3, k4⟩, k5, k6, k7, k8⟩ := hS; go_simp⟩) s0 ?_
            try simp only [Act.put, List.getElem_toArray, List.getElem_cons_zero, List.getElem_cons_succ, List.setIfInBounds_toArray, List.set_cons_zero, List.set_cons_succ]
            refine wpAnyH_ready (rs := [11]) (by kernel_rfl) (by simp) ?_
            refine AllReadyH.cons rfl (fun K hK => ?_) AllReadyH.nil
            go_simp
            go_at_call 53
            refine (HOR.out _ (Below.refl _ _).drew).mono ?_
            rintro e w6 ⟨rfl, b6⟩
            have B6 : Hid (Below w5.heap.size w5 w6) := Lib.hid (below_then (Below.refl _ _).drew b6)
            clear b6
            refine hK.out _ _ (HSC.out _ B6.out) (fun _ => ?_)
            clear hK K
            try simp only [Act.put, List.getElem_toArray, List.getElem_cons_zero, List.getElem_cons_succ, List.setIfInBounds_toArray, List.set_cons_zero, List.set_cons_succ]
            have s1 := HSC.out _ B6.out
            refine wpAnyH_take (i := 12) (v := .bool true) rfl (by kernel_rfl) (by kernel_rfl) (by kernel_rfl) (fun _ _ _ h => h) (Or.inl ⟨by first | kernel_rfl | rfl, fun _ hS => by go_simp⟩) s1 ?_
            try simp only [Act.put, List.getElem_toArray, List.getElem_cons_zero, List.getElem_cons_succ, List.setIfInBounds_toArray, List.set_cons_zero, List.set_cons_succ]
            refine wpAnyH_take (i := 13) (v := .bool true) rfl (by kernel_rfl) (by kernel_rfl) (by kernel_rfl) (fun _ _ _ h => h) (Or.inl ⟨by first | kernel_rfl | rfl, fun _ hS => by go_simp⟩) s1 ?_
            try simp only [Act.put, List.getElem_toArray, List.getElem_cons_zero, List.getElem_cons_succ, List.setIfInBounds_toArray, List.set_cons_zero, List.set_cons_succ]
            refine wpAnyH_done (by kernel_rfl) (NoPanic.normal ?_) _
            try simp only [Act.put, List.getElem_toArray, List.getElem_cons_zero, List.getElem_cons_succ, List.setIfInBounds_toArray, List.set_cons_zero, List.set_cons_succ]
            go_wp2_with fail
            go_ret2
            exact ⟨[], none, 0, 0, 31, rfl, rfl, .inr ⟨rfl, rfl, HDUP.out⟩, Erow.nil _ _, (fun _ h => by cases h), H5.out.2.1.bel.trans (B6.out.mono H5.out.2.1.bel.size)⟩
          · have HSTEP : Hid (InvM F (ers (M ++ [x])) (ers r :: fl T2)) := Lib.hid (by
              rw [ers_append]
              refine HINV.out.step HMIN.out (fun e he => ?_)
              rw [HLST.out] at he
              injection he with he
              rw [← he, hd]
              exact hz)
            have z1 : (d == 0) = false := by simpa using hz
            clear hz hd
            go_upto_region 12 with fail
            refine wp_region_noPanic ?_
            refine wp_region_held (S := fun V => (V.cell? (am.add (j * 4)) = some (.slice p.k.a pn p.k.c) ∧ V.cell? ⟨(am.add (j * 4)).block, (am.add (j * 4)).off + 1, none⟩ = some (.int .i64 p.s) ∧ V.cell? ⟨(am.add (j * 4)).block, (am.add (j * 4)).off + 2, none⟩ = some (.bool p.d) ∧ V.cell? ⟨(am.add (j * 4)).block, (am.add (j * 4)).off + 3, none⟩ = some (.slice p.v.a pv p.v.c)) ∧ V.cell? sd = some (.slice x.k.a xn x.k.c) ∧ V.cell? ⟨sd.block, sd.off + 1, none⟩ = some (.int .i64 x.s) ∧ V.cell? ⟨sd.block, sd.off + 2, none⟩ = some (.bool x.d) ∧ V.cell? ⟨sd.block, sd.off + 3, none⟩ = some (.slice x.v.a xv x.v.c)) (by kernel_rfl) ?_
            change wpAnyH _ _ _ _ _ _ _ _ (World.drew _)
            have s0 := HSC.out _ (Below.refl _ _).drew
            refine wpAnyH_take (i := 0) (v := .int .i64 (m : Int)) rfl (by kernel_rfl) (by kernel_rfl) (by kernel_rfl) (fun _ _ _ h => h) (Or.inl ⟨by first | kernel_rfl | rfl, fun _ hS => by go_simp⟩) s0 ?_
            try simp only [Act.put, List.getElem_toArray, List.getElem_cons_zero, List.getElem_cons_succ, List.setIfInBounds_toArray, List.set_cons_zero, List.set_cons_succ]
            refine wpAnyH_take (i := 1) (v := .bool true) rfl (by kernel_rfl) (by kernel_rfl) (by kernel_rfl) (fun _ _ _ h => h) (Or.inl ⟨by first | kernel_rfl | rfl, fun _ hS => by go_simp⟩) s0 ?_
            try simp only [Act.put, List.getElem_toArray, List.getElem_cons_zero, List.getElem_cons_succ, List.setIfInBounds_toArray, List.set_cons_zero, List.set_cons_succ]
            refine wpAnyH_take (i := 2) (v := .bool true) rfl (by kernel_rfl) (by kernel_rfl) (by kernel_rfl) (fun _ _ _ h => h) (Or.inl ⟨by first | kernel_rfl | rfl, fun _ hS => by go_simp⟩) s0 ?_
            try simp only [Act.put, List.getElem_toArray, List.getElem_cons_zero, List.getElem_cons_succ, List.setIfInBounds_toArray, List.set_cons_zero, List.set_cons_succ]
            refine wpAnyH_take (i := 3) (v := .slice (some am) m cm) rfl (by kernel_rfl) (by kernel_rfl) (by kernel_rfl) (fun _ _ _ h => h) (Or.inl ⟨by first | kernel_rfl | rfl, fun _ hS => by go_simp⟩) s0 ?_
            try simp only [Act.put, List.getElem_toArray, List.getElem_cons_zero, List.getElem_cons_succ, List.setIfInBounds_toArray, List.set_cons_zero, List.set_cons_succ]
            refine wpAnyH_take (i := 4) (v := .int .i64 (m : Int)) rfl (by kernel_rfl) (by kernel_rfl) (by kernel_rfl) (fun _ _ _ h => h) (Or.inl ⟨by first | kernel_rfl | rfl, fun _ hS => by go_simp⟩) s0 ?_
            try simp only [Act.put, List.getElem_toArray, List.getElem_cons_zero, List.getElem_cons_succ, List.setIfInBounds_toArray, List.set_cons_zero, List.set_cons_succ]
            refine wpAnyH_take (i := 5) (v := .int .i64 (j : Int)) rfl (by kernel_rfl) (by kernel_rfl) (by kernel_rfl) (fun _ _ _ h => h) (Or.inl ⟨by first | kernel_rfl | rfl, fun _ hS => by go_simp; exact HJ2.out⟩) s0 ?_
            try simp only [Act.put, List.getElem_toArray, List.getElem_cons_zero, List.getElem_cons_succ, List.setIfInBounds_toArray, List.set_cons_zero, List.set_cons_succ]
            refine wpAnyH_take (i := 6) (v := .pointer (some (am.add (j * 4)))) rfl (by kernel_rfl) (by kernel_rfl) (by kernel_rfl) (fun _ _ _ h => h) (Or.inl ⟨by first | kernel_rfl | rfl, fun _ hS => by go_simp⟩) s0 ?_
            try simp only [Act.put, List.getElem_toArray, List.getElem_cons_zero, List.getElem_cons_succ, List.setIfInBounds_toArray, List.set_cons_zero, List.set_cons_succ]
            refine wpAnyH_take (i := 7) (v := .agg #[.slice p.k.a pn p.k.c, .int .i64 p.s, .bool p.d, .slice p.v.a pv p.v.c]) rfl (by kernel_rfl) (by kernel_rfl) (by kernel_rfl) (fun _ _ _ h => h) (Or.inl ⟨by first | kernel_rfl | rfl, fun _ hS => by obtain ⟨⟨k1, k2, k3, k4⟩, k5, k6, k7, k8⟩ := hS; go_simp⟩) s0 ?_
            try simp only [Act.put, List.getElem_toArray, List.getElem_cons_zero, List.getElem_cons_succ, List.setIfInBounds_toArray, List.set_cons_zero, List.set_cons_succ]
            refine wpAnyH_take (i := 8) (v := .slice (some sd) sn sc) rfl (by kernel_rfl) (by kernel_rfl) (by kernel_rfl) (fun _ _ _ h => h) (Or.inl ⟨by first | kernel_rfl | rfl, fun _ hS => by go_simp⟩) s0 ?_
            try simp only [Act.put, List.getElem_toArray, List.getElem_cons_zero, List.getElem_cons_succ, List.setIfInBounds_toArray, List.set_cons_zero, List.set_cons_succ]
            refine wpAnyH_take (i := 9) (v := .pointer (some sd)) rfl (by kernel_rfl) (by kernel_rfl) (by kernel_rfl) (fun _ _ _ h => h) (Or.inl ⟨by first | kernel_rfl | rfl, fun _ hS => by go_simp⟩) s0 ?_
            try simp only [Act.put, List.getElem_toArray, List.getElem_cons_zero, List.getElem_cons_succ, List.setIfInBounds_toArray, List.set_cons_zero, List.set_cons_succ]
            refine wpAnyH_take (i := 10) (v := .agg #[.slice x.k.a xn x.k.c, .int .i64 x.s, .bool x.d, .slice x.v.a xv x.v.c]) rfl (by kernel_rfl) (by kernel_rfl) (by kernel_rfl) (fun _ _ _ h => h) (Or.inl ⟨by first | kernel_rfl | rfl, fun _ hS => by obtain ⟨⟨k1, k2, k3, k4⟩, k5, k6, k7, k8⟩ := hS; go_simp⟩) s0 ?_
            try simp only [Act.put, List.getElem_toArray, List.getElem_cons_zero, List.getElem_cons_succ, List.setIfInBounds_toArray, List.set_cons_zero, List.set_cons_succ]
            refine wpAnyH_ready (rs := [11]) (by kernel_rfl) (by simp) ?_
            refine AllReadyH.cons rfl (fun K hK => ?_) AllReadyH.nil
            go_simp
            go_at_call 53
            refine (HOR.out _ (Below.refl _ _).drew).mono ?_
            rintro e w6 ⟨rfl, b6⟩
            have B6 : Hid (Below w5.heap.size w5 w6) := Lib.hid (below_then (Below.refl _ _).drew b6)
            clear b6
            refine hK.out _ _ (HSC.out _ B6.out) (fun _ => ?_)
            clear hK K
            try simp only [Act.put, List.getElem_toArray, List.getElem_cons_zero, List.getElem_cons_succ, List.setIfInBounds_toArray, List.set_cons_zero, List.set_cons_succ]
            have s1 := HSC.out _ B6.out
            refine wpAnyH_take (i := 12) (v := .bool false) rfl (by kernel_rfl) (by kernel_rfl) (by kernel_rfl) (fun _ _ _ h => h) (Or.inl ⟨by first | kernel_rfl | rfl, fun _ hS => by go_simp⟩) s1 ?_
            try simp only [Act.put, List.getElem_toArray, List.getElem_cons_zero, List.getElem_cons_succ, List.setIfInBounds_toArray, List.set_cons_zero, List.set_cons_succ]
            refine wpAnyH_take (i := 13) (v := .bool false) rfl (by kernel_rfl) (by kernel_rfl) (by kernel_rfl) (fun _ _ _ h => h) (Or.inl ⟨by first | kernel_rfl | rfl, fun _ hS => by go_simp⟩) s1 ?_
            try simp only [Act.put, List.getElem_toArray, List.getElem_cons_zero, List.getElem_cons_succ, List.setIfInBounds_toArray, List.set_cons_zero, List.set_cons_succ]
            refine wpAnyH_done (by kernel_rfl) (NoPanic.normal ?_) _
            try simp only [Act.put, List.getElem_toArray, List.getElem_cons_zero, List.getElem_cons_succ, List.setIfInBounds_toArray, List.set_cons_zero, List.set_cons_succ]
            clear j0 y1 y2
            have HE5 : Hid (Hp w w6 hb A2 c2 T2 ∧ Erow w6 w.heap.size (some am) cm M) := Lib.hid ⟨H5.out.2.1.kept B6.out, H5.out.2.2.2.2.kept B6.out (Nat.le_refl _)⟩
            have HB5 : Hid (Below w.heap.size w w6) := Lib.hid HE5.out.1.bel
            obtain ⟨z0, z1, z2, z3⟩ := HXC.out w6 HB5.out
            go_upto_region 15 with (at_builtin; refine wpList_append_erow _ (by rfl) (.tmp 42) (.tmp 46) (by rfl) w.heap.size (some am) cm M [x] _ m 1 1 (by first | rfl | (simp [Act.eval]; done)) (by first | rfl | (simp [Act.eval]; done)) HML.out rfl (HE5.out.2.alloc _) (lit_entry w6 x.k.a x.v.a x.k.c x.v.c x.k.l x.v.l x.s x.d xn xv HXN.out.1 HXN.out.2) (by have := HB5.out.size; first | omega | (simp only [World.size_alloc]; omega) | (simp; omega)) (by have := HML.out; have := HMN.out; have := HTOT.out; simp only [List.length_singleton]; omega) ?_; intro A8 c8 w8 r8 b8 g8; have H8 : Hid (Hp w w8 hb A2 c2 T2 ∧ Erow w8 w.heap.size A8 c8 (M ++ [x])) := Lib.hid ⟨(HE5.out.1.kept (below_new _ _)).beside (HE5.out.2.alloc _) b8 (by rw [HML.out]; exact g8), r8⟩; clear r8 b8 g8)
            clear z0 z1 z2 z3
            by_cases h1 : 1 < sn
            · have u1 : (1 : Int) < sn := by omega
              have sh := slice_one sd sn sc h1 HSCAP.out.1
              have H1 := Lib.hid h1
              clear h1
              have HPUT : Hid (∀ V, Hp w V hb A2 c2 T2 → Calls Try.prog 82 #[.pointer (some ⟨hb, 0, none⟩), .slice (some ⟨sd.block, sd.off + 4, none⟩) (sn - 1) (sc - 1)] V fun e w' => e = .returned (.tuple #[]) ∧ ∃ (A' : Option Addr) (c' : Nat) (T' : List Gl), Hp w w' hb A' c' T' ∧ Heaped leG T' ∧ T'.Perm (T2 ++ [⟨some (sd.add (1 * 4)), sc - 1, r⟩]) ∧ Bes V w') := Lib.hid (fun V hV => by
                have hrl : r.length = sn - 1 := by have := HSL.out; simp only [List.length_cons] at this; omega
                have := put_any hV HHP.out ⟨some (sd.add (1 * 4)), sc - 1, r⟩ (HREST.out H1.out) (by have := HTL.out; omega)
                unfold Gl.val at this
                simp only [hrl] at this
                rw [show (Value.slice (some (sd.add (1 * 4))) (sn - 1) (sc - 1)) = Value.slice (some ⟨sd.block, sd.off + 4, none⟩) (sn - 1) (sc - 1) from by simp [Addr.add]] at this
                exact this)
              go_wp2_with (go_at_call 82; (with_reducible refine Calls.mono (HPUT.out _ H8.out.1) ?_); rintro e w9 ⟨rfl, A9, c9, T9, h9, q9, p9, b9⟩; have H9 : Hid (Hp w w9 hb A9 c9 T9 ∧ Heaped leG T9 ∧ T9.Perm (T2 ++ [⟨some (sd.add (1 * 4)), sc - 1, r⟩]) ∧ Erow w9 w.heap.size A8 c8 (M ++ [x])) := Lib.hid ⟨h9, q9, p9, Bes.erow H8.out.2 b9⟩; clear h9 q9 p9 b9)
              go_roundw
              case rel => exact ⟨A8, m + 1, c8, M ++ [x], A9, c9, T9, rfl, Lib.hid ⟨H9.out.1, H9.out.2.1, HSTEP.out.turn (perm_back H9.out.2.2.1), by rw [List.length_append, HML.out]; rfl, H9.out.2.2.2, mem_snoc hr.out.2.2.2.2.2 HXI.out⟩⟩
              case measure => have := HMN.out; simp [lenV]; omega
            · have u1 : decide ((1 : Int) < sn) = false := decide_eq_false (by omega)
              have u2 : decide (1 < sn) = false := decide_eq_false h1
              have HRN : Hid (r = []) := Lib.hid (List.eq_nil_of_length_eq_zero (by have := HSL.out; simp only [List.length_cons] at this; omega))
              clear h1
              go_wp2_with fail
              go_roundw
              case rel => exact ⟨A8, m + 1, c8, M ++ [x], A2, c2, T2, rfl, Lib.hid ⟨H8.out.1, HHP.out, by have := HSTEP.out; rw [HRN.out] at this; exact this.none, by rw [List.length_append, HML.out]; rfl, H8.out.2, mem_snoc hr.out.2.2.2.2.2 HXI.out⟩⟩
              case measure => have := HMN.out; simp [lenV]; omega
end Go.Proofs.Ytcffpkflijpdjaa
