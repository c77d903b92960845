/-
  Walks: the document's disk: a file named anew.
-/
import Derived.Test.YtjacjafpeajhaaaWkK
namespace Go.Proofs.Ytjacjafpeajhaaa
open Go.RowKit

/-- One file less, if it is there. -/
def dropM (t : ByteArray) (fs : List (ByteArray × List Int × Int)) : List (ByteArray × List Int × Int) :=
  match findM t fs with
  | none => fs
  | some j => fs.eraseIdx j
/-- A file named anew. -/
def renM (s t : ByteArray) (fs : List (ByteArray × List Int × Int)) : List (ByteArray × List Int × Int) :=
  match findM s fs with
  | none => fs
  | some i => match fs[i]? with
    | none => fs
    | some p => insM (t, p.2.1, p.2.2) (dropM t (fs.eraseIdx i))
/-- P7.2, Rename. -/
def Md.rename (m : Md) (s t : ByteArray) : Md × Int := m.does (m.named s t) (fun fs => if s = t then fs else renM s t fs)
theorem Does.keeps {S S' : Nat → Prop} {a b : World} {k : Nat} (h : Does S S' a b) (hk : k < a.heap.size) (hn : ¬ S k) : b.heap[k]? = a.heap[k]? ∧ k < b.heap.size ∧ ¬ S' k :=
  ⟨h.block k hk hn, Nat.lt_of_lt_of_le hk h.size, fun h2 => (h.grows k h2).elim hn (fun h3 => by omega)⟩
theorem RefSt.refileX {w w1 : World} {B g : Nat} {d : Dk} {A : Option Addr} {c : Nat} {l : List Fl} (h : RefSt w B g d) (hr : Frow w1 w.heap.size A c l) (hb : Below w.heap.size w w1) (hf : l.length ≤ 1048576) (hq : ∀ q ∈ l, Row w1 B q.d.a q.d.c q.d.l ∧ Byt q.d.l ∧ q.d.l.length ≤ 1099511627776) :
    RefSt (w1.setCell ⟨g, 0, none⟩ (.slice A l.length c)) B g { d with A := A, c := c, l := l } := by
  have hBw : B ≤ w.heap.size := by have := h.low; have := h.at_.lt; omega
  have hd1 : DkAt w1 g d := by
    unfold DkAt
    rw [hb.block g h.at_.lt]
    exact h.at_
  have hx : BelowX w1.heap.size g w1 (w1.setCell ⟨g, 0, none⟩ (.slice A l.length c)) := belowx_set _ _ _ _ _
  exact ⟨hd1.set 0 _ rfl, h.low, own_keptx (own_mono hr hBw) hx (Nat.le_refl _) (Frow.not_at hr hd1), fun q hm => own_keptx (hq q hm).1 hx (Nat.le_refl _) ((hq q hm).1.not_at hd1), fun q hm => (hq q hm).2.1, hf, fun q hm => (hq q hm).2.2, h.done⟩
theorem does_x {w w' : World} {g : Nat} {d d' : Dk} (hb : BelowX w.heap.size g w w') (hg : ∀ k, d'.own g k → d.own g k ∨ w.heap.size ≤ k) : Does (d.own g) (d'.own g) w w' :=
  ⟨hb.os, hb.tape, hb.output, hb.size, fun k hk hn => hb.block k hk (fun e => hn (.inl e)), hg⟩
/-- A file in a variable of the call's own. -/
def FAt (w : World) (k : Nat) (q : Fl) : Prop := w.heap[k]? = some (.cells q.cells.toArray 48 (0, 0))
theorem FAt.cell {w : World} {k : Nat} {q : Fl} (h : FAt w k q) : w.cell? ⟨k, 0, none⟩ = some (.string q.s) ∧ w.cell? ⟨k, 1, none⟩ = some (.slice q.d.a q.d.l.length q.d.c) ∧ w.cell? ⟨k, 2, none⟩ = some (.int .i64 q.y) := by
  unfold FAt at h
  refine ⟨?_, ?_, ?_⟩ <;> simp [World.cell?, h, Fl.cells, Sl.val]
theorem FAt.of {w w' : World} {k : Nat} {q : Fl} (h : FAt w k q) (e : w'.heap[k]? = w.heap[k]?) : FAt w' k q := by
  unfold FAt at h ⊢
  rw [e, h]

set_option maxRecDepth 100000 in
set_option maxHeartbeats 8000000 in
theorem refRename_any (B g : Nat) (d : Dk) (s t : ByteArray) (w : World) (h : RefSt w B g d) (hs : s.size ≤ 281474976710656) (ht : t.size ≤ 281474976710656) (hdn : d.done < 1099511627776) :
    Calls Try.prog 39 #[.pointer (some ⟨g, 0, none⟩), .string s, .string t] w fun e w' => e = .returned (.int .i64 (d.md.rename s t).2) ∧ Left w B g d (d.md.rename s t).1 w' := by
  obtain ⟨n, hn⟩ : ∃ n, d.l.length = n := ⟨_, rfl⟩
  have HN := Lib.hid (refNamed_any g d s t n w h.at_ h.row.lies hn (by rw [← hn]; exact h.few) hs ht)
  have HC := Lib.hid (refChange_any g d w h.at_ h.done)
  have H := Lib.hid h
  have HL := Lib.hid hn
  obtain ⟨p, hp⟩ : ∃ p, d.named s t = p := ⟨_, rfl⟩
  rw [hp] at HN
  obtain ⟨r, hr⟩ : ∃ r, d.change.2 = r := ⟨_, rfl⟩
  rw [hr] at HC
  have HP := Lib.hid (And.intro hp hr)
  obtain ⟨M, hM⟩ : ∃ M, d.md.rename s t = M := ⟨_, rfl⟩
  rw [hM]
  have HM := Lib.hid hM
  have HD := Lib.hid hdn
  clear hp hr hM h hn hdn
  by_cases h0 : p = 0
  · subst h0
    by_cases h1 : r = 0
    · subst h1
      obtain ⟨i, hi⟩ : ∃ i, findM s (d.l.map Fl.rd) = some i := by
        have h1 := HP.out.1
        rw [named_md] at h1
        unfold Md.named at h1
        cases hf : findM s (d.l.map Fl.rd) with
        | some i => exact ⟨i, rfl⟩
        | none =>
          simp only [Dk.md, hf] at h1
          split at h1
          · cases h1
          · split at h1
            · cases h1
            · cases h1
      have hin : i < n := by
        have := (List.findIdx?_eq_some_iff_getElem.1 hi).1
        have h2 := HL.out
        rw [List.length_map] at this
        omega
      have HFI : Hid (findI s d.l = (i : Int)) := Lib.hid (by rw [findI_md, hi]; rfl)
      obtain ⟨q1, q2, q3, q4, q5⟩ := change_md d
      obtain ⟨d1, hd1⟩ : ∃ d1, d.change.1 = d1 := ⟨_, rfl⟩
      rw [hd1] at HC q1 q3 q4 q5
      have Q := Lib.hid (And.intro q3 (And.intro q4 q5))
      have HDN : Hid (0 ≤ d1.done ∧ d1.done ≤ 1099511627776) := Lib.hid (by have := HD.out; have := H.out.done; rw [← hd1]; unfold Dk.change; split <;> simp <;> omega)
      have HMV : Hid (M = ({ d1.md with fs := if s = t then d.l.map Fl.rd else renM s t (d.l.map Fl.rd) }, 0)) := Lib.hid (by rw [← HM.out]; unfold Md.rename Md.does; rw [← named_md, HP.out.1, ← q2, HP.out.2, if_neg (by simp), if_neg (by simp), ← q1]; rfl)
      clear q1 q2 q3 q4 q5 hd1 HM HP
      by_cases hst : s = t
      · subst hst
        have HV : Hid (M = (d1.md, 0)) := Lib.hid (by rw [HMV.out, if_pos rfl, ← Q.out.2.2]; rfl)
        clear hi
        go_enter Try.func39, Try.ntmps39
        go_wp2_with (first | (go_at_call 65; refine HN.out.mono ?_; rintro e w1 ⟨rfl, rfl⟩) | (go_at_call 52; refine HC.out.mono ?_; rintro e w1 ⟨rfl, hd1, hb1⟩; have D1 := Lib.hid (And.intro hd1 hb1); clear hd1 hb1))
        go_ret
        rw [HV.out]
        exact ⟨rfl, d1, H.out.turned D1.out.1 D1.out.2 Q.out.1 Q.out.2.1 Q.out.2.2 HDN.out, rfl, does_turned D1.out.2 Q.out.1 Q.out.2.2⟩
      · have hne : (s.toList == t.toList) = false := toList_ne hst
        have hq := List.getElem?_eq_getElem (l := d.l) (i := i) (by have := HL.out; omega)
        generalize d.l[i]'(by have := HL.out; omega) = q at hq
        have HV : Hid (M = ({ d1.md with fs := insM (t, q.d.l, q.y) (dropM t ((d.l.eraseIdx i).map Fl.rd)) }, 0)) := Lib.hid (by rw [HMV.out, if_neg hst, map_erase]; unfold renM; rw [hi]; simp only [List.getElem?_map, hq, Option.map_some]; rfl)
        have HQ : Hid (d1.l[i]? = some q) := Lib.hid (by rw [Q.out.2.2]; exact hq)
        clear hq hst HMV hi
        go_enter Try.func39, Try.ntmps39
        go_upto_region 5 with (first | (go_at_call 65; refine HN.out.mono ?_; rintro e w1 ⟨rfl, rfl⟩) | (go_at_call 52; refine HC.out.mono ?_; rintro e w1 ⟨rfl, hd1, hb1⟩; have D1 := Lib.hid (And.intro hd1 hb1); clear hd1 hb1))
        have H1 := Lib.hid (H.out.turned D1.out.1 D1.out.2 Q.out.1 Q.out.2.1 Q.out.2.2 HDN.out)
        have H0 : Hid (Does (d.own g) (d1.own g) w w1) := Lib.hid (does_turned D1.out.2 Q.out.1 Q.out.2.2)
        have c0 := H1.out.at_.cell.1
        have HF := Lib.hid (fun (W : World) (hb : Below w1.heap.size w1 W) => refFind_any g d1 s n W (H1.out.kept hb).at_ (H1.out.kept hb).row.lies (by rw [Q.out.2.2]; exact HL.out) (by rw [← HL.out]; exact H.out.few))
        rw [Q.out.2.2, HFI.out] at HF
        rw [Q.out.2.2, HL.out] at c0
        obtain ⟨ad, hA, ⟨a0, a1, a2⟩, -⟩ := frow_at H1.out.row HQ.out
        rw [hA] at c0
        have HAT := Lib.hid (fun (W : World) (hb : Below w1.heap.size w1 W) => by
          have := (H1.out.kept hb).row.lies
          rw [hA] at this
          exact lies_file_at this HQ.out)
        have HK : Hid (∀ W, Below w1.heap.size w1 W → W.cell? ⟨g, 0, none⟩ = some (.slice (some ad) n d1.c) ∧ W.cell? (ad.add (i * 3)) = some (.string q.s) ∧ W.cell? ⟨(ad.add (i * 3)).block, (ad.add (i * 3)).off + 1, none⟩ = some (.slice q.d.a q.d.l.length q.d.c) ∧ W.cell? ⟨(ad.add (i * 3)).block, (ad.add (i * 3)).off + 2, none⟩ = some (.int .i64 q.y)) := Lib.hid (fun W hb => ⟨by rw [hb.cell H1.out.at_.lt]; exact c0, HAT.out W hb⟩)
        clear hA
        go_cut [8] from 24 to 32 (fun t8 wx => t8 = .pointer (some ⟨w1.heap.size, 0, none⟩) ∧ wx = (w1.alloc (.cells #[.string q.s, .slice q.d.a q.d.l.length q.d.c, .int .i64 q.y] 48)).drew)
        case first =>
          go_region_held3 (fun W => W.cell? ⟨g, 0, none⟩ = some (.slice (some ad) n d1.c) ∧ W.cell? (ad.add (i * 3)) = some (.string q.s) ∧ W.cell? ⟨(ad.add (i * 3)).block, (ad.add (i * 3)).off + 1, none⟩ = some (.slice q.d.a q.d.l.length q.d.c) ∧ W.cell? ⟨(ad.add (i * 3)).block, (ad.add (i * 3)).off + 2, none⟩ = some (.int .i64 q.y)) (first | exact HK.out _ (by repeat (first | exact Below.refl _ _ | refine Below.drew ?_ | refine Below.setCell ?_ (Nat.le_refl _) _ | refine Below.alloc ?_ (Nat.le_refl _) _)) | go_keep) (first
            | (go_at_call 36; refine (HF.out _ (by repeat (first | exact Below.refl _ _ | refine Below.drew ?_ | refine Below.setCell ?_ (Nat.le_refl _) _ | refine Below.alloc ?_ (Nat.le_refl _) _))).mono ?_; rintro e w2 ⟨rfl, rfl⟩))
          all_goals
            go_wp2_with fail
            go_meet
            exact ⟨rfl, rfl⟩
        case rest =>
          obtain ⟨rfl, rfl⟩ := hcut
          go_upto_region 7 with fail
          obtain ⟨wf, hwf⟩ : ∃ wf, (w1.alloc (.cells #[.string t, .slice q.d.a q.d.l.length q.d.c, .int .i64 q.y] 48)).drew = wf := ⟨_, rfl⟩
          have hbf : Below w1.heap.size w1 wf := hwf ▸ (below_new _ _).drew
          have FF : Hid (FAt wf w1.heap.size ⟨t, q.d, q.y⟩ ∧ w1.heap.size < wf.heap.size) := Lib.hid ⟨hwf ▸ heap_alloc_new w1 _, by rw [← hwf]; simp⟩
          have H2 := Lib.hid (H1.out.kept hbf)
          have BF := Lib.hid hbf
          have HOWN := Lib.hid H1.out.owned
          rw [hwf]
          clear hwf hbf c0 a0 a1 a2 HF HK HAT
          have HFX : Hid (findI s d1.l = (i : Int)) := Lib.hid (by rw [Q.out.2.2]; exact HFI.out)
          have HLEN : Hid (d1.l.length = n) := Lib.hid (by rw [Q.out.2.2]; exact HL.out)
          have HIL : Hid (i ≤ n) := Lib.hid (by omega)
          go_cut [8] from 35 to 45 (fun t8 wx => t8 = .pointer (some ⟨w1.heap.size, 0, none⟩) ∧ ∃ d4, Hid (RefSt wx B g d4) ∧ Hid (d4.md = { d1.md with fs := (d.l.eraseIdx i).map Fl.rd }) ∧ Hid (BelowX wf.heap.size g wf wx) ∧ Hid (∀ x ∈ d4.l, x ∈ d1.l) ∧ Hid (d4.l.length + 1 ≤ n) ∧ Hid (d4.l.map Fl.rd = (d.l.eraseIdx i).map Fl.rd))
          case first =>
            have c0 := H2.out.at_.cell.1
            have HF := Lib.hid (fun (W : World) (hb : Below wf.heap.size wf W) => refFind_any g d1 s n W (H2.out.kept hb).at_ (H2.out.kept hb).row.lies HLEN.out (by rw [← HLEN.out]; exact H2.out.few))
            rw [HFX.out] at HF
            have HWo := Lib.hid (fun (W : World) (hb : Below wf.heap.size wf W) => refWithout_any d1.A d1.l n d1.c i W HLEN.out (H2.out.kept hb).row.lies (by rw [← HLEN.out]; exact H2.out.few) HIL.out)
            rw [HLEN.out] at c0
            have HK : Hid (∀ W, Below wf.heap.size wf W → W.cell? ⟨g, 0, none⟩ = some (.slice d1.A n d1.c) ∧ W.frozen? ⟨g, 0, none⟩ = false) := Lib.hid (fun W hb => ⟨by rw [hb.cell H2.out.at_.lt]; exact c0, (H2.out.kept hb).at_.frozen 0⟩)
            have B1 : Hid (Below wf.heap.size wf wf.drew) := Lib.hid (Below.refl _ _).drew
            obtain ⟨z0, z1⟩ := HK.out _ B1.out
            go_region_law (first
              | (go_simp; go_at_call 36; refine (HF.out _ (Below.refl _ _)).mono ?_; rintro e w6 ⟨rfl, hw⟩; subst hw)
              | (go_simp; go_at_call 36; refine (HF.out _ B1.out).mono ?_; rintro e w6 ⟨rfl, hw⟩; subst hw)
              | (go_simp; go_at_call 66; refine (HWo.out _ B1.out).mono ?_; rintro e w6 ⟨A6, C6, rfl, r6, b6⟩; have B6 := Lib.hid (B1.out.trans b6); have R6 := Lib.hid r6; clear r6 b6; obtain ⟨y0, y1⟩ := HK.out _ B6.out))
            all_goals
              go_wp2_with fail
              go_meet
              obtain ⟨hst, hdo⟩ := H2.out.refile_of R6.out B6.out (by have := H2.out.few; have := List.length_eraseIdx_le d1.l i; omega) (fun q hq => .inl (List.mem_of_mem_eraseIdx hq))
              exact ⟨rfl, _, Lib.hid hst, Lib.hid (by rw [Q.out.2.2]; rfl), Lib.hid ((below_x B6.out).trans (belowx_set _ _ _ _ _)), Lib.hid (fun x hx => List.mem_of_mem_eraseIdx hx), Lib.hid (by have := HLEN.out; show (d1.l.eraseIdx i).length + 1 ≤ n; rw [List.length_eraseIdx_of_lt (by omega)]; omega), Lib.hid (by rw [← Q.out.2.2])⟩
          case rest =>
            obtain ⟨rfl, d4, H4, M4, X4, U4, L4, R4⟩ := hcut
            obtain ⟨w4, rfl⟩ : ∃ w4, w4 = wc := ⟨_, rfl⟩
            obtain ⟨n4, hn4⟩ : ∃ n4, d4.l.length = n4 := ⟨_, rfl⟩
            clear HFX HLEN HIL
            have HLEN := Lib.hid hn4
            have HF4 := Lib.hid (refFind_any g d4 t n4 w4 H4.out.at_ H4.out.row.lies hn4 (by rw [← hn4]; exact H4.out.few))
            clear hn4
            cases hf : findM t (d4.l.map Fl.rd) with
            | none =>
              have HFX : Hid (findI t d4.l = -1) := Lib.hid (by rw [findI_md, hf]; rfl)
              have M5 : Hid (d4.md = { d1.md with fs := dropM t ((d.l.eraseIdx i).map Fl.rd) }) := Lib.hid (by rw [M4.out, ← R4.out]; unfold dropM; rw [hf])
              rw [HFX.out] at HF4
              clear hf
              go_upto_region 10 with (go_at_call 36; refine HF4.out.mono ?_; rintro e w6 ⟨rfl, hw⟩; subst hw)
              have XX := X4
              have H5 := H4
              have U5 := U4
              have L5 := L4
              obtain ⟨n5, hn5⟩ : ∃ n5, d4.l.length = n5 := ⟨_, rfl⟩
              have HGF : Hid (g < w1.heap.size) := Lib.hid H1.out.at_.lt
              have F5 : Hid (FAt w4 w1.heap.size ⟨t, q.d, q.y⟩) := Lib.hid (FF.out.1.of (XX.out.block _ FF.out.2 (by have := HGF.out; omega)))
              have RQ : Hid (Row w4 B q.d.a q.d.c q.d.l) := Lib.hid (own_keptx (H2.out.data q (List.mem_of_getElem? HQ.out)) XX.out (Nat.le_refl _) ((H2.out.data q (List.mem_of_getElem? HQ.out)).not_at H2.out.at_))
              obtain ⟨f0, f1, f2⟩ := F5.out.cell
              simp only at f0 f1 f2
              have c0 := H5.out.at_.cell.1
              rw [hn5] at c0
              have HI := Lib.hid (fun (W : World) (hb : Below w4.heap.size w4 W) => refInsert_any d4.A d4.l n5 d4.c ⟨t, q.d, q.y⟩ W hn5 (H5.out.kept hb).row.lies (by rw [← hn5]; exact H5.out.few))
              have HK : Hid (∀ W, Below w4.heap.size w4 W → W.cell? ⟨g, 0, none⟩ = some (.slice d4.A n5 d4.c) ∧ W.frozen? ⟨g, 0, none⟩ = false) := Lib.hid (fun W hb => ⟨by rw [hb.cell H5.out.at_.lt]; exact c0, (H5.out.kept hb).at_.frozen 0⟩)
              have B1 : Hid (Below w4.heap.size w4 w4.drew) := Lib.hid (Below.refl _ _).drew
              clear hn5
              go_region_law (first
                | (go_simp; go_at_call 37; refine (HI.out _ B1.out).mono ?_; rintro e w6 ⟨A6, C6, rfl, r6, b6⟩; have B6 := Lib.hid (B1.out.trans b6); have R6 := Lib.hid r6; clear r6 b6; obtain ⟨y0, y1⟩ := HK.out _ B6.out))
              all_goals
                go_wp2_with fail
                go_ret
                rw [HV.out]
                have hmem : ∀ x ∈ insF ⟨t, q.d, q.y⟩ d4.l, x = ⟨t, q.d, q.y⟩ ∨ x ∈ d1.l := fun x hx => (mem_insF _ x d4.l hx).elim .inl (fun h => .inr (U5.out x h))
                have hst := H5.out.refileX R6.out B6.out (by rw [insF_len]; have := L5.out; have := HL.out; have := H.out.few; omega) (fun x hx => (mem_insF _ x d4.l hx).elim (fun e => by subst e; exact ⟨RQ.out.kept B6.out (Nat.le_refl _), H1.out.byt q (List.mem_of_getElem? HQ.out), H1.out.long q (List.mem_of_getElem? HQ.out)⟩) (fun h => ⟨(H5.out.data x h).kept B6.out (Nat.le_refl _), H5.out.byt x h, H5.out.long x h⟩))
                have hX : BelowX w1.heap.size g w1 (w6.setCell ⟨g, 0, none⟩ (.slice A6 (insF ⟨t, q.d, q.y⟩ d4.l).length C6)) := ((below_x BF.out).trans (XX.out.mono BF.out.size)).trans (((below_x B6.out).trans (belowx_set _ _ _ _ _)).mono (by have := BF.out.size; have := XX.out.size; omega))
                have hdo := does_x (d := d1) (d' := { d4 with A := A6, c := C6, l := insF ⟨t, q.d, q.y⟩ d4.l }) hX (fun k hk => by
                  rcases hk with rfl | ⟨ad, ha, rfl⟩ | ⟨x, hx, ad, ha, rfl⟩
                  · exact .inl (.inl rfl)
                  · exact .inr (by have h6 : w4.heap.size ≤ ad.block := (own_in R6.out ad ha).1; have := BF.out.size; have := XX.out.size; omega)
                  · rcases hmem x hx with rfl | h
                    · exact .inl (.inr (.inr ⟨q, List.mem_of_getElem? HQ.out, ad, ha, rfl⟩))
                    · exact .inl (.inr (.inr ⟨x, h, ad, ha, rfl⟩)))
                refine ⟨rfl, _, hst, ?_, H0.out.trans hdo⟩
                show ({ d4.md with fs := (insF ⟨t, q.d, q.y⟩ d4.l).map Fl.rd } : Md) = { d1.md with fs := insM (t, q.d.l, q.y) (dropM t ((d.l.eraseIdx i).map Fl.rd)) }
                have h5 : d4.l.map Fl.rd = dropM t ((d.l.eraseIdx i).map Fl.rd) := congrArg Md.fs M5.out
                rw [insM_rd, h5, M5.out]
                rfl
            | some j =>
              have HFX : Hid (findI t d4.l = (j : Int)) := Lib.hid (by rw [findI_md, hf]; rfl)
              have HIL : Hid (j ≤ n4) := Lib.hid (by have := (List.findIdx?_eq_some_iff_getElem.1 hf).1; rw [List.length_map] at this; have := HLEN.out; omega)
              have HDR : Hid (dropM t ((d.l.eraseIdx i).map Fl.rd) = (d4.l.eraseIdx j).map Fl.rd) := Lib.hid (by rw [← R4.out]; unfold dropM; rw [hf, map_erase])
              rw [HFX.out] at HF4
              clear hf
              go_upto_region 9 with (go_at_call 36; refine HF4.out.mono ?_; rintro e w6 ⟨rfl, hw⟩; subst hw)
              go_cut [8] from 50 to 60 (fun t8 wx => t8 = .pointer (some ⟨w1.heap.size, 0, none⟩) ∧ ∃ d5, Hid (RefSt wx B g d5) ∧ Hid (d5.md = { d1.md with fs := dropM t ((d.l.eraseIdx i).map Fl.rd) }) ∧ Hid (BelowX w4.heap.size g w4 wx) ∧ Hid (∀ x ∈ d5.l, x ∈ d1.l) ∧ Hid (d5.l.length + 1 ≤ n))
              case first =>
                have c0 := H4.out.at_.cell.1
                have HF := Lib.hid (fun (W : World) (hb : Below w4.heap.size w4 W) => refFind_any g d4 t n4 W (H4.out.kept hb).at_ (H4.out.kept hb).row.lies HLEN.out (by rw [← HLEN.out]; exact H4.out.few))
                rw [HFX.out] at HF
                have HWo := Lib.hid (fun (W : World) (hb : Below w4.heap.size w4 W) => refWithout_any d4.A d4.l n4 d4.c j W HLEN.out (H4.out.kept hb).row.lies (by rw [← HLEN.out]; exact H4.out.few) HIL.out)
                rw [HLEN.out] at c0
                have HK : Hid (∀ W, Below w4.heap.size w4 W → W.cell? ⟨g, 0, none⟩ = some (.slice d4.A n4 d4.c) ∧ W.frozen? ⟨g, 0, none⟩ = false) := Lib.hid (fun W hb => ⟨by rw [hb.cell H4.out.at_.lt]; exact c0, (H4.out.kept hb).at_.frozen 0⟩)
                have B1 : Hid (Below w4.heap.size w4 w4.drew) := Lib.hid (Below.refl _ _).drew
                obtain ⟨z0, z1⟩ := HK.out _ B1.out
                go_region_law (first
                  | (go_simp; go_at_call 36; refine (HF.out _ (Below.refl _ _)).mono ?_; rintro e w6 ⟨rfl, hw⟩; subst hw)
                  | (go_simp; go_at_call 36; refine (HF.out _ B1.out).mono ?_; rintro e w6 ⟨rfl, hw⟩; subst hw)
                  | (go_simp; go_at_call 66; refine (HWo.out _ B1.out).mono ?_; rintro e w6 ⟨A6, C6, rfl, r6, b6⟩; have B6 := Lib.hid (B1.out.trans b6); have R6 := Lib.hid r6; clear r6 b6; obtain ⟨y0, y1⟩ := HK.out _ B6.out))
                all_goals
                  go_wp2_with fail
                  go_meet
                  obtain ⟨hst, hdo⟩ := H4.out.refile_of R6.out B6.out (by have := H4.out.few; have := List.length_eraseIdx_le d4.l j; omega) (fun q hq => .inl (List.mem_of_mem_eraseIdx hq))
                  exact ⟨rfl, _, Lib.hid hst, Lib.hid (by rw [HDR.out]; show ({ d4.md with fs := (d4.l.eraseIdx j).map Fl.rd } : Md) = _; rw [M4.out]), Lib.hid ((below_x B6.out).trans (belowx_set _ _ _ _ _)), Lib.hid (fun x hx => U4.out x (List.mem_of_mem_eraseIdx hx)), Lib.hid (by have := List.length_eraseIdx_le d4.l j; have := L4.out; show (d4.l.eraseIdx j).length + 1 ≤ n; omega)⟩
              case rest =>
                obtain ⟨rfl, d5, H5, M5, X5, U5, L5⟩ := hcut
                obtain ⟨w5, rfl⟩ : ∃ w5, w5 = wc := ⟨_, rfl⟩
                go_upto_region 10 with fail
                have XX : Hid (BelowX wf.heap.size g wf w5) := Lib.hid (X4.out.trans (X5.out.mono X4.out.size))
                obtain ⟨n5, hn5⟩ : ∃ n5, d5.l.length = n5 := ⟨_, rfl⟩
                have HGF : Hid (g < w1.heap.size) := Lib.hid H1.out.at_.lt
                have F5 : Hid (FAt w5 w1.heap.size ⟨t, q.d, q.y⟩) := Lib.hid (FF.out.1.of (XX.out.block _ FF.out.2 (by have := HGF.out; omega)))
                have RQ : Hid (Row w5 B q.d.a q.d.c q.d.l) := Lib.hid (own_keptx (H2.out.data q (List.mem_of_getElem? HQ.out)) XX.out (Nat.le_refl _) ((H2.out.data q (List.mem_of_getElem? HQ.out)).not_at H2.out.at_))
                obtain ⟨f0, f1, f2⟩ := F5.out.cell
                simp only at f0 f1 f2
                have c0 := H5.out.at_.cell.1
                rw [hn5] at c0
                have HI := Lib.hid (fun (W : World) (hb : Below w5.heap.size w5 W) => refInsert_any d5.A d5.l n5 d5.c ⟨t, q.d, q.y⟩ W hn5 (H5.out.kept hb).row.lies (by rw [← hn5]; exact H5.out.few))
                have HK : Hid (∀ W, Below w5.heap.size w5 W → W.cell? ⟨g, 0, none⟩ = some (.slice d5.A n5 d5.c) ∧ W.frozen? ⟨g, 0, none⟩ = false) := Lib.hid (fun W hb => ⟨by rw [hb.cell H5.out.at_.lt]; exact c0, (H5.out.kept hb).at_.frozen 0⟩)
                have B1 : Hid (Below w5.heap.size w5 w5.drew) := Lib.hid (Below.refl _ _).drew
                clear hn5
                go_region_law (first
                  | (go_simp; go_at_call 37; refine (HI.out _ B1.out).mono ?_; rintro e w6 ⟨A6, C6, rfl, r6, b6⟩; have B6 := Lib.hid (B1.out.trans b6); have R6 := Lib.hid r6; clear r6 b6; obtain ⟨y0, y1⟩ := HK.out _ B6.out))
                all_goals
                  go_wp2_with fail
                  go_ret
                  rw [HV.out]
                  have hmem : ∀ x ∈ insF ⟨t, q.d, q.y⟩ d5.l, x = ⟨t, q.d, q.y⟩ ∨ x ∈ d1.l := fun x hx => (mem_insF _ x d5.l hx).elim .inl (fun h => .inr (U5.out x h))
                  have hst := H5.out.refileX R6.out B6.out (by rw [insF_len]; have := L5.out; have := HL.out; have := H.out.few; omega) (fun x hx => (mem_insF _ x d5.l hx).elim (fun e => by subst e; exact ⟨RQ.out.kept B6.out (Nat.le_refl _), H1.out.byt q (List.mem_of_getElem? HQ.out), H1.out.long q (List.mem_of_getElem? HQ.out)⟩) (fun h => ⟨(H5.out.data x h).kept B6.out (Nat.le_refl _), H5.out.byt x h, H5.out.long x h⟩))
                  have hX : BelowX w1.heap.size g w1 (w6.setCell ⟨g, 0, none⟩ (.slice A6 (insF ⟨t, q.d, q.y⟩ d5.l).length C6)) := ((below_x BF.out).trans (XX.out.mono BF.out.size)).trans (((below_x B6.out).trans (belowx_set _ _ _ _ _)).mono (by have := BF.out.size; have := XX.out.size; omega))
                  have hdo := does_x (d := d1) (d' := { d5 with A := A6, c := C6, l := insF ⟨t, q.d, q.y⟩ d5.l }) hX (fun k hk => by
                    rcases hk with rfl | ⟨ad, ha, rfl⟩ | ⟨x, hx, ad, ha, rfl⟩
                    · exact .inl (.inl rfl)
                    · exact .inr (by have h6 : w5.heap.size ≤ ad.block := (own_in R6.out ad ha).1; have := BF.out.size; have := XX.out.size; omega)
                    · rcases hmem x hx with rfl | h
                      · exact .inl (.inr (.inr ⟨q, List.mem_of_getElem? HQ.out, ad, ha, rfl⟩))
                      · exact .inl (.inr (.inr ⟨x, h, ad, ha, rfl⟩)))
                  refine ⟨rfl, _, hst, ?_, H0.out.trans hdo⟩
                  show ({ d5.md with fs := (insF ⟨t, q.d, q.y⟩ d5.l).map Fl.rd } : Md) = { d1.md with fs := insM (t, q.d.l, q.y) (dropM t ((d.l.eraseIdx i).map Fl.rd)) }
                  have h5 : d5.l.map Fl.rd = dropM t ((d.l.eraseIdx i).map Fl.rd) := congrArg Md.fs M5.out
                  rw [insM_rd, h5, M5.out]
                  rfl
    · have HV : Hid (M = (d.change.1.md, r)) := Lib.hid (by rw [← HM.out]; have := change_md d; unfold Md.rename Md.does; rw [← named_md, HP.out.1, ← this.2.1, HP.out.2, if_neg (by simp), if_pos h1, this.1, ← HP.out.2, this.2.1])
      have d1 : (r == 0) = false := by simpa using h1
      clear h1
      go_enter Try.func39, Try.ntmps39
      go_wp2_with (first | (go_at_call 65; refine HN.out.mono ?_; rintro e w1 ⟨rfl, rfl⟩) | (go_at_call 52; refine HC.out.mono ?_; rintro e w1 ⟨rfl, hd1, hb1⟩; have D1 := Lib.hid (And.intro hd1 hb1); clear hd1 hb1))
      go_ret
      rw [HV.out]
      have hc := change_md d
      exact ⟨rfl, d.change.1, H.out.turned D1.out.1 D1.out.2 hc.2.2.1 hc.2.2.2.1 hc.2.2.2.2 (by have := HD.out; have := H.out.done; unfold Dk.change; split <;> simp <;> omega), rfl, does_turned D1.out.2 hc.2.2.1 hc.2.2.2.2⟩
  · have HV : Hid (M = (d.md, p)) := Lib.hid (by rw [← HM.out]; unfold Md.rename; rw [← named_md, HP.out.1, does_stay h0])
    have d0 : (p == 0) = false := by simpa using h0
    clear h0
    go_enter Try.func39, Try.ntmps39
    go_wp2_with (go_at_call 65; refine HN.out.mono ?_; rintro e w1 ⟨rfl, rfl⟩)
    go_ret
    rw [HV.out]
    exact ⟨rfl, d, H.out, rfl, Does.refl _ _⟩

end Go.Proofs.Ytjacjafpeajhaaa
