/-
  Walks: the document's disk: a file's bytes synced.
-/
import Derived.Test.YtjacjafpeajhaaaWkH
namespace Go.Proofs.Ytjacjafpeajhaaa
open Go.RowKit

/-- The bytes of one file synced. -/
def syncM (s : ByteArray) (fs : List (ByteArray × List Int × Int)) : List (ByteArray × List Int × Int) :=
  match findM s fs with
  | none => fs
  | some i => match fs[i]? with
    | none => fs
    | some p => fs.set i (p.1, p.2.1, (p.2.1.length : Int))
/-- P7.2, Sync. -/
def Md.sync (m : Md) (s : ByteArray) : Md × Int := m.does (m.named s ⟨#[97]⟩) (syncM s)

set_option maxRecDepth 100000 in
set_option maxHeartbeats 4000000 in
theorem refSync_any (B g : Nat) (d : Dk) (s : ByteArray) (w : World) (h : RefSt w B g d) (hs : s.size ≤ 281474976710656) (hdn : d.done < 1099511627776) :
    Calls Try.prog 38 #[.pointer (some ⟨g, 0, none⟩), .string s] w fun e w' => e = .returned (.int .i64 (d.md.sync s).2) ∧ Left w B g d (d.md.sync s).1 w' := by
  obtain ⟨n, hn⟩ : ∃ n, d.l.length = n := ⟨_, rfl⟩
  have HN := Lib.hid (refNamed_any g d s ⟨#[97]⟩ n w h.at_ h.row.lies hn (by rw [← hn]; exact h.few) hs (by decide))
  have HC := Lib.hid (refChange_any g d w h.at_ h.done)
  have H := Lib.hid h
  have HL := Lib.hid hn
  obtain ⟨p, hp⟩ : ∃ p, d.named s ⟨#[97]⟩ = p := ⟨_, rfl⟩
  rw [hp] at HN
  obtain ⟨r, hr⟩ : ∃ r, d.change.2 = r := ⟨_, rfl⟩
  rw [hr] at HC
  have HP := Lib.hid (And.intro hp hr)
  obtain ⟨M, hM⟩ : ∃ M, d.md.sync s = M := ⟨_, rfl⟩
  rw [hM]
  have HM := Lib.hid hM
  have HD := Lib.hid hdn
  clear hp hr hM h hn hdn
  by_cases h0 : p = 0
  · subst h0
    by_cases h1 : r = 0
    · subst h1
      obtain ⟨i, hi⟩ : ∃ i, findM s (d.l.map Fl.rd) = some i := by
        have h1 := HP.out.1
        rw [named_md] at h1
        unfold Md.named at h1
        cases hf : findM s (d.l.map Fl.rd) with
        | some i => exact ⟨i, rfl⟩
        | none =>
          simp only [Dk.md, hf] at h1
          split at h1
          · cases h1
          · split at h1
            · cases h1
            · cases h1
      have hin : i < n := by
        have := (List.findIdx?_eq_some_iff_getElem.1 hi).1
        have h2 := HL.out
        rw [List.length_map] at this
        omega
      have HFI : Hid (findI s d.l = (i : Int)) := Lib.hid (by rw [findI_md, hi]; rfl)
      obtain ⟨q1, q2, q3, q4, q5⟩ := change_md d
      obtain ⟨d1, hd1⟩ : ∃ d1, d.change.1 = d1 := ⟨_, rfl⟩
      rw [hd1] at HC q1 q3 q4 q5
      have hq := List.getElem?_eq_getElem (l := d.l) (i := i) (by have := HL.out; omega)
      generalize d.l[i]'(by have := HL.out; omega) = q at hq
      have HV : Hid (M = ({ d1.md with fs := (d.l.set i { q with y := q.d.l.length }).map Fl.rd }, 0)) := Lib.hid (by rw [← HM.out]; unfold Md.sync Md.does; rw [← named_md, HP.out.1, ← q2, HP.out.2, if_neg (by simp), if_neg (by simp), ← q1, set_rd]; show ({ d1.md with fs := syncM s (d.l.map Fl.rd) }, (0 : Int)) = _; unfold syncM; rw [hi]; simp only [List.getElem?_map, hq, Option.map_some]; rfl)
      have HQ : Hid (d1.l[i]? = some q) := Lib.hid (by rw [q5]; exact hq)
      clear hq
      have Q := Lib.hid (And.intro q3 (And.intro q4 q5))
      have HDN : Hid (0 ≤ d1.done ∧ d1.done ≤ 1099511627776) := Lib.hid (by have := HD.out; have := H.out.done; rw [← hd1]; unfold Dk.change; split <;> simp <;> omega)
      clear hi q1 q2 q3 q4 q5 hd1 HM HP
      go_enter Try.func38, Try.ntmps38
      go_upto_region 5 with (first | (go_at_call 65; refine HN.out.mono ?_; rintro e w1 ⟨rfl, rfl⟩) | (go_at_call 52; refine HC.out.mono ?_; rintro e w1 ⟨rfl, hd1, hb1⟩; have D1 := Lib.hid (And.intro hd1 hb1); clear hd1 hb1))
      have H1 := Lib.hid (H.out.turned D1.out.1 D1.out.2 Q.out.1 Q.out.2.1 Q.out.2.2 HDN.out)
      have c0 := H1.out.at_.cell.1
      have HF := Lib.hid (fun (W : World) (hb : Below w1.heap.size w1 W) => refFind_any g d1 s n W (H1.out.kept hb).at_ (H1.out.kept hb).row.lies (by rw [Q.out.2.2]; exact HL.out) (by rw [← HL.out]; exact H.out.few))
      rw [Q.out.2.2] at HF c0
      rw [HFI.out] at HF
      rw [HL.out] at c0
      obtain ⟨ad, hA, ⟨a0, a1, a2⟩, fz, hbl, hs1, -⟩ := frow_at H1.out.row HQ.out
      have f2 := fz 2
      rw [hA] at c0
      obtain ⟨C1, hC1⟩ : ∃ C1, d1.c = C1 := ⟨_, rfl⟩
      rw [hC1] at c0
      have HA := Lib.hid (And.intro hA (And.intro hbl hs1))
      obtain ⟨qs, ⟨qa, qc, ql⟩, qy⟩ := q
      simp only at a0 a1 a2
      clear hA hC1 fz hbl hs1
      have B0 : Hid (Below w1.heap.size w1 w1) := Lib.hid (Below.refl _ _)
      have B1 : Hid (Below w1.heap.size w1 w1.drew) := Lib.hid (Below.refl _ _).drew
      go_region_law (first
        | (go_simp; go_at_call 36; refine (HF.out _ B0.out).mono ?_; rintro e w2 ⟨rfl, hw⟩; subst hw)
        | (go_simp; go_at_call 36; refine (HF.out _ B1.out).mono ?_; rintro e w2 ⟨rfl, hw⟩; subst hw))
      all_goals
        go_wp2_with fail
        go_ret
        rw [HV.out]
        have hm := List.mem_of_getElem? HQ.out
        have hm1 := H1.out.data _ hm
        have hm2 := H1.out.byt _ hm
        have hm3 := H1.out.long _ hm
        obtain ⟨hst, hdo⟩ := H1.out.reput (w1 := w1.drew) (j := 2) (q' := ⟨qs, ⟨qa, qc, ql⟩, ql.length⟩) B1.out HA.out.1 HQ.out HA.out.2.1 (HA.out.2.2 _) hm1 hm2 hm3 (fun bd hbd => .inl (.inr (.inr ⟨_, hm, bd, hbd, rfl⟩)))
        exact ⟨rfl, _, hst, by rw [← Q.out.2.2]; rfl, (does_turned D1.out.2 Q.out.1 Q.out.2.2).trans hdo⟩
    · have HV : Hid (M = (d.change.1.md, r)) := Lib.hid (by rw [← HM.out]; have := change_md d; unfold Md.sync Md.does; rw [← named_md, HP.out.1, ← this.2.1, HP.out.2, if_neg (by simp), if_pos h1, this.1, ← HP.out.2, this.2.1])
      have d1 : (r == 0) = false := by simpa using h1
      clear h1
      go_enter Try.func38, Try.ntmps38
      go_wp2_with (first | (go_at_call 65; refine HN.out.mono ?_; rintro e w1 ⟨rfl, rfl⟩) | (go_at_call 52; refine HC.out.mono ?_; rintro e w1 ⟨rfl, hd1, hb1⟩; have D1 := Lib.hid (And.intro hd1 hb1); clear hd1 hb1))
      go_ret
      rw [HV.out]
      have hc := change_md d
      exact ⟨rfl, d.change.1, H.out.turned D1.out.1 D1.out.2 hc.2.2.1 hc.2.2.2.1 hc.2.2.2.2 (by have := HD.out; have := H.out.done; unfold Dk.change; split <;> simp <;> omega), rfl, does_turned D1.out.2 hc.2.2.1 hc.2.2.2.2⟩
  · have HV : Hid (M = (d.md, p)) := Lib.hid (by rw [← HM.out]; unfold Md.sync; rw [← named_md, HP.out.1, does_stay h0])
    have d0 : (p == 0) = false := by simpa using h0
    clear h0
    go_enter Try.func38, Try.ntmps38
    go_wp2_with (go_at_call 65; refine HN.out.mono ?_; rintro e w1 ⟨rfl, rfl⟩)
    go_ret
    rw [HV.out]
    exact ⟨rfl, d, H.out, rfl, Does.refl _ _⟩

end Go.Proofs.Ytjacjafpeajhaaa
