/-
  Walks: the document's disk: bytes laid behind a file's.
-/
import Derived.Test.YtjacjafpeajhaaaWkI
namespace Go.Proofs.Ytjacjafpeajhaaa
open Go.RowKit

theorem Bys.low {w w' : World} {A : Option Addr} {L : List Int} {B : Nat} (h : Bys w A L) (hb : Below B w w') (hl : ∀ ad, A = some ad → ad.block < B) : Bys w' A L := by
  rcases h with h | ⟨ad, rfl, h2⟩
  · exact .inl h
  · exact .inr ⟨ad, rfl, fun j x hx => by rw [hb.cell (by rw [add_block]; exact hl ad rfl)]; exact h2 j x hx⟩
/-- How many bytes all files have. -/
def sumM (fs : List (ByteArray × List Int × Int)) : Nat := (fs.map (fun p => p.2.1.length)).sum
theorem sum_take (l : List Fl) (k : Nat) (q : Fl) (hq : l[k]? = some q) : sumM ((l.take (k + 1)).map Fl.rd) = sumM ((l.take k).map Fl.rd) + q.d.l.length := by
  rw [List.take_add_one, hq]
  simp [sumM, Fl.rd]
/-- A file put in, in the order of the names. -/
def insM (p : ByteArray × List Int × Int) : List (ByteArray × List Int × Int) → List (ByteArray × List Int × Int)
  | [] => [p]
  | x :: l => if ltS p.1 x.1 then p :: x :: l else x :: insM p l
theorem insM_rd (q : Fl) : ∀ l : List Fl, (insF q l).map Fl.rd = insM q.rd (l.map Fl.rd)
  | [] => rfl
  | x :: l => by
    have ih := insM_rd q l
    unfold insF insM
    show List.map Fl.rd (if ltS q.s x.s then _ else _) = if ltS q.s x.s then _ else _
    split
    · rfl
    · rw [List.map_cons, ih]
theorem mem_insF (q x : Fl) : ∀ l : List Fl, x ∈ insF q l → x = q ∨ x ∈ l
  | [], h => by simpa [insF] using h
  | y :: l, h => by
    unfold insF at h
    split at h
    · simpa using h
    · rcases List.mem_cons.1 h with h | h
      · exact .inr (by simp [h])
      · rcases mem_insF q x l h with h | h
        · exact .inl h
        · exact .inr (List.mem_cons_of_mem _ h)
theorem insF_mem (q : Fl) : ∀ l : List Fl, q ∈ insF q l
  | [] => by simp [insF]
  | y :: l => by
    unfold insF
    split
    · simp
    · exact List.mem_cons_of_mem _ (insF_mem q l)
/-- Bytes laid behind a file's. -/
def appM (s : ByteArray) (b : List Int) (fs : List (ByteArray × List Int × Int)) : List (ByteArray × List Int × Int) :=
  match findM s fs with
  | none => fs
  | some i => match fs[i]? with
    | none => fs
    | some p => fs.set i (p.1, p.2.1 ++ b, p.2.2)
theorem appM_at {s : ByteArray} {b : List Int} {l : List Fl} {i : Nat} {q : Fl} (hi : findM s (l.map Fl.rd) = some i) (hq : l[i]? = some q) : appM s b (l.map Fl.rd) = (l.map Fl.rd).set i (q.s, q.d.l ++ b, q.y) := by
  unfold appM
  rw [hi]
  simp only [List.getElem?_map, hq, Option.map_some]
  rfl
/-- P7.2, Append. -/
def Md.append (m : Md) (s : ByteArray) (b : List Int) : Md × Int :=
  if m.down then (m, 20) else if okName s = false then (m, 23) else if 0 ≤ m.room ∧ m.room < ((b.length + sumM m.fs : Nat) : Int) then (m, 21) else if m.change.2 ≠ 0 then m.change
  else ({ m.change.1 with fs := appM s b (if findM s m.fs = none then insM (s, [], 0) m.fs else m.fs) }, 0)

set_option maxRecDepth 100000 in
set_option maxHeartbeats 8000000 in
theorem refAppend_any (B g : Nat) (d : Dk) (s : ByteArray) (bA : Option Addr) (b : List Int) (m bc : Nat) (w : World) (h : RefSt w B g d) (hs : s.size ≤ 281474976710656) (hdn : d.done < 1099511627776)
    (hb : In w bA b m bc) (hbB : ∀ ad, bA = some ad → ad.block < B) (hlg : ∀ q ∈ d.l, q.d.l.length + m ≤ 1099511627776) (hm : m ≤ 1099511627776) (hfew : d.l.length < 1048576) :
    Calls Try.prog 26 #[.pointer (some ⟨g, 0, none⟩), .string s, .slice bA m bc] w fun e w' => e = .returned (.int .i64 (d.md.append s b).2) ∧ Left w B g d (d.md.append s b).1 w' := by
  obtain ⟨n, hn⟩ : ∃ n, d.l.length = n := ⟨_, rfl⟩
  have HNm := Lib.hid (refName_any s w hs)
  have HC := Lib.hid (refChange_any g d w h.at_ h.done)
  have H := Lib.hid h
  have HL := Lib.hid hn
  have HBL := Lib.hid hb.len
  have HBY := Lib.hid hb.byt
  have HBW := Lib.hid (And.intro hb.bys hbB)
  have HLG0 := Lib.hid hlg
  have HX := Lib.hid (And.intro hdn hfew)
  obtain ⟨c0, c1, c2, c3, c4, c5⟩ := h.at_.cell
  have HA0 := Lib.hid h.row.lies
  obtain ⟨r, hr⟩ : ∃ r, d.change.2 = r := ⟨_, rfl⟩
  rw [hr] at HC
  have HR := Lib.hid hr
  obtain ⟨M, hM⟩ : ∃ M, d.md.append s b = M := ⟨_, rfl⟩
  rw [hM]
  have HM := Lib.hid hM
  have hn20 : n ≤ 1048576 := by omega
  clear hr hM h hdn hb hbB hlg hfew c3 c4
  cases hdn : d.down
  · rw [hdn] at c5
    cases hok : okName s
    · rw [hok] at HNm
      have HV : Hid (M = (d.md, 23)) := Lib.hid (by rw [← HM.out]; unfold Md.append; rw [show d.md.down = false from hdn, if_neg (by simp), if_pos hok])
      clear hdn hok hn c0 c1 c2
      go_enter Try.func26, Try.ntmps26
      go_wp2_with (go_at_call 35; refine HNm.out.mono ?_; rintro e w1 ⟨rfl, rfl⟩)
      go_ret
      rw [HV.out]
      exact ⟨rfl, d, H.out, rfl, Does.refl _ _⟩
    · rw [hok] at HNm
      have HM1 : Hid (M = if 0 ≤ d.room ∧ d.room < ((b.length + sumM (d.l.map Fl.rd) : Nat) : Int) then (d.md, 21) else if d.md.change.2 ≠ 0 then d.md.change else ({ d.md.change.1 with fs := appM s b (if findM s (d.l.map Fl.rd) = none then insM (s, [], 0) (d.l.map Fl.rd) else d.l.map Fl.rd) }, 0)) := Lib.hid (by rw [← HM.out]; unfold Md.append; rw [show d.md.down = false from hdn, if_neg (by simp), if_neg (by simp [hok])]; rfl)
      rw [hn] at c0
      clear hdn hok hn HM
      go_enter Try.func26, Try.ntmps26
      go_wp2_with (go_at_call 35; refine HNm.out.mono ?_; rintro e w1 ⟨rfl, rfl⟩)
      go_loop [7, 25] (fun t7 t25 => ∃ k x : Nat, k ≤ n ∧ t25 = .int .i64 k ∧ t7 = .int .i64 x ∧ x ≤ m + 1099511627776 * k ∧ Hid (x = m + sumM ((d.l.take k).map Fl.rd))) (fun _ t25 => n - (intOf t25).toNat)
      case atStart => exact ⟨0, m, by omega, rfl, rfl, by omega, Lib.hid (by simp [sumM])⟩
      case round =>
        obtain ⟨k, x, hk, rfl, rfl, hx, hsum⟩ := hrel
        by_cases hlt : k < n
        · have hq := List.getElem?_eq_getElem (l := d.l) (i := k) (by have := HL.out; omega)
          generalize d.l[k]'(by have := HL.out; omega) = q at hq
          obtain ⟨ad, hA, a0, a1, a2⟩ := lies_file HA0.out hq
          rw [hA] at c0
          have HS2 := Lib.hid (sum_take d.l k q hq)
          have HQL := Lib.hid (H.out.long q (List.mem_of_getElem? hq))
          obtain ⟨z, hz⟩ : ∃ z, q.d.l.length = z := ⟨_, rfl⟩
          rw [hz] at a1 HS2 HQL
          have hz40 : z ≤ 1099511627776 := HQL.out
          clear hq hA hz a0 a2
          go_wp2_with fail
          go_round
          case rel => exact ⟨k + 1, x + z, by omega, by go_num, by go_num, by omega, Lib.hid (by have := HS2.out; have := hsum.out; omega)⟩
          case measure => simp [intOf]; omega
        · obtain rfl : k = n := by omega
          have hs2 := hsum.out
          rw [List.take_of_length_le (by have := HL.out; omega)] at hs2
          have HSM : Hid (((b.length + sumM (d.l.map Fl.rd) : Nat) : Int) = x) := Lib.hid (by have := HBL.out; omega)
          clear hs2 hsum
          by_cases hfull : 0 ≤ d.room ∧ d.room < x
          · have HV : Hid (M = (d.md, 21)) := Lib.hid (by rw [HM1.out, if_pos (by rw [HSM.out]; exact hfull)])
            obtain ⟨hf0, hf1⟩ := hfull
            go_wp2_with fail
            go_ret
            rw [HV.out]
            exact ⟨rfl, d, H.out, rfl, Does.refl _ _⟩
          · have HM2 : Hid (M = if d.md.change.2 ≠ 0 then d.md.change else ({ d.md.change.1 with fs := appM s b (if findM s (d.l.map Fl.rd) = none then insM (s, [], 0) (d.l.map Fl.rd) else d.l.map Fl.rd) }, 0)) := Lib.hid (by rw [HM1.out, if_neg (by rw [HSM.out]; exact hfull)])
            have hc := Lib.hid (change_md d)
            obtain ⟨d1, hd1⟩ : ∃ d1, d.change.1 = d1 := ⟨_, rfl⟩
            rw [hd1] at HC hc
            have HDN : Hid (0 ≤ d1.done ∧ d1.done ≤ 1099511627776) := Lib.hid (by have := HX.out.1; have := H.out.done; rw [← hd1]; unfold Dk.change; split <;> simp <;> omega)
            have Q := Lib.hid hc.out.2.2
            have HROOM : Hid ((¬ 0 ≤ d.room) ∨ (0 ≤ d.room ∧ ¬ d.room < x)) := Lib.hid (by omega)
            clear hd1 hfull HM1
            by_cases hr0 : r = 0
            · subst hr0
              have HM3 : Hid (M = ({ d1.md with fs := appM s b (if findM s (d.l.map Fl.rd) = none then insM (s, [], 0) (d.l.map Fl.rd) else d.l.map Fl.rd) }, 0)) := Lib.hid (by rw [HM2.out, ← hc.out.2.1, HR.out, if_neg (by simp), ← hc.out.1])
              have HST := Lib.hid (fun (w1 : World) (hd : DkAt w1 g d1) (hb : BelowX w.heap.size g w w1) => H.out.turned hd hb Q.out.1 Q.out.2.1 Q.out.2.2 HDN.out)
              clear HM2 hc HR
              go_upto_region 11 with fail
              go_cut [54] from 40 to 54 (fun t54 wx => t54 = .bool false ∧ w = wx)
              case first =>
                rcases HROOM.out with hf0 | ⟨hf0, hf1⟩
                · have e0 : decide (0 ≤ d.room) = false := by simpa using hf0
                  go_wp2_with fail
                  go_meet
                  exact ⟨rfl, rfl⟩
                · have e1 : decide (d.room < (x : Int)) = false := by simpa using hf1
                  go_wp2_with fail
                  go_meet
                  exact ⟨by simp; try omega, rfl⟩
              case rest =>
                obtain ⟨rfl, rfl⟩ := hcut
                clear c0 c1 c2 c5 HROOM HSM
                cases hf : findM s (d.l.map Fl.rd) with
                | some i =>
                  have hq := List.getElem?_eq_getElem (l := d.l) (i := i) (by have := (List.findIdx?_eq_some_iff_getElem.1 hf).1; rw [List.length_map] at this; omega)
                  generalize d.l[i]'(by have := (List.findIdx?_eq_some_iff_getElem.1 hf).1; rw [List.length_map] at this; omega) = q at hq
                  have HV : Hid (M = ({ d1.md with fs := (d1.l.map Fl.rd).set i (q.s, q.d.l ++ b, q.y) }, 0)) := Lib.hid (by rw [HM3.out, hf, if_neg (by simp), Q.out.2.2, appM_at hf hq])
                  have HFI0 : Hid (findI s d.l = (i : Int)) := Lib.hid (by rw [findI_md, hf]; rfl)
                  have HFI : Hid (findI s d1.l = (i : Int)) := Lib.hid (by rw [Q.out.2.2]; exact HFI0.out)
                  have HQ : Hid (d1.l[i]? = some q) := Lib.hid (by rw [Q.out.2.2]; exact hq)
                  have HLG : Hid (∀ q ∈ d1.l, q.d.l.length + m ≤ 1099511627776) := Lib.hid (by rw [Q.out.2.2]; exact HLG0.out)
                  obtain ⟨nn, hnn⟩ : ∃ nn, d1.l.length = nn := ⟨_, rfl⟩
                  have HNN := Lib.hid hnn
                  have hen : k = nn := by rw [← hnn, Q.out.2.2]; exact HL.out.symm
                  clear hq hf hnn HM3
                  go_upto_region 18 with (first
                    | (go_at_call 52; refine HC.out.mono ?_; rintro e w1 ⟨rfl, hd1, hb1⟩; have D1 := Lib.hid (And.intro hd1 hb1); have H1 := Lib.hid (HST.out w1 hd1 hb1); clear hd1 hb1; have HF := Lib.hid (refFind_any g d1 s k w1 H1.out.at_ H1.out.row.lies (by rw [Q.out.2.2]; exact HL.out) hn20); rw [HFI.out] at HF)
                    | (go_at_call 36; refine HF.out.mono ?_; rintro e w2 ⟨rfl, hw⟩; subst hw))
                  have HBB : Hid (∀ W, Below w1.heap.size w1 W → Bys W bA b) := Lib.hid (fun W hb => by
                    have hlow : B ≤ w.heap.size := by have := H.out.low; have := H.out.at_.lt; omega
                    exact ((HBW.out.1.low (D1.out.2.below hlow H.out.low) HBW.out.2).low (hb.mono (by have := D1.out.2.size; omega)) HBW.out.2))
                  subst hen
                  have hik : i < k := by have := (List.getElem?_eq_some_iff.1 HQ.out).1; have := HNN.out; omega
                  obtain ⟨ad, hA, ⟨a0, a1, a2⟩, fz, hbl, -, -⟩ := frow_at H1.out.row HQ.out
                  have c0 := H1.out.at_.cell.1
                  have HSET : Hid (∀ W, Below w1.heap.size w1 W → AtF W (ad.add (i * 3)) q ∧ (∀ j, W.frozen? ⟨(ad.add (i * 3)).block, (ad.add (i * 3)).off + j, none⟩ = false) ∧ ∀ s : Sl, Frow (W.setCell ⟨(ad.add (i * 3)).block, (ad.add (i * 3)).off + 1, none⟩ s.val) B d1.A d1.c (d1.l.set i { q with d := s })) := Lib.hid (fun W hb => by
                    obtain ⟨ad', hA', k1, k2, _, _, k3⟩ := frow_at (H1.out.kept hb).row HQ.out
                    rw [hA] at hA'
                    injection hA' with hA'
                    subst hA'
                    exact ⟨k1, k2, k3⟩)
                  have HQM := Lib.hid (And.intro (H1.out.data _ (List.mem_of_getElem? HQ.out)) (And.intro (H1.out.byt _ (List.mem_of_getElem? HQ.out)) (HLG.out q (List.mem_of_getElem? HQ.out))))
                  have HF2 := Lib.hid (fun (W : World) (hb : Below w1.heap.size w1 W) => refFind_any g d1 s (k) W (H1.out.kept hb).at_ (H1.out.kept hb).row.lies HNN.out (by rw [← HNN.out]; exact H1.out.few))
                  rw [HFI.out] at HF2
                  rw [HNN.out, hA] at c0
                  have HA := Lib.hid (And.intro hA hbl)
                  obtain ⟨C1, hC1⟩ : ∃ C1, d1.c = C1 := ⟨_, rfl⟩
                  rw [hC1] at c0
                  obtain ⟨qs, ⟨qa, qc, ql⟩, qy⟩ := q
                  simp only at a0 a1 a2 HQM HSET
                  obtain ⟨z, hz⟩ : ∃ z, ql.length = z := ⟨_, rfl⟩
                  rw [hz] at a1 HQM
                  have HZ := Lib.hid hz
                  clear hA hC1 fz hbl hz
                  have B0 : Hid (Below w1.heap.size w1 w1) := Lib.hid (Below.refl _ _)
                  have B1 : Hid (Below w1.heap.size w1 w1.drew) := Lib.hid (Below.refl _ _).drew
                  have BA : Hid (Below w1.heap.size w1 (w1.alloc (.cells #[] 5)).drew) := Lib.hid (below_new _ _).drew
                  have BC : Hid (Below w1.heap.size w1 (w1.drew.alloc (.cells #[] 5))) := Lib.hid ((Below.refl _ _).drew.alloc (Nat.le_refl _) _)
                  have RA : Hid (Row (w1.alloc (.cells #[] 5)).drew w1.heap.size (some ⟨w1.heap.size, 0, none⟩) 0 []) := Lib.hid ((row_made _ _ [] #[] rfl (by simp) (Nat.le_refl _)).kept (Below.refl _ _).drew (Nat.le_refl _))
                  have RC : Hid (Row (w1.drew.alloc (.cells #[] 5)) w1.heap.size (some ⟨w1.heap.size, 0, none⟩) 0 []) := Lib.hid (row_made w1.drew _ [] #[] rfl (by simp) (Nat.le_refl _))
                  obtain ⟨⟨x0, x1, x2⟩, -⟩ := HSET.out _ BA.out
                  obtain ⟨⟨v0, v1, v2⟩, -⟩ := HSET.out _ BC.out
                  simp only at x0 x1 x2 v0 v1 v2
                  rw [HZ.out] at x1 v1
                  have BS := Lib.hid (fun (W : World) (hb : Below w1.heap.size w1 W) => HBB.out W hb)
                  have HD0 : Hid (∀ W, Below w1.heap.size w1 W → Bys W qa ql) := Lib.hid (fun W hb => (HQM.out.1.kept hb (Nat.le_refl _)).lies)
                  go_region_law (first
                    | (go_simp; go_at_call 36; refine (HF2.out _ B0.out).mono ?_; rintro e w6 ⟨rfl, hw⟩; subst hw)
                    | (go_simp; go_at_call 36; refine (HF2.out _ B1.out).mono ?_; rintro e w6 ⟨rfl, hw⟩; subst hw))
                  all_goals
                    go_wp2_with (first
                      | (at_builtin; refine wpList_append_row _ rfl (.tmp 83) (.tmp 87) rfl w1.heap.size _ 0 [] ql qa 0 z qc rfl rfl rfl HZ.out (by first | exact RA.out | exact RC.out) (by first | exact HD0.out _ BA.out | exact HD0.out _ BC.out) (by first | exact BA.out.size | exact BC.out.size) (by have := HQM.out.2.2; have := HZ.out; simp; omega) ?_; intro A5 c5 w7 r7 b7; have R7 := Lib.hid r7; have B7 : Hid (Below w1.heap.size w1 w7) := Lib.hid (by first | exact BA.out.trans b7 | exact BC.out.trans b7); clear r7 b7)
                      | (at_builtin; refine wpList_append_row _ rfl (.tmp 88) (.tmp 89) rfl w1.heap.size A5 c5 ([] ++ ql) b bA _ m bc rfl rfl (by first | exact HZ.out | (simp; exact HZ.out)) HBL.out R7.out (BS.out _ B7.out) B7.out.size (by have := HQM.out.2.2; have := HZ.out; have := HBL.out; simp; omega) ?_; intro A8 c8 w8 r8 b8; have R8 := Lib.hid r8; have B8 := Lib.hid (B7.out.trans b8); clear r8 b8; obtain ⟨⟨y0, y1, y2⟩, f8, -⟩ := HSET.out _ B8.out; have f8 := f8 1; simp only at y0 y1 y2))
                    go_ret
                    rw [HV.out]
                    have hqm := HQM.out
                    have hl8 : (([] ++ ql) ++ b).length = z + m := by have := HZ.out; have := HBL.out; simp; omega
                    have hs8 := (HSET.out _ B8.out).2.2 ⟨A8, c8, [] ++ ql ++ b⟩
                    unfold Sl.val at hs8
                    simp only at hs8
                    rw [hl8] at hs8
                    obtain ⟨hst, hdo⟩ := H1.out.reput (j := 1) (q' := ⟨qs, ⟨A8, c8, [] ++ ql ++ b⟩, qy⟩) B8.out HA.out.1 HQ.out HA.out.2 hs8 (own_mono R8.out (by have := H1.out.low; have := H1.out.at_.lt; omega)) ((Byt.append (Byt.append Byt.nil hqm.2.1) HBY.out)) (by rw [hl8]; exact hqm.2.2) (fun bd hbd => .inr (own_in R8.out bd hbd).1)
                    exact ⟨rfl, _, hst, by simp only [Dk.md, set_rd]; rfl, (does_turned D1.out.2 Q.out.1 Q.out.2.2).trans hdo⟩
                | none =>
                  have HFI0 : Hid (findI s d.l = -1) := Lib.hid (by rw [findI_md, hf]; rfl)
                  have HFI1 : Hid (findI s d1.l = -1) := Lib.hid (by rw [Q.out.2.2]; exact HFI0.out)
                  obtain ⟨l3, hl3⟩ : ∃ l3, insF ⟨s, ⟨none, 0, []⟩, 0⟩ d.l = l3 := ⟨_, rfl⟩
                  have HL3 : Hid (l3.length = k + 1) := Lib.hid (by rw [← hl3, insF_len, HL.out])
                  have HMEM : Hid (∀ q ∈ l3, q = ⟨s, ⟨none, 0, []⟩, 0⟩ ∨ q ∈ d.l) := Lib.hid (fun q hq => mem_insF _ q d.l (by rw [hl3]; exact hq))
                  have hfi : ∃ i, findM s (l3.map Fl.rd) = some i := by
                    cases he : findM s (l3.map Fl.rd) with
                    | some i => exact ⟨i, rfl⟩
                    | none =>
                      unfold findM at he
                      rw [List.findIdx?_eq_none_iff] at he
                      have h2 := he (s, [], 0) (List.mem_map.2 ⟨⟨s, ⟨none, 0, []⟩, 0⟩, by rw [← hl3]; exact insF_mem _ _, rfl⟩)
                      simp at h2
                  obtain ⟨i, hi⟩ := hfi
                  have hq := List.getElem?_eq_getElem (l := l3) (i := i) (by have := (List.findIdx?_eq_some_iff_getElem.1 hi).1; rw [List.length_map] at this; omega)
                  generalize l3[i]'(by have := (List.findIdx?_eq_some_iff_getElem.1 hi).1; rw [List.length_map] at this; omega) = q at hq
                  have HV0 : Hid (M = ({ d1.md with fs := (l3.map Fl.rd).set i (q.s, q.d.l ++ b, q.y) }, 0)) := Lib.hid (by rw [HM3.out, hf, if_pos rfl, ← appM_at hi hq, ← hl3, insM_rd]; rfl)
                  have HFI3 : Hid (findI s l3 = (i : Int)) := Lib.hid (by rw [findI_md, hi]; rfl)
                  have HQ3 := Lib.hid hq
                  have HI3 := Lib.hid (fun (w1 : World) (hd : DkAt w1 g d1) (hb : BelowX w.heap.size g w w1) => refInsert_any d1.A d.l k d1.c ⟨s, ⟨none, 0, []⟩, 0⟩ w1 HL.out (by have := (HST.out w1 hd hb).row.lies; rw [Q.out.2.2] at this; exact this) hn20)
                  rw [hl3] at HI3
                  clear hq hf hi hl3 HM3
                  go_upto_region 18 with (first
                    | (go_at_call 52; refine HC.out.mono ?_; rintro e w1 ⟨rfl, hd1, hb1⟩; have D1 := Lib.hid (And.intro hd1 hb1); have H1 := Lib.hid (HST.out w1 hd1 hb1); clear hd1 hb1; have HF := Lib.hid (refFind_any g d1 s k w1 H1.out.at_ H1.out.row.lies (by rw [Q.out.2.2]; exact HL.out) hn20); rw [HFI1.out] at HF; have k0 := H1.out.at_.cell.1; rw [Q.out.2.2, HL.out] at k0)
                    | (go_at_call 36; refine HF.out.mono ?_; rintro e w2 ⟨rfl, hw⟩; subst hw)
                    | (go_at_call 37; refine (HI3.out _ D1.out.1 D1.out.2).mono ?_; rintro e w2 ⟨A2, C2, rfl, r2, b2⟩; have R2 := Lib.hid r2; have B2 := Lib.hid b2; have fz2 := (H1.out.kept b2).at_.frozen 0; have cz2 := (H1.out.kept b2).at_.cell.1; clear r2 b2 k0))
                  obtain ⟨hst, hdo⟩ := H1.out.refile_of R2.out B2.out (by rw [HL3.out]; have := HX.out.2; have := HL.out; omega) (fun q hq => (HMEM.out q hq).elim (fun e => .inr (by subst e; exact ⟨Row.nil _ _, Byt.nil, by simp, fun ad ha => by cases ha⟩)) (fun h => .inl (by rw [Q.out.2.2]; exact h)))
                  obtain ⟨w3, hw3⟩ : ∃ w3, w2.setCell ⟨g, 0, none⟩ (.slice A2 l3.length C2) = w3 := ⟨_, rfl⟩
                  obtain ⟨d3, hd3⟩ : ∃ d3 : Dk, ({ d1 with A := A2, c := C2, l := l3 } : Dk) = d3 := ⟨_, rfl⟩
                  have hl33 : d3.l = l3 := by rw [← hd3]
                  have hmd : d3.md = { d1.md with fs := l3.map Fl.rd } := by rw [← hd3]; rfl
                  rw [hw3, hd3] at hst hdo
                  rw [hw3]
                  have H3 := Lib.hid hst
                  have D3 := Lib.hid hdo
                  have HV : Hid (M = ({ d3.md with fs := (d3.l.map Fl.rd).set i (q.s, q.d.l ++ b, q.y) }, 0)) := Lib.hid (by rw [HV0.out, hl33, hmd])
                  have HFI : Hid (findI s d3.l = (i : Int)) := Lib.hid (by rw [hl33]; exact HFI3.out)
                  have HQ : Hid (d3.l[i]? = some q) := Lib.hid (by rw [hl33]; exact HQ3.out)
                  obtain ⟨nn, hnn⟩ : ∃ nn, d3.l.length = nn := ⟨_, rfl⟩
                  have HNN := Lib.hid hnn
                  clear hnn
                  have HLG : Hid (∀ q ∈ d3.l, q.d.l.length + m ≤ 1099511627776) := Lib.hid (by
                    rw [hl33]
                    intro q hq
                    rcases HMEM.out q hq with e | h
                    · subst e
                      simpa using hm
                    · exact HLG0.out q h)
                  have HBB : Hid (∀ W, Below w3.heap.size w3 W → Bys W bA b) := Lib.hid (fun W hb => by
                    have hlow : B ≤ w.heap.size := by have := H.out.low; have := H.out.at_.lt; omega
                    have hlow1 : B ≤ w1.heap.size := by have := D1.out.2.size; omega
                    exact (((HBW.out.1.low (D1.out.2.below hlow H.out.low) HBW.out.2).low (hdo.below hlow1 (fun k hk => (H1.out.owned k hk).1)) HBW.out.2).low (hb.mono (by have := hdo.size; omega)) HBW.out.2))
                  clear hst hdo hw3 hd3 hl33 hmd fz2 cz2 HQ3 HFI3 HV0 HMEM R2 B2
                  have hik : i < nn := by have := (List.getElem?_eq_some_iff.1 HQ.out).1; have := HNN.out; omega
                  obtain ⟨ad, hA, ⟨a0, a1, a2⟩, fz, hbl, -, -⟩ := frow_at H3.out.row HQ.out
                  have c0 := H3.out.at_.cell.1
                  have HSET : Hid (∀ W, Below w3.heap.size w3 W → AtF W (ad.add (i * 3)) q ∧ (∀ j, W.frozen? ⟨(ad.add (i * 3)).block, (ad.add (i * 3)).off + j, none⟩ = false) ∧ ∀ s : Sl, Frow (W.setCell ⟨(ad.add (i * 3)).block, (ad.add (i * 3)).off + 1, none⟩ s.val) B d3.A d3.c (d3.l.set i { q with d := s })) := Lib.hid (fun W hb => by
                    obtain ⟨ad', hA', k1, k2, _, _, k3⟩ := frow_at (H3.out.kept hb).row HQ.out
                    rw [hA] at hA'
                    injection hA' with hA'
                    subst hA'
                    exact ⟨k1, k2, k3⟩)
                  have HQM := Lib.hid (And.intro (H3.out.data _ (List.mem_of_getElem? HQ.out)) (And.intro (H3.out.byt _ (List.mem_of_getElem? HQ.out)) (HLG.out q (List.mem_of_getElem? HQ.out))))
                  have HF2 := Lib.hid (fun (W : World) (hb : Below w3.heap.size w3 W) => refFind_any g d3 s (nn) W (H3.out.kept hb).at_ (H3.out.kept hb).row.lies HNN.out (by rw [← HNN.out]; exact H3.out.few))
                  rw [HFI.out] at HF2
                  rw [HNN.out, hA] at c0
                  have HA := Lib.hid (And.intro hA hbl)
                  obtain ⟨C1, hC1⟩ : ∃ C1, d3.c = C1 := ⟨_, rfl⟩
                  rw [hC1] at c0
                  obtain ⟨qs, ⟨qa, qc, ql⟩, qy⟩ := q
                  simp only at a0 a1 a2 HQM HSET
                  obtain ⟨z, hz⟩ : ∃ z, ql.length = z := ⟨_, rfl⟩
                  rw [hz] at a1 HQM
                  have HZ := Lib.hid hz
                  clear hA hC1 fz hbl hz
                  have B0 : Hid (Below w3.heap.size w3 w3) := Lib.hid (Below.refl _ _)
                  have B1 : Hid (Below w3.heap.size w3 w3.drew) := Lib.hid (Below.refl _ _).drew
                  have BA : Hid (Below w3.heap.size w3 (w3.alloc (.cells #[] 5)).drew) := Lib.hid (below_new _ _).drew
                  have BC : Hid (Below w3.heap.size w3 (w3.drew.alloc (.cells #[] 5))) := Lib.hid ((Below.refl _ _).drew.alloc (Nat.le_refl _) _)
                  have RA : Hid (Row (w3.alloc (.cells #[] 5)).drew w3.heap.size (some ⟨w3.heap.size, 0, none⟩) 0 []) := Lib.hid ((row_made _ _ [] #[] rfl (by simp) (Nat.le_refl _)).kept (Below.refl _ _).drew (Nat.le_refl _))
                  have RC : Hid (Row (w3.drew.alloc (.cells #[] 5)) w3.heap.size (some ⟨w3.heap.size, 0, none⟩) 0 []) := Lib.hid (row_made w3.drew _ [] #[] rfl (by simp) (Nat.le_refl _))
                  obtain ⟨⟨x0, x1, x2⟩, -⟩ := HSET.out _ BA.out
                  obtain ⟨⟨v0, v1, v2⟩, -⟩ := HSET.out _ BC.out
                  simp only at x0 x1 x2 v0 v1 v2
                  rw [HZ.out] at x1 v1
                  have BS := Lib.hid (fun (W : World) (hb : Below w3.heap.size w3 W) => HBB.out W hb)
                  have HD0 : Hid (∀ W, Below w3.heap.size w3 W → Bys W qa ql) := Lib.hid (fun W hb => (HQM.out.1.kept hb (Nat.le_refl _)).lies)
                  go_region_law (first
                    | (go_simp; go_at_call 36; refine (HF2.out _ B0.out).mono ?_; rintro e w6 ⟨rfl, hw⟩; subst hw)
                    | (go_simp; go_at_call 36; refine (HF2.out _ B1.out).mono ?_; rintro e w6 ⟨rfl, hw⟩; subst hw))
                  all_goals
                    go_wp2_with (first
                      | (at_builtin; refine wpList_append_row _ rfl (.tmp 83) (.tmp 87) rfl w3.heap.size _ 0 [] ql qa 0 z qc rfl rfl rfl HZ.out (by first | exact RA.out | exact RC.out) (by first | exact HD0.out _ BA.out | exact HD0.out _ BC.out) (by first | exact BA.out.size | exact BC.out.size) (by have := HQM.out.2.2; have := HZ.out; simp; omega) ?_; intro A5 c5 w7 r7 b7; have R7 := Lib.hid r7; have B7 : Hid (Below w3.heap.size w3 w7) := Lib.hid (by first | exact BA.out.trans b7 | exact BC.out.trans b7); clear r7 b7)
                      | (at_builtin; refine wpList_append_row _ rfl (.tmp 88) (.tmp 89) rfl w3.heap.size A5 c5 ([] ++ ql) b bA _ m bc rfl rfl (by first | exact HZ.out | (simp; exact HZ.out)) HBL.out R7.out (BS.out _ B7.out) B7.out.size (by have := HQM.out.2.2; have := HZ.out; have := HBL.out; simp; omega) ?_; intro A8 c8 w8 r8 b8; have R8 := Lib.hid r8; have B8 := Lib.hid (B7.out.trans b8); clear r8 b8; obtain ⟨⟨y0, y1, y2⟩, f8, -⟩ := HSET.out _ B8.out; have f8 := f8 1; simp only at y0 y1 y2))
                    go_ret
                    rw [HV.out]
                    have hqm := HQM.out
                    have hl8 : (([] ++ ql) ++ b).length = z + m := by have := HZ.out; have := HBL.out; simp; omega
                    have hs8 := (HSET.out _ B8.out).2.2 ⟨A8, c8, [] ++ ql ++ b⟩
                    unfold Sl.val at hs8
                    simp only at hs8
                    rw [hl8] at hs8
                    obtain ⟨hst, hdo⟩ := H3.out.reput (j := 1) (q' := ⟨qs, ⟨A8, c8, [] ++ ql ++ b⟩, qy⟩) B8.out HA.out.1 HQ.out HA.out.2 hs8 (own_mono R8.out (by have := H3.out.low; have := H3.out.at_.lt; omega)) ((Byt.append (Byt.append Byt.nil hqm.2.1) HBY.out)) (by rw [hl8]; exact hqm.2.2) (fun bd hbd => .inr (own_in R8.out bd hbd).1)
                    exact ⟨rfl, _, hst, by simp only [Dk.md, set_rd]; rfl, ((does_turned D1.out.2 Q.out.1 Q.out.2.2).trans D3.out).trans hdo⟩
            · have HV : Hid (M = (d1.md, r)) := Lib.hid (by rw [HM2.out, ← hc.out.2.1, HR.out, if_pos hr0, hc.out.1, ← HR.out, hc.out.2.1])
              have d1' : (r == 0) = false := by simpa using hr0
              clear hr0
              rcases HROOM.out with hf0 | ⟨hf0, hf1⟩
              · have e0 : decide (0 ≤ d.room) = false := by simpa using hf0
                go_wp2_with (go_at_call 52; refine HC.out.mono ?_; rintro e w1 ⟨rfl, hd1, hb1⟩; have D1 := Lib.hid (And.intro hd1 hb1); clear hd1 hb1)
                go_ret
                rw [HV.out]
                exact ⟨rfl, d1, H.out.turned D1.out.1 D1.out.2 Q.out.1 Q.out.2.1 Q.out.2.2 HDN.out, rfl, does_turned D1.out.2 Q.out.1 Q.out.2.2⟩
              · have e1 : decide (d.room < (x : Int)) = false := by simpa using hf1
                go_wp2_with (go_at_call 52; refine HC.out.mono ?_; rintro e w1 ⟨rfl, hd1, hb1⟩; have D1 := Lib.hid (And.intro hd1 hb1); clear hd1 hb1)
                go_ret
                rw [HV.out]
                exact ⟨rfl, d1, H.out.turned D1.out.1 D1.out.2 Q.out.1 Q.out.2.1 Q.out.2.2 HDN.out, rfl, does_turned D1.out.2 Q.out.1 Q.out.2.2⟩
  · rw [hdn] at c5
    have HV : Hid (M = (d.md, 20)) := Lib.hid (by rw [← HM.out]; unfold Md.append; rw [show d.md.down = true from hdn, if_pos rfl])
    clear hdn hn c0 c1 c2
    go_enter Try.func26, Try.ntmps26
    go_wp2_with fail
    go_ret
    rw [HV.out]
    exact ⟨rfl, d, H.out, rfl, Does.refl _ _⟩

end Go.Proofs.Ytjacjafpeajhaaa
