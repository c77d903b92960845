/-
  Walks: the document's disk: a file's bytes read.
-/
import Derived.Test.YtjacjafpeajhaaaWkJ
namespace Go.Proofs.Ytjacjafpeajhaaa
open Go.RowKit

/-- One file's bytes. -/
def dataM (s : ByteArray) (fs : List (ByteArray × List Int × Int)) : List Int :=
  match findM s fs with
  | none => []
  | some i => match fs[i]? with
    | none => []
    | some p => p.2.1
/-- P7.3, Read. -/
def Md.read (m : Md) (s : ByteArray) : List Int × Int := if m.named s ⟨#[97]⟩ ≠ 0 then ([], m.named s ⟨#[97]⟩) else (dataM s m.fs, 0)
/-- It answers bytes in new memory, and a number. -/
def Gets (w : World) (p : List Int × Int) (e : Ending) (w' : World) : Prop := ∃ A c, e = .returned (.tuple #[.slice A p.1.length c, .int .i64 p.2]) ∧ Row w' w.heap.size A c p.1 ∧ Below w.heap.size w w'
theorem ret_pair {A : Option Addr} {n m c : Nat} {a b : Int} (h : m = n) (g : a = b) : Ending.returned (.tuple #[.slice A n c, .int .i64 a]) = .returned (.tuple #[.slice A m c, .int .i64 b]) := by rw [h, g]
theorem named_ok {m : Md} {s t : ByteArray} (h : m.named s t = 0) : ∃ i, findM s m.fs = some i := by
  unfold Md.named at h
  cases hf : findM s m.fs with
  | some i => exact ⟨i, rfl⟩
  | none =>
    rw [hf] at h
    split at h
    · cases h
    · split at h
      · cases h
      · cases h

set_option maxRecDepth 100000 in
set_option maxHeartbeats 4000000 in
theorem refReadF_any (B g : Nat) (d : Dk) (s : ByteArray) (w : World) (h : RefSt w B g d) (hs : s.size ≤ 281474976710656) :
    Calls Try.prog 41 #[.pointer (some ⟨g, 0, none⟩), .string s] w (Gets w (d.md.read s)) := by
  obtain ⟨n, hn⟩ : ∃ n, d.l.length = n := ⟨_, rfl⟩
  have HN := Lib.hid (refNamed_any g d s ⟨#[97]⟩ n w h.at_ h.row.lies hn (by rw [← hn]; exact h.few) hs (by decide))
  have H := Lib.hid h
  have HL := Lib.hid hn
  obtain ⟨p, hp⟩ : ∃ p, d.named s ⟨#[97]⟩ = p := ⟨_, rfl⟩
  rw [hp] at HN
  have HP := Lib.hid hp
  obtain ⟨M, hM⟩ : ∃ M, d.md.read s = M := ⟨_, rfl⟩
  rw [hM]
  have HM := Lib.hid hM
  clear hp hM h hn
  by_cases h0 : p = 0
  · subst h0
    obtain ⟨i, hi⟩ := named_ok (by rw [← named_md]; exact HP.out)
    replace hi : findM s (d.l.map Fl.rd) = some i := hi
    have hin : i < d.l.length := by
      have := (List.findIdx?_eq_some_iff_getElem.1 hi).1
      rwa [List.length_map] at this
    have hq := List.getElem?_eq_getElem (l := d.l) (i := i) hin
    generalize d.l[i] = q at hq
    have HV : Hid (M = (q.d.l, 0)) := Lib.hid (by
      rw [← HM.out]
      unfold Md.read
      rw [← named_md, HP.out, if_neg (by simp)]
      show (dataM s (d.l.map Fl.rd), (0 : Int)) = _
      unfold dataM
      rw [hi]
      simp only [List.getElem?_map, hq, Option.map_some]
      rfl)
    have HFI : Hid (findI s d.l = (i : Int)) := Lib.hid (by rw [findI_md, hi]; rfl)
    have c0 := H.out.at_.cell.1
    obtain ⟨ad, hA, -⟩ := frow_at H.out.row hq
    have HQ := Lib.hid (And.intro (H.out.data q (List.mem_of_getElem? hq)) (H.out.long q (List.mem_of_getElem? hq)))
    have HAT := Lib.hid (fun (W : World) (hb : Below w.heap.size w W) => by
      have := (H.out.kept hb).row.lies
      rw [hA] at this
      exact lies_file_at this hq)
    have HF := Lib.hid (fun (W : World) (hb : Below w.heap.size w W) => refFind_any g d s n W (H.out.kept hb).at_ (H.out.kept hb).row.lies HL.out (by rw [← HL.out]; exact H.out.few))
    rw [HFI.out] at HF
    rw [hA, HL.out] at c0
    rw [HL.out] at hin
    obtain ⟨C1, hC1⟩ : ∃ C1, d.c = C1 := ⟨_, rfl⟩
    rw [hC1] at c0
    obtain ⟨qs, ⟨qa, qc, ql⟩, qy⟩ := q
    simp only at HQ HAT HV
    obtain ⟨z, hz⟩ : ∃ z, ql.length = z := ⟨_, rfl⟩
    have HZ := Lib.hid hz
    have HK : Hid (∀ W, Below w.heap.size w W → W.cell? ⟨g, 0, none⟩ = some (.slice (some ad) n C1) ∧ W.cell? ⟨(ad.add (i * 3)).block, (ad.add (i * 3)).off + 1, none⟩ = some (.slice qa z qc)) := Lib.hid (fun W hb => ⟨by rw [hb.cell H.out.at_.lt]; exact c0, by have := (HAT.out W hb).2.1; rwa [hz] at this⟩)
    obtain ⟨-, a1⟩ := HK.out w (Below.refl _ _)
    clear hA hC1 hz hq hi
    have B0 : Hid (Below w.heap.size w w) := Lib.hid (Below.refl _ _)
    have B1 : Hid (Below w.heap.size w w.drew) := Lib.hid (Below.refl _ _).drew
    have BA : Hid (Below w.heap.size w (w.alloc (.cells #[] 5))) := Lib.hid (below_new _ _)
    have BD : Hid (Below w.heap.size w (w.alloc (.cells #[] 5)).drew) := Lib.hid (below_new _ _).drew
    have BC : Hid (Below w.heap.size w (w.drew.alloc (.cells #[] 5))) := Lib.hid ((Below.refl _ _).drew.alloc (Nat.le_refl _) _)
    have RA : Hid (Row (w.alloc (.cells #[] 5)) w.heap.size (some ⟨w.heap.size, 0, none⟩) 0 []) := Lib.hid (row_made _ _ [] #[] rfl (by simp) (Nat.le_refl _))
    have RD : Hid (Row (w.alloc (.cells #[] 5)).drew w.heap.size (some ⟨w.heap.size, 0, none⟩) 0 []) := Lib.hid (RA.out.kept (Below.refl _ _).drew (Nat.le_refl _))
    have RC : Hid (Row (w.drew.alloc (.cells #[] 5)) w.heap.size (some ⟨w.heap.size, 0, none⟩) 0 []) := Lib.hid (row_made w.drew _ [] #[] rfl (by simp) (Nat.le_refl _))
    have HD0 : Hid (∀ W, Below w.heap.size w W → Bys W qa ql) := Lib.hid (fun W hb => (HQ.out.1.kept hb (Nat.le_refl _)).lies)
    clear HAT
    go_enter Try.func41, Try.ntmps41
    go_upto_region 4 with (go_at_call 65; refine HN.out.mono ?_; rintro e w1 ⟨rfl, hw⟩; subst hw)
    go_region_held3 (fun w' => w'.cell? ⟨g, 0, none⟩ = some (.slice (some ad) n C1) ∧ w'.cell? ⟨(ad.add (i * 3)).block, (ad.add (i * 3)).off + 1, none⟩ = some (.slice qa z qc)) (first | exact HK.out _ B0.out | exact HK.out _ B1.out | exact HK.out _ BA.out | exact HK.out _ BD.out | exact HK.out _ BC.out | exact HK.out _ B7.out | go_keep) (first
      | (refine step_append_row _ (by rfl) (.tmp 13) (.tmp 23) (by rfl) w.heap.size (some ⟨w.heap.size, 0, none⟩) 0 [] ql qa 0 z qc (by simp [Act.eval]) (by simp [Act.eval]) rfl HZ.out (by first | exact RA.out | exact RD.out | exact RC.out) (by first | exact HD0.out _ BA.out | exact HD0.out _ BD.out | exact HD0.out _ BC.out) (by first | exact BA.out.size | exact BD.out.size | exact BC.out.size) (by have := HQ.out.2; simp; omega) ?_; intro A7 c7 w7 r7 b7; have R7 := Lib.hid r7; have B7 : Hid (Below w.heap.size w w7) := Lib.hid (by first | exact BA.out.trans b7 | exact BD.out.trans b7 | exact BC.out.trans b7); clear r7 b7)
      | (go_at_call 36; refine (HF.out _ B0.out).mono ?_; rintro e w6 ⟨rfl, rfl⟩)
      | (go_at_call 36; refine (HF.out _ B1.out).mono ?_; rintro e w6 ⟨rfl, rfl⟩)
      | (go_at_call 36; refine (HF.out _ BA.out).mono ?_; rintro e w6 ⟨rfl, rfl⟩)
      | (go_at_call 36; refine (HF.out _ BD.out).mono ?_; rintro e w6 ⟨rfl, rfl⟩)
      | (go_at_call 36; refine (HF.out _ BC.out).mono ?_; rintro e w6 ⟨rfl, rfl⟩))
    all_goals
      go_wp2_with fail
      go_ret2
      rw [HV.out]
      exact ⟨A7, c7, ret_pair HZ.out rfl, R7.out, B7.out⟩
  · have HV : Hid (M = ([], p)) := Lib.hid (by rw [← HM.out]; unfold Md.read; rw [← named_md, HP.out, if_pos h0])
    have d0 : (p != 0) = true := by simpa using h0
    clear h0
    go_enter Try.func41, Try.ntmps41
    go_wp2_with (go_at_call 65; refine HN.out.mono ?_; rintro e w1 ⟨rfl, rfl⟩)
    go_ret2
    rw [HV.out]
    exact ⟨none, 0, rfl, Row.nil _ _, Below.refl _ _⟩

end Go.Proofs.Ytjacjafpeajhaaa
