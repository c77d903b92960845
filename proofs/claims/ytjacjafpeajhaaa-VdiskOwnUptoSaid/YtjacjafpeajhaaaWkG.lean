/-
  Walks: the document's disk: a file taken away.
-/
import Derived.Test.YtjacjafpeajhaaaWkF
namespace Go.Proofs.Ytjacjafpeajhaaa
open Go.RowKit

/-- What is read of the document's disk. -/
structure Md where
  fs : List (ByteArray × List Int × Int)
  ops : Int
  room : Int
  K : Option Addr
  kn : Nat
  kc : Nat
  done : Int
  down : Bool
def Dk.md (d : Dk) : Md := ⟨d.l.map Fl.rd, d.ops, d.room, d.K, d.kn, d.kc, d.done, d.down⟩
/-- A file's place. -/
def findM (s : ByteArray) (fs : List (ByteArray × List Int × Int)) : Option Nat := fs.findIdx? (fun p => decide (p.1 = s))
theorem findI_md (s : ByteArray) (l : List Fl) : findI s l = ((findM s (l.map Fl.rd)).map (fun i => (i : Int))).getD (-1) := by
  unfold findI findM
  rw [List.findIdx?_map]
  rfl
def Md.change (m : Md) : Md × Int := if 0 ≤ m.ops ∧ m.ops ≤ m.done then ({ m with down := true }, 20) else ({ m with done := m.done + 1 }, 0)
def Md.named (m : Md) (s t : ByteArray) : Int := if m.down then 20 else if (okName s && okName t) = false then 23 else if (findM s m.fs).isNone then 22 else 0
theorem named_md (d : Dk) (s t : ByteArray) : d.named s t = d.md.named s t := by
  unfold Dk.named Md.named
  rw [findI_md]
  show _ = if d.down = true then 20 else if (okName s && okName t) = false then 23 else if (findM s (d.l.map Fl.rd)).isNone = true then 22 else 0
  cases findM s (d.l.map Fl.rd) with
  | none => simp
  | some i =>
    have : ¬ ((i : Int) < 0) := by omega
    simp [this]
theorem change_md (d : Dk) : d.change.1.md = d.md.change.1 ∧ d.change.2 = d.md.change.2 ∧ d.change.1.A = d.A ∧ d.change.1.c = d.c ∧ d.change.1.l = d.l := by
  unfold Dk.change Md.change
  show (if 0 ≤ d.ops ∧ d.ops ≤ d.done then ({ d with down := true }, 20) else ({ d with done := d.done + 1 }, (0 : Int))).1.md = (if 0 ≤ d.ops ∧ d.ops ≤ d.done then ({ d.md with down := true }, 20) else ({ d.md with done := d.done + 1 }, (0 : Int))).1 ∧ _
  by_cases h : 0 ≤ d.ops ∧ d.ops ≤ d.done
  · simp [h, Dk.md]
  · simp [h, Dk.md]
/-- What a change that is done does. -/
def Md.does (m : Md) (e : Int) (f : List (ByteArray × List Int × Int) → List (ByteArray × List Int × Int)) : Md × Int :=
  if e ≠ 0 then (m, e) else if m.change.2 ≠ 0 then m.change else ({ m.change.1 with fs := f m.fs }, 0)
/-- P7.2, Delete. -/
def Md.delete (m : Md) (s : ByteArray) : Md × Int := m.does (m.named s ⟨#[97]⟩) (fun fs => fs.eraseIdx ((findM s fs).getD 0))

/-- The blocks that are the disk's own. -/
def Dk.own (d : Dk) (g : Nat) (k : Nat) : Prop := k = g ∨ (∃ ad, d.A = some ad ∧ k = ad.block) ∨ ∃ q ∈ d.l, ∃ ad, q.d.a = some ad ∧ k = ad.block
/-- The document's disk, whole. -/
structure RefSt (w : World) (B g : Nat) (d : Dk) : Prop where
  at_ : DkAt w g d
  low : B ≤ g
  row : Frow w B d.A d.c d.l
  data : Mades w B d.l
  byt : ∀ q ∈ d.l, Byt q.d.l
  few : d.l.length ≤ 1048576
  long : ∀ q ∈ d.l, q.d.l.length ≤ 1099511627776
  done : 0 ≤ d.done ∧ d.done ≤ 1099511627776
/-- What a call leaves of the disk. -/
def Left (w : World) (B g : Nat) (d : Dk) (m : Md) (w' : World) : Prop := ∃ d', RefSt w' B g d' ∧ d'.md = m ∧ Does (d.own g) (d'.own g) w w'

/-- The row of another kind lies elsewhere. -/
theorem Frow.not_at {w : World} {B g : Nat} {A : Option Addr} {c : Nat} {l : List Fl} {d : Dk} (h : Frow w B A c l) (hd : DkAt w g d) : ∀ ad, A = some ad → ad.block ≠ g := fun ad ha e => by
  rcases h.2 with ⟨hn, _⟩ | ⟨g', cap, cur, e1, h1, h2, h3⟩
  · injection hn with hn
    rw [hn] at ha
    cases ha
  · injection e1 with e1
    rw [e1] at ha
    injection ha with ha
    subst ha
    unfold DkAt at hd
    rw [← e, h2] at hd
    injection hd with hd
    injection hd with _ hd
    exact absurd hd (by decide)
theorem Row.not_at {w : World} {B g : Nat} {A : Option Addr} {c : Nat} {L : List Int} {d : Dk} (h : Row w B A c L) (hd : DkAt w g d) : ∀ ad, A = some ad → ad.block ≠ g := fun ad ha e => by
  rcases h.2 with ⟨hn, _⟩ | ⟨g', cap, cur, e1, h1, h2, h3⟩
  · injection hn with hn
    rw [hn] at ha
    cases ha
  · injection e1 with e1
    rw [e1] at ha
    injection ha with ha
    subst ha
    unfold DkAt at hd
    rw [← e, h2] at hd
    injection hd with hd
    injection hd with _ hd
    exact absurd hd (by decide)
theorem own_keptx {w w' : World} {B C g : Nat} {e : TypeId} {size : Nat} {A : Option Addr} {n c : Nat} {xs : List Value} (h : w.ownsRow B e size (.slice A n c) n xs) (hb : BelowX C g w w') (hC : w.heap.size ≤ C) (hg : ∀ ad, A = some ad → ad.block ≠ g) : w'.ownsRow B e size (.slice A n c) n xs := by
  refine ⟨h.1, ?_⟩
  rcases h.2 with hn | ⟨g', cap, cur, e1, h1, h2, h3⟩
  · exact .inl hn
  · refine .inr ⟨g', cap, cur, e1, h1, ?_, h3⟩
    injection e1 with e1
    have hl : g' < w.heap.size := (Array.getElem?_eq_some_iff.1 h2).1
    rw [hb.block g' (by omega) (hg _ e1), h2]
/-- The disk's own block has turned: the rest of it stands. -/
theorem RefSt.turned {w w' : World} {B g : Nat} {d d' : Dk} (h : RefSt w B g d) (hd : DkAt w' g d') (hb : BelowX w.heap.size g w w') (hA : d'.A = d.A) (hc : d'.c = d.c) (hl : d'.l = d.l) (hdn : 0 ≤ d'.done ∧ d'.done ≤ 1099511627776) : RefSt w' B g d' := by
  refine ⟨hd, h.low, ?_, ?_, ?_, ?_, ?_, hdn⟩
  · rw [hA, hc, hl]
    exact own_keptx h.row hb (Nat.le_refl _) (h.row.not_at h.at_)
  · rw [hl]
    exact fun q hq => own_keptx (h.data q hq) hb (Nat.le_refl _) ((h.data q hq).not_at h.at_)
  · rw [hl]
    exact h.byt
  · rw [hl]
    exact h.few
  · rw [hl]
    exact h.long
theorem does_turned {w w' : World} {g : Nat} {d d' : Dk} (hb : BelowX w.heap.size g w w') (hA : d'.A = d.A) (hl : d'.l = d.l) : Does (d.own g) (d'.own g) w w' :=
  ⟨hb.os, hb.tape, hb.output, hb.size, fun k hk hn => hb.block k hk (fun e => hn (.inl e)), fun k hk => .inl (by unfold Dk.own at hk ⊢; rw [hA, hl] at hk; exact hk)⟩
theorem RefSt.kept {w w' : World} {B g : Nat} {d : Dk} (h : RefSt w B g d) (hb : Below w.heap.size w w') : RefSt w' B g d :=
  ⟨by have := h.at_; unfold DkAt at this ⊢; rw [hb.block g h.at_.lt, this], h.low, h.row.kept hb (Nat.le_refl _), h.data.kept hb (Nat.le_refl _), h.byt, h.few, h.long, h.done⟩
theorem RefSt.owned {w : World} {B g : Nat} {d : Dk} (h : RefSt w B g d) : ∀ k, d.own g k → B ≤ k ∧ k < w.heap.size := fun k hk => by
  rcases hk with rfl | ⟨ad, ha, rfl⟩ | ⟨q, hq, ad, ha, rfl⟩
  · exact ⟨h.low, h.at_.lt⟩
  · exact own_in h.row ad ha
  · exact own_in (h.data q hq) ad ha
/-- New files, laid in new memory, put in the place of the elder ones. -/
theorem RefSt.refile {w w1 : World} {B g : Nat} {d : Dk} {A : Option Addr} {c : Nat} {l : List Fl} (h : RefSt w B g d) (hr : Frow w1 w.heap.size A c l) (hb : Below w.heap.size w w1) (hm : Mades w1 B l) (hB : ∀ q ∈ l, Byt q.d.l) (hf : l.length ≤ 1048576) (hl : ∀ q ∈ l, q.d.l.length ≤ 1099511627776) (ho : ∀ q ∈ l, ∀ ad, q.d.a = some ad → d.own g ad.block ∨ w.heap.size ≤ ad.block) :
    RefSt (w1.setCell ⟨g, 0, none⟩ (.slice A l.length c)) B g { d with A := A, c := c, l := l } ∧ Does (d.own g) (Dk.own { d with A := A, c := c, l := l } g) w (w1.setCell ⟨g, 0, none⟩ (.slice A l.length c)) := by
  have hBw : B ≤ w.heap.size := by have := h.low; have := h.at_.lt; omega
  have hd1 : DkAt w1 g d := by
    unfold DkAt
    rw [hb.block g h.at_.lt]
    exact h.at_
  have hx : BelowX w1.heap.size g w1 (w1.setCell ⟨g, 0, none⟩ (.slice A l.length c)) := belowx_set _ _ _ _ _
  refine ⟨⟨hd1.set 0 _ rfl, h.low, ?_, ?_, hB, hf, hl, h.done⟩, ?_⟩
  · exact own_keptx (own_mono hr hBw) hx (Nat.le_refl _) (Frow.not_at hr hd1)
  · exact fun q hq => own_keptx (hm q hq) hx (Nat.le_refl _) ((hm q hq).not_at hd1)
  · refine ⟨hx.os.trans hb.os, hx.tape.trans hb.tape, hx.output.trans hb.output, Nat.le_trans hb.size hx.size, fun k hk hn => ?_, fun k hk => ?_⟩
    · rw [hx.block k (by have := hb.size; omega) (fun e => hn (.inl e)), hb.block k hk]
    · rcases hk with rfl | ⟨ad, ha, rfl⟩ | ⟨q, hq, ad, ha, rfl⟩
      · exact .inl (.inl rfl)
      · exact .inr (own_in hr ad ha).1
      · exact ho q hq ad ha

/-- Files that were the disk's, and others that may be. -/
theorem RefSt.refile_of {w w1 : World} {B g : Nat} {d : Dk} {A : Option Addr} {c : Nat} {l : List Fl} (h : RefSt w B g d) (hr : Frow w1 w.heap.size A c l) (hb : Below w.heap.size w w1) (hf : l.length ≤ 1048576) (hq : ∀ q ∈ l, q ∈ d.l ∨ (Row w1 B q.d.a q.d.c q.d.l ∧ Byt q.d.l ∧ q.d.l.length ≤ 1099511627776 ∧ ∀ ad, q.d.a = some ad → d.own g ad.block ∨ w.heap.size ≤ ad.block)) :
    RefSt (w1.setCell ⟨g, 0, none⟩ (.slice A l.length c)) B g { d with A := A, c := c, l := l } ∧ Does (d.own g) (Dk.own { d with A := A, c := c, l := l } g) w (w1.setCell ⟨g, 0, none⟩ (.slice A l.length c)) :=
  h.refile hr hb (fun q hm => (hq q hm).elim (fun h1 => (h.data q h1).kept hb (Nat.le_refl _)) (fun h2 => h2.1)) (fun q hm => (hq q hm).elim (fun h1 => h.byt q h1) (fun h2 => h2.2.1)) hf (fun q hm => (hq q hm).elim (fun h1 => h.long q h1) (fun h2 => h2.2.2.1)) (fun q hm ad ha => (hq q hm).elim (fun h1 => .inl (.inr (.inr ⟨q, h1, ad, ha, rfl⟩))) (fun h2 => h2.2.2.2 ad ha))
theorem map_erase {α β : Type} (f : α → β) : ∀ (l : List α) (i : Nat), (l.eraseIdx i).map f = (l.map f).eraseIdx i
  | [], _ => rfl
  | _ :: _, 0 => rfl
  | x :: l, i + 1 => by simp [map_erase f l i]
theorem does_stay {m : Md} {e : Int} {f : List (ByteArray × List Int × Int) → List (ByteArray × List Int × Int)} (h : e ≠ 0) : m.does e f = (m, e) := by simp [Md.does, h]

set_option maxRecDepth 100000 in
set_option maxHeartbeats 4000000 in
theorem refDelete_any (B g : Nat) (d : Dk) (s : ByteArray) (w : World) (h : RefSt w B g d) (hs : s.size ≤ 281474976710656) (hdn : d.done < 1099511627776) :
    Calls Try.prog 40 #[.pointer (some ⟨g, 0, none⟩), .string s] w fun e w' => e = .returned (.int .i64 (d.md.delete s).2) ∧ Left w B g d (d.md.delete s).1 w' := by
  obtain ⟨n, hn⟩ : ∃ n, d.l.length = n := ⟨_, rfl⟩
  have HN := Lib.hid (refNamed_any g d s ⟨#[97]⟩ n w h.at_ h.row.lies hn (by rw [← hn]; exact h.few) hs (by decide))
  have HC := Lib.hid (refChange_any g d w h.at_ h.done)
  have H := Lib.hid h
  have HL := Lib.hid hn
  obtain ⟨p, hp⟩ : ∃ p, d.named s ⟨#[97]⟩ = p := ⟨_, rfl⟩
  rw [hp] at HN
  obtain ⟨r, hr⟩ : ∃ r, d.change.2 = r := ⟨_, rfl⟩
  rw [hr] at HC
  have HP := Lib.hid (And.intro hp hr)
  obtain ⟨M, hM⟩ : ∃ M, d.md.delete s = M := ⟨_, rfl⟩
  rw [hM]
  have HM := Lib.hid hM
  have HD := Lib.hid hdn
  clear hp hr hM h hn hdn
  by_cases h0 : p = 0
  · subst h0
    by_cases h1 : r = 0
    · subst h1
      obtain ⟨i, hi⟩ : ∃ i, findM s (d.l.map Fl.rd) = some i := by
        have h1 := HP.out.1
        rw [named_md] at h1
        unfold Md.named at h1
        cases hf : findM s (d.l.map Fl.rd) with
        | some i => exact ⟨i, rfl⟩
        | none =>
          simp only [Dk.md, hf] at h1
          split at h1
          · cases h1
          · split at h1
            · cases h1
            · cases h1
      have hin : i < n := by
        have := (List.findIdx?_eq_some_iff_getElem.1 hi).1
        have h2 := HL.out
        rw [List.length_map] at this
        omega
      have HFI : Hid (findI s d.l = (i : Int)) := Lib.hid (by rw [findI_md, hi]; rfl)
      obtain ⟨q1, q2, q3, q4, q5⟩ := change_md d
      obtain ⟨d1, hd1⟩ : ∃ d1, d.change.1 = d1 := ⟨_, rfl⟩
      rw [hd1] at HC q1 q3 q4 q5
      have HV : Hid (M = ({ d1.md with fs := (d.l.eraseIdx i).map Fl.rd }, 0)) := Lib.hid (by rw [← HM.out]; unfold Md.delete Md.does; rw [← named_md, HP.out.1, ← q2, HP.out.2, if_neg (by simp), if_neg (by simp), ← q1, map_erase]; show ({ d1.md with fs := ((d.l.map Fl.rd).eraseIdx ((findM s (d.l.map Fl.rd)).getD 0)) }, (0 : Int)) = _; rw [hi]; rfl)
      have Q := Lib.hid (And.intro q3 (And.intro q4 q5))
      have HDN : Hid (0 ≤ d1.done ∧ d1.done ≤ 1099511627776) := Lib.hid (by have := HD.out; have := H.out.done; rw [← hd1]; unfold Dk.change; split <;> simp <;> omega)
      clear hi q1 q2 q3 q4 q5 hd1 HM HP
      go_enter Try.func40, Try.ntmps40
      go_upto_region 5 with (first | (go_at_call 65; refine HN.out.mono ?_; rintro e w1 ⟨rfl, rfl⟩) | (go_at_call 52; refine HC.out.mono ?_; rintro e w1 ⟨rfl, hd1, hb1⟩; have D1 := Lib.hid (And.intro hd1 hb1); clear hd1 hb1))
      have H1 := Lib.hid (H.out.turned D1.out.1 D1.out.2 Q.out.1 Q.out.2.1 Q.out.2.2 HDN.out)
      have c0 := H1.out.at_.cell.1
      have HF := Lib.hid (fun (W : World) (hb : Below w1.heap.size w1 W) => refFind_any g d1 s n W (H1.out.kept hb).at_ (H1.out.kept hb).row.lies (by rw [Q.out.2.2]; exact HL.out) (by rw [← HL.out]; exact H.out.few))
      have HWo := Lib.hid (fun (W : World) (hb : Below w1.heap.size w1 W) => refWithout_any d1.A d1.l n d1.c i W (by rw [Q.out.2.2]; exact HL.out) (H1.out.kept hb).row.lies (by rw [← HL.out]; exact H.out.few) (by omega))
      rw [Q.out.2.2] at HF HWo c0
      rw [HFI.out] at HF
      rw [HL.out] at c0
      obtain ⟨A1, hA1⟩ : ∃ A1, d1.A = A1 := ⟨_, rfl⟩
      obtain ⟨C1, hC1⟩ : ∃ C1, d1.c = C1 := ⟨_, rfl⟩
      rw [hA1, hC1] at HWo c0
      have HAC := Lib.hid (And.intro hA1 hC1)
      clear hA1 hC1
      have B0 : Hid (Below w1.heap.size w1 w1) := Lib.hid (Below.refl _ _)
      have B1 : Hid (Below w1.heap.size w1 w1.drew) := Lib.hid (Below.refl _ _).drew
      have HK : Hid (∀ W, Below w1.heap.size w1 W → W.cell? ⟨g, 0, none⟩ = some (.slice A1 n C1) ∧ W.frozen? ⟨g, 0, none⟩ = false) := Lib.hid (fun W hb => ⟨by rw [hb.cell H1.out.at_.lt]; exact c0, (H1.out.kept hb).at_.frozen 0⟩)
      obtain ⟨z0, z1⟩ := HK.out _ B1.out
      go_region_law (first
        | (go_simp; go_at_call 36; refine (HF.out _ B0.out).mono ?_; rintro e w2 ⟨rfl, hw⟩; subst hw)
        | (go_simp; go_at_call 36; refine (HF.out _ B1.out).mono ?_; rintro e w2 ⟨rfl, hw⟩; subst hw)
        | (go_simp; go_at_call 66; refine (HWo.out _ B0.out).mono ?_; rintro e w2 ⟨A2, C2, rfl, r2, b2⟩; have B2 := Lib.hid (B0.out.trans b2); have R2 := Lib.hid r2; clear r2 b2; obtain ⟨y0, y1⟩ := HK.out _ B2.out)
        | (go_simp; go_at_call 66; refine (HWo.out _ B1.out).mono ?_; rintro e w2 ⟨A2, C2, rfl, r2, b2⟩; have B2 := Lib.hid (B1.out.trans b2); have R2 := Lib.hid r2; clear r2 b2; obtain ⟨y0, y1⟩ := HK.out _ B2.out))
      all_goals
        go_wp2_with fail
        go_ret
        rw [HV.out]
        obtain ⟨hst, hdo⟩ := H1.out.refile_of R2.out B2.out (by have := H.out.few; have := List.length_eraseIdx_le d.l i; omega) (fun q hq => .inl (by rw [Q.out.2.2]; exact List.mem_of_mem_eraseIdx hq))
        exact ⟨rfl, _, hst, rfl, (does_turned D1.out.2 Q.out.1 Q.out.2.2).trans hdo⟩
    · have HV : Hid (M = (d.change.1.md, r)) := Lib.hid (by rw [← HM.out]; have := change_md d; unfold Md.delete Md.does; rw [← named_md, HP.out.1, ← this.2.1, HP.out.2, if_neg (by simp), if_pos h1, this.1, ← HP.out.2, this.2.1])
      have d1 : (r == 0) = false := by simpa using h1
      clear h1
      go_enter Try.func40, Try.ntmps40
      go_wp2_with (first | (go_at_call 65; refine HN.out.mono ?_; rintro e w1 ⟨rfl, rfl⟩) | (go_at_call 52; refine HC.out.mono ?_; rintro e w1 ⟨rfl, hd1, hb1⟩; have D1 := Lib.hid (And.intro hd1 hb1); clear hd1 hb1))
      go_ret
      rw [HV.out]
      have hc := change_md d
      exact ⟨rfl, d.change.1, H.out.turned D1.out.1 D1.out.2 hc.2.2.1 hc.2.2.2.1 hc.2.2.2.2 (by have := HD.out; have := H.out.done; unfold Dk.change; split <;> simp <;> omega), rfl, does_turned D1.out.2 hc.2.2.1 hc.2.2.2.2⟩
  · have HV : Hid (M = (d.md, p)) := Lib.hid (by rw [← HM.out]; unfold Md.delete; rw [← named_md, HP.out.1, does_stay h0])
    have d0 : (p == 0) = false := by simpa using h0
    clear h0
    go_enter Try.func40, Try.ntmps40
    go_wp2_with (go_at_call 65; refine HN.out.mono ?_; rintro e w1 ⟨rfl, rfl⟩)
    go_ret
    rw [HV.out]
    exact ⟨rfl, d, H.out, rfl, Does.refl _ _⟩

end Go.Proofs.Ytjacjafpeajhaaa
