/-
  Plain: frames: how a payload is put, read, and read one behind the other; what is turned is told. Nothing of the program. Plain: what is turned in a table's file, or cut off, is told: what could be read of bytes is read so of more bytes, too; frames with another length. Nothing of the program. Plain: a byte of a table's file that is turned, an end that is cut off: the file is refused, or one block can't be read. Nothing of the program. Plain: a table's file turned or cut: what is told of it. Nothing of the program. Plain and memory: names of files; what turns and what does not; files by name as they are read. Walks: a new beginning; how many bytes survive; a new disk. The program's disk: what each call answers and leaves, on what is read of it; one file laid anew. Walks: the program's disk: Revive. Walks: a nil disk; what each call answers and leaves, by what is read of the disk alone. What a crash leaves of a table that is written, by the document's own words.
-/
import Derived.Laws.Strings
import Derived.Deep.QuietTactic
import Derived.BigQuiet
import Derived.Deep.RegionLaw
import Derived.Deep.RegionHeld3
import Derived.Deep.RegionWith
import Derived.Lib.BufferMore
import Derived.Deep.CutRange
import Derived.Deep.Cut
import Derived.Deep.CutBlock
import Derived.Test.YtnoccpafjaoopaaGreatJ00
import Derived.Test.YtnoccpafjaoopaaGreatJ01
import Derived.Test.YtnoccpafjaoopaaGreatJ02
import Derived.Test.YtnoccpafjaoopaaGreatJ03
import Derived.Test.YtnoccpafjaoopaaGreatJ04
import Derived.Test.YtnoccpafjaoopaaGreatJ05
import Derived.Test.YtnoccpafjaoopaaGreatJ06
import Derived.Test.YtnoccpafjaoopaaGreatJ07
import Derived.Test.YtnoccpafjaoopaaGreatJ08
import Derived.Test.YtnoccpafjaoopaaGreatJ09
import Derived.Test.YtnoccpafjaoopaaGreatJ10
import Derived.Test.YtnoccpafjaoopaaGreatJ11
import Derived.Test.YtnoccpafjaoopaaGreatJ12
import Derived.Test.YtnoccpafjaoopaaGreatJ13
import Derived.Test.YtnoccpafjaoopaaGreatJ14
import Derived.Test.YtnoccpafjaoopaaGreatJ15
import Derived.Test.YtnoccpafjaoopaaGreatJ16
import Derived.Test.YtnoccpafjaoopaaGreatJ17
import Derived.Test.YtnoccpafjaoopaaGreatJ18
import Derived.Test.YtnoccpafjaoopaaGreatJ19
import Derived.Test.YtnoccpafjaoopaaGreatJ20
import Derived.Test.YtnoccpafjaoopaaGreatJ21
import Derived.Test.YtnoccpafjaoopaaGreatJ22
import Derived.Test.YtnoccpafjaoopaaGreatJ23
import Derived.Test.YtnoccpafjaoopaaGreatJ24
import Derived.Test.YtnoccpafjaoopaaGreatJ25
import Derived.Test.YtnoccpafjaoopaaGreatJ26
set_option linter.unusedSimpArgs false
set_option linter.unusedVariables false
namespace Go.Proofs.YtnoccpafjaoopaaGreat
theorem numL_take (L : List Int) : numL (L.take 4) = numL L := by
  match L with
  | a :: b :: c :: d :: s => rfl
  | [] | [_] | [_, _] | [_, _, _] => rfl
end Go.Proofs.YtnoccpafjaoopaaGreat
namespace Go.Proofs.YtnoccpafjaoopaaGreat
/-- The head's payload, read. -/
def headQ (P : List Int) : Option (Int × List Int) :=
  if (uintP P 0).2.2 ≠ 0 then none
  else if (bytesP P (uintP P 0).2.1 200).2.2 ≠ 0 then none
  else if (bytesP P (uintP P 0).2.1 200).2.1 ≠ P.length then none
  else some ((uintP P 0).1, (bytesP P (uintP P 0).2.1 200).1)
theorem headP_Q (L : List Int) : headP L = if (fReadP L 0).2.2 ≠ 0 then none else match headQ (fReadP L 0).1 with
    | none => none
    | some (n, g) => some (n, g, (fReadP L 0).2.1) := by
  unfold headP headQ
  repeat' split
  all_goals first
    | rfl
    | simp_all
end Go.Proofs.YtnoccpafjaoopaaGreat
namespace Go.Proofs.YtnoccpafjaoopaaGreat
theorem shut_of {qs : List (List Er)} {D : List Int} {K : List Int} {h : Int} (hd : headP D = some ((qs.length : Int), K, h)) (hi : idxP D qs.length h [] = none) : tableP D = none := by
  unfold tableP
  rw [hd]
  simp only [Int.toNat_natCast]
  rw [hi]
theorem rowsP_short : ∀ (ps : List (List Er)) (a end_ : Int) (acc : List Rw), (∀ p ∈ ps, PieceOk 1024 p) → end_ < a + ((ps.flatMap frameE).length : Int) → rowsP end_ (indexE ps) a acc = none
  | [], a, end_, acc, _, h => by
    simp only [List.flatMap_nil, List.length_nil] at h
    show rowsP end_ [] a acc = none
    unfold rowsP
    rw [if_neg (by omega)]
  | p :: ps, a, end_, acc, h, he => by
    simp only [List.flatMap_cons, List.length_append] at he
    show rowsP end_ (tellE p :: indexE ps) a acc = none
    unfold rowsP
    by_cases hf : a + ((frameE p).length : Int) ≤ end_
    · rw [rowP_tell (h p (by simp)) hf]
      exact rowsP_short ps _ _ _ (fun q hq => h q (by simp [hq])) (by simp only; omega)
    · have : rowP (tellE p) a end_ = none := by
        obtain ⟨h1, h2, h3, h4⟩ := h p (by simp)
        cases p with
        | nil => exact absurd rfl h1
        | cons e l =>
          have hl : (frameE (e :: l)).length ≤ 2097160 := by unfold frameE; rw [putL_len]; have := packE_len h2 h4; omega
          obtain ⟨n, hn⟩ : ∃ n, (e :: l).length = n := ⟨_, rfl⟩
          obtain ⟨f, hF⟩ : ∃ f, (frameE (e :: l)).length = f := ⟨_, rfl⟩
          rw [tellE_cons, hn, hF]
          rw [hn] at h2
          rw [hF] at hf hl
          have hn1 : 1 ≤ n := by rw [← hn]; simp
          have k1 := uintP_back [] (digs (f : Int)) (n : Int) (by omega) (by omega)
          simp only [List.nil_append, List.length_nil] at k1
          replace k1 : uintP (digs (n : Int) ++ digs (f : Int)) 0 = ((n : Int), ((digs (n : Int)).length : Int), 0) := by rw [show ((digs (n : Int)).length : Int) = ((0 : Nat) : Int) + ((digs (n : Int)).length : Int) by omega]; exact k1
          have k2 := uintP_back (digs (n : Int)) [] (f : Int) (by omega) (by omega)
          simp only [List.append_nil] at k2
          unfold rowP
          simp only
          rw [k1]
          simp only
          rw [k2]
          simp only [ne_eq, not_true_eq_false, false_or]
          rw [if_neg (by omega), if_pos (.inr (by omega))]
      rw [this]
theorem fRead_cut (B p : List Int) (j : Nat) (hl : p.length ≤ 2097152) (hj : j < 8 + p.length) : (fReadP (B ++ (putL p).take j) B.length).2.2 ≠ 0 := by
  have e : (B ++ (putL p).take j).drop ((B.length : Int)).toNat = (putL p).take j := by rw [Int.toNat_natCast, List.drop_left]
  have hlen : ((putL p).take j).length = j := by rw [List.length_take, putL_len]; omega
  have hr : (readL ((putL p).take j)).2.2 ≠ 0 := by
    unfold readL
    split
    · simp
    · split
      · simp
      · next h1 h2 =>
        have hnum : numL ((putL p).take j) = p.length := by
          rw [← numL_take, List.take_take, Nat.min_eq_left (by omega), numL_take]
          unfold putL
          exact num_four _ _ (by omega) (by omega)
        rw [if_neg (by rw [hnum]; omega), if_pos (by rw [hnum]; omega)]
        simp
  unfold fReadP
  rw [if_neg (by simp only [List.length_append]; omega), e, if_neg hr]
  exact hr
theorem tableP_none {D : List Int} (h : headP D = none) : tableP D = none := by
  unfold tableP
  rw [h]
set_option maxRecDepth 100000 in
theorem head_cut (n : Nat) (K : List Int) (k : Nat) (hn : (n : Int) ≤ 18446744073709551615) (hK : K.length ≤ 200) (hk : k < (headT n K).length) : headP ((headT n K).take k) = none := by
  obtain ⟨P, hP⟩ : ∃ P, digs (n : Int) ++ (digs K.length ++ K) = P := ⟨_, rfl⟩
  have hdl := digs_len (n : Int)
  have hkl := digs_len K.length
  have hPl : P.length ≤ 2097152 := by rw [← hP]; simp only [List.length_append]; omega
  have e0 : headT n K = putL P := by unfold headT; rw [hP]
  rw [e0] at hk ⊢
  rw [putL_len] at hk
  have this := fRead_cut [] P k hPl hk
  simp only [List.nil_append, List.length_nil] at this
  replace this : (fReadP ((putL P).take k) 0).2.2 ≠ 0 := this
  rw [headP_Q, if_pos this]
set_option maxRecDepth 100000 in
theorem idx_cut : ∀ (qs : List (List Er)) (q : List Er) (rs : List (List Er)) (B : List Int) (acc : List Er) (j : Nat), (∀ p ∈ qs ++ q :: rs, PieceOk 1024 p ∧ ByL p) → j < (frameE q).length →
    idxP (B ++ (qs.flatMap frameE ++ (frameE q).take j)) (qs ++ q :: rs).length B.length acc = none
  | [], q, rs, B, acc, j, h, hj => by
    obtain ⟨⟨h1, h2, h3, h4⟩, hB⟩ := h q (by simp)
    have hpl := packE_len h2 h4
    have hj' : j < 8 + (packE q).length := by unfold frameE at hj; rwa [putL_len] at hj
    simp only [List.nil_append, List.flatMap_nil, List.length_cons]
    unfold idxP
    have this : (fReadP (B ++ (frameE q).take j) B.length).2.2 ≠ 0 := fRead_cut B (packE q) j hpl hj'
    rw [if_pos this]
  | p :: qs, q, rs, B, acc, j, h, hj => by
    obtain ⟨⟨h1, h2, h3, h4⟩, hB⟩ := h p (by simp)
    obtain ⟨k1, k2⟩ := frame_read B (qs.flatMap frameE ++ (frameE q).take j) h3 h2 h4 hB
    have e1 : B ++ ((p :: qs).flatMap frameE ++ (frameE q).take j) = B ++ (frameE p ++ (qs.flatMap frameE ++ (frameE q).take j)) := by simp
    have e2 : B ++ ((p :: qs).flatMap frameE ++ (frameE q).take j) = (B ++ frameE p) ++ (qs.flatMap frameE ++ (frameE q).take j) := by simp
    have ih := idx_cut qs q rs (B ++ frameE p) (acc ++ p) j (fun x hx => h x (by simp only [List.cons_append, List.mem_cons]; exact .inr hx)) hj
    rw [← e1] at k1
    rw [← e2] at ih
    rw [List.cons_append, List.length_cons]
    unfold idxP
    rw [k1]
    simp only [ne_eq, not_true_eq_false, if_false]
    rw [k2]
    exact ih
/-- Where a place lies in frames, one behind the other. -/
theorem frame_place : ∀ (ps : List (List Er)) (k : Nat), k < (ps.flatMap frameE).length → ∃ qs p rs j, ps = qs ++ p :: rs ∧ k = (qs.flatMap frameE).length + j ∧ j < (frameE p).length
  | [], k, h => by simp at h
  | p :: ps, k, h => by
    simp only [List.flatMap_cons, List.length_append] at h
    by_cases hk : k < (frameE p).length
    · exact ⟨[], p, ps, k, rfl, by simp, hk⟩
    · obtain ⟨qs, q, rs, j, h1, h2, h3⟩ := frame_place ps (k - (frameE p).length) (by omega)
      refine ⟨p :: qs, q, rs, j, by rw [h1]; rfl, ?_, h3⟩
      simp only [List.flatMap_cons, List.length_append]
      omega
end Go.Proofs.YtnoccpafjaoopaaGreat
namespace Go.Proofs.YtnoccpafjaoopaaGreat
/-- An end that is cut off. -/
theorem told_cut {l : List Er} {size k : Nat} {ps qs : List (List Er)} (P : Parts l size ps qs) (hl : l.length ≤ 9000000000000000000) (hk : k < (fileE l size).length) : tableP ((fileE l size).take k) = none := by
  have hql := P.ql
  rw [P.file] at hk ⊢
  by_cases h1 : k < (headT qs.length (lastE l)).length
  · rw [List.take_append_of_le_length (by omega)]
    exact tableP_none (head_cut _ _ _ (by omega) P.key.1 h1)
  · obtain ⟨j, rfl⟩ : ∃ j, k = (headT qs.length (lastE l)).length + j := ⟨k - (headT qs.length (lastE l)).length, by omega⟩
    rw [List.length_append, List.length_append] at hk
    rw [List.take_length_add_append]
    by_cases h2 : j < (qs.flatMap frameE).length
    · rw [List.take_append_of_le_length (by omega)]
      obtain ⟨us, q, rs, i, e1, e2, e3⟩ := frame_place qs j h2
      have hd := headP_put qs.length (lastE l) ((qs.flatMap frameE).take j) (by omega) P.key.1 P.key.2
      have et : (qs.flatMap frameE).take j = us.flatMap frameE ++ (frameE q).take i := by
        rw [e2]
        conv => lhs; rw [e1]
        rw [List.flatMap_append, List.take_length_add_append, List.flatMap_cons, List.take_append_of_le_length (by omega)]
      refine shut_of hd ?_
      rw [et, e1]
      exact idx_cut us q rs (headT (us ++ q :: rs).length (lastE l)) [] i (by rw [← e1]; exact P.qok) e3
    · obtain ⟨i, rfl⟩ : ∃ i, j = (qs.flatMap frameE).length + i := ⟨j - (qs.flatMap frameE).length, by omega⟩
      rw [List.take_length_add_append]
      have hd := headP_put qs.length (lastE l) (qs.flatMap frameE ++ (ps.flatMap frameE).take i) (by omega) P.key.1 P.key.2
      have hi := idxP_put qs (headT qs.length (lastE l)) ((ps.flatMap frameE).take i) [] P.qok
      rw [P.qflat, List.nil_append] at hi
      have hr := rowsP_short ps ((headT qs.length (lastE l) ++ qs.flatMap frameE).length : Int) (headT qs.length (lastE l) ++ (qs.flatMap frameE ++ (ps.flatMap frameE).take i)).length [] (fun p hp => (P.ok p hp).1) (by simp only [List.length_append, List.length_take]; omega)
      unfold tableP
      rw [hd]
      simp only [Int.toNat_natCast]
      rw [hi]
      simp only
      rw [if_neg (by simp only [not_or, Decidable.not_not]; exact ⟨fun e => P.ne (List.map_eq_nil_iff.1 e), P.ix⟩), hr]
end Go.Proofs.YtnoccpafjaoopaaGreat
namespace Go.Proofs.YtnoccpafjaoopaaGreat
open Go.RowKit
/-- How many of so many bytes are kept. -/
def keptM (keep : List Int) (n : Nat) (u : Int) : Int :=
  match keep[n]? with
  | none => 0
  | some x => if x.tmod (u + 1) < 0 then x.tmod (u + 1) + (u + 1) else x.tmod (u + 1)
/-- One file behind the crash, and how many had bytes that weren't synced. -/
def rev1 (keep : List Int) (n : Nat) (p : ByteArray × List Int × Int) : (ByteArray × List Int × Int) × Nat :=
  if 0 < (p.2.1.length : Int) - p.2.2 then ((p.1, p.2.1.take (p.2.2 + keptM keep n (p.2.1.length - p.2.2)).toNat, p.2.2 + keptM keep n (p.2.1.length - p.2.2)), n + 1)
  else ((p.1, p.2.1, p.2.1.length), n)
def revL (keep : List Int) : Nat → List (ByteArray × List Int × Int) → List (ByteArray × List Int × Int)
  | _, [] => []
  | n, p :: fs => (rev1 keep n p).1 :: revL keep (rev1 keep n p).2 fs
theorem kept_in (keep : List Int) (n : Nat) (u : Int) (hu : 0 < u) : 0 ≤ keptM keep n u ∧ keptM keep n u ≤ u := by
  unfold keptM
  cases keep[n]? with
  | none => simp; omega
  | some x =>
    have h1 := Int.emod_nonneg x (b := u + 1) (by omega)
    have h2 := Int.emod_lt_of_pos x (b := u + 1) (by omega)
    have h3 := Int.tmod_eq_emod (a := x) (b := u + 1)
    simp only
    split at h3 <;> split <;> omega
theorem ints_at {w : World} {A : Option Addr} {L : List Int} {k : Nat} {x : Int} (h : Ints w A L) (hx : L[k]? = some x) : ∃ ad, A = some ad ∧ w.cell? (ad.add k) = some (.int .i64 x) := by
  have hv : (L.map (Value.int .i64))[k]? = some (.int .i64 x) := by simp [hx]
  rcases h with h | ⟨ad, rfl, h⟩
  · rw [h] at hv
    simp at hv
  · exact ⟨ad, rfl, h k _ hv⟩
end Go.Proofs.YtnoccpafjaoopaaGreat
namespace Go.Proofs.YtnoccpafjaoopaaGreat
open Go.RowKit
open Go.Maps
/-- How many survive, of so many. -/
theorem survive_eq (x u : Int) (hu : 0 < u) : Int.tmod (Int.tmod x (u + 1) + (u + 1)) (u + 1) = if x.tmod (u + 1) < 0 then x.tmod (u + 1) + (u + 1) else x.tmod (u + 1) := by
  have h1 := Int.tmod_lt_of_pos x (b := u + 1) (by omega)
  have h2 : -(u + 1) < x.tmod (u + 1) := by
    have := Int.lt_tmod_of_pos x (b := u + 1) (by omega)
    omega
  split
  · rw [Int.tmod_eq_of_lt (by omega) (by omega)]
  · next h =>
    have e : x.tmod (u + 1) + (u + 1) = x.tmod (u + 1) + 1 * (u + 1) := by omega
    rw [Int.tmod_eq_emod_of_nonneg (by omega), e, Int.add_mul_emod_self_right]
    exact Int.emod_eq_of_lt (by omega) h1
set_option maxHeartbeats 2000000 in
theorem survive_any (B g : Nat) (p : Pk) (i : Nat) (u : Int) (w : World) (h : PSt w B g p) (hu : 0 < u) (hb : u ≤ 281474976710656) (hi : i ≤ 281474976710656) :
    Calls Tryz.prog 50 #[.pointer (some ⟨g, 0, none⟩), .int .i64 i, .int .i64 u] w fun e w' => e = .returned (.int .i64 (keptM p.keep i u)) ∧ w = w' := by
  obtain ⟨r, hr⟩ : ∃ r, keptM p.keep i u = r := ⟨_, rfl⟩
  rw [hr]
  have HR := Lib.hid hr
  obtain ⟨-, -, -, -, c4, -⟩ := h.at_.cell
  have HK := Lib.hid h.inn.keep.lies
  have HI := Lib.hid h.inn.ki
  clear hr h
  obtain ⟨b, l, size, room, left, K, keep, kc, down⟩ := p
  simp only at c4 HR HK HI
  obtain ⟨n, hn⟩ : ∃ n, keep.length = n := ⟨_, rfl⟩
  rw [hn] at c4
  have HN := Lib.hid hn
  clear hn
  by_cases hlt : i < n
  · have hq := List.getElem?_eq_getElem (l := keep) (i := i) (by have := HN.out; omega)
    generalize keep[i]'(by have := HN.out; omega) = x at hq
    obtain ⟨ad, rfl, a0⟩ := ints_at HK.out hq
    have hx := HI.out x (List.mem_of_getElem? hq)
    have hd : decide ((n : Int) ≤ i) = false := by simp; omega
    have h1 := Int.tmod_lt_of_pos x (b := u + 1) (by omega)
    have h2 : -(u + 1) < x.tmod (u + 1) := by
      have := Int.lt_tmod_of_pos x (b := u + 1) (by omega)
      omega
    have HV : Hid (r = (Int.tmod x (u + 1) + (u + 1)) % (u + 1)) := Lib.hid (by
      rw [← HR.out, ← Int.tmod_eq_emod_of_nonneg (by omega), survive_eq x u hu]
      unfold keptM
      rw [hq])
    obtain ⟨hx0, hx1⟩ := hx
    clear hq
    go_enter Tryz.func50, Tryz.ntmps50
    go_wp2_with fail
    go_ret
    rw [HV.out]
    exact ⟨rfl, rfl⟩
  · have HV : Hid (r = 0) := Lib.hid (by
      rw [← HR.out]
      unfold keptM
      rw [List.getElem?_eq_none (by have := HN.out; omega)])
    have hd : decide ((n : Int) ≤ i) = true := by simp; omega
    go_enter Tryz.func50, Tryz.ntmps50
    go_wp2_with fail
    go_ret
    rw [HV.out]
    exact ⟨rfl, rfl⟩
end Go.Proofs.YtnoccpafjaoopaaGreat
namespace Go.Proofs.YtnoccpafjaoopaaGreat
open Go.RowKit
open Go.Maps
def Vm.revive (m : Vm) (ops room : Int) (keep : List Int) : Vm := ⟨revL m.keep 0 m.fs, room, ops, keep, false⟩
end Go.Proofs.YtnoccpafjaoopaaGreat
namespace Go.Proofs.YtnoccpafjaoopaaGreat
open Go.RowKit
open Go.Maps
theorem revP_step {keep : List Int} {l : List Pf} {k m m' : Nat} {q q' : Pf} {R : List (ByteArray × List Int × Int)} (hq : l[k]? = some q) (hd : l.drop k = q :: l.drop (k + 1)) (h1 : rev1 keep m q.rd = (q'.rd, m')) (hR : (l.take k).map Pf.rd ++ revL keep m ((l.drop k).map Pf.rd) = R) :
    ((l.set k q').take (k + 1)).map Pf.rd ++ revL keep m' (((l.set k q').drop (k + 1)).map Pf.rd) = R ∧ (l.set k q').drop (k + 1) = l.drop (k + 1) := by
  have hk := (List.getElem?_eq_some_iff.1 hq).1
  have e1 : (l.set k q').drop (k + 1) = l.drop (k + 1) := by rw [List.drop_set_of_lt (by omega)]
  have e2 : (l.set k q').take (k + 1) = l.take k ++ [q'] := by
    rw [List.take_add_one, List.getElem?_set_self hk, List.take_set_of_le (Nat.le_refl k)]
    rfl
  refine ⟨?_, e1⟩
  rw [e1, e2, ← hR, hd, List.map_append, List.map_cons]
  show _ = _ ++ ((rev1 keep m q.rd).1 :: revL keep (rev1 keep m q.rd).2 (List.map Pf.rd (List.drop (k + 1) l)))
  rw [h1]
  simp
theorem set_same {l : List Pf} {k : Nat} {q : Pf} (hq : l[k]? = some q) : l.set k q = l := by
  refine List.ext_getElem? fun j => ?_
  by_cases e : k = j
  · subst e
    rw [List.getElem?_set_self (List.getElem?_eq_some_iff.1 hq).1, hq]
  · rw [List.getElem?_set_ne e]
theorem sumP_set {l : List Pf} {i : Nat} {q q' : Pf} (hq : l[i]? = some q) : sumP (l.set i q') + q.d.l.length = sumP l + q'.d.l.length := by
  have key : ∀ (l : List Pf) (i : Nat), l[i]? = some q → sumM ((l.set i q').map Pf.rd) + q.d.l.length = sumM (l.map Pf.rd) + q'.d.l.length := by
    intro l
    induction l with
    | nil => intro i h; simp at h
    | cons x l ih =>
      intro i h
      cases i with
      | zero =>
        simp at h
        subst h
        simp [sumM, Pf.rd]
        omega
      | succ i =>
        have := ih i (by simpa using h)
        simp only [sumM, List.set_cons_succ, List.map_cons, List.sum_cons] at this ⊢
        omega
  unfold sumP
  have := key l i hq
  omega
theorem wrap64_cut {S S' a b : Int} (h : S' + a = S + b) : wrap64 (wrap64 S - (a - b)) = wrap64 S' := by
  have e : S' = S - (a - b) := by omega
  rw [e]
  generalize a - b = c
  unfold wrap64
  omega
/-- One file's bytes cut, all of what is left synced. -/
theorem PSt.revived {w W : World} {B g i : Nat} {p : Pk} {q : Pf} {A' : Option Addr} {c' : Nat} {L : List Int} {y s : Int} (h : PSt w B g p) (hq : p.l[i]? = some q) (hf : FileAt W q.h ⟨A', c', L⟩ y) (hk : PkAt W g { p with size := s }) (hr : Row W w.heap.size A' c' L) (hL : Byt L) (hs : s = wrap64 (p.size - (q.d.l.length - L.length))) (hd : Does (VTwo g q.h) (VTwo g q.h) w W) :
    PSt W B g { p with l := p.l.set i { q with d := ⟨A', c', L⟩, y := y }, size := s } ∧ Does (p.own g) (Pk.own { p with l := p.l.set i { q with d := ⟨A', c', L⟩, y := y }, size := s } g) w W := by
  have hm := List.mem_of_getElem? hq
  have hfq := h.inn.file q hm
  have hBw : B ≤ w.heap.size := by have := h.low; have := h.at_.lt; omega
  have hrw : ∀ ad', A' = some ad' → q.own ad'.block ∨ w.heap.size ≤ ad'.block := fun ad' ha => .inr (own_in hr ad' ha).1
  have hin := h.inn.reput (w' := W) (q' := { q with d := ⟨A', c', L⟩, y := y }) hq rfl rfl ⟨hf, hfq.low, own_mono hr hBw, hL⟩ hrw (fun k hk1 hn => hd.block k (h.inn.owned k hk1).2 (fun e => e.elim (fun e => h.not_inner (e ▸ hk1)) (fun e => hn (.inl e))))
  refine ⟨⟨hk, h.low, ⟨hin.map, hin.mlow, hin.file, hin.apart, hin.srt, hin.keep, hin.ki⟩, ?_, h.left, h.room⟩, ?_⟩
  · show s = wrap64 (sumP (p.l.set i { q with d := ⟨A', c', L⟩, y := y }))
    have := sumP_set (q' := { q with d := ⟨A', c', L⟩, y := y }) hq
    rw [hs, h.size]
    exact wrap64_cut this
  · refine hd.wider (fun k hk1 => hk1.elim (fun e => .inl e) (fun e => .inr (.inr (.inr ⟨q, hm, .inl e⟩)))) (fun k hk1 => ?_)
    rcases hk1 with e | e | e | ⟨x, hx, hk1⟩
    · exact .inl (.inl e)
    · exact .inl (.inr (.inl e))
    · exact .inl (.inr (.inr (.inl e)))
    · rcases List.mem_or_eq_of_mem_set hx with h1 | h1
      · exact .inl (.inr (.inr (.inr ⟨x, h1, hk1⟩)))
      · subst h1
        rcases hk1 with e | ⟨ad, ha, e⟩
        · exact .inl (.inr (.inr (.inr ⟨q, hm, .inl e⟩)))
        · exact .inr (e ▸ (own_in hr ad ha).1)
/-- A file's bytes laid anew. -/
theorem file_set {ws w7 : World} {B g qh : Nat} {p : Pk} {d : Sl} {y : Int} {A7 : Option Addr} {c7 t : Nat} {L : List Int} (hf : FileAt ws qh d y) (hk : PkAt ws g p) (hb : Below ws.heap.size ws w7) (hr : Row w7 B A7 c7 L) (ht : L.length = t) :
    FileAt (w7.setCell ⟨qh, 0, none⟩ (.slice A7 t c7)) qh ⟨A7, c7, L⟩ y ∧ PkAt (w7.setCell ⟨qh, 0, none⟩ (.slice A7 t c7)) g p ∧ Row (w7.setCell ⟨qh, 0, none⟩ (.slice A7 t c7)) B A7 c7 L ∧ Does (VTwo g qh) (VTwo g qh) ws (w7.setCell ⟨qh, 0, none⟩ (.slice A7 t c7)) := by
  subst ht
  have hf7 : FileAt w7 qh d y := by
    unfold FileAt at hf ⊢
    rw [hb.block qh (Array.getElem?_eq_some_iff.1 hf).1, hf]
  have hk7 : PkAt w7 g p := pk_block hk (hb.block g hk.lt)
  have hne : g ≠ qh := fun e => by
    unfold FileAt at hf
    unfold PkAt at hk
    rw [e, hf] at hk
    injection hk with hk
    injection hk with _ hk
    exact absurd hk (by decide)
  refine ⟨FileAt.set0 (d' := ⟨A7, c7, L⟩) hf7, pk_block hk7 (Below.heap_setCell w7 ⟨qh, 0, none⟩ _ g hne), own_block hr (fun ad ha => Below.heap_setCell w7 ⟨qh, 0, none⟩ _ _ (fun e => ?_)), ?_⟩
  · obtain ⟨cur, hc⟩ := own_type hr ha
    unfold FileAt at hf7
    rw [e, hf7] at hc
    injection hc with hc
    injection hc with _ hc
    exact absurd hc (by decide)
  · exact (Does.of_below hb (fun _ hk => .inl hk)).trans (does_set (.inr rfl))
set_option maxRecDepth 100000 in
set_option maxHeartbeats 8000000 in
theorem revive_any (B g : Nat) (p : Pk) (ops room : Int) (A : Option Addr) (keep : List Int) (kn kc : Nat) (w : World) (h : PSt w B g p) (hsy : ∀ q ∈ p.l, 0 ≤ q.y ∧ q.y ≤ q.d.l.length) (hl : p.l.length * 48 ≤ 140737488355328) (hlg : ∀ q ∈ p.l, q.d.l.length ≤ 140737488355328) (hss : ∀ q ∈ p.l, q.s.size ≤ 140737488355328)
    (hn : keep.length = kn) (hk : Ints w A keep) (hko : ∀ ad, A = some ad → ¬ p.own g ad.block) (hkl : kn * 8 ≤ 140737488355328)
    (hi : ∀ x ∈ keep, -9223372036854775808 ≤ x ∧ x ≤ 9223372036854775807) (ho : -9223372036854775808 ≤ ops ∧ ops ≤ 9223372036854775807) (hm : -9223372036854775808 ≤ room ∧ room ≤ 9223372036854775807) :
    Calls Tryz.prog 28 #[.pointer (some ⟨g, 0, none⟩), .agg #[.int .i64 ops, .int .i64 room, .slice A kn kc]] w fun e w' => e = .returned (.int .i64 0) ∧ Rest w B g p (p.vm.revive ops room keep) w' := by
  have H := Lib.hid h
  obtain ⟨w1, hw1⟩ : ∃ w1, w.alloc (.cells #[.int .i64 ops, .int .i64 room, .slice A kn kc] 28) = w1 := ⟨_, rfl⟩
  have B1 : Hid (Below w.heap.size w w1) := Lib.hid (hw1 ▸ below_new _ _)
  have HS1 : Hid (w1.heap.size = w.heap.size + 1) := Lib.hid (by rw [← hw1]; simp)
  have HZ : Hid (w1.cell? ⟨w.heap.size, 0, none⟩ = some (.int .i64 ops) ∧ w1.cell? ⟨w.heap.size, 1, none⟩ = some (.int .i64 room) ∧ w1.cell? ⟨w.heap.size, 2, none⟩ = some (.slice A kn kc)) := Lib.hid (by rw [← hw1]; exact ⟨lit_cell w _ _ 0, lit_cell w _ _ 1, lit_cell w _ _ 2⟩)
  have HN := Lib.hid (names_any B g p w1 (h.kept B1.out) (by omega))
  have HX := Lib.hid (And.intro hsy (And.intro hlg hss))
  have HB := Lib.hid (fun (W : World) (p' : Pk) (hP : PSt W B g p') (hK : Ints W A keep) => begin_any B g p' ops room A keep kn kc W hP hn hK hkl hi ho hm)
  have HK := Lib.hid (And.intro hk hko)
  obtain ⟨n, hnn⟩ : ∃ n, p.l.length = n := ⟨_, rfl⟩
  have HNN := Lib.hid hnn
  have hT : (p.l.map Pf.s).length = n := by rw [List.length_map, hnn]
  unfold Texts7 at HN
  rw [hT] at HN
  rw [hnn] at hl
  obtain ⟨R, hR⟩ : ∃ R, revL p.keep 0 (p.l.map Pf.rd) = R := ⟨_, rfl⟩
  have HR := Lib.hid hR
  clear h hlg hss hsy hnn hT hR hn hk hko hkl hi ho hm
  go_enter Tryz.func28, Tryz.ntmps28
  go_wp2_with (go_at_call 41; refine HN.out.mono ?_; rintro e w2 ⟨A1, c1, rfl, r1, b1⟩; have R1 := Lib.hid (And.intro r1 b1); clear r1 b1)
  have B2 : Hid (Below w.heap.size w w2) := Lib.hid (B1.out.trans (R1.out.2.mono B1.out.size))
  have HP2 := Lib.hid (H.out.kept B2.out)
  have HOW : Hid (∀ k, p.own g k → k < w.heap.size) := Lib.hid (fun k hk => (H.out.owned k hk).2)
  have HT : Hid (∀ (S' : Nat → Prop) (W : World), Does (p.own g) S' w2 W → Lies W A1 ((p.l.map Pf.s).map Value.string)) := Lib.hid (fun S' W hd => R1.out.1.lies.does hd (fun ad ha hk => by
    have := (own_in R1.out.1 ad ha).1
    have := HOW.out _ hk
    have := HS1.out
    omega))
  clear hw1
  go_loopw [5, 15] (fun t5 t15 wr => ∃ (k m : Nat) (p' : Pk), k ≤ n ∧ m ≤ k ∧ t15 = .int .i64 k ∧ t5 = .int .i64 m ∧ Hid (PSt wr B g p') ∧ Hid (p'.l.length = n) ∧ Hid (p'.keep = p.keep) ∧ Hid (p'.l.map Pf.s = p.l.map Pf.s) ∧ Hid ((p'.l.take k).map Pf.rd ++ revL p.keep m ((p'.l.drop k).map Pf.rd) = R) ∧ Hid (∀ q ∈ p'.l.drop k, q ∈ p.l) ∧ Hid (Does (p.own g) (p'.own g) w2 wr)) (fun _ t15 _ => n - (intOf t15).toNat)
  case atStart => exact ⟨0, 0, p, by omega, by omega, rfl, rfl, HP2, HNN, Lib.hid rfl, Lib.hid rfl, Lib.hid (by simpa using HR.out), Lib.hid (fun q hq => by simpa using hq), Lib.hid (Does.refl _ _)⟩
  case round =>
    obtain ⟨k, m, p', hk, hmk, rfl, rfl, hs, hl2, hkp, hnm, hrev, hin, hdo⟩ := hrel
    by_cases hlt : k < n
    · have hq := List.getElem?_eq_getElem (l := p'.l) (i := k) (by have := hl2.out; omega)
      generalize p'.l[k]'(by have := hl2.out; omega) = q at hq
      have hmem := List.mem_of_getElem? hq
      have hdrop : p'.l.drop k = q :: p'.l.drop (k + 1) := by
        have hkl := (List.getElem?_eq_some_iff.1 hq).1
        rw [List.drop_eq_getElem_cons hkl]
        rw [List.getElem?_eq_getElem hkl] at hq
        injection hq with hq
        rw [hq]
      have hpm : q ∈ p.l := hin.out q (by rw [hdrop]; simp)
      have hsy1 := HX.out.1 q hpm
      have hlg1 := HX.out.2.1 q hpm
      have hss1 := HX.out.2.2 q hpm
      obtain ⟨ad, hA, hc⟩ := (HT.out _ _ hdo.out).resolve_left (fun e => by have h2 := congrArg List.length e; rw [List.length_map, List.length_map, List.length_nil] at h2; have := HNN.out; omega)
      subst hA
      have a9 := hc k (.string q.s) (by rw [← hnm.out, List.getElem?_map, List.getElem?_map, hq]; rfl)
      have k0 := hs.out.at_.cell.1
      have HLK := look_run hs.out.inn.map q.s (by unfold maxLen; omega)
      rw [findP_of hs.out.inn.srt hmem] at HLK
      unfold ptrOf Pf.at_ at HLK
      have hfi := hs.out.inn.file q hmem
      have hqr := hfi.row
      have hqb := hfi.byt
      obtain ⟨a0, a1⟩ := hfi.at_.cell
      unfold Sl.val at a0
      have HFI := Lib.hid hfi
      have HQ0 := Lib.hid (And.intro hq (And.intro hdrop hmem))
      obtain ⟨qs, qh, ⟨qa, qc, ql⟩, qy⟩ := q
      simp only at a0 a1 HLK hsy1 hqr hqb hlg1 a9
      obtain ⟨z, hz⟩ : ∃ z, ql.length = z := ⟨_, rfl⟩
      obtain ⟨y, rfl⟩ := Int.eq_ofNat_of_zero_le hsy1.1
      rw [hz] at a0 hsy1 hlg1
      have hyz : y ≤ z := by have := hsy1.2; omega
      obtain ⟨u, hu⟩ : ∃ u : Nat, z = y + u := ⟨z - y, by omega⟩
      have hu1 : (z : Int) - (y : Int) = (u : Int) := by omega
      have hqc := (own_cap hqr).1
      rw [hz] at hqc
      have HQ := Lib.hid (And.intro hqr (And.intro hqb (And.intro hz hu)))
      have hu47 : u ≤ 140737488355328 := by omega
      have hz47 : z ≤ 140737488355328 := by omega
      clear hq hdrop hmem hpm hss1 hc hfi hqr hqb hz hsy1 hu hlg1
      go_upto_region 8 with fail
      clear HLK k0 a9
      go_quiet (fail)
      obtain ⟨wq, hwq⟩ : ∃ wq, wr.drewN nq = wq := ⟨_, rfl⟩
      have BQ : Hid (Below wr.heap.size wr wq) := Lib.hid (hwq ▸ below_drewN (Below.refl _ _) nq)
      have HZS : Hid (wq.heap.size = wr.heap.size) := Lib.hid (by rw [← hwq]; rfl)
      rw [hwq]
      clear hwq
      have HPQ := Lib.hid (hs.out.kept BQ.out)
      by_cases hu0 : u = 0
      · have HV : Hid (rev1 p.keep m (Pf.rd ⟨qs, qh, ⟨qa, qc, ql⟩, (y : Int)⟩) = (Pf.rd ⟨qs, qh, ⟨qa, qc, ql⟩, (y : Int)⟩, m)) := Lib.hid (by
          have h5 := HQ.out.2.2
          unfold rev1 Pf.rd
          simp only
          rw [if_neg (by have := h5.1; have := h5.2; omega), h5.1, show z = y by have := h5.2; omega])
        have d0 : decide (0 < (u : Int)) = false := by simp; omega
        go_wp2_with fail
        go_roundw
        case rel =>
          obtain ⟨r1, r2⟩ := revP_step HQ0.out.1 HQ0.out.2.1 HV.out hrev.out
          rw [set_same HQ0.out.1] at r1
          exact ⟨k + 1, m, p', by omega, by omega, by go_num, rfl, HPQ, hl2, hkp, hnm, Lib.hid r1, Lib.hid (fun x hx => hin.out x (by rw [HQ0.out.2.1]; exact List.mem_cons_of_mem _ hx)), Lib.hid (hdo.out.trans (Does.of_below BQ.out (fun _ hk => .inl hk)))⟩
        case measure => simp [intOf]; omega
      · have hu2 : (0 : Int) < (u : Int) := by omega
        have HSV := Lib.hid (survive_any B g p' m (u : Int) wq HPQ.out hu2 (by omega) (by omega))
        obtain ⟨kv, hkv⟩ := Int.eq_ofNat_of_zero_le (kept_in p'.keep m (u : Int) hu2).1
        have hkv2 : kv ≤ u := by have := (kept_in p'.keep m (u : Int) hu2).2; omega
        rw [hkv] at HSV
        obtain ⟨v, hv⟩ : ∃ v : Nat, u = kv + v := ⟨u - kv, by omega⟩
        have hv1 : (u : Int) - (kv : Int) = (v : Int) := by omega
        have HV : Hid (rev1 p.keep m (Pf.rd ⟨qs, qh, ⟨qa, qc, ql⟩, (y : Int)⟩) = (Pf.rd ⟨qs, qh, ⟨qa, qc, ql.take (y + kv)⟩, ((y + kv : Nat) : Int)⟩, m + 1)) := Lib.hid (by
          have h5 := HQ.out.2.2
          unfold rev1 Pf.rd
          simp only
          rw [h5.1, hu1, if_pos hu2, ← hkp.out, hkv, show ((y : Int) + (kv : Int)) = ((y + kv : Nat) : Int) by omega, Int.toNat_natCast])
        have HKV := Lib.hid hkv
        have d0 : decide (0 < (u : Int)) = true := by simp; omega
        have c1q := HPQ.out.at_.cell.2.1
        have f1q := HPQ.out.at_.frozen 1
        have HVV := Lib.hid hv
        clear hkv hu0 hv
        go_upto_region 13 with (go_at_call 50; refine HSV.out.mono ?_; rintro e w9 ⟨rfl, hw⟩; subst hw)
        obtain ⟨ss, hss⟩ : ∃ ss, wrap64 (p'.size - v) = ss := ⟨_, rfl⟩
        have HSS := Lib.hid hss
        rw [hss]
        obtain ⟨ws, hws⟩ : ∃ ws, wq.setCell ⟨g, 1, none⟩ (.int .i64 ss) = ws := ⟨_, rfl⟩
        have hneg : g ≠ qh := fun e => (HPQ.out.not_two (HPQ.out.inn.file _ HQ0.out.2.2) qh (.inl rfl)).1 e.symm
        have KS : Hid (PkAt ws g { p' with size := ss }) := Lib.hid (hws ▸ HPQ.out.at_.set 1 _ rfl)
        have DS : Hid (Does (VTwo g qh) (VTwo g qh) wq ws) := Lib.hid (hws ▸ does_set (.inl rfl))
        have FSs : Hid (FileAt ws qh ⟨qa, qc, ql⟩ y) := Lib.hid (by
          have := (HPQ.out.inn.file _ HQ0.out.2.2).at_
          unfold FileAt at this ⊢
          rw [← hws, Below.heap_setCell wq ⟨g, 1, none⟩ _ qh (fun e => hneg e.symm)]
          exact this)
        have RS : Hid (Row ws B qa qc ql) := Lib.hid (own_block (HPQ.out.inn.file _ HQ0.out.2.2).row (fun ad ha => by
          rw [← hws]
          exact Below.heap_setCell wq ⟨g, 1, none⟩ _ _ (fun e => (HPQ.out.not_two (HPQ.out.inn.file _ HQ0.out.2.2) ad.block (.inr ⟨ad, ha, rfl⟩)).1 e)))
        have ZS : Hid (ws.heap.size = wq.heap.size) := Lib.hid (by rw [← hws]; simp)
        rw [hws]
        clear hws hss a0 a1 c1q f1q HSV
        obtain ⟨t, ht⟩ : ∃ t : Nat, y + kv = t := ⟨_, rfl⟩
        have hzt : (z : Int) - (v : Int) = (t : Int) := by have := HQ.out.2.2.2; have := HVV.out; omega
        have htz : t ≤ z := by omega
        rw [ht] at HV
        have HTK : Hid ((ql.take t).length = t) := Lib.hid (by have := HQ.out.2.2.1; simp; omega)
        obtain ⟨sl, -⟩ := slice_high RS.out.lies z t qc HQ.out.2.2.1 htz hqc
        have HCL := Lib.hid (fun (W : World) (hb : Below ws.heap.size ws W) => clone_n qa (ql.take t) t qc W HTK.out (slice_high (RS.out.kept hb (Nat.le_refl _)).lies z t qc HQ.out.2.2.1 htz hqc).2 (by omega))
        obtain ⟨a0, -⟩ := FSs.out.cell
        unfold Sl.val at a0
        simp only at a0
        rw [HQ.out.2.2.1] at a0
        have htq : (t : Int) ≤ (qc : Int) := by omega
        have hwT : IntKind.i64.wrap (t : Int) = (t : Int) := by simp only [IntKind.wrap_i64]; omega
        have HTQ := Lib.hid ht
        clear ht
        go_cut [5] from 53 to 68 (fun t5 wx => t5 = .int .i64 ((m : Int) + 1) ∧ ∃ A7 c7, Hid (FileAt wx qh ⟨A7, c7, ql.take t⟩ y) ∧ Hid (PkAt wx g { p' with size := ss }) ∧ Hid (Row wx wq.heap.size A7 c7 (ql.take t)) ∧ Hid (Does (VTwo g qh) (VTwo g qh) wq wx))
        case first =>
          go_region_law (first
            | (go_simp; go_at_call 42; refine (HCL.out _ (by repeat (first | exact Below.refl _ _ | refine Below.drew ?_))).mono ?_; rintro e w7 ⟨A7, c7, rfl, r7, b7⟩; have R7 := Lib.hid r7; have B7 : Hid (Below ws.heap.size ws w7) := Lib.hid ((by repeat (first | exact Below.refl _ _ | refine Below.drew ?_) : Below ws.heap.size ws _).trans b7); have v0 : w7.cell? ⟨qh, 0, none⟩ = some (.slice qa z qc) := (B7.out.cell FSs.out.lt).trans a0; have v1 : w7.frozen? ⟨qh, 0, none⟩ = false := (World.frozen?_of_block (B7.out.block qh FSs.out.lt)).trans (FSs.out.frozen 0); clear r7 b7))
          all_goals
            go_wp2_with fail
            go_meet
            obtain ⟨x1, x2, x3, x4⟩ := file_set FSs.out KS.out B7.out R7.out HTK.out
            exact ⟨rfl, A7, c7, Lib.hid x1, Lib.hid x2, Lib.hid (own_mono x3 (by have := ZS.out; show _ ≤ ws.heap.size; omega)), Lib.hid (DS.out.trans x4)⟩
        case rest =>
          obtain ⟨rfl, A7, c7, x1, x2, x3, x4⟩ := hcut
          obtain ⟨y0, y1⟩ := x1.out.cell
          unfold Sl.val at y0
          simp only at y0
          rw [HTK.out] at y0
          have y2 := x1.out.frozen 1
          clear a0
          go_wp2_with fail
          go_roundw
          case rel =>
            have hx2 : FileAt (wc.setCell ⟨qh, 1, none⟩ (.int .i64 t)) qh ⟨A7, c7, ql.take t⟩ t := FileAt.set1 x1.out
            have hx3 : PkAt (wc.setCell ⟨qh, 1, none⟩ (.int .i64 t)) g { p' with size := ss } := pk_block x2.out (Below.heap_setCell wc ⟨qh, 1, none⟩ _ g hneg)
            have hx4 : Row (wc.setCell ⟨qh, 1, none⟩ (.int .i64 t)) wq.heap.size A7 c7 (ql.take t) := own_block x3.out (fun ad ha => Below.heap_setCell wc ⟨qh, 1, none⟩ _ _ (fun e => by
              obtain ⟨cur, hc⟩ := own_type x3.out ha
              have := x1.out
              unfold FileAt at this
              rw [e, this] at hc
              injection hc with hc
              injection hc with _ hc
              exact absurd hc (by decide)))
            obtain ⟨r1, r2⟩ := HPQ.out.revived (s := ss) HQ0.out.1 hx2 hx3 hx4 (HQ.out.2.1.take _) (by
              rw [← HSS.out]
              congr 2
              have := HQ.out.2.2.1
              have := HTK.out
              simp only
              omega) (x4.out.trans (does_set (.inr rfl)))
            obtain ⟨q1, q2⟩ := revP_step (q' := ⟨qs, qh, ⟨A7, c7, ql.take t⟩, (t : Int)⟩) HQ0.out.1 HQ0.out.2.1 HV.out hrev.out
            exact ⟨k + 1, m + 1, _, by omega, by omega, by go_num, by go_num, Lib.hid r1, Lib.hid (by rw [List.length_set]; exact hl2.out), hkp, Lib.hid (by rw [set_names (q' := ⟨qs, qh, ⟨A7, c7, ql.take t⟩, (t : Int)⟩) HQ0.out.1 rfl]; exact hnm.out), Lib.hid q1, Lib.hid (fun x hx => hin.out x (by rw [HQ0.out.2.1]; rw [q2] at hx; exact List.mem_cons_of_mem _ hx)), Lib.hid ((hdo.out.trans (Does.of_below BQ.out (fun _ hk => .inl hk))).trans r2)⟩
          case measure => simp [intOf]; omega
    · obtain rfl : k = n := by omega
      have hrv := hrev.out
      rw [List.take_of_length_le (by have := hl2.out; omega), List.drop_of_length_le (by have := hl2.out; omega)] at hrv
      have HRV : Hid (p'.l.map Pf.rd = R) := Lib.hid (by simpa [revL] using hrv)
      have HD : Hid (Does (p.own g) (p'.own g) w wr) := Lib.hid ((Does.of_below B2.out (fun _ hk => .inl hk)).trans hdo.out)
      have hze : wr.heap[w.heap.size]? = w1.heap[w.heap.size]? := by
        have h1 := hdo.out.block w.heap.size (by have := R1.out.2.size; have := HS1.out; omega) (fun hk => by have := HOW.out _ hk; omega)
        rw [h1, R1.out.2.block _ (by have := HS1.out; omega)]
      obtain ⟨z0, z1, z2⟩ := HZ.out
      rw [← World.cell?_of_block (w := w1) (w' := wr) (a := ⟨w.heap.size, 0, none⟩) hze] at z0
      rw [← World.cell?_of_block (w := w1) (w' := wr) (a := ⟨w.heap.size, 1, none⟩) hze] at z1
      rw [← World.cell?_of_block (w := w1) (w' := wr) (a := ⟨w.heap.size, 2, none⟩) hze] at z2
      have HBG := Lib.hid (HB.out wr p' hs.out (Lies.does HK.out.1 HD.out HK.out.2))
      clear hrv hze
      go_wp2_with (go_at_call 32; refine HBG.out.mono ?_; rintro e w9 ⟨rfl, A9, c9, h9, d9⟩; have E9 := Lib.hid (And.intro h9 d9); clear h9 d9)
      go_ret
      refine ⟨rfl, _, E9.out.1, ?_, HD.out.trans E9.out.2⟩
      show (⟨p'.l.map Pf.rd, room, ops, keep, false⟩ : Vm) = ⟨revL p.keep 0 (p.l.map Pf.rd), room, ops, keep, false⟩
      rw [HRV.out, HR.out]
end Go.Proofs.YtnoccpafjaoopaaGreat
namespace Go.Proofs.YtnoccpafjaoopaaGreat
open Go.RowKit
open Go.Maps
/-- No more is synced of a file than it has. -/
def Sane (fs : List (ByteArray × List Int × Int)) : Prop := ∀ x ∈ fs, 0 ≤ x.2.2 ∧ x.2.2 ≤ x.2.1.length
theorem revive_vm (B g : Nat) (p : Pk) (m m' : Vm) (ops room : Int) (A : Option Addr) (keep : List Int) (kn kc : Nat) (w : World) (h : PSt w B g p) (hv : p.vm = m) (hsy : Sane m.fs) (hf : Fits m 0)
    (hn : keep.length = kn) (hk : Ints w A keep) (hko : ∀ ad, A = some ad → ¬ p.own g ad.block) (hkl : kn * 8 ≤ 140737488355328)
    (hi : ∀ x ∈ keep, -9223372036854775808 ≤ x ∧ x ≤ 9223372036854775807) (ho : -9223372036854775808 ≤ ops ∧ ops ≤ 9223372036854775807) (hm : -9223372036854775808 ≤ room ∧ room ≤ 9223372036854775807) (hr : m.revive ops room keep = m') :
    Calls Tryz.prog 28 #[.pointer (some ⟨g, 0, none⟩), .agg #[.int .i64 ops, .int .i64 room, .slice A kn kc]] w fun e w' => e = .returned (.int .i64 0) ∧ Rest w B g p m' w' := by
  subst hv
  subst hr
  exact revive_any B g p ops room A keep kn kc w h (fun q hq => hsy _ (List.mem_map_of_mem hq)) (hf.pf rfl).1 (fun q hq => by have := (hf.pf rfl).2.1 q hq; omega) (hf.pf rfl).2.2 hn hk hko hkl hi ho hm
end Go.Proofs.YtnoccpafjaoopaaGreat
namespace Go.Proofs.YtnoccpafjaoopaaGreat
open Go.RowKit
open Go.Maps
def sA : ByteArray := ⟨#[97]⟩
theorem okA : okName sA = true := by decide +kernel
theorem neAT : sA ≠ sT := by decide +kernel
theorem ltAT : ltS sA sT = true ∧ ltS sT sA = false := by decide +kernel
/-- A disk that holds the file a, and maybe t. -/
def diskA (ops room : Int) (keep : List Int) (down : Bool) : Vm := ⟨[(sA, [98], 1)], room, ops, keep, down⟩
def diskT (ops room : Int) (keep : List Int) (down : Bool) (F : List Int) (y : Int) : Vm := ⟨[(sA, [98], 1), (sT, F, y)], room, ops, keep, down⟩
theorem find_a (F : List Int) (y : Int) : findM sA [(sA, [98], 1), (sT, F, y)] = some 0 := by simp [findM, List.findIdx?_cons]
theorem find_t (F : List Int) (y : Int) : findM sT [(sA, [98], 1), (sT, F, y)] = some 1 := by
  have := neAT
  simp [findM, List.findIdx?_cons, this]
theorem find_aA : findM sA [(sA, ([98] : List Int), (1 : Int))] = some 0 := by simp [findM, List.findIdx?_cons]
theorem find_tA : findM sT [(sA, ([98] : List Int), (1 : Int))] = none := by
  have := neAT
  simp [findM, this]
theorem readA_a (ops room : Int) (keep : List Int) : (diskA ops room keep false).read sA = ([98], 0) := by
  have h0 : (diskA ops room keep false).hinder [sA] sA = 0 := by simp [Vm.hinder, diskA, readyE, okA, find_aA]
  unfold Vm.read
  rw [h0]
  simp [diskA, dataM, find_aA]
theorem readA_t (ops room : Int) (keep : List Int) : (diskA ops room keep false).read sT = ([], 22) := by
  have h0 : (diskA ops room keep false).hinder [sT] sT = 22 := by simp [Vm.hinder, diskA, readyE, okT, find_tA]
  unfold Vm.read
  rw [h0]
  simp
theorem readT_a (ops room : Int) (keep : List Int) (F : List Int) (y : Int) : (diskT ops room keep false F y).read sA = ([98], 0) := by
  have h0 : (diskT ops room keep false F y).hinder [sA] sA = 0 := by simp [Vm.hinder, diskT, readyE, okA, find_a]
  unfold Vm.read
  rw [h0]
  simp [diskT, dataM, find_a]
theorem readT_t (ops room : Int) (keep : List Int) (F : List Int) (y : Int) : (diskT ops room keep false F y).read sT = (F, 0) := by
  have h0 : (diskT ops room keep false F y).hinder [sT] sT = 0 := by simp [Vm.hinder, diskT, readyE, okT, find_t]
  unfold Vm.read
  rw [h0]
  simp [diskT, dataM, find_t]
theorem reviveA (ops room : Int) (keep : List Int) (down : Bool) : (diskA ops room keep down).revive (-1) (-1) [] = diskA (-1) (-1) [] false := by
  simp [Vm.revive, diskA, revL, rev1]
theorem reviveT (ops room : Int) (keep : List Int) (down : Bool) (F : List Int) : ∃ j, j ≤ F.length ∧ ∃ y : Int, (0 ≤ y ∧ y ≤ (F.take j).length) ∧ (diskT ops room keep down F 0).revive (-1) (-1) [] = diskT (-1) (-1) [] false (F.take j) y := by
  by_cases h : F.length = 0
  · have e : F = [] := List.eq_nil_of_length_eq_zero h
    subst e
    exact ⟨0, by simp, 0, by simp, by simp [Vm.revive, diskT, revL, rev1]⟩
  · have h0 : 0 < (F.length : Int) - 0 := by omega
    have hk := kept_in keep 0 ((F.length : Int) - 0) h0
    refine ⟨(0 + keptM keep 0 ((F.length : Int) - 0)).toNat, by omega, 0 + keptM keep 0 ((F.length : Int) - 0), ?_, ?_⟩
    · rw [List.length_take]
      omega
    · have e : rev1 keep 0 (sA, [98], 1) = ((sA, [98], 1), 0) := by simp [rev1]
      unfold Vm.revive diskT revL
      simp only [e]
      unfold revL
      unfold rev1
      rw [if_pos (by simpa using h0)]
      rfl
theorem reviveT_full (ops room : Int) (keep : List Int) (down : Bool) (F : List Int) : (diskT ops room keep down F F.length).revive (-1) (-1) [] = diskT (-1) (-1) [] false F F.length := by
  simp [Vm.revive, diskT, revL, rev1]
theorem freeA (ops room : Int) (keep : List Int) : freeV (diskA ops room keep false) sT = 0 := by
  unfold freeV
  rw [okT, readA_t]
  simp
theorem appendA (ops room : Int) (keep F : List Int) : (∃ down, (diskA ops room keep false).append sT F = (diskA ops room keep down, 21)) ∨ (diskA ops room keep false).append sT F = (diskA ops room keep true, 20) ∨ ∃ ops', (diskA ops room keep false).append sT F = (diskT ops' room keep false F 0, 0) := by
  have h1 : readyE (diskA ops room keep false).down [sT] = 0 := by simp [diskA, readyE, okT]
  have h2 : findM sT (diskA ops room keep false).fs = none := find_tA
  have h3 : appM sT F (insM (sT, [], 0) (diskA ops room keep false).fs) = [(sA, [98], 1), (sT, F, 0)] := by
    have e : insM (sT, [], 0) (diskA ops room keep false).fs = [(sA, [98], 1), (sT, [], 0)] := by simp [diskA, insM, ltAT.2]
    rw [e]
    unfold appM
    rw [find_t]
    simp
  unfold Vm.append
  rw [if_neg (by simp [h1]), if_pos h2, h3]
  split
  · exact .inl ⟨false, rfl⟩
  · unfold Vm.step
    split
    · right
      left
      simp [diskA]
    · right
      right
      split
      · exact ⟨ops - 1, by simp [diskA, diskT]⟩
      · exact ⟨ops, by simp [diskA, diskT]⟩
theorem syncA (ops room : Int) (keep F : List Int) : (diskT ops room keep false F 0).sync sT = (diskT ops room keep true F 0, 20) ∨ ∃ ops', (diskT ops room keep false F 0).sync sT = (diskT ops' room keep false F F.length, 0) := by
  have h0 : (diskT ops room keep false F 0).hinder [sT] sT = 0 := by simp [Vm.hinder, diskT, readyE, okT, find_t]
  have h3 : syncM sT (diskT ops room keep false F 0).fs = [(sA, [98], 1), (sT, F, (F.length : Int))] := by
    unfold syncM
    rw [show findM sT (diskT ops room keep false F 0).fs = some 1 from find_t _ _]
    simp [diskT]
  unfold Vm.sync Vm.does
  rw [h0, h3]
  simp only [ne_eq, not_true_eq_false, if_false]
  unfold Vm.step
  split
  · left
    simp [diskT]
  · right
    split
    · exact ⟨ops - 1, by simp [diskT]⟩
    · exact ⟨ops, by simp [diskT]⟩
/-- What there is behind the crash. -/
structure CrashLeft (m1 m2 : Vm) (F : List Int) (f : Int) (D : List Int × Int) : Prop where
  rev : m1.revive (-1) (-1) [] = m2
  ra : m2.read sA = ([98], 0)
  rt : m2.read sT = D
  sane : Sane m1.fs
  fits1 : Fits m1 0
  fits2 : Fits m2 0
  short : ∀ x ∈ m2.fs, x.2.1.length ≤ 1099511627776
  cases : (D = ([], 22) ∧ (f = 20 ∨ f = 21)) ∨ (∃ j, j < F.length ∧ D = (F.take j, 0) ∧ f = 20) ∨ (D = (F, 0) ∧ (f = 0 ∨ f = 20))
theorem fitsT (ops room : Int) (keep : List Int) (down : Bool) (F : List Int) (y : Int) (hF : F.length ≤ 268435456) : Fits (diskT ops room keep down F y) 0 := by
  refine ⟨by show 2 * 48 ≤ _; omega, fun x hx => ?_, fun x hx => ?_⟩
  · rcases List.mem_cons.1 hx with rfl | hx
    · decide
    · rw [List.mem_singleton.1 hx]
      show F.length + 0 ≤ _
      omega
  · rcases List.mem_cons.1 hx with rfl | hx
    · decide
    · rw [List.mem_singleton.1 hx]
      show sT.size ≤ _
      decide
theorem fitsA (ops room : Int) (keep : List Int) (down : Bool) (N : Nat) (hN : N ≤ 268435456) : Fits (diskA ops room keep down) N := by
  refine ⟨by show 1 * 48 ≤ _; omega, fun x hx => ?_, fun x hx => ?_⟩
  · rw [List.mem_singleton.1 hx]
    show 1 + N ≤ _
    omega
  · rw [List.mem_singleton.1 hx]
    decide
theorem leftA (ops room : Int) (keep : List Int) (down : Bool) (F : List Int) (f : Int) (hf : f = 20 ∨ f = 21) : CrashLeft (diskA ops room keep down) (diskA (-1) (-1) [] false) F f ([], 22) :=
  ⟨reviveA _ _ _ _, readA_a _ _ _, readA_t _ _ _, fun x hx => by rw [List.mem_singleton.1 hx]; decide, fitsA _ _ _ _ 0 (by omega), fitsA _ _ _ _ 0 (by omega), fun x hx => by rw [List.mem_singleton.1 hx]; decide, .inl ⟨rfl, hf⟩⟩
theorem saneT (ops room : Int) (keep : List Int) (down : Bool) (F : List Int) (y : Int) (h : 0 ≤ y ∧ y ≤ F.length) : Sane (diskT ops room keep down F y).fs := fun x hx => by
  rcases List.mem_cons.1 hx with rfl | hx
  · decide
  · rw [List.mem_singleton.1 hx]
    exact h
theorem shortT (ops room : Int) (keep : List Int) (down : Bool) (F : List Int) (y : Int) (hF : F.length ≤ 268435456) : ∀ x ∈ (diskT ops room keep down F y).fs, x.2.1.length ≤ 1099511627776 := fun x hx => by
  rcases List.mem_cons.1 hx with rfl | hx
  · decide
  · rw [List.mem_singleton.1 hx]
    show F.length ≤ _
    omega
theorem crash_left {L : List Er} {k : Nat} (ops room : Int) (keep : List Int) (h1 : 1 ≤ k) (h2 : k ≤ 1024) (hne : L ≠ []) (ho : OrdL L) (hF : (fileE L k).length ≤ 268435456) :
    ∃ (m1 m2 : Vm) (f : Int) (D : List Int × Int), writeV (diskA ops room keep false) sT L k = (m1, f) ∧ CrashLeft m1 m2 (fileE L k) f D := by
  have hw : writeV (diskA ops room keep false) sT L k = if ((diskA ops room keep false).append sT (fileE L k)).2 ≠ 0 then (diskA ops room keep false).append sT (fileE L k) else ((diskA ops room keep false).append sT (fileE L k)).1.sync sT := by
    unfold writeV
    rw [if_neg (by omega), if_neg (by simp [hne, ho]), freeA, Int.toNat_natCast]
    simp
  obtain ⟨F, hFF⟩ : ∃ F, fileE L k = F := ⟨_, rfl⟩
  rw [hFF] at hw hF ⊢
  rw [hw]
  rcases appendA ops room keep F with ⟨down, e⟩ | e | ⟨ops', e⟩
  · rw [e]
    exact ⟨_, _, 21, _, rfl, leftA _ _ _ _ _ _ (.inr rfl)⟩
  · rw [e]
    exact ⟨_, _, 20, _, rfl, leftA _ _ _ _ _ _ (.inl rfl)⟩
  · rw [e]
    simp only [ne_eq, not_true_eq_false, if_false]
    rcases syncA ops' room keep F with s | ⟨ops2, s⟩
    · rw [s]
      obtain ⟨j, hj, y, hy, er⟩ := reviveT ops' room keep true F
      have hl : (F.take j).length ≤ F.length := by rw [List.length_take]; omega
      refine ⟨_, _, 20, (F.take j, 0), rfl, er, readT_a _ _ _ _ _, readT_t _ _ _ _ _, saneT _ _ _ _ _ _ (by omega), fitsT _ _ _ _ _ _ hF, fitsT _ _ _ _ _ _ (by omega), shortT _ _ _ _ _ _ (by omega), ?_⟩
      by_cases h : j < F.length
      · exact .inr (.inl ⟨j, h, rfl, rfl⟩)
      · exact .inr (.inr ⟨by rw [List.take_of_length_le (by omega)], .inr rfl⟩)
    · rw [s]
      exact ⟨_, _, 0, (F, 0), rfl, reviveT_full _ _ _ _ _, readT_a _ _ _ _ _, readT_t _ _ _ _ _, saneT _ _ _ _ _ _ (by omega), fitsT _ _ _ _ _ _ hF, fitsT _ _ _ _ _ _ hF, shortT _ _ _ _ _ _ hF, .inr (.inr ⟨rfl, .inl rfl⟩)⟩
end Go.Proofs.YtnoccpafjaoopaaGreat
