/-
  The law VdiskSurvives, walked.
-/
import Derived.Test.YtjacjafpeajhaaaPgU
namespace Go.Proofs.Ytjacjafpeajhaaa
open Go.RowKit
open Go.Maps

/-- The blocks of files. -/
def FB (A : Option Addr) (l : List Fl) (k : Nat) : Prop := (∃ ad, A = some ad ∧ k = ad.block) ∨ ∃ q ∈ l, ∃ ad, q.d.a = some ad ∧ k = ad.block
/-- Files of the call's own, apart from an object. -/
structure Keep7 (w : World) (B : Nat) (A : Option Addr) (c : Nat) (l : List Fl) (S : Nat → Prop) : Prop where
  row : Frow w B A c l
  data : Mades w B l
  off : ∀ k, FB A l k → ¬ S k
theorem Keep7.lt {w : World} {B : Nat} {A : Option Addr} {c : Nat} {l : List Fl} {S : Nat → Prop} (h : Keep7 w B A c l S) : ∀ k, FB A l k → B ≤ k ∧ k < w.heap.size := fun k hk => by
  rcases hk with ⟨ad, ha, rfl⟩ | ⟨q, hq, ad, ha, rfl⟩
  · exact own_in h.row ad ha
  · exact own_in (h.data q hq) ad ha
theorem Keep7.does {w w' : World} {B : Nat} {A : Option Addr} {c : Nat} {l : List Fl} {S S' : Nat → Prop} (h : Keep7 w B A c l S) (hd : Does S S' w w') : Keep7 w' B A c l S' := by
  have hb : ∀ k, FB A l k → w'.heap[k]? = w.heap[k]? := fun k hk => hd.block k (h.lt k hk).2 (h.off k hk)
  refine ⟨own_block h.row (fun ad ha => hb _ (.inl ⟨ad, ha, rfl⟩)), fun q hq => own_block (h.data q hq) (fun ad ha => hb _ (.inr ⟨q, hq, ad, ha, rfl⟩)), fun k hk hs => ?_⟩
  exact (hd.grows k hs).elim (h.off k hk) (fun e => by have := (h.lt k hk).2; omega)
theorem Keep7.below {w w' : World} {B : Nat} {A : Option Addr} {c : Nat} {l : List Fl} {S : Nat → Prop} (h : Keep7 w B A c l S) (hb : Below w.heap.size w w') : Keep7 w' B A c l S := h.does (Does.of_below hb (fun _ hk => .inl hk))
theorem rd_mem {l l' : List Fl} (h : l'.map Fl.rd = l.map Fl.rd) {q : Fl} (hq : q ∈ l') : ∃ x ∈ l, x.rd = q.rd := by
  have : q.rd ∈ l.map Fl.rd := h ▸ List.mem_map_of_mem hq
  obtain ⟨x, hx, e⟩ := List.mem_map.1 this
  exact ⟨x, hx, e⟩
theorem Ins.byt {w : World} {l : List Fl} (h : Ins w l) : ∀ q ∈ l, Byt q.d.l := fun q hq => (h q hq).byt
theorem byt_rd {l l' : List Fl} (h : l'.map Fl.rd = l.map Fl.rd) (hb : ∀ q ∈ l, Byt q.d.l) : ∀ q ∈ l', Byt q.d.l := fun q hq => by
  obtain ⟨x, hx, e⟩ := rd_mem h hq
  have e2 : x.d.l = q.d.l := congrArg (fun r => r.2.1) e
  rw [← e2]
  exact hb x hx
theorem any_rd {l l' : List Fl} (h : l'.map Fl.rd = l.map Fl.rd) (f : Rd → Bool) : l'.any (fun q => f q.rd) = l.any (fun q => f q.rd) := by
  have e : ∀ m : List Fl, m.any (fun q => f q.rd) = (m.map Fl.rd).any f := fun m => by rw [List.any_map]; rfl
  rw [e, e, h]
theorem ofE_rd {l l' : List Fl} (h : l'.map Fl.rd = l.map Fl.rd) : ofE l' = ofE l := by
  have h1 : l'.any (fun q => !okName q.s) = l.any (fun q => !okName q.s) := any_rd h (fun r => !okName r.1)
  have h2 : l'.any (fun q => decide (q.y < 0 ∨ (q.d.l.length : Int) < q.y)) = l.any (fun q => decide (q.y < 0 ∨ (q.d.l.length : Int) < q.y)) := any_rd h (fun r => decide (r.2.2 < 0 ∨ (r.2.1.length : Int) < r.2.2))
  have hlen : l'.length = l.length := by
    have := congrArg List.length h
    simpa using this
  have h3 : dupB l' = dupB l := by
    unfold dupB
    rw [hlen]
    congr 1
    funext k
    have hk : (l'.map Fl.rd)[k]? = (l.map Fl.rd)[k]? := by rw [h]
    rw [List.getElem?_map, List.getElem?_map] at hk
    have ht : ((l'.take k).map Fl.rd) = ((l.take k).map Fl.rd) := by rw [List.map_take, List.map_take, h]
    cases h5 : l'[k]? with
    | none =>
      cases h6 : l[k]? with
      | none => rfl
      | some y => rw [h5, h6] at hk; cases hk
    | some x =>
      cases h6 : l[k]? with
      | none => rw [h5, h6] at hk; cases hk
      | some y =>
        rw [h5, h6] at hk
        have e : x.s = y.s := by
          have := Option.some.inj hk
          exact congrArg (fun r => r.1) this
        simp only [e]
        rw [findI_md, findI_md, insAll_rd _ _ ht]
  unfold ofE
  rw [h1, h2, h3]
/-- Copies of files, in new memory, of a known length. -/
def CopiedN (w : World) (l : List Fl) (n : Nat) (e : Ending) (w' : World) : Prop := ∃ l' A c, e = .returned (.slice A n c) ∧ l'.map Fl.rd = l.map Fl.rd ∧ Mades w' w.heap.size l' ∧ Frow w' w.heap.size A c l' ∧ Below w.heap.size w w'
theorem copy_n {A : Option Addr} {l : List Fl} {n c : Nat} {w : World} (h : FsIn w A l n c) : Calls Try.prog 11 #[.slice A n c] w (CopiedN w l n) := by
  refine (refCopy_wide A l n c w h.len h.lies h.ins (by have := h.few; omega) (fun q hq => by have := h.long q hq; omega)).mono ?_
  rintro e w' ⟨l', h1, h2, A', c', rfl, h3, h4⟩
  have hl : l'.length = n := by
    have := congrArg List.length h1
    rw [List.length_map, List.length_map, h.len] at this
    exact this
  rw [hl]
  exact ⟨l', A', c', rfl, h1, h2, h3, h4⟩
theorem FsIn.kept {w w' : World} {A : Option Addr} {l : List Fl} {n c : Nat} (h : FsIn w A l n c) (hb : Below w.heap.size w w') : FsIn w' A l n c := ⟨h.len, h.lies.kept hb, h.ins.kept hb, h.few, h.long, h.names⟩
theorem copied_in {w w' : World} {A A' : Option Addr} {l l' : List Fl} {n c c' B : Nat} (h : FsIn w A l n c) (h1 : l'.map Fl.rd = l.map Fl.rd) (h2 : Mades w' B l') (h3 : Frow w' B A' c' l') : FsIn w' A' l' n c' := by
  refine ⟨by have := congrArg List.length h1; rw [List.length_map, List.length_map, h.len] at this; exact this, h3.lies, h2.ins (byt_rd h1 h.ins.byt), h.few, fun q hq => ?_, fun q hq => ?_⟩
  · obtain ⟨x, hx, e⟩ := rd_mem h1 hq
    have e2 : x.d.l = q.d.l := congrArg (fun r => r.2.1) e
    rw [← e2]
    exact h.long x hx
  · obtain ⟨x, hx, e⟩ := rd_mem h1 hq
    have e2 : x.s = q.s := congrArg (fun r => r.1) e
    rw [← e2]
    exact h.names x hx
/-- What a disk of files is, read. -/
def m0 (l : List Fl) (ops room : Int) (keep : List Int) : Vm := ⟨(insAll l).map Fl.rd, room, ops, keep, false⟩
theorem m0_fits {w : World} {A : Option Addr} {l : List Fl} {n c : Nat} (h : FsIn w A l n c) (ops room : Int) (keep : List Int) : Fits (m0 l ops room keep) 0 := by
  refine ⟨?_, fun x hx => ?_, fun x hx => ?_⟩
  · show ((insAll l).map Fl.rd).length * 48 ≤ _
    rw [List.length_map, insAll_len, h.len]
    have := h.few
    omega
  · obtain ⟨q, hq, rfl⟩ := List.mem_map.1 hx
    have := h.long q (insAll_mem l q hq)
    show q.d.l.length + 0 ≤ _
    omega
  · obtain ⟨q, hq, rfl⟩ := List.mem_map.1 hx
    have := h.names q (insAll_mem l q hq)
    show q.s.size ≤ _
    omega
/-- A disk of copies. -/
theorem of_n {w : World} {A : Option Addr} {l l' : List Fl} {n c : Nat} {ops room : Int} {K : Option Addr} {keep : List Int} {kn kc : Nat} (h : FsIn w A l' n c) (hrd : l'.map Fl.rd = l.map Fl.rd) (hk : PlIn w ops room K keep kn kc) :
    Calls Try.prog 10 #[.slice A n c, .agg #[.int .i64 ops, .int .i64 room, .slice K kn kc]] w fun e w' => Below w.heap.size w w' ∧ ((ofE l ≠ 0 ∧ e = .returned (.tuple #[.pointer none, .int .i64 (ofE l)])) ∨ (ofE l = 0 ∧ ∃ g p, e = .returned (.tuple #[.pointer (some ⟨g, 0, none⟩), .int .i64 0]) ∧ PSt w' w.heap.size g p ∧ p.vm = m0 l ops room keep)) := by
  refine (of_any A l' n c ops room K keep kn kc w h.len h.lies h.ins (by have := h.few; omega) (fun q hq => by have := h.long q hq; omega) (fun q hq => by have := h.names q hq; omega) hk.len hk.ints (by have := hk.few; omega) hk.ki hk.ops hk.room).mono ?_
  rw [ofE_rd hrd]
  rintro e w' ⟨hb, h1⟩
  refine ⟨hb, h1.imp id (fun ⟨h2, g, p, h3, h4, h5⟩ => ⟨h2, g, p, h3, h4, ?_⟩)⟩
  rw [h5, insAll_rd _ _ hrd]
  rfl
/-- The files as they are, of a known number. -/
theorem dump_n {w : World} {B g : Nat} {p : Pk} {m : Vm} {n : Nat} (h : PSt w B g p) (hv : p.vm = m) (hf : Fits m 0) (hn : m.fs.length = n) : Calls Try.prog 16 #[.pointer (some ⟨g, 0, none⟩)] w fun e w' => ∃ l' A c, e = .returned (.slice A n c) ∧ l'.map Fl.rd = m.fs ∧ Keep7 w' w.heap.size A c l' (p.own g) ∧ Below w.heap.size w w' := by
  refine (dump_vm B g p m w h hv hf).mono ?_
  rintro e w' ⟨l', h1, h2, A, c, rfl, h3, h4⟩
  have hl : l'.length = n := by
    rw [← hn, ← h1, List.length_map]
  rw [hl]
  refine ⟨l', A, c, rfl, h1, ⟨h3, h2, fun k hk hs => ?_⟩, h4⟩
  have h5 := (h.owned k hs).2
  rcases hk with ⟨ad, ha, rfl⟩ | ⟨q, hq, ad, ha, rfl⟩
  · have := (own_in h3 ad ha).1
    omega
  · have := (own_in (h2 q hq) ad ha).1
    omega

end Go.Proofs.Ytjacjafpeajhaaa
