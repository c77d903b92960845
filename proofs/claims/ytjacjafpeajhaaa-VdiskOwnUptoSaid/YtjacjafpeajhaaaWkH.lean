/-
  Walks: the document's disk: a file's bytes synced.
-/
import Derived.Test.YtjacjafpeajhaaaWkG
namespace Go.Proofs.Ytjacjafpeajhaaa
open Go.RowKit

theorem fvals_set2 : ∀ (l : List Fl) (i : Nat) (q : Fl) (y : Int), l[i]? = some q → (fvals l).set (i * 3 + 2) (.int .i64 y) = fvals (l.set i { q with y := y })
  | [], _, _, _, h => by simp at h
  | p :: l, 0, q, y, h => by
    simp at h
    subst h
    rfl
  | p :: l, i + 1, q, y, h => by
    have ih := fvals_set2 l i q y (by simpa using h)
    have e : fvals (p :: l) = .string p.s :: p.d.val :: .int .i64 p.y :: fvals l := rfl
    rw [e, show (i + 1) * 3 + 2 = (i * 3 + 2) + 1 + 1 + 1 by omega]
    simp only [List.set_cons_succ]
    rw [ih]
    rfl
theorem fvals_set1 : ∀ (l : List Fl) (i : Nat) (q : Fl) (s : Sl), l[i]? = some q → (fvals l).set (i * 3 + 1) s.val = fvals (l.set i { q with d := s })
  | [], _, _, _, h => by simp at h
  | p :: l, 0, q, y, h => by
    simp at h
    subst h
    rfl
  | p :: l, i + 1, q, y, h => by
    have ih := fvals_set1 l i q y (by simpa using h)
    have e : fvals (p :: l) = .string p.s :: p.d.val :: .int .i64 p.y :: fvals l := rfl
    rw [e, show (i + 1) * 3 + 1 = (i * 3 + 1) + 1 + 1 + 1 by omega]
    simp only [List.set_cons_succ]
    rw [ih]
    rfl
theorem set_rd (l : List Fl) (i : Nat) (q : Fl) : (l.set i q).map Fl.rd = (l.map Fl.rd).set i q.rd := by rw [List.map_set]

/-- One file of a row of files of the call's own. -/
theorem frow_at {w : World} {B : Nat} {A : Option Addr} {c i : Nat} {l : List Fl} {q : Fl} (h : Frow w B A c l) (hq : l[i]? = some q) : ∃ ad, A = some ad ∧ AtF w (ad.add (i * 3)) q ∧ (∀ j, w.frozen? ⟨(ad.add (i * 3)).block, (ad.add (i * 3)).off + j, none⟩ = false) ∧ (ad.add (i * 3)).block = ad.block ∧
    (∀ y, Frow (w.setCell ⟨(ad.add (i * 3)).block, (ad.add (i * 3)).off + 2, none⟩ (.int .i64 y)) B A c (l.set i { q with y := y })) ∧ ∀ s : Sl, Frow (w.setCell ⟨(ad.add (i * 3)).block, (ad.add (i * 3)).off + 1, none⟩ s.val) B A c (l.set i { q with d := s }) := by
  obtain ⟨ad, hA, h0⟩ := lies_file h.lies hq
  have hg : ∃ g, ad = ⟨g, 0, none⟩ := by
    rcases h.2 with ⟨hn, _⟩ | ⟨g, cap, cur, e, h1, _⟩
    · injection hn with hn
      rw [hn] at hA
      cases hA
    · injection e with e1
      rw [e1] at hA
      injection hA with hA
      exact ⟨g, hA.symm⟩
  obtain ⟨g, rfl⟩ := hg
  subst hA
  refine ⟨_, rfl, h0, fun j => ?_, add_block _ _, fun y => ?_, fun s => ?_⟩
  · rw [add_head]
    unfold Frow at h
    exact h.frozenAt _
  · rw [add_head]
    unfold Frow at h ⊢
    rw [List.length_set, ← fvals_set2 l i q y hq]
    exact (h.stored (i * 3 + 2) (.int .i64 y)).1
  · rw [add_head]
    unfold Frow at h ⊢
    rw [List.length_set, ← fvals_set1 l i q s hq]
    exact (h.stored (i * 3 + 1) s.val).1
theorem Row.not_f {w : World} {B D : Nat} {A C : Option Addr} {c d : Nat} {L : List Int} {T : List Fl} (h : Row w B A c L) (hs : Frow w D C d T) : ∀ ad bd, A = some ad → C = some bd → ad.block ≠ bd.block := fun ad bd ha hb e => by
  rcases h.2 with ⟨hn, _⟩ | ⟨g, cap, cur, e1, h1, h2, h3⟩
  · injection hn with hn
    rw [hn] at ha
    cases ha
  · rcases hs.2 with ⟨hn, _⟩ | ⟨g', cap', cur', e', _, h2', _⟩
    · injection hn with hn
      rw [hn] at hb
      cases hb
    · injection e1 with e1
      injection e' with e'
      rw [e1] at ha
      rw [e'] at hb
      injection ha with ha
      injection hb with hb
      subst ha
      subst hb
      rw [show g = g' from e, h2'] at h2
      injection h2 with h2
      injection h2 with _ h2
      exact absurd h2 (by decide)
/-- One file laid anew in its place. -/
theorem RefSt.reput {w w1 : World} {B g : Nat} {d : Dk} {ad : Addr} {i j : Nat} {q q' : Fl} {v : Value} (h : RefSt w B g d) (hb : Below w.heap.size w w1) (hA : d.A = some ad) (_hq : d.l[i]? = some q) (he : (ad.add (i * 3)).block = ad.block)
    (hset : Frow (w1.setCell ⟨(ad.add (i * 3)).block, (ad.add (i * 3)).off + j, none⟩ v) B d.A d.c (d.l.set i q')) (hr : Row w1 B q'.d.a q'.d.c q'.d.l) (hB : Byt q'.d.l) (hl : q'.d.l.length ≤ 1099511627776) (ho : ∀ ad, q'.d.a = some ad → d.own g ad.block ∨ w.heap.size ≤ ad.block) :
    RefSt (w1.setCell ⟨(ad.add (i * 3)).block, (ad.add (i * 3)).off + j, none⟩ v) B g { d with l := d.l.set i q' } ∧ Does (d.own g) (Dk.own { d with l := d.l.set i q' } g) w (w1.setCell ⟨(ad.add (i * 3)).block, (ad.add (i * 3)).off + j, none⟩ v) := by
  have h1 := h.kept hb
  have hx : BelowX w1.heap.size ad.block w1 (w1.setCell ⟨(ad.add (i * 3)).block, (ad.add (i * 3)).off + j, none⟩ v) := by
    rw [← he]
    exact belowx_set _ _ _ _ _
  have hm : ∀ x ∈ d.l.set i q', x ∈ d.l ∨ x = q' := fun x hx => List.mem_or_eq_of_mem_set hx
  refine ⟨⟨?_, h.low, hset, ?_, ?_, ?_, ?_, h.done⟩, ?_⟩
  · have := h1.at_
    unfold DkAt Dk.cells at this ⊢
    rw [hx.block g h1.at_.lt (fun e => h1.row.not_at h1.at_ ad hA e.symm), this]
    simp
  · intro x hx2
    have hrow : Row w1 B x.d.a x.d.c x.d.l := (hm x hx2).elim (fun h2 => h1.data x h2) (fun h2 => by rw [h2]; exact hr)
    exact own_keptx hrow hx (Nat.le_refl _) (fun bd hbd => hrow.not_f h1.row bd ad hbd hA)
  · exact fun x hx2 => (hm x hx2).elim (fun h2 => h.byt x h2) (fun h2 => by rw [h2]; exact hB)
  · rw [List.length_set]
    exact h.few
  · exact fun x hx2 => (hm x hx2).elim (fun h2 => h.long x h2) (fun h2 => by rw [h2]; exact hl)
  · refine ⟨hx.os.trans hb.os, hx.tape.trans hb.tape, hx.output.trans hb.output, Nat.le_trans hb.size hx.size, fun k hk hn => ?_, fun k hk => ?_⟩
    · rw [hx.block k (by have := hb.size; omega) (fun e => hn (.inr (.inl ⟨ad, hA, e⟩))), hb.block k hk]
    · rcases hk with rfl | ⟨ad, ha, rfl⟩ | ⟨x, hx2, bd, ha, rfl⟩
      · exact .inl (.inl rfl)
      · exact .inl (.inr (.inl ⟨ad, ha, rfl⟩))
      · rcases hm x hx2 with h2 | h2
        · exact .inl (.inr (.inr ⟨x, h2, bd, ha, rfl⟩))
        · rw [h2] at ha
          exact ho bd ha

end Go.Proofs.Ytjacjafpeajhaaa
