/-
  Walks: frames, read one behind the other, by the document; lists of bytes alike.
-/
import Derived.Test.YtefkibflellfpaaWkF
namespace Go.Proofs.Ytefkibflellfpaa
open Go.RowKit

/-- What All answers: the payloads, the place behind, the error. -/
def GotAll (w : World) (p : List (List Int) × Nat × Int) (e : Ending) (w' : World) : Prop :=
  ∃ A c T, e = .returned (.tuple #[.slice A T.length c, .int .i64 (p.2.1 : Nat), .int .i64 p.2.2]) ∧ Srow w' w.heap.size A c T ∧ byts T = p.1 ∧ (∀ s ∈ T, Row w' w.heap.size s.a s.c s.l) ∧ Below w.heap.size w w'
theorem readP_is {L : List Int} {a : Nat} (h : a ≤ L.length) (p : List Int) (m : Nat) (e : Int) (hr : readL (L.drop a) = (p, m, e)) : readP L a = if e = 0 then (p, (a : Int) + m, 0) else ([], 0, e) := by
  by_cases h0 : e = 0
  · subst h0
    rw [if_pos rfl]
    exact readP_ok h hr
  · rw [if_neg h0]
    have := readL_err (L.drop a)
    rw [hr] at this
    obtain ⟨rfl, rfl, -⟩ := this.resolve_left h0
    exact readP_bad h hr h0
theorem got_all (w : World) (p : List (List Int) × Nat × Int) (A : Option Addr) (c m : Nat) (T : List Sl) (w' : World) (at_ : Nat) (e : Int) (hm : T.length = m) (hr : Srow w' w.heap.size A c T) (hp : p = (byts T, at_, e)) (hT : ∀ s ∈ T, Row w' w.heap.size s.a s.c s.l) (hb : Below w.heap.size w w') :
    GotAll w p (.returned (.tuple #[.slice A m c, .int .i64 (at_ : Nat), .int .i64 e])) w' := by
  subst hp
  subst hm
  exact ⟨A, c, T, rfl, hr, rfl, hT, hb⟩

/-- Rows of bytes, and one more, behind an append onto a row of slices. -/
theorem rows_grown {w w' : World} {B D m : Nat} {C : Option Addr} {d : Nat} {T U : List Sl} {s : Sl} {o : Obj} (hs : Srow w D C d U) (hU : U.length = m) (hT : ∀ x ∈ T, Row w B x.a x.c x.l) (h1 : Row w B s.a s.c s.l) (hg : (w.alloc o).grownBy w' (Value.slice C m d).ownBlock) : ∀ x ∈ T ++ [s], Row w' B x.a x.c x.l := fun x hx => by
  subst hU
  rcases List.mem_append.1 hx with hx | hx
  · exact ((hT x hx).alloc o).beside (hs.alloc o) hg
  · obtain rfl := List.mem_singleton.1 hx
    exact (h1.alloc o).beside (hs.alloc o) hg

set_option maxRecDepth 100000 in
set_option maxHeartbeats 4000000 in
theorem refAll_any (A : Option Addr) (L : List Int) (n c : Nat) (w : World) (h : In w A L n c) (hs : n ≤ 35184372088832) :
    Calls Try.prog 16 #[.slice A n c] w (GotAll w (allL L)) := by
  have HI := Lib.hid h
  have HS := Lib.hid hs
  clear h hs
  go_enter Try.func16, Try.ntmps16
  go_wp2_with fail
  go_loopw [5, 6] (fun t5 t6 wr => ∃ (a m : Nat) (A' : Option Addr) (c' : Nat) (T : List Sl), t5 = .slice A' m c' ∧ t6 = .int .i64 (a : Nat) ∧ Hid (T.length = m ∧ a ≤ n ∧ 8 * m ≤ a ∧ LeftF L (byts T) a) ∧ Hid (Srow wr w.heap.size A' c' T) ∧ Hid (∀ s ∈ T, Row wr w.heap.size s.a s.c s.l) ∧ Hid (Below w.heap.size w wr)) (fun _ t6 _ => n - (intOf t6).toNat)
  case atStart => exact ⟨0, 0, none, 0, [], rfl, rfl, Lib.hid ⟨rfl, by omega, by omega, LeftF.refl L⟩, Lib.hid (Srow.nil _ _), Lib.hid (fun s hs => by cases hs), Lib.hid (Below.refl _ _)⟩
  case round =>
    obtain ⟨a, m, A', c', T, rfl, rfl, hp, hr, hT, hb⟩ := hrel
    by_cases hlt : a < n
    · obtain ⟨⟨p, k, e⟩, hR⟩ : ∃ R, readL (L.drop a) = R := ⟨_, rfl⟩
      have HR := Lib.hid hR
      have HP := Lib.hid (readP_is (by rw [HI.out.len]; omega) p k e hR)
      have RD := Lib.hid (refRead_any A L n c a wr (HI.out.kept hb.out))
      have hal : Hid (a < L.length) := Lib.hid (by rw [HI.out.len]; exact hlt)
      have hk := readL_ok (L.drop a)
      rw [hR] at hk
      by_cases h0 : e = 0
      · subst h0
        rw [if_pos rfl] at HP
        rw [HP.out] at RD
        have hk := hk rfl
        obtain ⟨k0, k1, -⟩ := hk
        have HK : Hid (a + k ≤ n ∧ 8 ≤ k) := Lib.hid (by simp only [List.length_drop, HI.out.len] at k0 k1 ⊢; omega)
        have HL : Hid (LeftF L (byts T ++ [p]) (a + k)) := Lib.hid (by
          have := hp.out.2.2.2.step hal.out (by rw [HR.out])
          rwa [HR.out] at this)
        obtain ⟨q, hq⟩ : ∃ q, p.length = q := ⟨_, rfl⟩
        have HQ := Lib.hid hq
        clear hR hk k0 k1 hq
        go_wp2_with (first
          | (go_at_call 14; refine RD.out.mono ?_; rintro e1 w1 ⟨A1, c1, rfl, r1, b1⟩; have R1 := Lib.hid r1; have B1 := Lib.hid (below_then hb.out b1); have K1 := Lib.hid (b1.mono (Nat.le_refl _)); clear r1 b1; simp only [HQ.out])
          | (at_builtin; refine wpList_append_srow _ rfl (.tmp 26) (.tmp 28) rfl w.heap.size A' c' T [⟨A1, c1, p⟩] _ m 1 1 rfl rfl hp.out.1 rfl ((hr.out.kept K1.out (Nat.le_refl _)).alloc _) (lit_lies w1 _ _ (by simp [svals, Sl.val, HQ.out]) _) (by have := B1.out.size; simp; omega) (by have := hp.out; have := HS.out; simp; omega) ?_; intro A2 c2 w2 r2 b2 g2; have R2 := Lib.hid r2; have B2 := Lib.hid ((B1.out.alloc B1.out.size _).trans b2); have T2 := Lib.hid (rows_grown (T := T) (s := ⟨A1, c1, p⟩) (hr.out.kept K1.out (Nat.le_refl _)) hp.out.1 (fun s hs => (hT.out s hs).kept K1.out (Nat.le_refl _)) (R1.out.mono hb.out.size) g2); clear r2 b2 g2))
        go_roundw
        case rel => exact ⟨a + k, m + 1, A2, c2, T ++ [⟨A1, c1, p⟩], rfl, by go_num, Lib.hid ⟨by rw [List.length_append, hp.out.1]; rfl, HK.out.1, by have := hp.out; have := HK.out; omega, by rw [byts_append]; exact HL.out⟩, R2, T2, B2⟩
        case measure => have := HK.out; simp [intOf]; omega
      · have h0' : (e == 0) = false := by simpa using h0
        rw [if_neg h0] at HP
        rw [HP.out] at RD
        have HE := Lib.hid (hp.out.2.2.2.bad hal.out (by rw [HR.out]; exact h0))
        rw [HR.out] at HE
        clear hR hk h0
        go_wp2_with (go_at_call 14; refine RD.out.mono ?_; rintro e1 w1 ⟨A1, c1, rfl, r1, b1⟩; have B1 := Lib.hid (below_then hb.out b1); have K1 := Lib.hid (b1.mono (Nat.le_refl _)); clear r1 b1)
        go_ret3
        exact got_all w _ A' c' m T _ a e hp.out.1 (hr.out.kept K1.out (Nat.le_refl _)) HE.out (fun s hs => (hT.out s hs).kept K1.out (Nat.le_refl _)) B1.out
    · have HE := Lib.hid (hp.out.2.2.2.end_ (by rw [HI.out.len]; omega))
      go_wp2_with fail
      go_ret3
      exact got_all w _ A' c' m T _ a 0 hp.out.1 hr.out HE.out hT.out hb.out

end Go.Proofs.Ytefkibflellfpaa
