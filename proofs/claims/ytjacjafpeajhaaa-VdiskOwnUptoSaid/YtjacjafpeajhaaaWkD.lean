/-
  Walks: files copied, by the document.
-/
import Derived.Test.YtjacjafpeajhaaaWkC
import Derived.Deep.RegionHeld3
namespace Go.Proofs.Ytjacjafpeajhaaa
open Go.RowKit

/-- An append of bytes, as a step of a region that draws. -/
theorem step_append_row (w : World) {ops : Array Oper} {o : Oper} {a : Act} {K : Act → World → Prop} {Q : Exit → Act → World → Prop} {E : Prop} (hgd : o.guard = none) (s x : Operand)
    (ho : o.op = .call { callee := .builtin .append, args := #[s, x], argTypes := #[38, 38] })
    (B : Nat) (A : Option Addr) (c : Nat) (L M : List Int) (C : Option Addr) (n m cm : Nat) (hs : a.eval s = .slice A n c) (hx : a.eval x = .slice C m cm) (en : L.length = n) (em : M.length = m) (h : Row w B A c L) (hm : Bys w C M) (hB : B ≤ w.heap.size) (hr : L.length + M.length ≤ 140737488355328)
    (k : ∀ A' c' w', Row w' B A' c' (L ++ M) → Below B w w' → K (a.put o.dst (.slice A' (n + m) c')) w') : if Region.wanted o (yielded ops a.tmps) = true then Oper.wp Try.prog o a w K Q else E := by
  have hw : Region.wanted o (yielded ops a.tmps) = true := by simp [Region.wanted, hgd]
  rw [if_pos hw]
  subst en
  subst em
  obtain ⟨i, hi, hz0, hz1, hz2⟩ := info_parts info5
  obtain ⟨A', c', w', r, h2, h3⟩ := run_append_lies w 38 o.type 5 i (.int .u8 0) 1 1 Try.underlying38 hi hz0 hz1 hz2 rfl (by decide) B A L.length c (vals L) h C M.length cm (vals M) (by simp [vals_len]) hm.lies vals_one (by unfold maxLen; omega) (by omega) hB
  rw [← vals_append] at h2
  have k' := k A' c' w' (by unfold Row; rw [List.length_append]; exact h2) h3
  unfold Oper.wp execOp
  simp only [ho, resolve, invoke, builtin, Sem.run_bind, Sem.run_pure, Result.andThen_ok, List.map_toArray, List.map_cons, List.map_nil, hs, hx, r]
  exact k'
/-- An append of files, as a step of a region that draws. -/
theorem step_append_frow (w : World) {ops : Array Oper} {o : Oper} {a : Act} {K : Act → World → Prop} {Q : Exit → Act → World → Prop} {E : Prop} (hgd : o.guard = none) (s x : Operand)
    (ho : o.op = .call { callee := .builtin .append, args := #[s, x], argTypes := #[22, 22] })
    (B : Nat) (A : Option Addr) (c : Nat) (T U : List Fl) (C : Option Addr) (n m cm : Nat) (hs : a.eval s = .slice A n c) (hx : a.eval x = .slice C m cm) (en : T.length = n) (em : U.length = m) (h : Frow w B A c T) (hm : Lies w C (fvals U)) (hB : B ≤ w.heap.size) (hr : (T.length + U.length) * 48 ≤ 140737488355328)
    (k : ∀ A' c' w', Frow w' B A' c' (T ++ U) → Below B w w' → w.grownBy w' (Value.slice A n c).ownBlock → K (a.put o.dst (.slice A' (n + m) c')) w') : if Region.wanted o (yielded ops a.tmps) = true then Oper.wp Try.prog o a w K Q else E := by
  have hw : Region.wanted o (yielded ops a.tmps) = true := by simp [Region.wanted, hgd]
  rw [if_pos hw]
  subst en
  subst em
  obtain ⟨i, hi, hz0, hz1, hz2⟩ := info_parts info48
  obtain ⟨A', c', w', r, h2, h3, h4⟩ := run_append_grown (P := Try.prog) w 22 o.type 48 i (.agg #[.string ⟨#[]⟩, .slice none 0 0, .int .i64 0]) 3 48 Try.underlying22 hi hz0 hz1 hz2 rfl (by decide) B A T.length c (fvals T) h C U.length cm (fvals U) (by rw [fvals_len]) hm fvals_one (by unfold maxLen; omega) hr hB
  rw [← fvals_append] at h2
  have k' := k A' c' w' (by unfold Frow; rw [List.length_append]; exact h2) h3 h4
  unfold Oper.wp execOp
  simp only [ho, resolve, invoke, builtin, Sem.run_bind, Sem.run_pure, Result.andThen_ok, List.map_toArray, List.map_cons, List.map_nil, hs, hx, r]
  exact k'

/-- What an append onto a row of files lets be: rows of bytes. -/
theorem Row.besideF {w w' : World} {B D : Nat} {A C : Option Addr} {c d : Nat} {L : List Int} {T : List Fl} (h : Row w B A c L) (hs : Frow w D C d T) (hg : w.grownBy w' (Value.slice C T.length d).ownBlock) : Row w' B A c L := by
  refine ⟨h.1, ?_⟩
  rcases h.2 with hn | ⟨g, cap, cur, e1, h1, h2, h3⟩
  · exact .inl hn
  · refine .inr ⟨g, cap, cur, e1, h1, ?_, h3⟩
    have hlt : g < w.heap.size := (Array.getElem?_eq_some_iff.1 h2).1
    rw [hg.block g hlt, h2]
    intro e
    rcases hs.2 with ⟨hn, _⟩ | ⟨g', cap', cur', e', _, h2', _⟩
    · rw [hn] at e
      simp [Value.ownBlock] at e
    · rw [e'] at e
      obtain rfl : g = g' := by simpa [Value.ownBlock] using e
      rw [h2] at h2'
      injection h2' with h2'
      injection h2' with _ h2'
      exact absurd h2' (by decide)

/-- Files whose bytes are rows of the call's own. -/
def Mades (w : World) (B : Nat) (l : List Fl) : Prop := ∀ q ∈ l, Row w B q.d.a q.d.c q.d.l
theorem Mades.nil (w : World) (B : Nat) : Mades w B [] := fun _ h => by cases h
theorem Mades.kept {w w' : World} {B C : Nat} {l : List Fl} (h : Mades w B l) (hb : Below C w w') (hC : w.heap.size ≤ C) : Mades w' B l := fun q hq => (h q hq).kept hb hC
theorem Mades.mono {w : World} {B C : Nat} {l : List Fl} (h : Mades w B l) (hC : C ≤ B) : Mades w C l := fun q hq => (h q hq).mono hC
theorem Mades.snoc {w : World} {B : Nat} {l : List Fl} {q : Fl} (h : Mades w B l) (hq : Row w B q.d.a q.d.c q.d.l) : Mades w B (l ++ [q]) := fun x hx => by
  rcases List.mem_append.1 hx with hx | hx
  · exact h x hx
  · rw [List.mem_singleton] at hx
    subst hx
    exact hq
theorem Mades.besideF {w w' : World} {B D : Nat} {C : Option Addr} {d : Nat} {l T : List Fl} (h : Mades w B l) (hs : Frow w D C d T) (hg : w.grownBy w' (Value.slice C T.length d).ownBlock) : Mades w' B l := fun q hq => (h q hq).besideF hs hg
/-- What is read of a file. -/
def Fl.rd (q : Fl) : ByteArray × List Int × Int := (q.s, q.d.l, q.y)
/-- Files that can be read. -/
def Ins (w : World) (l : List Fl) : Prop := ∀ q ∈ l, In w q.d.a q.d.l q.d.l.length q.d.c
theorem Ins.kept {w w' : World} {l : List Fl} (h : Ins w l) (hb : Below w.heap.size w w') : Ins w' l := fun q hq => (h q hq).kept hb
theorem Mades.ins {w : World} {B : Nat} {l : List Fl} (h : Mades w B l) (hB : ∀ q ∈ l, Byt q.d.l) : Ins w l := fun q hq => (h q hq).in_ (hB q hq)
/-- Copies of files, in new memory. -/
def Copied (w : World) (l : List Fl) (e : Ending) (w' : World) : Prop := ∃ l', l'.map Fl.rd = l.map Fl.rd ∧ Mades w' w.heap.size l' ∧ Files w w.heap.size l' e w'

theorem lit_file3 (w : World) (xs : ByteArray) (A : Option Addr) (c : Nat) (xl : List Int) (xy : Int) (m : Nat) (hm : xl.length = m) : Lies (w.alloc (.cells #[.string xs, .slice A m c, .int .i64 xy] 48)) (some ⟨w.heap.size, 0, none⟩) (fvals [⟨xs, ⟨A, c, xl⟩, xy⟩]) := by
  subst hm
  exact lit_file w ⟨xs, ⟨A, c, xl⟩, xy⟩ _ rfl

set_option maxRecDepth 100000 in
set_option maxHeartbeats 4000000 in
theorem refCopy_any (A : Option Addr) (l : List Fl) (n c : Nat) (w : World) (hn : l.length = n) (h : Lies w A (fvals l)) (hi : Ins w l) (hl : n ≤ 1048576) (hs : ∀ q ∈ l, q.d.l.length ≤ 1099511627776) :
    Calls Try.prog 11 #[.slice A n c] w (Copied w l) := by
  have HP := Lib.hid (fun (w' : World) (hb : Below w.heap.size w w') => h.kept hb)
  have HI := Lib.hid (fun (w' : World) (hb : Below w.heap.size w w') => hi.kept hb)
  have HS := Lib.hid hs
  have HN := Lib.hid hn
  clear h hn hi hs
  go_enter Try.func11, Try.ntmps11
  go_wp2_with fail
  go_loopw [3, 7] (fun t3 t7 wr => ∃ (k : Nat) (A2 : Option Addr) (c2 : Nat) (l' : List Fl), k ≤ n ∧ t7 = .int .i64 k ∧ t3 = .slice A2 k c2 ∧ Hid (l'.length = k) ∧ Hid (l'.map Fl.rd = (l.take k).map Fl.rd) ∧ Hid (Mades wr w.heap.size l') ∧ Hid (Frow wr w.heap.size A2 c2 l') ∧ Hid (Below w.heap.size w wr)) (fun _ t7 _ => n - (intOf t7).toNat)
  case atStart => exact ⟨0, none, 0, [], by omega, rfl, rfl, Lib.hid rfl, Lib.hid rfl, Lib.hid (Mades.nil _ _), Lib.hid (Frow.nil _ _), Lib.hid (Below.refl _ _)⟩
  case round =>
    obtain ⟨k, A2, c2, l', hk, rfl, rfl, hl2, hr, hm, r2, b2⟩ := hrel
    by_cases hlt : k < n
    · have hq := List.getElem?_eq_getElem (l := l) (i := k) (by have := HN.out; omega)
      generalize l[k]'(by have := HN.out; omega) = x at hq
      obtain ⟨ad, rfl, a0, a1, a2⟩ := lies_file (HP.out _ b2.out) hq
      have HA := Lib.hid (fun (w' : World) (hb : Below w.heap.size w w') => lies_file_at (HP.out w' hb) hq)
      have HX := Lib.hid (fun (w' : World) (hb : Below w.heap.size w w') => (HI.out w' hb) x (List.mem_of_getElem? hq))
      have HL := Lib.hid (HS.out x (List.mem_of_getElem? hq))
      have HQ := Lib.hid hq
      clear hq
      have CB := Lib.hid b2.out
      have CF := Lib.hid r2.out
      have CM := Lib.hid hm.out
      have WS : Hid (w.heap.size ≤ wr.heap.size) := Lib.hid b2.out.size
      have B1 : Hid (Below wr.heap.size wr (wr.alloc (.cells #[] 5)).drew) := Lib.hid (below_new _ _).drew
      have R1 : Hid (Row (wr.alloc (.cells #[] 5)).drew wr.heap.size (some ⟨wr.heap.size, 0, none⟩) 0 []) := Lib.hid ((row_made wr wr.heap.size [] #[] rfl (by simp) (Nat.le_refl _)).kept (Below.refl _ _).drew (Nat.le_refl _))
      have S1 : Hid (wr.heap.size ≤ (wr.alloc (.cells #[] 5)).drew.heap.size) := Lib.hid B1.out.size
      obtain ⟨xs, ⟨xa, xc, xl⟩, xy⟩ := x
      obtain ⟨m, hm2⟩ : ∃ m, xl.length = m := ⟨_, rfl⟩
      simp only at a0 a1 a2 HX HL
      rw [hm2] at a1 HX HL
      have HM2 := Lib.hid hm2
      clear hm2
      have HA3 : Hid (∀ w' : World, Below w.heap.size w w' → w'.cell? (ad.add (k * 3)) = some (.string xs) ∧ w'.cell? ⟨(ad.add (k * 3)).block, (ad.add (k * 3)).off + 1, none⟩ = some (.slice xa m xc) ∧ w'.cell? ⟨(ad.add (k * 3)).block, (ad.add (k * 3)).off + 2, none⟩ = some (.int .i64 xy)) := Lib.hid (fun w' hb => by
        have := HA.out w' hb
        unfold AtF at this
        simp only [HM2.out] at this
        exact this)
      go_upto_region 5 with fail
      go_region_held3 (fun w' => w'.cell? (ad.add (k * 3)) = some (.string xs) ∧ w'.cell? ⟨(ad.add (k * 3)).block, (ad.add (k * 3)).off + 1, none⟩ = some (.slice xa m xc) ∧ w'.cell? ⟨(ad.add (k * 3)).block, (ad.add (k * 3)).off + 2, none⟩ = some (.int .i64 xy)) (first | exact HA3.out _ CB.out | exact HA3.out _ CB.out.drew | exact HA3.out _ (CB.out.alloc CB.out.size _) | exact HA3.out _ (CB.out.alloc CB.out.size _).drew | go_keep) (first
        | (refine step_append_row _ (by rfl) (.tmp 16) (.tmp 21) (by rfl) wr.heap.size _ 0 [] xl xa 0 m xc (by simp [Act.eval]) (by simp [Act.eval]) rfl HM2.out R1.out (HX.out _ (CB.out.trans (B1.out.mono WS.out))).bys S1.out (by have := HL.out; have := HM2.out; simp; omega) ?_; intro A6 c6 w6 r6 b6; have R6 := Lib.hid r6; have CF := Lib.hid (own_kept CF.out (B1.out.trans b6) (Nat.le_refl _)); have CM := Lib.hid (CM.out.kept (B1.out.trans b6) (Nat.le_refl _)); have CB := Lib.hid (CB.out.trans ((B1.out.trans b6).mono WS.out)); clear r6 b6)
        | (refine step_append_frow _ (by rfl) (.tmp 10) (.tmp 29) (by rfl) w.heap.size A2 c2 l' [⟨xs, ⟨A6, c6, xl⟩, xy⟩] _ k 1 1 (by simp [Act.eval]) (by simp [Act.eval]) hl2.out rfl (CF.out.alloc _) (lit_file3 _ xs A6 c6 xl xy m HM2.out) (by have := CB.out.size; simp; omega) (by have := hl2.out; simp; omega) ?_; intro A7 c7 w7 r7 b7 g7; have R7 := Lib.hid r7; have CM := Lib.hid (((CM.out.kept (below_new _ _) (Nat.le_refl _)).besideF (CF.out.alloc _) (by rw [hl2.out]; exact g7))); have CR := Lib.hid (((R6.out.kept (below_new _ _) (Nat.le_refl _)).besideF (CF.out.alloc _) (by rw [hl2.out]; exact g7))); have CB := Lib.hid ((CB.out.alloc CB.out.size _).trans b7); clear r7 b7 g7))
      go_wp2_with fail
      go_roundw
      case rel => exact ⟨k + 1, A7, c7, l' ++ [⟨xs, ⟨A6, c6, xl⟩, xy⟩], by omega, by go_num, rfl, Lib.hid (by rw [List.length_append, hl2.out]; rfl), Lib.hid (by rw [List.map_append, hr.out, List.take_add_one, HQ.out]; simp [Fl.rd]), Lib.hid (CM.out.snoc (CR.out.mono WS.out)), Lib.hid R7.out, CB⟩
      case measure => simp [intOf]; omega
    · obtain rfl : k = n := by omega
      have hr' := hr.out
      rw [List.take_of_length_le (by have := HN.out; omega)] at hr'
      have HR := Lib.hid hr'
      clear hr'
      go_wp2_with fail
      go_ret
      exact ⟨l', HR.out, hm.out, A2, c2, ret_slice hl2.out, r2.out, b2.out⟩

end Go.Proofs.Ytjacjafpeajhaaa
