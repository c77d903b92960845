/-
  TableGets: walks of the law itself. What is read of a table whose file is cut or turned in one byte, by the document's own words. TableCrash: walks of the law itself. TableTold: what its walk needs besides: a byte turned, an entry that is looked for by its own place, a disk of one file. TableTold: what its walk needs besides: a file opened, slices of entries from the front.
-/
import Derived.Laws.BitsAllLaws
import Derived.Test.YtmgggddnfeojmaaGreatJT10
import Derived.Test.YtmgggddnfeojmaaGreatJT26
set_option linter.unusedSimpArgs false
set_option linter.unusedVariables false
namespace Go.Proofs.YtmgggddnfeojmaaGreat
open Go.RowKit
open Go.Maps
theorem four_facts {W : World} {z : Nat} {a b c d : Value} {t : TypeId} (h : W.heap[z]? = some (.cells #[a, b, c, d] t (0, 0))) : (W.cell? ⟨z, 0, none⟩ = some a ∧ W.cell? ⟨z, 1, none⟩ = some b ∧ W.cell? ⟨z, 2, none⟩ = some c ∧ W.cell? ⟨z, 3, none⟩ = some d) ∧ W.frozen? ⟨z, 0, none⟩ = false ∧ W.frozen? ⟨z, 1, none⟩ = false ∧ W.frozen? ⟨z, 2, none⟩ = false ∧ W.frozen? ⟨z, 3, none⟩ = false := by
  refine ⟨⟨?_, ?_, ?_, ?_⟩, ?_, ?_, ?_, ?_⟩ <;> simp [World.cell?, World.frozen?, h]
/-- What Get answers of a whole table. -/
def AnsW (L : List Er) (K : List Int) (s : Int) (y : En) (b : Bool) : Prop := (b = true ∧ getE L K s = some y.rd) ∨ (b = false ∧ y = zeroEn ∧ getE L K s = none)
theorem getE_mem {L : List Er} {K : List Int} {s : Int} {x : Er} (h : getE L K s = some x) : x ∈ L := by
  unfold getE at h
  exact List.mem_of_find?_eq_some h
end Go.Proofs.YtmgggddnfeojmaaGreat
namespace Go.Proofs.YtmgggddnfeojmaaGreat
open Go.RowKit
open Go.Maps
/-- A table of which one block can't be read. -/
structure Hurt (L : List Er) (tb : Tb) : Prop where
  get : ∀ k s, getP tb k s = (none, true) ∨ getP tb k s = (getE L k s, false)
  range : ∃ m, m < L.length ∧ rangeP tb [] [] = (L.take m, true)
  few : tb.rows.length ≤ L.length
theorem told_state {L : List Er} {size : Nat} (ho : OrdL L) (hne : L ≠ []) (hB : ByL L) (h1 : 1 ≤ size) (h2 : size ≤ 1024) (hl : L.length ≤ 9000000000000000000) :
    (∀ j, j < (fileE L size).length → tableP ((fileE L size).take j) = none) ∧
    ∀ j y, j < (fileE L size).length → 0 ≤ y ∧ y < 256 → (fileE L size)[j]? ≠ some y → tableP ((fileE L size).set j y) = none ∨ ∃ tb, tableP ((fileE L size).set j y) = some tb ∧ Hurt L tb := by
  obtain ⟨ps, qs, P⟩ := parts_of ho hne hB h1 h2
  refine ⟨fun j hj => told_cut P hl hj, fun j y hj hy hd => ?_⟩
  rcases told_turn P ho hl hj hy hd with h | ⟨a, i, hi, h3, h4, h5⟩
  · exact .inl h
  refine .inr ⟨_, h3, ?_⟩
  have hn : ∀ p ∈ ps, p ≠ [] := fun p hp => (P.ok p hp).1.1
  have hof : OrdL ps.flatten := by rw [P.flat]; exact ho
  refine ⟨fun k s => ?_, ?_, ?_⟩
  · have := told_first (t := ⟨(fileE L size).set j y, rowsE ps a, lastE L⟩) (k := k) (s := s) rfl hn hof hi h4 h5
    rwa [P.flat] at this
  · obtain ⟨e1, m, hm, e2⟩ := told_all (t := ⟨(fileE L size).set j y, rowsE ps a, lastE L⟩) rfl hn hof hi h4 h5
    rw [P.flat] at e2
    refine ⟨(ps.take i).flatten.length, ?_, ?_⟩
    · have : 0 < m.length := List.length_pos_iff.2 hm
      rw [e2, List.length_append]
      omega
    · rw [e1, e2, List.take_left]
  · show (rowsE ps a).length ≤ _
    rw [rowsE_len]
    have := pieces_few ps hn
    rwa [P.flat] at this
/-- What Get answers of it. -/
def AnsH (L : List Er) (K : List Int) (s : Int) (y : En) (b : Bool) (er : Int) : Prop := (er = 0 ∧ AnsW L K s y b) ∨ (er = 11 ∧ y = zeroEn ∧ b = false)
theorem get_hurt (l : List En) (t : Tm) (A : Option Addr) (K : List Int) (n c : Nat) (s : Int) (w W : World) (ht : TabAt w t) (hb : Below w.heap.size w W) (hW : Hurt (ers l) t.tb) (hl : l.length ≤ 1048576) (hL : ByL (ers l)) (hn : K.length = n) (hk : Row W w.heap.size A c K) (hB : Byt K) (w0 : World) (h0 : Below w0.heap.size w0 w) (hm0 : w0.heap.size ≤ t.mb) :
    Calls Tryz.prog 23 #[.pointer (some ⟨t.b, 0, none⟩), .slice A n c, .int .i64 s] W fun e w' => ∃ (y : En) (b : Bool) (er : Int), AnsH (ers l) K s y b er ∧ e = .returned (.tuple #[.agg #[.slice y.k.a y.k.l.length y.k.c, .int .i64 y.s, .bool y.d, .slice y.v.a y.v.l.length y.v.c], .bool b, .int .i64 er]) ∧ EIn w' y ∧ Row w' W.heap.size y.k.a y.k.c y.k.l ∧ Row w' W.heap.size y.v.a y.v.c y.v.l ∧ Tw t.mb W w' ∧ TabW (fun g => w.heap.size ≤ g ∧ g < W.heap.size) w' t ∧ Below w0.heap.size w0 w' := by
  subst hn
  have hm : t.mb < w.heap.size := by obtain ⟨es, ck, hm⟩ := ht.mapAt; exact (Array.getElem?_eq_some_iff.1 hm).1
  have hfew := hW.few
  rw [ers_len] at hfew
  refine (GetX.get_any w.heap.size t ⟨A, c, K⟩ s W ((ht.w (fun g hg h => by omega)).kept hb) hm hb.size (hk.in_ hB) (by simp only [Tm.tb, List.length_map] at hfew; omega)).mono ?_
  rintro e w' ⟨y, b, er, ha, he, r1, r2, h1, h2⟩
  have hA : AnsH (ers l) K s y b er := by
    rcases hW.get K s with hg | hg
    · rcases ha with ⟨q1, q2, q3⟩ | ⟨q1, q2, q3, q4⟩
      · rw [hg] at q1
        injection q1 with q1 q5
        cases q1
      · rw [hg] at q4
        exact .inr ⟨by simpa using q4, q2, q3⟩
    · rcases ha with ⟨q1, q2, q3⟩ | ⟨q1, q2, q3, q4⟩
      · rw [hg] at q1
        injection q1 with q1 q5
        exact .inl ⟨q3, .inl ⟨q2, q1⟩⟩
      · rw [hg] at q1 q4
        exact .inl ⟨by simpa using q4, .inr ⟨q3, q2, q1⟩⟩
  refine ⟨y, b, er, hA, he, ?_, r1, r2, h1, h2, (h0.trans (hb.mono h0.size)).trans (h1.below hm0 (Nat.le_trans h0.size hb.size))⟩
  rcases hA with ⟨-, ⟨-, q⟩ | ⟨-, rfl, -⟩⟩ | ⟨-, rfl, -⟩
  · have := hL _ (getE_mem q)
    exact ⟨r1.in_ this.1, r2.in_ this.2⟩
  · exact ⟨in_nil _, in_nil _⟩
  · exact ⟨in_nil _, in_nil _⟩
/-- All that can be read of it. -/
theorem all_hurt {w w0 : World} {A : Option Addr} {l : List En} {n c : Nat} {t : Tm} (h : LIn w0 A l n c) (ht : TabAt w t) (hW : Hurt (ers l) t.tb) : ∃ m, m < n ∧ Calls Tryz.prog 18 #[.pointer (some ⟨t.b, 0, none⟩), .slice none 0 0, .slice none 0 0] w fun e w' => ∃ (l' : List En) (A' : Option Addr) (c' : Nat), ers l' = (ers l).take m ∧ l'.length = m ∧ e = .returned (.tuple #[.slice A' m c', .int .i64 11]) ∧ Lies w' A' (evals l') ∧ EIns w' l' ∧ Tw t.mb w w' ∧ TabAt w' t := by
  obtain ⟨m, hm, hr⟩ := hW.range
  have hfew := hW.few
  have hsm := h.small.1
  have hlen := h.len
  rw [ers_len] at hfew hm
  have htl : ((ers l).take m).length = m := by rw [List.length_take, ers_len]; omega
  refine ⟨m, by omega, (all_any t none none [] [] 0 0 0 0 w ht (in_nil w) (in_nil w) (by decide) (by decide) (by simp only [Tm.tb, List.length_map] at hfew; omega) (by rw [hr]; simp only [htl]; omega)).mono ?_⟩
  rintro e w' ⟨l', A', c', h1, rfl, h3, h4, h5, h6⟩
  rw [hr] at h1 ⊢
  simp only at h1
  have e1 : l'.length = m := by rw [← ers_len, h1, htl]
  exact ⟨l', A', c', h1, e1, by rw [e1]; rfl, h3.lies, h4.ins (fun p hp => h.byl _ (List.mem_of_mem_take (by rw [h1] at hp; exact hp))), h5, h6.at_⟩
end Go.Proofs.YtmgggddnfeojmaaGreat
namespace Go.Proofs.YtmgggddnfeojmaaGreat
open Go.RowKit
open Go.Maps
/-- A plan that comes in. -/
structure PlIn (w : World) (ops room : Int) (A : Option Addr) (keep : List Int) (n c : Nat) : Prop where
  len : keep.length = n
  ints : Ints w A keep
  ki : ∀ z ∈ keep, -9223372036854775808 ≤ z ∧ z ≤ 9223372036854775807
  ops : -9223372036854775808 ≤ ops ∧ ops ≤ 9223372036854775807
  room : -9223372036854775808 ≤ room ∧ room ≤ 9223372036854775807
  few : n * 8 ≤ 140737488351232
theorem PlIn.kept {w w' : World} {ops room : Int} {A : Option Addr} {keep : List Int} {n c : Nat} (h : PlIn w ops room A keep n c) (hb : Below w.heap.size w w') : PlIn w' ops room A keep n c := ⟨h.len, Lies.kept h.ints hb, h.ki, h.ops, h.room, h.few⟩
/-- No table is read, and why. -/
def NoT (D : List Int × Int) (r : Int) : Prop := (D.2 = r ∧ r ≠ 0) ∨ (D.2 = 0 ∧ tableP D.1 = none ∧ r = 11)
theorem open_none {w : World} {B g : Nat} {p : Pk} {m : Vm} {D : List Int × Int} {r : Int} (h : PSt w B g p) (hv : p.vm = m) (hf : Fits m 0) (h40 : ∀ x ∈ m.fs, x.2.1.length ≤ 1099511627776) (hr : m.read sT = D) (hD : NoT D r) :
    Calls Tryz.prog 17 #[.pointer (some ⟨g, 0, none⟩), .string sT] w fun e w' => e = .returned (.tuple #[.pointer none, .int .i64 r]) ∧ Below w.heap.size w w' := by
  have := open_any B g p m sT w h hv (by decide) hf h40
  rw [hr] at this
  refine this.mono ?_
  rintro e w' ⟨hb, h3⟩
  rcases hD with ⟨d1, d2⟩ | ⟨d1, d2, rfl⟩
  · rcases h3 with ⟨-, h4⟩ | ⟨h4, -⟩ | ⟨h4, -⟩
    · exact ⟨by rw [h4, d1], hb⟩
    · exact absurd (d1 ▸ h4) d2
    · exact absurd (d1 ▸ h4) d2
  · rcases h3 with ⟨h4, -⟩ | ⟨-, -, h4⟩ | ⟨-, t, h4, -⟩
    · exact absurd d1 h4
    · exact ⟨h4, hb⟩
    · rw [d2] at h4
      cases h4
end Go.Proofs.YtmgggddnfeojmaaGreat
namespace Go.Proofs.YtmgggddnfeojmaaGreat
open Go.RowKit
open Go.Maps
/-- A byte turned by one to 255. -/
theorem turned_by (x b : Int) (x0 : 0 ≤ x) (x1 : x < 256) (b0 : 0 < b) (b1 : b < 256) : 0 ≤ bits .xor .u8 x b ∧ bits .xor .u8 x b < 256 ∧ bits .xor .u8 x b ≠ x := by
  obtain ⟨X, rfl⟩ := Int.eq_ofNat_of_zero_le x0
  obtain ⟨B, rfl⟩ := Int.eq_ofNat_of_zero_le (a := b) (by omega)
  rw [u8_xor_nat X B (by omega) (by omega)]
  have hlt : X ^^^ B < 2 ^ 8 := Nat.xor_lt_two_pow (by omega) (by omega)
  refine ⟨by omega, by omega, fun k => ?_⟩
  have k' : X ^^^ B = X := by omega
  have : B = 0 := by
    have h := congrArg (X ^^^ ·) k'
    simp only [← Nat.xor_assoc, Nat.xor_self, Nat.zero_xor] at h
    exact h
  omega
theorem way_four (b : Int) : ∃ size : Nat, wrap64 (1 + wrap64 ((IntKind.u64.wrap b).tmod 4)) = (size : Int) ∧ 1 ≤ size ∧ size ≤ 4 := by
  have h0 : 0 ≤ IntKind.u64.wrap b := by simp [IntKind.wrap, IntKind.bits, IntKind.signed]; omega
  have h1 : 0 ≤ (IntKind.u64.wrap b).tmod 4 := Int.tmod_nonneg _ h0
  have h2 : (IntKind.u64.wrap b).tmod 4 < 4 := Int.tmod_lt_of_pos _ (by omega)
  generalize (IntKind.u64.wrap b).tmod 4 = x at h1 h2
  refine ⟨(1 + x).toNat, ?_, by omega, by omega⟩
  unfold wrap64
  omega
/-- A place in a file. -/
theorem way_place (a : Int) (n : Nat) (h : 0 < n) (h9 : n ≤ 268435456) : ∃ k : Nat, wrap64 ((IntKind.u64.wrap a).tmod (IntKind.u64.wrap (n : Int))) = (k : Int) ∧ k < n := by
  have e : IntKind.u64.wrap (n : Int) = (n : Int) := by simp [IntKind.wrap, IntKind.bits, IntKind.signed]; omega
  have h0 : 0 ≤ IntKind.u64.wrap a := by simp [IntKind.wrap, IntKind.bits, IntKind.signed]; omega
  rw [e]
  have h1 : 0 ≤ (IntKind.u64.wrap a).tmod n := Int.tmod_nonneg _ h0
  have h2 : (IntKind.u64.wrap a).tmod n < n := Int.tmod_lt_of_pos _ (by omega)
  generalize (IntKind.u64.wrap a).tmod n = x at h1 h2
  refine ⟨x.toNat, ?_, by omega⟩
  unfold wrap64
  omega
/-- An entry, looked for by its own place. -/
theorem getE_self {L : List Er} (ho : OrdL L) {i : Nat} {x : Er} (hx : L[i]? = some x) : getE L x.1 x.2.1 = some x := by
  unfold getE
  refine find_at hx (by simp) fun j z hj hz => ?_
  have h := ordL_sorted ho hj hz hx
  unfold ordE at h
  by_cases e : z.1 = x.1
  · have e2 : cmpL z.1 x.1 = 0 := by rw [e]; exact cmpL_self _
    rw [if_neg (by omega)] at h
    have : ¬ z.2.1 ≤ x.2.1 := by
      split at h
      · omega
      · split at h
        · omega
        · omega
    simp [this]
  · simp [e]
theorem tableP_nil : tableP [] = none := by rfl
theorem ofE_t (a : Option Addr) (c : Nat) (D : List Int) (y : Int) (h : 0 ≤ y ∧ y ≤ D.length) : ofE [⟨sT, ⟨a, c, D⟩, y⟩] = 0 := by
  have h1 : ¬ (y < 0 ∨ (D.length : Int) < y) := by omega
  simp [ofE, dupB, insAll, findI, okT, h1]
/-- A disk of one file of any bytes. -/
theorem of_t (w w2 : World) (xb : Nat) (A : Option Addr) (D : List Int) (n c : Nat) (hn : D.length = n) (h9 : n ≤ 268435456) (hd : In w2 A D n c) (q1 : w2.heap[xb]? = some (.cells #[.string sT, .slice A n c, .int .i64 (n : Int)] 64 (0, 0))) (hb : Below w.heap.size w w2) :
    Calls Tryz.prog 27 #[.slice (some ⟨xb, 0, none⟩) 1 1, .agg #[.int .i64 (-1), .int .i64 (-1), .slice none 0 0]] w2 fun e w' => ∃ (g : Nat) (p : Pk), e = .returned (.tuple #[.pointer (some ⟨g, 0, none⟩), .int .i64 0]) ∧ PSt w' w.heap.size g p ∧ p.vm = loneV sT D n ∧ Below w.heap.size w w' := by
  subst hn
  have hl : Lies w2 (some ⟨xb, 0, none⟩) (fvals [⟨sT, ⟨A, c, D⟩, (D.length : Int)⟩]) := by
    refine .inr ⟨_, rfl, fun j u hu => ?_⟩
    have e : fvals [⟨sT, ⟨A, c, D⟩, (D.length : Int)⟩] = [.string sT, .slice A D.length c, .int .i64 (D.length : Int)] := rfl
    rw [e] at hu
    match j, hu with
    | 0, hu => injection hu with hu; subst hu; simp [World.cell?, Addr.add, q1]
    | 1, hu => injection hu with hu; subst hu; simp [World.cell?, Addr.add, q1]
    | 2, hu => injection hu with hu; subst hu; simp [World.cell?, Addr.add, q1]
    | j + 3, hu => simp at hu
  have hi : FIns w2 [⟨sT, ⟨A, c, D⟩, (D.length : Int)⟩] := fun q hq => by
    rw [List.mem_singleton.1 hq]
    exact hd
  refine (of_any (some ⟨xb, 0, none⟩) _ 1 1 (-1) (-1) none [] 0 0 w2 rfl hl hi (by decide) (fun q hq => by rw [List.mem_singleton.1 hq]; show D.length ≤ _; omega) (fun q hq => by rw [List.mem_singleton.1 hq]; show sT.size ≤ _; decide) rfl (.inl rfl) (by decide) (fun x hx => (List.not_mem_nil hx).elim) (by decide) (by decide)).mono ?_
  rw [ofE_t _ _ _ _ (by omega)]
  rintro e w' ⟨b6, (⟨h, -⟩ | ⟨-, g, p, rfl, hps, hv⟩)⟩
  · exact absurd rfl h
  · exact ⟨g, p, rfl, hps.mono hb.size, hv, hb.trans (b6.mono hb.size)⟩
/-- What is dumped of a disk of one file. -/
theorem dump_lone {w : World} {B g : Nat} {p : Pk} {F : List Int} {y : Int} (h : PSt w B g p) (hv : p.vm = loneV sT F y) (hF : F.length ≤ 268435456) :
    Calls Tryz.prog 16 #[.pointer (some ⟨g, 0, none⟩)] w fun e w' => ∃ (ad : Addr) (c : Nat) (a : Option Addr) (ac : Nat), e = .returned (.slice (some ad) 1 c) ∧ Lies w' (some ad) [.string sT, .slice a F.length ac, .int .i64 y] ∧ Row w' w.heap.size a ac F ∧ Below w.heap.size w w' := by
  have hfs : p.l.map Pf.rd = [(sT, F, y)] := congrArg Vm.fs hv
  have hl : p.l.length = 1 := by have := congrArg List.length hfs; simpa using this
  have hall : ∀ q ∈ p.l, Pf.rd q = (sT, F, y) := fun q hq => by
    have := List.mem_map_of_mem (f := Pf.rd) hq
    rw [hfs, List.mem_singleton] at this
    exact this
  refine (dump_any B g p w h (by omega) (fun q hq => ?_) (fun q hq => ?_)).mono ?_
  · have : q.d.l = F := congrArg (fun x => x.2.1) (hall q hq)
    rw [this]
    omega
  · have : q.s = sT := congrArg (fun x => x.1) (hall q hq)
    rw [this]
    decide
  rintro e w' ⟨l', h1, h2, A, c, rfl, h4, h5⟩
  rw [hfs] at h1
  obtain ⟨q, rfl⟩ : ∃ q, l' = [q] := List.length_eq_one_iff.1 (by have := congrArg List.length h1; simpa using this)
  have e1 : q.rd = (sT, F, y) := List.singleton_inj.1 h1
  have e2 : q.s = sT := congrArg (fun x => x.1) e1
  have e3 : q.d.l = F := congrArg (fun x => x.2.1) e1
  have e4 : q.y = y := congrArg (fun x => x.2.2) e1
  have hlie : Lies w' A (fvals [q]) := h4.lies
  have e5 : fvals [q] = [.string sT, .slice q.d.a F.length q.d.c, .int .i64 y] := by
    show q.cells ++ [] = _
    rw [← e2, ← e3, ← e4]
    rfl
  rw [e5] at hlie
  have hq := h2 q (List.mem_singleton.2 rfl)
  rw [e3] at hq
  rcases hlie with k | ⟨ad, rfl, k⟩
  · cases k
  · exact ⟨ad, c, q.d.a, q.d.c, rfl, .inr ⟨ad, rfl, k⟩, hq, h5⟩
end Go.Proofs.YtmgggddnfeojmaaGreat
namespace Go.Proofs.YtmgggddnfeojmaaGreat
open Go.RowKit
open Go.Maps
theorem short_lone {s : ByteArray} {F : List Int} {y : Int} (h : F.length ≤ 1099511627776) : ∀ x ∈ (loneV s F y).fs, x.2.1.length ≤ 1099511627776 := fun x hx => by
  rw [show (loneV s F y).fs = [(s, F, y)] from rfl, List.mem_singleton] at hx
  subst hx
  exact h
theorem way_byte' (a : Int) : ∃ y : Int, wrap64 (1 + wrap64 ((IntKind.u64.wrap a).tmod 255)) % 256 = y ∧ 0 < y ∧ y < 256 := by
  have h0 : 0 ≤ IntKind.u64.wrap a := by simp [IntKind.wrap, IntKind.bits, IntKind.signed]; omega
  have h1 : 0 ≤ (IntKind.u64.wrap a).tmod 255 := Int.tmod_nonneg _ h0
  have h2 : (IntKind.u64.wrap a).tmod 255 < 255 := Int.tmod_lt_of_pos _ (by omega)
  generalize (IntKind.u64.wrap a).tmod 255 = x at h1 h2
  refine ⟨1 + x, ?_, by omega, by omega⟩
  unfold wrap64
  omega
theorem opened_some {w w' : World} {F : List Int} {tb : Tb} {e : Ending} (ht : tableP F = some tb) (h : OpenE w (F, 0) e w') :
    ∃ t : Tm, t.tb = tb ∧ e = .returned (.tuple #[.pointer (some ⟨t.b, 0, none⟩), .int .i64 0]) ∧ TabAt w' t ∧ w.heap.size ≤ t.mb ∧ Below w.heap.size w w' := by
  obtain ⟨hb, h⟩ := h
  rcases h with ⟨h, -⟩ | ⟨-, h, -⟩ | ⟨-, t, h1, h2, h3, -, h5, -⟩
  · exact absurd rfl h
  · simp only at h
    rw [ht] at h
    cases h
  · simp only at h1
    rw [ht] at h1
    injection h1 with h1
    exact ⟨t, h1.symm, h2, h3, h5, hb⟩
/-- l[:k] -/
theorem slice_highE (A : Option Addr) (k n c : Nat) (hk : k ≤ n) (hc : n ≤ c) : ∀ W, (Instr.slice 22 (.slice A n c) none (some (.int .i64 (k : Int))) none).run Tryz.prog W = .ok (.slice A k c) W := fun W => by
  rw [run_slice_h (P := Tryz.prog) W _ A n c underEn .i64 (k : Int) (by omega) (by omega), sizeEn]
  cases A <;> simp [Result.andThen, sliced, Addr.add]
theorem liesE_take {w : World} {A : Option Addr} {l : List En} (h : Lies w A (evals l)) (m : Nat) : Lies w A (evals (l.take m)) := by
  rcases h with h | ⟨ad, rfl, h⟩
  · left
    have h1 := evals_len l
    rw [h] at h1
    have h2 : l = [] := List.eq_nil_of_length_eq_zero (by rw [List.length_nil] at h1; omega)
    subst h2
    simp [evals]
  · refine .inr ⟨ad, rfl, fun j u hj => h j u ?_⟩
    have e : evals l = evals (l.take m) ++ evals (l.drop m) := by
      unfold evals
      rw [← List.flatMap_append, List.take_append_drop]
    rw [e, List.getElem?_append_left (List.getElem?_eq_some_iff.1 hj).1]
    exact hj
end Go.Proofs.YtmgggddnfeojmaaGreat
