/-
  Walks: the program's disk: Revive.
-/
import Derived.Test.YtjacjafpeajhaaaPgP
namespace Go.Proofs.Ytjacjafpeajhaaa
open Go.RowKit
open Go.Maps

theorem Lies.does {S S' : Nat → Prop} {w w' : World} {A : Option Addr} {xs : List Value} (h : Lies w A xs) (hd : Does S S' w w') (hS : ∀ ad, A = some ad → ¬ S ad.block) : Lies w' A xs := by
  rcases h with h | ⟨ad, rfl, h2⟩
  · exact .inl h
  · refine .inr ⟨ad, rfl, fun j u hu => ?_⟩
    have hc := h2 j u hu
    have hl := World.block_lt_of_cell? w _ hc
    rw [World.cell?_of_block (w := w) (hd.block _ hl (by rw [add_block]; exact hS ad rfl))]
    exact hc
theorem revP_step {keep : List Int} {l : List Pf} {k m m' : Nat} {q q' : Pf} {R : List (ByteArray × List Int × Int)} (hq : l[k]? = some q) (hd : l.drop k = q :: l.drop (k + 1)) (h1 : rev1 keep m q.rd = (q'.rd, m')) (hR : (l.take k).map Pf.rd ++ revL keep m ((l.drop k).map Pf.rd) = R) :
    ((l.set k q').take (k + 1)).map Pf.rd ++ revL keep m' (((l.set k q').drop (k + 1)).map Pf.rd) = R ∧ (l.set k q').drop (k + 1) = l.drop (k + 1) := by
  have hk := (List.getElem?_eq_some_iff.1 hq).1
  have e1 : (l.set k q').drop (k + 1) = l.drop (k + 1) := by rw [List.drop_set_of_lt (by omega)]
  have e2 : (l.set k q').take (k + 1) = l.take k ++ [q'] := by
    rw [List.take_add_one, List.getElem?_set_self hk, List.take_set_of_le (Nat.le_refl k)]
    rfl
  refine ⟨?_, e1⟩
  rw [e1, e2, ← hR, hd, List.map_append, List.map_cons]
  show _ = _ ++ ((rev1 keep m q.rd).1 :: revL keep (rev1 keep m q.rd).2 (List.map Pf.rd (List.drop (k + 1) l)))
  rw [h1]
  simp
theorem set_same {l : List Pf} {k : Nat} {q : Pf} (hq : l[k]? = some q) : l.set k q = l := by
  refine List.ext_getElem? fun j => ?_
  by_cases e : k = j
  · subst e
    rw [List.getElem?_set_self (List.getElem?_eq_some_iff.1 hq).1, hq]
  · rw [List.getElem?_set_ne e]
theorem sumP_set {l : List Pf} {i : Nat} {q q' : Pf} (hq : l[i]? = some q) : sumP (l.set i q') + q.d.l.length = sumP l + q'.d.l.length := by
  have key : ∀ (l : List Pf) (i : Nat), l[i]? = some q → sumM ((l.set i q').map Pf.rd) + q.d.l.length = sumM (l.map Pf.rd) + q'.d.l.length := by
    intro l
    induction l with
    | nil => intro i h; simp at h
    | cons x l ih =>
      intro i h
      cases i with
      | zero =>
        simp at h
        subst h
        simp [sumM, Pf.rd]
        omega
      | succ i =>
        have := ih i (by simpa using h)
        simp only [sumM, List.set_cons_succ, List.map_cons, List.sum_cons] at this ⊢
        omega
  unfold sumP
  have := key l i hq
  omega
theorem wrap64_cut {S S' a b : Int} (h : S' + a = S + b) : wrap64 (wrap64 S - (a - b)) = wrap64 S' := by
  have e : S' = S - (a - b) := by omega
  rw [e]
  generalize a - b = c
  unfold wrap64
  omega
/-- One file's bytes cut, all of what is left synced. -/
theorem PSt.revived {w W : World} {B g i : Nat} {p : Pk} {q : Pf} {A' : Option Addr} {c' : Nat} {L : List Int} {y s : Int} (h : PSt w B g p) (hq : p.l[i]? = some q) (hf : FileAt W q.h ⟨A', c', L⟩ y) (hk : PkAt W g { p with size := s }) (hr : Row W w.heap.size A' c' L) (hL : Byt L) (hs : s = wrap64 (p.size - (q.d.l.length - L.length))) (hd : Does (Two g q.h) (Two g q.h) w W) :
    PSt W B g { p with l := p.l.set i { q with d := ⟨A', c', L⟩, y := y }, size := s } ∧ Does (p.own g) (Pk.own { p with l := p.l.set i { q with d := ⟨A', c', L⟩, y := y }, size := s } g) w W := by
  have hm := List.mem_of_getElem? hq
  have hfq := h.inn.file q hm
  have hBw : B ≤ w.heap.size := by have := h.low; have := h.at_.lt; omega
  have hrw : ∀ ad', A' = some ad' → q.own ad'.block ∨ w.heap.size ≤ ad'.block := fun ad' ha => .inr (own_in hr ad' ha).1
  have hin := h.inn.reput (w' := W) (q' := { q with d := ⟨A', c', L⟩, y := y }) hq rfl rfl ⟨hf, hfq.low, own_mono hr hBw, hL⟩ hrw (fun k hk1 hn => hd.block k (h.inn.owned k hk1).2 (fun e => e.elim (fun e => h.not_inner (e ▸ hk1)) (fun e => hn (.inl e))))
  refine ⟨⟨hk, h.low, ⟨hin.map, hin.mlow, hin.file, hin.apart, hin.srt, hin.keep, hin.ki⟩, ?_, h.left, h.room⟩, ?_⟩
  · show s = wrap64 (sumP (p.l.set i { q with d := ⟨A', c', L⟩, y := y }))
    have := sumP_set (q' := { q with d := ⟨A', c', L⟩, y := y }) hq
    rw [hs, h.size]
    exact wrap64_cut this
  · refine hd.wider (fun k hk1 => hk1.elim (fun e => .inl e) (fun e => .inr (.inr (.inr ⟨q, hm, .inl e⟩)))) (fun k hk1 => ?_)
    rcases hk1 with e | e | e | ⟨x, hx, hk1⟩
    · exact .inl (.inl e)
    · exact .inl (.inr (.inl e))
    · exact .inl (.inr (.inr (.inl e)))
    · rcases List.mem_or_eq_of_mem_set hx with h1 | h1
      · exact .inl (.inr (.inr (.inr ⟨x, h1, hk1⟩)))
      · subst h1
        rcases hk1 with e | ⟨ad, ha, e⟩
        · exact .inl (.inr (.inr (.inr ⟨q, hm, .inl e⟩)))
        · exact .inr (e ▸ (own_in hr ad ha).1)

/-- A file's bytes laid anew. -/
theorem file_set {ws w7 : World} {B g qh : Nat} {p : Pk} {d : Sl} {y : Int} {A7 : Option Addr} {c7 t : Nat} {L : List Int} (hf : FileAt ws qh d y) (hk : PkAt ws g p) (hb : Below ws.heap.size ws w7) (hr : Row w7 B A7 c7 L) (ht : L.length = t) :
    FileAt (w7.setCell ⟨qh, 0, none⟩ (.slice A7 t c7)) qh ⟨A7, c7, L⟩ y ∧ PkAt (w7.setCell ⟨qh, 0, none⟩ (.slice A7 t c7)) g p ∧ Row (w7.setCell ⟨qh, 0, none⟩ (.slice A7 t c7)) B A7 c7 L ∧ Does (Two g qh) (Two g qh) ws (w7.setCell ⟨qh, 0, none⟩ (.slice A7 t c7)) := by
  subst ht
  have hf7 : FileAt w7 qh d y := by
    unfold FileAt at hf ⊢
    rw [hb.block qh (Array.getElem?_eq_some_iff.1 hf).1, hf]
  have hk7 : PkAt w7 g p := pk_block hk (hb.block g hk.lt)
  have hne : g ≠ qh := fun e => by
    unfold FileAt at hf
    unfold PkAt at hk
    rw [e, hf] at hk
    injection hk with hk
    injection hk with _ hk
    exact absurd hk (by decide)
  refine ⟨FileAt.set0 (d' := ⟨A7, c7, L⟩) hf7, pk_block hk7 (Below.heap_setCell w7 ⟨qh, 0, none⟩ _ g hne), own_block hr (fun ad ha => Below.heap_setCell w7 ⟨qh, 0, none⟩ _ _ (fun e => ?_)), ?_⟩
  · obtain ⟨cur, hc⟩ := own_type hr ha
    unfold FileAt at hf7
    rw [e, hf7] at hc
    injection hc with hc
    injection hc with _ hc
    exact absurd hc (by decide)
  · exact (Does.of_below hb (fun _ hk => .inl hk)).trans (does_set (.inr rfl))

set_option maxHeartbeats 2000000 in
theorem revive_nil (ops room : Int) (A : Option Addr) (kn kc : Nat) (w : World) : Calls Try.prog 17 #[.pointer none, .agg #[.int .i64 ops, .int .i64 room, .slice A kn kc]] w fun e w' => e = .returned (.int .i64 1) ∧ Below w.heap.size w w' := by
  have HB := Lib.hid (below_new w (.cells #[.int .i64 ops, .int .i64 room, .slice A kn kc] 25))
  go_enter Try.func17, Try.ntmps17
  go_wp2_with fail
  go_ret
  exact ⟨rfl, HB.out⟩

set_option maxRecDepth 100000 in
set_option maxHeartbeats 8000000 in
theorem revive_any (B g : Nat) (p : Pk) (ops room : Int) (A : Option Addr) (keep : List Int) (kn kc : Nat) (w : World) (h : PSt w B g p) (hsy : ∀ q ∈ p.l, 0 ≤ q.y ∧ q.y ≤ q.d.l.length) (hl : p.l.length * 48 ≤ 140737488355328) (hlg : ∀ q ∈ p.l, q.d.l.length ≤ 140737488355328) (hss : ∀ q ∈ p.l, q.s.size ≤ 140737488355328)
    (hn : keep.length = kn) (hk : Ints w A keep) (hko : ∀ ad, A = some ad → ¬ p.own g ad.block) (hkl : kn * 8 ≤ 140737488355328)
    (hi : ∀ x ∈ keep, -9223372036854775808 ≤ x ∧ x ≤ 9223372036854775807) (ho : -9223372036854775808 ≤ ops ∧ ops ≤ 9223372036854775807) (hm : -9223372036854775808 ≤ room ∧ room ≤ 9223372036854775807) :
    Calls Try.prog 17 #[.pointer (some ⟨g, 0, none⟩), .agg #[.int .i64 ops, .int .i64 room, .slice A kn kc]] w fun e w' => e = .returned (.int .i64 0) ∧ Rest w B g p (p.vm.revive ops room keep) w' := by
  have H := Lib.hid h
  obtain ⟨w1, hw1⟩ : ∃ w1, w.alloc (.cells #[.int .i64 ops, .int .i64 room, .slice A kn kc] 25) = w1 := ⟨_, rfl⟩
  have B1 : Hid (Below w.heap.size w w1) := Lib.hid (hw1 ▸ below_new _ _)
  have HS1 : Hid (w1.heap.size = w.heap.size + 1) := Lib.hid (by rw [← hw1]; simp)
  have HZ : Hid (w1.cell? ⟨w.heap.size, 0, none⟩ = some (.int .i64 ops) ∧ w1.cell? ⟨w.heap.size, 1, none⟩ = some (.int .i64 room) ∧ w1.cell? ⟨w.heap.size, 2, none⟩ = some (.slice A kn kc)) := Lib.hid (by rw [← hw1]; exact ⟨lit_cell w _ _ 0, lit_cell w _ _ 1, lit_cell w _ _ 2⟩)
  have HN := Lib.hid (names_any B g p w1 (h.kept B1.out) (by omega))
  have HX := Lib.hid (And.intro hsy (And.intro hlg hss))
  have HB := Lib.hid (fun (W : World) (p' : Pk) (hP : PSt W B g p') (hK : Ints W A keep) => begin_any B g p' ops room A keep kn kc W hP hn hK hkl hi ho hm)
  have HK := Lib.hid (And.intro hk hko)
  obtain ⟨n, hnn⟩ : ∃ n, p.l.length = n := ⟨_, rfl⟩
  have HNN := Lib.hid hnn
  have hT : (p.l.map Pf.s).length = n := by rw [List.length_map, hnn]
  unfold Texts7 at HN
  rw [hT] at HN
  rw [hnn] at hl
  obtain ⟨R, hR⟩ : ∃ R, revL p.keep 0 (p.l.map Pf.rd) = R := ⟨_, rfl⟩
  have HR := Lib.hid hR
  clear h hlg hss hsy hnn hT hR hn hk hko hkl hi ho hm
  go_enter Try.func17, Try.ntmps17
  go_wp2_with (go_at_call 44; refine HN.out.mono ?_; rintro e w2 ⟨A1, c1, rfl, r1, b1⟩; have R1 := Lib.hid (And.intro r1 b1); clear r1 b1)
  have B2 : Hid (Below w.heap.size w w2) := Lib.hid (B1.out.trans (R1.out.2.mono B1.out.size))
  have HP2 := Lib.hid (H.out.kept B2.out)
  have HOW : Hid (∀ k, p.own g k → k < w.heap.size) := Lib.hid (fun k hk => (H.out.owned k hk).2)
  have HT : Hid (∀ (S' : Nat → Prop) (W : World), Does (p.own g) S' w2 W → Lies W A1 ((p.l.map Pf.s).map Value.string)) := Lib.hid (fun S' W hd => R1.out.1.lies.does hd (fun ad ha hk => by
    have := (own_in R1.out.1 ad ha).1
    have := HOW.out _ hk
    have := HS1.out
    omega))
  clear hw1
  go_loopw [5, 15] (fun t5 t15 wr => ∃ (k m : Nat) (p' : Pk), k ≤ n ∧ m ≤ k ∧ t15 = .int .i64 k ∧ t5 = .int .i64 m ∧ Hid (PSt wr B g p') ∧ Hid (p'.l.length = n) ∧ Hid (p'.keep = p.keep) ∧ Hid (p'.l.map Pf.s = p.l.map Pf.s) ∧ Hid ((p'.l.take k).map Pf.rd ++ revL p.keep m ((p'.l.drop k).map Pf.rd) = R) ∧ Hid (∀ q ∈ p'.l.drop k, q ∈ p.l) ∧ Hid (Does (p.own g) (p'.own g) w2 wr)) (fun _ t15 _ => n - (intOf t15).toNat)
  case atStart => exact ⟨0, 0, p, by omega, by omega, rfl, rfl, HP2, HNN, Lib.hid rfl, Lib.hid rfl, Lib.hid (by simpa using HR.out), Lib.hid (fun q hq => by simpa using hq), Lib.hid (Does.refl _ _)⟩
  case round =>
    obtain ⟨k, m, p', hk, hmk, rfl, rfl, hs, hl2, hkp, hnm, hrev, hin, hdo⟩ := hrel
    by_cases hlt : k < n
    · have hq := List.getElem?_eq_getElem (l := p'.l) (i := k) (by have := hl2.out; omega)
      generalize p'.l[k]'(by have := hl2.out; omega) = q at hq
      have hmem := List.mem_of_getElem? hq
      have hdrop : p'.l.drop k = q :: p'.l.drop (k + 1) := by
        have hkl := (List.getElem?_eq_some_iff.1 hq).1
        rw [List.drop_eq_getElem_cons hkl]
        rw [List.getElem?_eq_getElem hkl] at hq
        injection hq with hq
        rw [hq]
      have hpm : q ∈ p.l := hin.out q (by rw [hdrop]; simp)
      have hsy1 := HX.out.1 q hpm
      have hlg1 := HX.out.2.1 q hpm
      have hss1 := HX.out.2.2 q hpm
      obtain ⟨ad, hA, hc⟩ := (HT.out _ _ hdo.out).resolve_left (fun e => by have h2 := congrArg List.length e; rw [List.length_map, List.length_map, List.length_nil] at h2; have := HNN.out; omega)
      subst hA
      have a9 := hc k (.string q.s) (by rw [← hnm.out, List.getElem?_map, List.getElem?_map, hq]; rfl)
      have k0 := hs.out.at_.cell.1
      have HLK := look_run hs.out.inn.map q.s (by unfold maxLen; omega)
      rw [findP_of hs.out.inn.srt hmem] at HLK
      unfold ptrOf Pf.at_ at HLK
      have hfi := hs.out.inn.file q hmem
      have hqr := hfi.row
      have hqb := hfi.byt
      obtain ⟨a0, a1⟩ := hfi.at_.cell
      unfold Sl.val at a0
      have HFI := Lib.hid hfi
      have HQ0 := Lib.hid (And.intro hq (And.intro hdrop hmem))
      obtain ⟨qs, qh, ⟨qa, qc, ql⟩, qy⟩ := q
      simp only at a0 a1 HLK hsy1 hqr hqb hlg1 a9
      obtain ⟨z, hz⟩ : ∃ z, ql.length = z := ⟨_, rfl⟩
      obtain ⟨y, rfl⟩ := Int.eq_ofNat_of_zero_le hsy1.1
      rw [hz] at a0 hsy1 hlg1
      have hyz : y ≤ z := by have := hsy1.2; omega
      obtain ⟨u, hu⟩ : ∃ u : Nat, z = y + u := ⟨z - y, by omega⟩
      have hu1 : (z : Int) - (y : Int) = (u : Int) := by omega
      have hqc := (own_cap hqr).1
      rw [hz] at hqc
      have HQ := Lib.hid (And.intro hqr (And.intro hqb (And.intro hz hu)))
      have hu47 : u ≤ 140737488355328 := by omega
      have hz47 : z ≤ 140737488355328 := by omega
      clear hq hdrop hmem hpm hss1 hc hfi hqr hqb hz hsy1 hu hlg1
      go_upto_region 8 with fail
      clear HLK k0 a9
      go_quiet (fail)
      obtain ⟨wq, hwq⟩ : ∃ wq, wr.drewN nq = wq := ⟨_, rfl⟩
      have BQ : Hid (Below wr.heap.size wr wq) := Lib.hid (hwq ▸ below_drewN (Below.refl _ _) nq)
      have HZS : Hid (wq.heap.size = wr.heap.size) := Lib.hid (by rw [← hwq]; rfl)
      rw [hwq]
      clear hwq
      have HPQ := Lib.hid (hs.out.kept BQ.out)
      by_cases hu0 : u = 0
      · have HV : Hid (rev1 p.keep m (Pf.rd ⟨qs, qh, ⟨qa, qc, ql⟩, (y : Int)⟩) = (Pf.rd ⟨qs, qh, ⟨qa, qc, ql⟩, (y : Int)⟩, m)) := Lib.hid (by
          have h5 := HQ.out.2.2
          unfold rev1 Pf.rd
          simp only
          rw [if_neg (by have := h5.1; have := h5.2; omega), h5.1, show z = y by have := h5.2; omega])
        have d0 : decide (0 < (u : Int)) = false := by simp; omega
        go_wp2_with fail
        go_roundw
        case rel =>
          obtain ⟨r1, r2⟩ := revP_step HQ0.out.1 HQ0.out.2.1 HV.out hrev.out
          rw [set_same HQ0.out.1] at r1
          exact ⟨k + 1, m, p', by omega, by omega, by go_num, rfl, HPQ, hl2, hkp, hnm, Lib.hid r1, Lib.hid (fun x hx => hin.out x (by rw [HQ0.out.2.1]; exact List.mem_cons_of_mem _ hx)), Lib.hid (hdo.out.trans (Does.of_below BQ.out (fun _ hk => .inl hk)))⟩
        case measure => simp [intOf]; omega
      · have hu2 : (0 : Int) < (u : Int) := by omega
        have HSV := Lib.hid (survive_any B g p' m (u : Int) wq HPQ.out hu2 (by omega) (by omega))
        obtain ⟨kv, hkv⟩ := Int.eq_ofNat_of_zero_le (kept_in p'.keep m (u : Int) hu2).1
        have hkv2 : kv ≤ u := by have := (kept_in p'.keep m (u : Int) hu2).2; omega
        rw [hkv] at HSV
        obtain ⟨v, hv⟩ : ∃ v : Nat, u = kv + v := ⟨u - kv, by omega⟩
        have hv1 : (u : Int) - (kv : Int) = (v : Int) := by omega
        have HV : Hid (rev1 p.keep m (Pf.rd ⟨qs, qh, ⟨qa, qc, ql⟩, (y : Int)⟩) = (Pf.rd ⟨qs, qh, ⟨qa, qc, ql.take (y + kv)⟩, ((y + kv : Nat) : Int)⟩, m + 1)) := Lib.hid (by
          have h5 := HQ.out.2.2
          unfold rev1 Pf.rd
          simp only
          rw [h5.1, hu1, if_pos hu2, ← hkp.out, hkv, show ((y : Int) + (kv : Int)) = ((y + kv : Nat) : Int) by omega, Int.toNat_natCast])
        have HKV := Lib.hid hkv
        have d0 : decide (0 < (u : Int)) = true := by simp; omega
        have c1q := HPQ.out.at_.cell.2.1
        have f1q := HPQ.out.at_.frozen 1
        have HVV := Lib.hid hv
        clear hkv hu0 hv
        go_upto_region 13 with (go_at_call 45; refine HSV.out.mono ?_; rintro e w9 ⟨rfl, hw⟩; subst hw)
        obtain ⟨ss, hss⟩ : ∃ ss, wrap64 (p'.size - v) = ss := ⟨_, rfl⟩
        have HSS := Lib.hid hss
        rw [hss]
        obtain ⟨ws, hws⟩ : ∃ ws, wq.setCell ⟨g, 1, none⟩ (.int .i64 ss) = ws := ⟨_, rfl⟩
        have hneg : g ≠ qh := fun e => (HPQ.out.not_two (HPQ.out.inn.file _ HQ0.out.2.2) qh (.inl rfl)).1 e.symm
        have KS : Hid (PkAt ws g { p' with size := ss }) := Lib.hid (hws ▸ HPQ.out.at_.set 1 _ rfl)
        have DS : Hid (Does (Two g qh) (Two g qh) wq ws) := Lib.hid (hws ▸ does_set (.inl rfl))
        have FS : Hid (FileAt ws qh ⟨qa, qc, ql⟩ y) := Lib.hid (by
          have := (HPQ.out.inn.file _ HQ0.out.2.2).at_
          unfold FileAt at this ⊢
          rw [← hws, Below.heap_setCell wq ⟨g, 1, none⟩ _ qh (fun e => hneg e.symm)]
          exact this)
        have RS : Hid (Row ws B qa qc ql) := Lib.hid (own_block (HPQ.out.inn.file _ HQ0.out.2.2).row (fun ad ha => by
          rw [← hws]
          exact Below.heap_setCell wq ⟨g, 1, none⟩ _ _ (fun e => (HPQ.out.not_two (HPQ.out.inn.file _ HQ0.out.2.2) ad.block (.inr ⟨ad, ha, rfl⟩)).1 e)))
        have ZS : Hid (ws.heap.size = wq.heap.size) := Lib.hid (by rw [← hws]; simp)
        rw [hws]
        clear hws hss a0 a1 c1q f1q HSV
        obtain ⟨t, ht⟩ : ∃ t : Nat, y + kv = t := ⟨_, rfl⟩
        have hzt : (z : Int) - (v : Int) = (t : Int) := by have := HQ.out.2.2.2; have := HVV.out; omega
        have htz : t ≤ z := by omega
        rw [ht] at HV
        have HTK : Hid ((ql.take t).length = t) := Lib.hid (by have := HQ.out.2.2.1; simp; omega)
        obtain ⟨sl, -⟩ := slice_high RS.out.lies z t qc HQ.out.2.2.1 htz hqc
        have HCL := Lib.hid (fun (W : World) (hb : Below ws.heap.size ws W) => clone_n qa (ql.take t) t qc W HTK.out (slice_high (RS.out.kept hb (Nat.le_refl _)).lies z t qc HQ.out.2.2.1 htz hqc).2 (by omega))
        obtain ⟨a0, -⟩ := FS.out.cell
        unfold Sl.val at a0
        simp only at a0
        rw [HQ.out.2.2.1] at a0
        have htq : (t : Int) ≤ (qc : Int) := by omega
        have hwT : IntKind.i64.wrap (t : Int) = (t : Int) := by simp only [IntKind.wrap_i64]; omega
        have HTQ := Lib.hid ht
        clear ht
        go_cut [5] from 53 to 68 (fun t5 wx => t5 = .int .i64 ((m : Int) + 1) ∧ ∃ A7 c7, Hid (FileAt wx qh ⟨A7, c7, ql.take t⟩ y) ∧ Hid (PkAt wx g { p' with size := ss }) ∧ Hid (Row wx wq.heap.size A7 c7 (ql.take t)) ∧ Hid (Does (Two g qh) (Two g qh) wq wx))
        case first =>
          go_region_law (first
            | (go_simp; go_at_call 34; refine (HCL.out _ (by repeat (first | exact Below.refl _ _ | refine Below.drew ?_))).mono ?_; rintro e w7 ⟨A7, c7, rfl, r7, b7⟩; have R7 := Lib.hid r7; have B7 : Hid (Below ws.heap.size ws w7) := Lib.hid ((by repeat (first | exact Below.refl _ _ | refine Below.drew ?_) : Below ws.heap.size ws _).trans b7); have v0 : w7.cell? ⟨qh, 0, none⟩ = some (.slice qa z qc) := (B7.out.cell FS.out.lt).trans a0; have v1 : w7.frozen? ⟨qh, 0, none⟩ = false := (World.frozen?_of_block (B7.out.block qh FS.out.lt)).trans (FS.out.frozen 0); clear r7 b7))
          all_goals
            go_wp2_with fail
            go_meet
            obtain ⟨x1, x2, x3, x4⟩ := file_set FS.out KS.out B7.out R7.out HTK.out
            exact ⟨rfl, A7, c7, Lib.hid x1, Lib.hid x2, Lib.hid (own_mono x3 (by have := ZS.out; show _ ≤ ws.heap.size; omega)), Lib.hid (DS.out.trans x4)⟩
        case rest =>
          obtain ⟨rfl, A7, c7, x1, x2, x3, x4⟩ := hcut
          obtain ⟨y0, y1⟩ := x1.out.cell
          unfold Sl.val at y0
          simp only at y0
          rw [HTK.out] at y0
          have y2 := x1.out.frozen 1
          clear a0
          go_wp2_with fail
          go_roundw
          case rel =>
            have hx2 : FileAt (wc.setCell ⟨qh, 1, none⟩ (.int .i64 t)) qh ⟨A7, c7, ql.take t⟩ t := FileAt.set1 x1.out
            have hx3 : PkAt (wc.setCell ⟨qh, 1, none⟩ (.int .i64 t)) g { p' with size := ss } := pk_block x2.out (Below.heap_setCell wc ⟨qh, 1, none⟩ _ g hneg)
            have hx4 : Row (wc.setCell ⟨qh, 1, none⟩ (.int .i64 t)) wq.heap.size A7 c7 (ql.take t) := own_block x3.out (fun ad ha => Below.heap_setCell wc ⟨qh, 1, none⟩ _ _ (fun e => by
              obtain ⟨cur, hc⟩ := own_type x3.out ha
              have := x1.out
              unfold FileAt at this
              rw [e, this] at hc
              injection hc with hc
              injection hc with _ hc
              exact absurd hc (by decide)))
            obtain ⟨r1, r2⟩ := HPQ.out.revived (s := ss) HQ0.out.1 hx2 hx3 hx4 (HQ.out.2.1.take _) (by
              rw [← HSS.out]
              congr 2
              have := HQ.out.2.2.1
              have := HTK.out
              simp only
              omega) (x4.out.trans (does_set (.inr rfl)))
            obtain ⟨q1, q2⟩ := revP_step (q' := ⟨qs, qh, ⟨A7, c7, ql.take t⟩, (t : Int)⟩) HQ0.out.1 HQ0.out.2.1 HV.out hrev.out
            exact ⟨k + 1, m + 1, _, by omega, by omega, by go_num, by go_num, Lib.hid r1, Lib.hid (by rw [List.length_set]; exact hl2.out), hkp, Lib.hid (by rw [set_names (q' := ⟨qs, qh, ⟨A7, c7, ql.take t⟩, (t : Int)⟩) HQ0.out.1 rfl]; exact hnm.out), Lib.hid q1, Lib.hid (fun x hx => hin.out x (by rw [HQ0.out.2.1]; rw [q2] at hx; exact List.mem_cons_of_mem _ hx)), Lib.hid ((hdo.out.trans (Does.of_below BQ.out (fun _ hk => .inl hk))).trans r2)⟩
          case measure => simp [intOf]; omega
    · obtain rfl : k = n := by omega
      have hrv := hrev.out
      rw [List.take_of_length_le (by have := hl2.out; omega), List.drop_of_length_le (by have := hl2.out; omega)] at hrv
      have HRV : Hid (p'.l.map Pf.rd = R) := Lib.hid (by simpa [revL] using hrv)
      have HD : Hid (Does (p.own g) (p'.own g) w wr) := Lib.hid ((Does.of_below B2.out (fun _ hk => .inl hk)).trans hdo.out)
      have hze : wr.heap[w.heap.size]? = w1.heap[w.heap.size]? := by
        have h1 := hdo.out.block w.heap.size (by have := R1.out.2.size; have := HS1.out; omega) (fun hk => by have := HOW.out _ hk; omega)
        rw [h1, R1.out.2.block _ (by have := HS1.out; omega)]
      obtain ⟨z0, z1, z2⟩ := HZ.out
      rw [← World.cell?_of_block (w := w1) (w' := wr) (a := ⟨w.heap.size, 0, none⟩) hze] at z0
      rw [← World.cell?_of_block (w := w1) (w' := wr) (a := ⟨w.heap.size, 1, none⟩) hze] at z1
      rw [← World.cell?_of_block (w := w1) (w' := wr) (a := ⟨w.heap.size, 2, none⟩) hze] at z2
      have HBG := Lib.hid (HB.out wr p' hs.out (Lies.does HK.out.1 HD.out HK.out.2))
      clear hrv hze
      go_wp2_with (go_at_call 46; refine HBG.out.mono ?_; rintro e w9 ⟨rfl, A9, c9, h9, d9⟩; have E9 := Lib.hid (And.intro h9 d9); clear h9 d9)
      go_ret
      refine ⟨rfl, _, E9.out.1, ?_, HD.out.trans E9.out.2⟩
      show (⟨p'.l.map Pf.rd, room, ops, keep, false⟩ : Vm) = ⟨revL p.keep 0 (p.l.map Pf.rd), room, ops, keep, false⟩
      rw [HRV.out, HR.out]

end Go.Proofs.Ytjacjafpeajhaaa
