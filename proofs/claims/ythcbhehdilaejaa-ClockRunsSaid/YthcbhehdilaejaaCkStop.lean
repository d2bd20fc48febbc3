import Derived.Test.YthcbhehdilaejaaCkSet
/- The clock: Stop, When, Now, Len. -/
set_option linter.unusedVariables false
set_option linter.unusedSimpArgs false
namespace Go.Proofs.Ythcbhehdilaejaa.ck
open Go.RowKit Go.Lib Go.Proofs.Ythcbhehdilaejaa.ckmath

theorem ck_rm {w w' : World} {B c : Nat} {v : Value} {now a name : Int} {M : List E} {l : Array E} (H : Ck w B c v now ((a, name) :: M)) (p : l.toList.Perm ((a, name) :: M)) {w1 : World} (hb : Below w.heap.size w w1) (r : Rm w1 B c v now l (a, name) w') : ∃ v', Ck w' B c v' now M ∧ Tr w c v w' v' := by
  obtain ⟨v', l', h1, h2, h3⟩ := r.is
  refine ⟨v', ⟨⟨l', h1, (h3.symm.trans p).cons_inv⟩, ?_, ?_, H.t0, H.t1, fun x hx => H.ats x (List.mem_cons_of_mem _ hx)⟩, (Tr.of_below hb).trans h2⟩
  · have := H.nd
    simp only [List.map_cons, List.nodup_cons] at this
    exact this.2
  · have := H.le
    simp at this; omega

set_option maxRecDepth 100000 in
set_option maxHeartbeats 2000000 in
theorem stop_yes {w : World} {B c : Nat} {v : Value} {now a name : Int} {M : List E} (H : Ck w B c v now ((a, name) :: M)) :
    Calls Try.prog 10 #[.pointer (some ⟨c, 0, none⟩), .int .i64 name] w fun e w' => e = .returned (.bool true) ∧ ∃ v', Ck w' B c v' now M ∧ Tr w c v w' v' := by
  obtain ⟨l, h, p⟩ := H.ex
  have hsz : l.size ≤ 256 := by have := p.length_eq; have := H.le; simp at *; omega
  have c1 := h.hp.c1
  have K0 := Lib.hid (find_any h.hp name (by omega))
  have HH := Lib.hid h
  have PP := Lib.hid p
  have CK := Lib.hid H
  have HZ := Lib.hid hsz
  clear h p H hsz
  go_enter Try.func10, Try.ntmps10
  go_wp2_with fail
  refine K0.out.mono ?_
  rintro e w1 ⟨r, rfl, hf, hb1⟩
  obtain ⟨i, rfl, hi, hx⟩ := find_hit PP.out CK.out.nd hf
  have BB := Lib.hid hb1
  have i3 : ¬ ((i : Int) < 0) := by omega
  have K1 := Lib.hid (hremove_any (HH.out.below hb1) i hi (by have := HZ.out; omega) a name hx)
  clear hf hb1 hi hx K0 c1
  go_wp2_with fail
  refine K1.out.mono ?_
  rintro e w2 ⟨rfl, r⟩
  have RES := Lib.hid (ck_rm CK.out PP.out BB.out r)
  clear r K1
  go_wp2_with fail
  go_ret
  exact ⟨rfl, RES.out⟩
set_option maxRecDepth 100000 in
set_option maxHeartbeats 2000000 in
theorem stop_no {w : World} {B c : Nat} {v : Value} {now name : Int} {L : List E} (H : Ck w B c v now L) (hn : ∀ x ∈ L, x.2 ≠ name) :
    Calls Try.prog 10 #[.pointer (some ⟨c, 0, none⟩), .int .i64 name] w fun e w' => e = .returned (.bool false) ∧ Below w.heap.size w w' := by
  obtain ⟨l, h, p⟩ := H.ex
  have hsz : l.size ≤ 256 := by have := p.length_eq; have := H.le; simp at *; omega
  have c1 := h.hp.c1
  have K0 := Lib.hid (find_any h.hp name (by omega))
  have PP := Lib.hid p
  have HNN := Lib.hid hn
  clear h p H hsz hn
  go_enter Try.func10, Try.ntmps10
  go_wp2_with fail
  refine K0.out.mono ?_
  rintro e w1 ⟨r, rfl, hf, hb1⟩
  obtain rfl := find_miss PP.out HNN.out hf
  have BB := Lib.hid hb1
  clear hf hb1 K0
  go_wp2_with fail
  go_ret
  exact ⟨rfl, BB.out⟩
set_option maxRecDepth 100000 in
set_option maxHeartbeats 2000000 in
theorem when_yes {w : World} {B c : Nat} {v : Value} {now a name : Int} {M : List E} (H : Ck w B c v now ((a, name) :: M)) :
    Calls Try.prog 11 #[.pointer (some ⟨c, 0, none⟩), .int .i64 name] w fun e w' => e = .returned (.tuple #[.int .i64 a, .bool true]) ∧ Below w.heap.size w w' := by
  obtain ⟨l, h, p⟩ := H.ex
  have hsz : l.size ≤ 256 := by have := p.length_eq; have := H.le; simp at *; omega
  have hsz0 : 0 < l.size := by have := p.length_eq; simp at *; omega
  have c1 := h.hp.c1
  obtain ⟨g, cap, rfl, _⟩ := h.hp.form hsz0
  have K0 := Lib.hid (find_any h.hp name (by omega))
  have HH := Lib.hid h
  have PP := Lib.hid p
  have ND := Lib.hid H.nd
  clear h p H hsz hsz0
  go_enter Try.func11, Try.ntmps11
  go_wp2_with fail
  refine K0.out.mono ?_
  rintro e w1 ⟨r, rfl, hf, hb1⟩
  obtain ⟨i, rfl, hi, hx⟩ := find_hit PP.out ND.out hf
  have BB := Lib.hid hb1
  have H1 := HH.out.below hb1
  have b1 := H1.hp.c1
  have r0 := ((own2_row H1.hp.own).2 i hi).1
  rw [hx] at r0
  dsimp only at r0
  have i1 : (0 : Int) ≤ (i : Int) := by omega
  have i2 : (i : Int) < (l.size : Int) := by omega
  have i3 : ¬ ((i : Int) < 0) := by omega
  clear hf hb1 hx K0 c1 H1
  go_wp2_with fail
  exact bodyPost_ret (v := .tuple #[.int .i64 a, .bool true]) (by simp [results, Try.results11, go_sem]) rfl ⟨rfl, BB.out⟩
set_option maxRecDepth 100000 in
set_option maxHeartbeats 2000000 in
theorem when_no {w : World} {B c : Nat} {v : Value} {now name : Int} {L : List E} (H : Ck w B c v now L) (hn : ∀ x ∈ L, x.2 ≠ name) :
    Calls Try.prog 11 #[.pointer (some ⟨c, 0, none⟩), .int .i64 name] w fun e w' => e = .returned (.tuple #[.int .i64 0, .bool false]) ∧ Below w.heap.size w w' := by
  obtain ⟨l, h, p⟩ := H.ex
  have hsz : l.size ≤ 256 := by have := p.length_eq; have := H.le; simp at *; omega
  have c1 := h.hp.c1
  have K0 := Lib.hid (find_any h.hp name (by omega))
  have PP := Lib.hid p
  have HNN := Lib.hid hn
  clear h p H hsz hn
  go_enter Try.func11, Try.ntmps11
  go_wp2_with fail
  refine K0.out.mono ?_
  rintro e w1 ⟨r, rfl, hf, hb1⟩
  obtain rfl := find_miss PP.out HNN.out hf
  have BB := Lib.hid hb1
  clear hf hb1 K0
  go_wp2_with fail
  exact bodyPost_ret (v := .tuple #[.int .i64 0, .bool false]) (by simp [results, Try.results11, go_sem]) rfl ⟨rfl, BB.out⟩
set_option maxRecDepth 100000 in
theorem now_any {w : World} {B c : Nat} {v : Value} {now : Int} {L : List E} (H : Ck w B c v now L) :
    Calls Try.prog 13 #[.pointer (some ⟨c, 0, none⟩)] w fun e w' => e = .returned (.int .i64 now) ∧ w = w' := by
  obtain ⟨l, h, p⟩ := H.ex
  have c0 := h.hp.c0
  clear h p H
  go_enter Try.func13, Try.ntmps13
  go_wp2_with fail
  go_ret
  exact ⟨rfl, rfl⟩
set_option maxRecDepth 100000 in
theorem clen_any {w : World} {B c : Nat} {v : Value} {now : Int} {L : List E} (H : Ck w B c v now L) (N : Nat) (hN : L.length = N) :
    Calls Try.prog 14 #[.pointer (some ⟨c, 0, none⟩)] w fun e w' => e = .returned (.int .i64 N) ∧ w = w' := by
  obtain ⟨l, h, p⟩ := H.ex
  have c1 := h.hp.c1
  obtain ⟨a, cap, hv⟩ := h.hp.shape
  have e : l.size = N := by have := p.length_eq; simp at *; omega
  rw [hv, e] at c1
  clear h p H hv e hN
  go_enter Try.func14, Try.ntmps14
  go_wp2_with fail
  go_ret
  exact ⟨rfl, rfl⟩
end Go.Proofs.Ythcbhehdilaejaa.ck
