import Derived.Test.YtfealajbibofiaaTrMem
/- A new node at a pointer that is nil; a value at a node (mathematics of memory). -/
set_option linter.unusedVariables false
set_option linter.unusedSimpArgs false
namespace Go.Proofs.Ytfealajbibofiaa.trgraft
open Go.RowKit Go.Proofs.Ytfealajbibofiaa.math1 Go.Proofs.Ytfealajbibofiaa.trmath Go.Proofs.Ytfealajbibofiaa.trmem

/-- the cell that holds the pointer to the subtree at the first k turns -/
def link (t : Nat) (T : Tr) (a : Int) : Nat → Option Addr
  | 0 => some ⟨t, 0, none⟩
  | k + 1 => match T.sub (path a k) with
    | .nil => none
    | .node b _ _ _ _ => some ⟨b, if turn a k then 1 else 0, none⟩

theorem link_cell {w : World} {t : Nat} {T : Tr} {m c a : Int} {k : Nat} {L : Addr} (h : Tri w t T m c) (hl : link t T a k = some L) : w.cell? L = some (T.sub (path a k)).ptr ∧ w.frozen? L = false ∧ own t T L.block ∧ L.block < w.heap.size := by
  match k with
  | 0 =>
    simp only [link, Option.some.injEq] at hl
    subst hl
    exact ⟨h.c0, h.fz 0 (by omega), .inl rfl, h.lt (.inl rfl)⟩
  | k + 1 =>
    cases hs : T.sub (path a k) with
    | nil => simp only [link, hs] at hl; cases hl
    | node b l r v hh =>
      simp only [link, hs, Option.some.injEq] at hl
      have hin := in_sub h.tin (path a k)
      rw [hs] at hin
      obtain ⟨c0, c1, _, _, fz, _, _⟩ := hin
      have hb : b ∈ T.blocks := Tr.sub_blocks (π := path a k) (by rw [hs]; exact List.mem_cons_self ..)
      subst hl
      rw [path, Tr.sub_snoc, hs]
      cases turn a k
      · exact ⟨c0, fz 0 (by omega), .inr hb, in_lt h.tin b hb⟩
      · exact ⟨c1, fz 1 (by omega), .inr hb, in_lt h.tin b hb⟩

/-- a node of nothing where there was none -/
theorem graft {w : World} {t : Nat} {T : Tr} {m c a : Int} {k : Nat} {L : Addr} (h : Tri w t T m c) (hl : link t T a k = some L) (hs : T.sub (path a k) = .nil) (z : Value) (ty : TypeId) :
    ∃ T', Tri ((w.alloc (.cells #[.pointer none, .pointer none, z, .bool false] ty)).setCell L (.pointer (some ⟨w.heap.size, 0, none⟩))) t T' m c ∧ T'.sub (path a k) = .node w.heap.size .nil .nil z false ∧ (∀ σ, T'.get σ = T.get σ) ∧ (∀ x, x ∈ T'.blocks → x ∈ T.blocks ∨ x = w.heap.size) ∧ link t T' a k = some L ∧ (∀ ρ, T'.sub ρ ≠ .nil → T.sub ρ ≠ .nil ∨ ρ.length ≤ k) := by
  obtain ⟨lc, lf, lo, llt⟩ := link_cell h hl
  have hB : ∀ i, ((w.alloc (.cells #[.pointer none, .pointer none, z, .bool false] ty)).setCell L (.pointer (some ⟨w.heap.size, 0, none⟩))).cell? ⟨w.heap.size, i, none⟩ = (w.alloc (.cells #[.pointer none, .pointer none, z, .bool false] ty)).cell? ⟨w.heap.size, i, none⟩ := fun i =>
    World.cell?_setCell_other _ _ _ _ (fun e => by have := congrArg Addr.block e; dsimp only at this; omega)
  have hN : In ((w.alloc (.cells #[.pointer none, .pointer none, z, .bool false] ty)).setCell L (.pointer (some ⟨w.heap.size, 0, none⟩))) (.node w.heap.size .nil .nil z false) := by
    refine ⟨?_, ?_, ?_, ?_, fun i _ => ?_, trivial, trivial⟩
    · rw [hB]; go_simp; rfl
    · rw [hB]; go_simp; rfl
    · rw [hB]; go_simp
    · rw [hB]; go_simp
    · rw [World.frozen?_setCell]; exact World.frozen?_alloc_at _ _ _ _ rfl
  have hw : ∀ p v, w.cell? p = some v → p ≠ L → ((w.alloc (.cells #[.pointer none, .pointer none, z, .bool false] ty)).setCell L (.pointer (some ⟨w.heap.size, 0, none⟩))).cell? p = some v := fun p v hp hne =>
    (World.cell?_setCell_other _ _ _ _ (fun e => hne e.symm)).trans (aid.ca _ hp)
  have hf : ∀ p, p.block < w.heap.size → w.frozen? p = false → ((w.alloc (.cells #[.pointer none, .pointer none, z, .bool false] ty)).setCell L (.pointer (some ⟨w.heap.size, 0, none⟩))).frozen? p = false := fun p hp hq => by
    rw [World.frozen?_setCell, World.frozen?_of_block (w := w) (Below.heap_alloc _ _ _ hp)]; exact hq
  have hL : ((w.alloc (.cells #[.pointer none, .pointer none, z, .bool false] ty)).setCell L (.pointer (some ⟨w.heap.size, 0, none⟩))).cell? L = some (.pointer (some ⟨w.heap.size, 0, none⟩)) := World.cell?_setCell_same _ _ _ (aid.ca _ lc)
  have hh : ∀ x, x < w.heap.size → x ≠ L.block → ((w.alloc (.cells #[.pointer none, .pointer none, z, .bool false] ty)).setCell L (.pointer (some ⟨w.heap.size, 0, none⟩))).heap[x]? = w.heap[x]? := fun x hx hne =>
    (Below.heap_setCell _ _ _ _ hne).trans (Below.heap_alloc _ _ _ hx)
  obtain ⟨w2, hw2⟩ : ∃ w2, w2 = (w.alloc (.cells #[.pointer none, .pointer none, z, .bool false] ty)).setCell L (.pointer (some ⟨w.heap.size, 0, none⟩)) := ⟨_, rfl⟩
  rw [← hw2] at hN hw hf hL hh ⊢
  have htl := h.lt (.inl rfl)
  match k with
  | 0 =>
    simp only [link, Option.some.injEq] at hl
    subst hl
    obtain rfl : T = .nil := hs
    exact ⟨.node w.heap.size .nil .nil z false, ⟨hL, hw _ _ h.c1 (by simp), hw _ _ h.c2 (by simp), fun i hi => hf _ htl (h.fz i hi), hN, by simp [Tr.blocks], by simp [Tr.blocks]; omega⟩, rfl, fun σ => by
      rw [Tr.get_nil]
      match σ with
      | [] => rfl
      | d :: σ => cases d <;> exact Tr.get_nil σ, fun x hx => .inr (by simpa [Tr.blocks] using hx), rfl, fun ρ hρ => .inr (by
      match ρ with
      | [] => exact Nat.le_refl _
      | d :: ρ => cases d <;> exact absurd (Tr.sub_nil _) hρ)⟩
  | k + 1 =>
    cases hsk : T.sub (path a k) with
    | nil => simp only [link, hsk] at hl; cases hl
    | node b l r v hv =>
      have hkid : Tr.kid (.node b l r v hv) (turn a k) = .nil := by rw [← hsk, ← Tr.sub_snoc]; exact hs
      simp only [link, hsk, Option.some.injEq] at hl
      subst hl
      have hin := in_sub h.tin (path a k)
      have hnd := nodup_sub h.nd (path a k)
      rw [hsk] at hin hnd
      obtain ⟨c0, c1, c2, c3, fz, il, ir⟩ := hin
      obtain ⟨n1, n2, n3, n4, n5⟩ := Tr.nodup_kids hnd
      have hre : Tr.Reach T (path a k) := Tr.reach_of_sub (by rw [hsk]; exact fun h => by cases h)
      have hbT : b ∈ T.blocks := Tr.sub_blocks (π := path a k) (by rw [hsk]; exact List.mem_cons_self ..)
      have hbl := in_lt h.tin b hbT
      have hnew : ∀ x, x ∈ T.blocks → x ≠ w.heap.size := fun x hx e => by have := in_lt h.tin x hx; omega
      have hsub : ∀ x, x ∈ l.blocks ∨ x ∈ r.blocks → x ∈ T.blocks := fun x hx => Tr.sub_blocks (π := path a k) (by rw [hsk]; exact List.mem_cons_of_mem _ (List.mem_append.2 hx))
      cases ht : turn a k
      · rw [ht] at hkid hw hL hh
        simp only [Bool.false_eq_true, if_false] at hw hL hh
        obtain rfl : l = .nil := hkid
        refine ⟨T.rep (path a k) (.node b (.node w.heap.size .nil .nil z false) r v hv), ⟨?_, hw _ _ h.c1 (fun e => ?_), hw _ _ h.c2 (fun e => ?_), fun i hi => hf _ htl (h.fz i hi), ?_, ?_, ?_⟩, ?_, ?_, ?_, ?_, ?_⟩
        · rw [Tr.rep_ptr hre (by rw [hsk]; rfl)]
          exact hw _ _ h.c0 (fun e => by have := congrArg Addr.block e; dsimp only at this; exact h.nt (this ▸ hbT))
        · have := congrArg Addr.block e; dsimp only at this; exact h.nt (this ▸ hbT)
        · have := congrArg Addr.block e; dsimp only at this; exact h.nt (this ▸ hbT)
        · refine rep_in h.tin hre ⟨hL, hw _ _ c1 (by simp), hw _ _ c2 (by simp), hw _ _ c3 (by simp), fun i hi => hf _ hbl (fz i hi), hN, in_same ir (fun x hx => hh x (in_lt ir x hx) (fun e => n2 (e ▸ hx)))⟩ (by rw [hsk]; rfl) h.nd (fun x hx hns => hh x (in_lt h.tin x hx) (fun e => hns (by rw [e, hsk]; exact List.mem_cons_self ..)))
        · refine Tr.rep_nodup hre h.nd (Tr.nodup_mk ?_ n2 (by simp [Tr.blocks]) n4 (fun x hx hr => ?_)) (fun x hx => ?_)
          · intro e; simp [Tr.blocks] at e; omega
          · simp [Tr.blocks] at hx; exact hnew x (hsub x (.inr hr)) hx
          · rw [hsk]
            rcases List.mem_cons.1 hx with rfl | hx
            · exact .inl (List.mem_cons_self ..)
            · rcases List.mem_append.1 hx with hx | hx
              · simp [Tr.blocks] at hx; exact .inr (fun hT => hnew x hT hx)
              · exact .inl (List.mem_cons_of_mem _ (List.mem_append_right _ hx))
        · intro hx
          rcases Tr.rep_blocks hx with hx | hx
          · exact h.nt hx
          · rcases List.mem_cons.1 hx with e | hx
            · exact h.nt (e ▸ hbT)
            · rcases List.mem_append.1 hx with hx | hx
              · simp [Tr.blocks] at hx; omega
              · exact h.nt (hsub _ (.inr hx))
        · rw [path, Tr.sub_snoc, Tr.sub_rep hre, ht]; rfl
        · intro σ
          rw [Tr.get_rep hre (fun σ hne => ?_)]
          · by_cases e : σ = path a k
            · rw [if_pos e, e, Tr.get, hsk]; rfl
            · rw [if_neg e]
          · rw [hsk]
            match σ with
            | [] => exact absurd rfl hne
            | true :: σ => rfl
            | false :: σ =>
              rw [Tr.get_cons, Tr.get_cons]
              rw [show Tr.kid (.node b .nil r v hv) false = .nil from rfl, Tr.get_nil]
              match σ with
              | [] => rfl
              | d :: σ => cases d <;> exact Tr.get_nil σ
        · intro x hx
          rcases Tr.rep_blocks hx with hx | hx
          · exact .inl hx
          · rcases List.mem_cons.1 hx with e | hx
            · exact .inl (e ▸ hbT)
            · rcases List.mem_append.1 hx with hx | hx
              · simp [Tr.blocks] at hx; exact .inr hx
              · exact .inl (hsub _ (.inr hx))
        · simp only [link, Tr.sub_rep hre, ht]
        · refine Tr.sub_rep_ne (fun ρ => ρ.length ≤ k + 1) hre (fun σ hσ => ?_)
          rw [hsk]
          match σ with
          | [] => exact .inl (fun e => by cases e)
          | true :: σ => exact .inl hσ
          | false :: σ =>
            match σ with
            | [] => exact .inr (by rw [List.length_append, path_len]; exact Nat.le_refl _)
            | d :: σ => cases d <;> exact absurd (Tr.sub_nil _) hσ
      · rw [ht] at hkid hw hL hh
        simp only [if_true] at hw hL hh
        obtain rfl : r = .nil := hkid
        refine ⟨T.rep (path a k) (.node b l (.node w.heap.size .nil .nil z false) v hv), ⟨?_, hw _ _ h.c1 (fun e => ?_), hw _ _ h.c2 (fun e => ?_), fun i hi => hf _ htl (h.fz i hi), ?_, ?_, ?_⟩, ?_, ?_, ?_, ?_, ?_⟩
        · rw [Tr.rep_ptr hre (by rw [hsk]; rfl)]
          exact hw _ _ h.c0 (fun e => by have := congrArg Addr.block e; dsimp only at this; exact h.nt (this ▸ hbT))
        · have := congrArg Addr.block e; dsimp only at this; exact h.nt (this ▸ hbT)
        · have := congrArg Addr.block e; dsimp only at this; exact h.nt (this ▸ hbT)
        · refine rep_in h.tin hre ⟨hw _ _ c0 (by simp), hL, hw _ _ c2 (by simp), hw _ _ c3 (by simp), fun i hi => hf _ hbl (fz i hi), in_same il (fun x hx => hh x (in_lt il x hx) (fun e => n1 (e ▸ hx))), hN⟩ (by rw [hsk]; rfl) h.nd (fun x hx hns => hh x (in_lt h.tin x hx) (fun e => hns (by rw [e, hsk]; exact List.mem_cons_self ..)))
        · refine Tr.rep_nodup hre h.nd (Tr.nodup_mk n1 ?_ n3 (by simp [Tr.blocks]) (fun x hx hr => ?_)) (fun x hx => ?_)
          · intro e; simp [Tr.blocks] at e; omega
          · simp [Tr.blocks] at hr; exact hnew x (hsub x (.inl hx)) hr
          · rw [hsk]
            rcases List.mem_cons.1 hx with rfl | hx
            · exact .inl (List.mem_cons_self ..)
            · rcases List.mem_append.1 hx with hx | hx
              · exact .inl (List.mem_cons_of_mem _ (List.mem_append_left _ hx))
              · simp [Tr.blocks] at hx; exact .inr (fun hT => hnew x hT hx)
        · intro hx
          rcases Tr.rep_blocks hx with hx | hx
          · exact h.nt hx
          · rcases List.mem_cons.1 hx with e | hx
            · exact h.nt (e ▸ hbT)
            · rcases List.mem_append.1 hx with hx | hx
              · exact h.nt (hsub _ (.inl hx))
              · simp [Tr.blocks] at hx; omega
        · rw [path, Tr.sub_snoc, Tr.sub_rep hre, ht]; rfl
        · intro σ
          rw [Tr.get_rep hre (fun σ hne => ?_)]
          · by_cases e : σ = path a k
            · rw [if_pos e, e, Tr.get, hsk]; rfl
            · rw [if_neg e]
          · rw [hsk]
            match σ with
            | [] => exact absurd rfl hne
            | false :: σ => rfl
            | true :: σ =>
              rw [Tr.get_cons, Tr.get_cons]
              rw [show Tr.kid (.node b l .nil v hv) true = .nil from rfl, Tr.get_nil]
              match σ with
              | [] => rfl
              | d :: σ => cases d <;> exact Tr.get_nil σ
        · intro x hx
          rcases Tr.rep_blocks hx with hx | hx
          · exact .inl hx
          · rcases List.mem_cons.1 hx with e | hx
            · exact .inl (e ▸ hbT)
            · rcases List.mem_append.1 hx with hx | hx
              · exact .inl (hsub _ (.inl hx))
              · simp [Tr.blocks] at hx; exact .inr hx
        · simp only [link, Tr.sub_rep hre, ht]
        · refine Tr.sub_rep_ne (fun ρ => ρ.length ≤ k + 1) hre (fun σ hσ => ?_)
          rw [hsk]
          match σ with
          | [] => exact .inl (fun e => by cases e)
          | false :: σ => exact .inl hσ
          | true :: σ =>
            match σ with
            | [] => exact .inr (by rw [List.length_append, path_len]; exact Nat.le_refl _)
            | d :: σ => cases d <;> exact absurd (Tr.sub_nil _) hσ
end Go.Proofs.Ytfealajbibofiaa.trgraft
