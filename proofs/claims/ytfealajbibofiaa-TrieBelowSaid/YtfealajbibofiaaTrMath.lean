import Derived.Test.YtfealajbibofiaaAid
import Derived.Test.YtfealajbibofiaaMath2
/- Tries with the blocks of their nodes: what stands at a path, and what becomes of it (mathematics). -/
set_option linter.unusedVariables false
set_option linter.unusedSimpArgs false
namespace Go.Proofs.Ytfealajbibofiaa.trmath
open Go.RowKit Go.Proofs.Ytfealajbibofiaa.math1

inductive Tr where
  | nil
  | node (b : Nat) (l r : Tr) (v : Value) (h : Bool)

namespace Tr
def ptr : Tr → Value
  | nil => .pointer none
  | node b _ _ _ _ => .pointer (some ⟨b, 0, none⟩)
def val : Tr → Option Value
  | nil => none
  | node _ _ _ v h => if h then some v else none
def kid : Tr → Bool → Tr
  | nil, _ => nil
  | node _ l r _ _, c => if c then r else l
def sub : Tr → List Bool → Tr
  | T, [] => T
  | T, c :: π => sub (T.kid c) π
def get (T : Tr) (π : List Bool) : Option Value := (T.sub π).val
def blocks : Tr → List Nat
  | nil => []
  | node b l r _ _ => b :: (l.blocks ++ r.blocks)
/-- all above a path is there -/
def Reach : Tr → List Bool → Prop
  | _, [] => True
  | T, c :: π => T ≠ nil ∧ Reach (T.kid c) π
/-- another subtree at a path -/
def rep : Tr → List Bool → Tr → Tr
  | _, [], U => U
  | nil, _ :: _, _ => nil
  | node b l r v h, c :: π, U => if c then node b l (rep r π U) v h else node b (rep l π U) r v h

theorem sub_nil (π : List Bool) : sub nil π = nil := by
  induction π with
  | nil => rfl
  | cons c π ih => exact ih
theorem sub_append (T : Tr) (π σ : List Bool) : sub T (π ++ σ) = sub (sub T π) σ := by
  induction π generalizing T with
  | nil => rfl
  | cons c π ih => exact ih _
theorem sub_snoc (T : Tr) (π : List Bool) (c : Bool) : sub T (π ++ [c]) = (sub T π).kid c := sub_append T π [c]
theorem get_nil (σ : List Bool) : get nil σ = none := by rw [get, sub_nil]; rfl
theorem get_cons (T : Tr) (c : Bool) (σ : List Bool) : get T (c :: σ) = get (T.kid c) σ := rfl
theorem get_sub (T : Tr) (π σ : List Bool) : get (sub T π) σ = get T (π ++ σ) := by rw [get, get, sub_append]
theorem reach_snoc {T : Tr} {π : List Bool} {c : Bool} (h : Reach T π) (hn : sub T π ≠ nil) : Reach T (π ++ [c]) := by
  induction π generalizing T with
  | nil => exact ⟨hn, trivial⟩
  | cons d π ih => exact ⟨h.1, ih h.2 hn⟩
theorem reach_of_sub {T : Tr} {π : List Bool} (hn : sub T π ≠ nil) : Reach T π := by
  induction π generalizing T with
  | nil => trivial
  | cons d π ih =>
    refine ⟨fun h => hn ?_, ih hn⟩
    rw [h]; exact sub_nil _
theorem rep_top (T U : Tr) : rep T [] U = U := by cases T <;> rfl
theorem rep_ptr {T U : Tr} {π : List Bool} (h : Reach T π) (hU : U.ptr = (sub T π).ptr) : (rep T π U).ptr = T.ptr := by
  match T, π with
  | T, [] => rw [rep_top]; exact hU
  | nil, _ :: _ => rfl
  | node b l r v hh, c :: π => cases c <;> rfl
theorem sub_rep {T U : Tr} {π : List Bool} (h : Reach T π) : sub (rep T π U) π = U := by
  induction π generalizing T with
  | nil => cases T <;> rfl
  | cons c π ih =>
    match T with
    | nil => exact absurd rfl h.1
    | node b l r v hh =>
      cases c
      · exact ih (T := l) h.2
      · exact ih (T := r) h.2
theorem rep_node (T U : Tr) {π : List Bool} (h : Reach T π) (hU : U ≠ nil) : rep T π U ≠ nil := by
  match T, π with
  | T, [] => cases T <;> exact hU
  | nil, _ :: _ => exact absurd rfl h.1
  | node b l r v hh, c :: π => cases c <;> exact fun h => by cases h
theorem reach_rep {T U : Tr} {π : List Bool} (h : Reach T π) : Reach (rep T π U) π := by
  induction π generalizing T with
  | nil => trivial
  | cons c π ih =>
    match T with
    | nil => exact absurd rfl h.1
    | node b l r v hh =>
      cases c
      · exact ⟨by simp [rep], ih (T := l) h.2⟩
      · exact ⟨by simp [rep], ih (T := r) h.2⟩
/-- what stands there, when another subtree has come in which just one path may differ -/
theorem get_rep {T U : Tr} {π : List Bool} (h : Reach T π) (hU : ∀ σ, σ ≠ [] → get U σ = get (sub T π) σ) (σ : List Bool) : get (rep T π U) σ = if σ = π then U.val else get T σ := by
  induction π generalizing T σ with
  | nil =>
    have e : rep T [] U = U := by cases T <;> rfl
    rw [e]
    by_cases hs : σ = []
    · rw [if_pos hs, hs]; rfl
    · rw [if_neg hs]; exact hU σ hs
  | cons c π ih =>
    match T with
    | nil => exact absurd rfl h.1
    | node b l r v hh =>
      match σ with
      | [] => rw [if_neg (by simp)]; cases c <;> rfl
      | d :: σ =>
        cases c <;> cases d
        · have := ih (T := l) h.2 hU σ
          rw [show get (rep (node b l r v hh) (false :: π) U) (false :: σ) = get (rep l π U) σ from rfl, this]
          by_cases e : σ = π
          · rw [if_pos e, if_pos (by rw [e])]
          · rw [if_neg e, if_neg (by simpa using e)]; rfl
        · rw [if_neg (by simp)]; rfl
        · rw [if_neg (by simp)]; rfl
        · have := ih (T := r) h.2 hU σ
          rw [show get (rep (node b l r v hh) (true :: π) U) (true :: σ) = get (rep r π U) σ from rfl, this]
          by_cases e : σ = π
          · rw [if_pos e, if_pos (by rw [e])]
          · rw [if_neg e, if_neg (by simpa using e)]; rfl
theorem sub_rep_ne {T U : Tr} {π : List Bool} (P : List Bool → Prop) (h : Reach T π) (hU : ∀ σ, U.sub σ ≠ nil → (T.sub π).sub σ ≠ nil ∨ P (π ++ σ)) (ρ : List Bool) (hρ : (rep T π U).sub ρ ≠ nil) : T.sub ρ ≠ nil ∨ P ρ := by
  induction π generalizing T P ρ with
  | nil => rw [rep_top] at hρ; exact hU ρ hρ
  | cons c π ih =>
    match T with
    | nil => exact absurd rfl h.1
    | node b l r v hh =>
      match ρ with
      | [] => exact .inl (fun e => by cases e)
      | d :: ρ =>
        cases c <;> cases d
        · exact ih (T := l) (fun x => P (false :: x)) h.2 hU ρ hρ
        · exact .inl hρ
        · exact .inl hρ
        · exact ih (T := r) (fun x => P (true :: x)) h.2 hU ρ hρ
theorem sub_blocks {T : Tr} {π : List Bool} {x : Nat} (h : x ∈ (sub T π).blocks) : x ∈ T.blocks := by
  induction π generalizing T with
  | nil => exact h
  | cons c π ih =>
    have := ih h
    match T with
    | nil => exact this
    | node b l r v hh =>
      cases c
      · exact List.mem_cons_of_mem _ (List.mem_append_left _ this)
      · exact List.mem_cons_of_mem _ (List.mem_append_right _ this)
theorem rep_blocks {T U : Tr} {π : List Bool} {x : Nat} (h : x ∈ (rep T π U).blocks) : x ∈ T.blocks ∨ x ∈ U.blocks := by
  match T, π with
  | T, [] => right; cases T <;> exact h
  | nil, _ :: _ => exact .inl h
  | node b l r v hh, c :: π =>
    cases c
    · rcases List.mem_cons.1 h with rfl | h
      · exact .inl (List.mem_cons_self ..)
      · rcases List.mem_append.1 h with h | h
        · rcases rep_blocks h with h | h
          · exact .inl (List.mem_cons_of_mem _ (List.mem_append_left _ h))
          · exact .inr h
        · exact .inl (List.mem_cons_of_mem _ (List.mem_append_right _ h))
    · rcases List.mem_cons.1 h with rfl | h
      · exact .inl (List.mem_cons_self ..)
      · rcases List.mem_append.1 h with h | h
        · exact .inl (List.mem_cons_of_mem _ (List.mem_append_left _ h))
        · rcases rep_blocks h with h | h
          · exact .inl (List.mem_cons_of_mem _ (List.mem_append_right _ h))
          · exact .inr h
theorem nodup_kids {b : Nat} {l r : Tr} {v : Value} {h : Bool} (hn : (node b l r v h).blocks.Nodup) : b ∉ l.blocks ∧ b ∉ r.blocks ∧ l.blocks.Nodup ∧ r.blocks.Nodup ∧ (∀ x, x ∈ l.blocks → x ∉ r.blocks) := by
  rw [blocks, List.nodup_cons, List.nodup_append] at hn
  obtain ⟨h1, h2, h3, h4⟩ := hn
  exact ⟨fun h => h1 (List.mem_append_left _ h), fun h => h1 (List.mem_append_right _ h), h2, h3, fun x hx hy => h4 x hx x hy rfl⟩
theorem nodup_mk {b : Nat} {l r : Tr} {v : Value} {h : Bool} (h1 : b ∉ l.blocks) (h2 : b ∉ r.blocks) (h3 : l.blocks.Nodup) (h4 : r.blocks.Nodup) (h5 : ∀ x, x ∈ l.blocks → x ∉ r.blocks) : (node b l r v h).blocks.Nodup := by
  rw [blocks, List.nodup_cons, List.nodup_append]
  exact ⟨fun h => (List.mem_append.1 h).elim h1 h2, h3, h4, fun x hx y hy e => h5 x hx (e ▸ hy)⟩
theorem rep_nodup {T U : Tr} {π : List Bool} (h : Reach T π) (hT : T.blocks.Nodup) (hU : U.blocks.Nodup) (hin : ∀ x, x ∈ U.blocks → x ∈ (sub T π).blocks ∨ x ∉ T.blocks) : (rep T π U).blocks.Nodup := by
  induction π generalizing T with
  | nil => cases T <;> exact hU
  | cons c π ih =>
    match T with
    | nil => exact absurd rfl h.1
    | node b l r v hh =>
      obtain ⟨n1, n2, n3, n4, n5⟩ := nodup_kids hT
      cases c
      · have hl : ∀ x, x ∈ U.blocks → x ∈ (sub l π).blocks ∨ x ∉ (node b l r v hh).blocks := hin
        refine nodup_mk (fun hb => ?_) n2 (ih (T := l) h.2 n3 (fun x hx => (hl x hx).imp id (fun k hk => k (List.mem_cons_of_mem _ (List.mem_append_left _ hk))))) n4 (fun x hx hr => ?_)
        · rcases rep_blocks hb with hb | hb
          · exact n1 hb
          · rcases hl _ hb with hb | hb
            · exact n1 (sub_blocks hb)
            · exact hb (List.mem_cons_self ..)
        · rcases rep_blocks hx with hx | hx
          · exact n5 x hx hr
          · rcases hl _ hx with hx | hx
            · exact n5 x (sub_blocks hx) hr
            · exact hx (List.mem_cons_of_mem _ (List.mem_append_right _ hr))
      · have hl : ∀ x, x ∈ U.blocks → x ∈ (sub r π).blocks ∨ x ∉ (node b l r v hh).blocks := hin
        refine nodup_mk n1 (fun hb => ?_) n3 (ih (T := r) h.2 n4 (fun x hx => (hl x hx).imp id (fun k hk => k (List.mem_cons_of_mem _ (List.mem_append_right _ hk))))) (fun x hx hr => ?_)
        · rcases rep_blocks hb with hb | hb
          · exact n2 hb
          · rcases hl _ hb with hb | hb
            · exact n2 (sub_blocks hb)
            · exact hb (List.mem_cons_self ..)
        · rcases rep_blocks hr with hr | hr
          · exact n5 x hx hr
          · rcases hl _ hr with hr | hr
            · exact n5 x hx (sub_blocks hr)
            · exact hr (List.mem_cons_of_mem _ (List.mem_append_left _ hx))

/-- a node of nothing with nothing below is none -/
def trim : Tr → Tr
  | node b nil nil v false => nil
  | T => T
theorem get_trim (T : Tr) (σ : List Bool) : get (trim T) σ = get T σ := by
  unfold trim
  split
  · rename_i b v
    rw [get_nil]
    match σ with
    | [] => rfl
    | c :: σ => cases c <;> exact (get_nil σ).symm
  · rfl
theorem trim_blocks {T : Tr} {x : Nat} (h : x ∈ (trim T).blocks) : x ∈ T.blocks := by
  unfold trim at h
  split at h
  · cases h
  · exact h
theorem trim_nodup {T : Tr} (h : T.blocks.Nodup) : (trim T).blocks.Nodup := by
  unfold trim
  split
  · exact List.nodup_nil
  · exact h
/-- what is left when what stands at a path is taken away -/
def drop (z : Value) : Tr → List Bool → Tr
  | nil, _ => nil
  | node b l r _ _, [] => trim (node b l r z false)
  | node b l r v h, c :: π => if c then trim (node b l (drop z r π) v h) else trim (node b (drop z l π) r v h)
theorem get_drop (z : Value) (T : Tr) (π σ : List Bool) : get (drop z T π) σ = if σ = π then none else get T σ := by
  induction T generalizing π σ with
  | nil => rw [show drop z nil π = nil from by cases π <;> rfl, get_nil]; split <;> rfl
  | node b l r v h ihl ihr =>
    match π with
    | [] =>
      rw [show drop z (node b l r v h) [] = trim (node b l r z false) from rfl, get_trim]
      match σ with
      | [] => rfl
      | c :: σ => rw [if_neg (by simp)]; rfl
    | c :: π =>
      cases c
      · rw [show drop z (node b l r v h) (false :: π) = trim (node b (drop z l π) r v h) from rfl, get_trim]
        match σ with
        | [] => rw [if_neg (by simp)]; rfl
        | true :: σ => rw [if_neg (by simp)]; rfl
        | false :: σ =>
          rw [show get (node b (drop z l π) r v h) (false :: σ) = get (drop z l π) σ from rfl, ihl]
          by_cases e : σ = π
          · rw [if_pos e, if_pos (by rw [e])]
          · rw [if_neg e, if_neg (by simpa using e)]; rfl
      · rw [show drop z (node b l r v h) (true :: π) = trim (node b l (drop z r π) v h) from rfl, get_trim]
        match σ with
        | [] => rw [if_neg (by simp)]; rfl
        | false :: σ => rw [if_neg (by simp)]; rfl
        | true :: σ =>
          rw [show get (node b l (drop z r π) v h) (true :: σ) = get (drop z r π) σ from rfl, ihr]
          by_cases e : σ = π
          · rw [if_pos e, if_pos (by rw [e])]
          · rw [if_neg e, if_neg (by simpa using e)]; rfl
theorem drop_blocks {z : Value} {T : Tr} {π : List Bool} {x : Nat} (h : x ∈ (drop z T π).blocks) : x ∈ T.blocks := by
  induction T generalizing π with
  | nil => cases π <;> exact h
  | node b l r v hh ihl ihr =>
    match π with
    | [] => exact trim_blocks (T := node b l r z false) h
    | c :: π =>
      cases c
      · rcases List.mem_cons.1 (trim_blocks (T := node b (drop z l π) r v hh) h) with rfl | h
        · exact List.mem_cons_self ..
        · exact List.mem_cons_of_mem _ ((List.mem_append.1 h).elim (fun h => List.mem_append_left _ (ihl h)) (fun h => List.mem_append_right _ h))
      · rcases List.mem_cons.1 (trim_blocks (T := node b l (drop z r π) v hh) h) with rfl | h
        · exact List.mem_cons_self ..
        · exact List.mem_cons_of_mem _ ((List.mem_append.1 h).elim (fun h => List.mem_append_left _ h) (fun h => List.mem_append_right _ (ihr h)))
theorem trim_sub {T : Tr} {ρ : List Bool} (h : (trim T).sub ρ ≠ nil) : T.sub ρ ≠ nil := by
  unfold trim at h
  split at h
  · exact absurd (sub_nil _) h
  · exact h
theorem drop_sub {z : Value} {T : Tr} {π ρ : List Bool} (h : (drop z T π).sub ρ ≠ nil) : T.sub ρ ≠ nil := by
  induction T generalizing π ρ with
  | nil => cases π <;> exact h
  | node b l r v hh ihl ihr =>
    match π with
    | [] =>
      have := trim_sub (T := node b l r z false) h
      match ρ with
      | [] => exact fun e => by cases e
      | d :: ρ => exact this
    | c :: π =>
      cases c
      · have := trim_sub (T := node b (drop z l π) r v hh) h
        match ρ with
        | [] => exact fun e => by cases e
        | false :: ρ => exact ihl (π := π) this
        | true :: ρ => exact this
      · have := trim_sub (T := node b l (drop z r π) v hh) h
        match ρ with
        | [] => exact fun e => by cases e
        | false :: ρ => exact this
        | true :: ρ => exact ihr (π := π) this
/-- how deep a trie is -/
def height : Tr → Nat
  | nil => 0
  | node _ l r _ _ => max l.height r.height + 1
theorem height_lt {T : Tr} {π : List Bool} (h : T.sub π ≠ nil) : π.length < T.height := by
  induction π generalizing T with
  | nil =>
    match T with
    | nil => exact absurd rfl h
    | node b l r v hh => exact Nat.succ_pos _
  | cons c π ih =>
    match T with
    | nil => exact absurd (sub_nil _) h
    | node b l r v hh =>
      have : π.length < (Tr.kid (node b l r v hh) c).height := ih h
      cases c
      · have h2 : π.length < l.height := this
        simp only [List.length_cons, height]; omega
      · have h2 : π.length < r.height := this
        simp only [List.length_cons, height]; omega
/-- no node lies deeper than an address has bits -/
def Dep (T : Tr) : Prop := ∀ π, T.sub π ≠ nil → π.length ≤ 32
theorem dep_nil : Dep nil := fun π h => absurd (sub_nil _) h
theorem drop_nodup {z : Value} {T : Tr} {π : List Bool} (h : T.blocks.Nodup) : (drop z T π).blocks.Nodup := by
  induction T generalizing π with
  | nil => cases π <;> exact h
  | node b l r v hh ihl ihr =>
    obtain ⟨n1, n2, n3, n4, n5⟩ := nodup_kids h
    match π with
    | [] => exact trim_nodup (nodup_mk n1 n2 n3 n4 n5)
    | c :: π =>
      cases c
      · exact trim_nodup (nodup_mk (fun h => n1 (drop_blocks h)) n2 (ihl n3) n4 (fun x hx => n5 x (drop_blocks hx)))
      · exact trim_nodup (nodup_mk n1 (fun h => n2 (drop_blocks h)) n3 (ihr n4) (fun x hx hr => n5 x hx (drop_blocks hr)))
end Tr

/-- the turn that an address takes at a bit: none of its bits is nought -/
def turn (a : Int) (i : Nat) : Bool := if i < 32 then bitI a i == 1 else false
def path (a : Int) : Nat → List Bool
  | 0 => []
  | n + 1 => path a n ++ [turn a n]
theorem path_len (a : Int) : ∀ n, (path a n).length = n
  | 0 => rfl
  | n + 1 => by rw [path, List.length_append, path_len a n]; rfl
theorem path_eq {a b : Int} {n m : Nat} (h : path a n = path b m) : n = m ∧ ∀ i, i < n → turn a i = turn b i := by
  have hl : n = m := by have := congrArg List.length h; rwa [path_len, path_len] at this
  subst hl
  refine ⟨rfl, ?_⟩
  induction n with
  | zero => intro i hi; omega
  | succ n ih =>
    rw [path, path] at h
    have := List.append_inj h (by rw [path_len, path_len])
    intro i hi
    by_cases e : i = n
    · subst e; simpa using this.2
    · exact ih this.1 i (by omega)
end Go.Proofs.Ytfealajbibofiaa.trmath
