import Derived.Test.YtedlclgimeafeaaDoorProg
import Derived.WalkKit
import Derived.Laws.BitsAllLaws
/- Plain mathematics of headers: fields as numbers. -/
set_option linter.unusedVariables false
set_option linter.unusedSimpArgs false
namespace Go.Proofs.YtedlclgimeafeaaDoor.hmath
open Go.RowKit

def U8 (a : Int) : Prop := 0 ≤ a ∧ a < 256
def U32 (a : Int) : Prop := 0 ≤ a ∧ a < 4294967296
def U64 (a : Int) : Prop := 0 ≤ a ∧ a < 18446744073709551616
def I64 (n : Int) : Prop := -9223372036854775808 ≤ n ∧ n ≤ 9223372036854775807

/-- an address of a frame -/
structure Mac where
  (a0 a1 a2 a3 a4 a5 : Int)
@[ext] structure Hd where
  p : Int
  s : Mac
  d : Mac
  t : Int
  si : Int
  di : Int
  pr : Int
  sp : Int
  dp : Int
structure Mac.ok (m : Mac) : Prop where
  (h0 : U8 m.a0) (h1 : U8 m.a1) (h2 : U8 m.a2) (h3 : U8 m.a3) (h4 : U8 m.a4) (h5 : U8 m.a5)
structure Hd.ok (h : Hd) : Prop where
  (p : I64 h.p) (s : h.s.ok) (d : h.d.ok) (t : I64 h.t) (si : U32 h.si) (di : U32 h.di) (pr : I64 h.pr) (sp : I64 h.sp) (dp : I64 h.dp)
def Mac.val (m : Mac) : Value := .agg #[.int .u8 m.a0, .int .u8 m.a1, .int .u8 m.a2, .int .u8 m.a3, .int .u8 m.a4, .int .u8 m.a5]
def Hd.cells (h : Hd) : Array Value := #[.int .i64 h.p, .int .u8 h.s.a0, .int .u8 h.s.a1, .int .u8 h.s.a2, .int .u8 h.s.a3, .int .u8 h.s.a4, .int .u8 h.s.a5,
  .int .u8 h.d.a0, .int .u8 h.d.a1, .int .u8 h.d.a2, .int .u8 h.d.a3, .int .u8 h.d.a4, .int .u8 h.d.a5, .int .i64 h.t, .int .u32 h.si, .int .u32 h.di, .int .i64 h.pr, .int .i64 h.sp, .int .i64 h.dp]
def Hd.val (h : Hd) : Value := .agg h.cells

/-- how many bits a field has -/
def widthI (f : Int) : Int := if f = 0 then 8 else if f = 1 then 48 else if f = 2 then 48 else if f = 3 then 16 else if f = 4 then 32 else if f = 5 then 32 else if f = 6 then 8 else if f = 7 then 16 else if f = 8 then 16 else 0
def fullI (f : Int) : Int := if f = 0 then 255 else if f = 1 then 281474976710655 else if f = 2 then 281474976710655 else if f = 3 then 65535 else if f = 4 then 4294967295 else if f = 5 then 4294967295 else if f = 6 then 255 else if f = 7 then 65535 else if f = 8 then 65535 else 0
theorem widthI_out {f : Int} (h : f < 0 ∨ 9 ≤ f) : widthI f = 0 := by unfold widthI; repeat (rw [if_neg (by omega)])
theorem fullI_out {f : Int} (h : f < 0 ∨ 9 ≤ f) : fullI f = 0 := by unfold fullI; repeat (rw [if_neg (by omega)])
theorem cases9 {f : Int} (h0 : 0 ≤ f) (h1 : f < 9) : f = 0 ∨ f = 1 ∨ f = 2 ∨ f = 3 ∨ f = 4 ∨ f = 5 ∨ f = 6 ∨ f = 7 ∨ f = 8 := by omega

def macI (m : Mac) : Int := ((((m.a0 * 256 + m.a1) * 256 + m.a2) * 256 + m.a3) * 256 + m.a4) * 256 + m.a5
def ofI (n : Int) : Mac := ⟨n / 1099511627776 % 256, n / 4294967296 % 256, n / 16777216 % 256, n / 65536 % 256, n / 256 % 256, n % 256⟩
theorem macI_bd {m : Mac} (h : m.ok) : 0 ≤ macI m ∧ macI m < 281474976710656 := by
  obtain ⟨⟨_, _⟩, ⟨_, _⟩, ⟨_, _⟩, ⟨_, _⟩, ⟨_, _⟩, ⟨_, _⟩⟩ := h
  unfold macI; omega
theorem ofI_ok (n : Int) : (ofI n).ok := by
  constructor <;> exact ⟨Int.emod_nonneg _ (by decide), Int.emod_lt_of_pos _ (by decide)⟩
theorem of_mac {m : Mac} (h : m.ok) : ofI (macI m) = m := by
  obtain ⟨⟨_, _⟩, ⟨_, _⟩, ⟨_, _⟩, ⟨_, _⟩, ⟨_, _⟩, ⟨_, _⟩⟩ := h
  obtain ⟨a, b, c, d, e, f⟩ := m
  simp only [ofI, macI, Mac.mk.injEq] at *
  refine ⟨?_, ?_, ?_, ?_, ?_, ?_⟩ <;> omega
theorem mac_of {n : Int} (h0 : 0 ≤ n) (h1 : n < 281474976710656) : macI (ofI n) = n := by
  simp only [ofI, macI]
  omega
theorem mac_of_any {n : Int} (h0 : 0 ≤ n) : macI (ofI n) = n % 281474976710656 := by
  simp only [ofI, macI]
  omega

/-- a field's number, its lowest bits -/
def getI (h : Hd) (f : Int) : Int := if f = 0 then h.p % 256 else if f = 1 then macI h.s else if f = 2 then macI h.d else if f = 3 then h.t % 65536 else if f = 4 then h.si else if f = 5 then h.di else if f = 6 then h.pr % 256 else if f = 7 then h.sp % 65536 else if f = 8 then h.dp % 65536 else 0
theorem getI_out {h : Hd} {f : Int} (k : f < 0 ∨ 9 ≤ f) : getI h f = 0 := by unfold getI; repeat (rw [if_neg (by omega)])
/-- the header with another number in a field -/
def setI (h : Hd) (f n : Int) : Hd := if f = 0 then { h with p := n } else if f = 1 then { h with s := ofI n } else if f = 2 then { h with d := ofI n } else if f = 3 then { h with t := n } else if f = 4 then { h with si := n } else if f = 5 then { h with di := n } else if f = 6 then { h with pr := n } else if f = 7 then { h with sp := n } else if f = 8 then { h with dp := n } else h
def fitsB (f n : Int) : Bool := decide (0 ≤ n) && decide (n ≤ fullI f)
def checkB (h : Hd) : Bool := fitsB 0 h.p && fitsB 3 h.t && fitsB 6 h.pr && fitsB 7 h.sp && fitsB 8 h.dp
def zeroHd : Hd := ⟨0, ⟨0, 0, 0, 0, 0, 0⟩, ⟨0, 0, 0, 0, 0, 0⟩, 0, 0, 0, 0, 0, 0⟩

theorem fullI_bd (f : Int) : 0 ≤ fullI f ∧ fullI f ≤ 281474976710655 := by unfold fullI; repeat' split
                                                                           all_goals omega
theorem getI_bd {h : Hd} (k : h.ok) (f : Int) : 0 ≤ getI h f ∧ getI h f ≤ fullI f := by
  have := macI_bd k.s
  have := macI_bd k.d
  have := k.si
  have := k.di
  unfold U32 at *
  unfold getI fullI
  repeat' split
  all_goals (first | omega | (subst_vars; simp at *) | skip)
  all_goals omega
theorem setI_ok {h : Hd} (k : h.ok) {f n : Int} (h0 : 0 ≤ n) (h1 : n ≤ fullI f) : (setI h f n).ok := by
  obtain ⟨k0, k1, k2, k3, k4, k5, k6, k7, k8⟩ := k
  unfold I64 U32 at *
  unfold setI fullI at *
  repeat' split
  all_goals (subst_vars; try simp at h1)
  all_goals (constructor <;> first | assumption | exact ofI_ok _ | (unfold I64; dsimp only; omega) | (unfold U32; dsimp only; omega))
/-- the field has what it was given -/
theorem get_set {h : Hd} {f n : Int} (hf0 : 0 ≤ f) (hf1 : f < 9) (h0 : 0 ≤ n) (h1 : n ≤ fullI f) : getI (setI h f n) f = n := by
  rcases cases9 hf0 hf1 with rfl | rfl | rfl | rfl | rfl | rfl | rfl | rfl | rfl <;> simp [getI, setI, fullI] at * <;> first | omega | exact mac_of h0 (by omega) | rfl
/-- all others stay -/
theorem get_set_ne {h : Hd} {f g n : Int} (hne : g ≠ f) : getI (setI h f n) g = getI h g := by
  unfold setI
  repeat' split
  all_goals (subst_vars; try rfl)
  all_goals simp [getI, hne]
theorem setI_out {h : Hd} {f n : Int} (k : ¬ (0 ≤ f ∧ f < 9)) : setI h f n = h := by unfold setI; repeat (rw [if_neg (by omega)])
theorem set_set {h : Hd} {f a b : Int} : setI (setI h f a) f b = setI h f b := by
  by_cases k : 0 ≤ f ∧ f < 9
  · rcases cases9 k.1 k.2 with rfl | rfl | rfl | rfl | rfl | rfl | rfl | rfl | rfl <;> rfl
  · rw [setI_out k, setI_out k, setI_out k]
theorem set_comm {h : Hd} {f g a b : Int} (hne : f ≠ g) : setI (setI h f a) g b = setI (setI h g b) f a := by
  by_cases k : 0 ≤ f ∧ f < 9
  · by_cases l : 0 ≤ g ∧ g < 9
    · rcases cases9 k.1 k.2 with rfl | rfl | rfl | rfl | rfl | rfl | rfl | rfl | rfl <;> rcases cases9 l.1 l.2 with rfl | rfl | rfl | rfl | rfl | rfl | rfl | rfl | rfl <;> first | rfl | exact absurd rfl hne
    · rw [setI_out l, setI_out l]
  · rw [setI_out k, setI_out k]
/-- what was there, put back -/
theorem set_back {h : Hd} (k : h.ok) (c : checkB h = true) {f n : Int} : setI (setI h f n) f (getI h f) = h := by
  rw [set_set]
  simp only [checkB, fitsB, fullI, Bool.and_eq_true, decide_eq_true_eq] at c
  simp at c
  have e1 := of_mac k.s
  have e2 := of_mac k.d
  obtain ⟨p, s, d, t, si, di, pr, sp, dp⟩ := h
  dsimp only at *
  by_cases k9 : 0 ≤ f ∧ f < 9
  · rcases cases9 k9.1 k9.2 with rfl | rfl | rfl | rfl | rfl | rfl | rfl | rfl | rfl
    · simp [setI, getI]; omega
    · simp [setI, getI, e1]
    · simp [setI, getI, e2]
    · simp [setI, getI]; omega
    · simp [setI, getI]
    · simp [setI, getI]
    · simp [setI, getI]; omega
    · simp [setI, getI]; omega
    · simp [setI, getI]; omega
  · rw [setI_out k9]
end Go.Proofs.YtedlclgimeafeaaDoor.hmath
