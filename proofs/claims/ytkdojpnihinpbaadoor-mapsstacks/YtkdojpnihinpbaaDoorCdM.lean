/- Programs of the machine, their bytes, and how these are written: plain. -/
import Derived.Lib.UnsafeStr
namespace Go.Proofs.YtkdojpnihinpbaaDoor

abbrev By := List UInt8
structure In3 where
  o : Int
  a : Int
  b : Int
structure Fd where
  pa : Int
  lo : List Int
  re : List Int
  ar : List Int
  co : List In3
structure Pg where
  ty : List (List Int)
  fu : List Fd
  ta : List (List Int)
  st : List By
def zig (n : Int) : Nat := if n < 0 then (-2 * n - 1).toNat else (2 * n).toNat
/-- A number's bits by sevens. -/
def sv : Nat → Nat → By
  | 0, z => [UInt8.ofNat z]
  | f + 1, z => if z < 128 then [UInt8.ofNat z] else UInt8.ofNat (z % 128 + 128) :: sv f (z / 128)
def numE (n : Int) : By := sv 9 (zig n)
def lstE {α : Type} (f : α → By) (l : List α) : By := numE l.length ++ l.flatMap f
def intsE (l : List Int) : By := lstE numE l
def insE (i : In3) : By := numE i.o ++ numE i.a ++ numE i.b
def fdE (f : Fd) : By := numE f.pa ++ intsE f.lo ++ intsE f.re ++ intsE f.ar ++ lstE insE f.co
def strE (s : By) : By := numE s.length ++ s
def hdE : By := [72, 89, 49]
def pgE (p : Pg) : By := hdE ++ lstE intsE p.ty ++ lstE fdE p.fu ++ lstE intsE p.ta ++ lstE strE p.st

/-- The most bytes. -/
abbrev MB : Nat := 4194304
/-- The writer's loop through a list: it stops behind too many bytes. -/
def loopW {α : Type} (F : By → α → By) : List α → By → By
  | [], out => out
  | x :: r, out => if out.length ≤ MB then loopW F r (F out x) else out
def numW (out : By) (n : Int) : By := out ++ numE n
def lstW {α : Type} (F : By → α → By) (out : By) (l : List α) : By := loopW F l (numW out l.length)
def intsW (out : By) (l : List Int) : By := lstW numW out l
def insW (out : By) (i : In3) : By := numW (numW (numW out i.o) i.a) i.b
def fdW (out : By) (f : Fd) : By := lstW insW (intsW (intsW (intsW (numW out f.pa) f.lo) f.re) f.ar) f.co
def strW (out : By) (s : By) : By := numW out s.length ++ s
def pgW (p : Pg) : By := lstW strW (lstW intsW (lstW fdW (lstW intsW hdE p.ty) p.fu) p.ta) p.st

/-- Written as it should be, or too long both ways. -/
def Ok {α : Type} (F : By → α → By) (E : α → By) : Prop := ∀ out x, F out x = out ++ E x ∨ (MB < (F out x).length ∧ MB < (out ++ E x).length)
def Up {α : Type} (F : By → α → By) (P : α → Prop) (c : Nat) : Prop := ∀ out x, P x → out.length ≤ (F out x).length ∧ (F out x).length ≤ max out.length MB + c
theorem loop_ok {α : Type} {F : By → α → By} {E : α → By} (h : Ok F E) : ∀ (l : List α) (out : By), loopW F l out = out ++ l.flatMap E ∨ (MB < (loopW F l out).length ∧ MB < (out ++ l.flatMap E).length)
  | [], out => .inl (by simp [loopW])
  | x :: r, out => by
    unfold loopW
    by_cases hm : out.length ≤ MB
    · rw [if_pos hm]
      rcases h out x with h1 | ⟨h1, h2⟩
      · rcases loop_ok h r (F out x) with h3 | ⟨h3, h4⟩
        · left; rw [h3, h1]; simp
        · right; rw [h1] at h4; exact ⟨h3, by simpa [List.append_assoc] using h4⟩
      · right
        have hs : loopW F r (F out x) = F out x := by
          cases r with
          | nil => rfl
          | cons y s => unfold loopW; rw [if_neg (by omega)]
        rw [hs]
        refine ⟨h1, ?_⟩
        simp only [List.length_append, List.flatMap_cons] at h2 ⊢
        omega
    · rw [if_neg hm]
      right
      simp only [List.length_append]
      omega
theorem numW_ok : Ok numW numE := fun _ _ => .inl rfl
theorem lst_ok {α : Type} {F : By → α → By} {E : α → By} (h : Ok F E) : Ok (lstW F) (lstE E) := fun out l => by
  have := loop_ok h l (numW out l.length)
  simpa [lstW, lstE, numW, List.append_assoc] using this
/-- One behind the other. -/
theorem ok_then {a b e f : By} {out : By} (h1 : a = out ++ e ∨ (MB < a.length ∧ MB < (out ++ e).length)) (h2 : b = a ++ f ∨ (MB < b.length ∧ MB < (a ++ f).length)) (hu : a.length ≤ b.length) :
    b = out ++ (e ++ f) ∨ (MB < b.length ∧ MB < (out ++ (e ++ f)).length) := by
  rcases h1 with h1 | ⟨h1, h1'⟩
  · subst h1
    simpa [List.append_assoc] using h2
  · right
    simp only [List.length_append] at h1' ⊢
    exact ⟨by omega, by omega⟩
theorem sv_length : ∀ f z, (sv f z).length ≤ f + 1
  | 0, z => by simp [sv]
  | f + 1, z => by
    unfold sv
    split
    · simp
    · simp; exact sv_length f _
theorem sv_pos : ∀ f z, 1 ≤ (sv f z).length
  | 0, z => by simp [sv]
  | f + 1, z => by unfold sv; split <;> simp
theorem numE_length (n : Int) : (numE n).length ≤ 10 := sv_length 9 _
theorem numE_pos (n : Int) : 1 ≤ (numE n).length := sv_pos 9 _
theorem numW_up : Up numW (fun _ => True) 10 := fun out n _ => by
  have := numE_length n
  simp only [numW, List.length_append]; omega
theorem loop_up {α : Type} {F : By → α → By} {P : α → Prop} {c : Nat} (h : Up F P c) : ∀ (l : List α) (out : By), (∀ x ∈ l, P x) → out.length ≤ (loopW F l out).length ∧ (loopW F l out).length ≤ max out.length (MB + c)
  | [], out, _ => by simp [loopW]; omega
  | x :: r, out, hp => by
    unfold loopW
    by_cases hm : out.length ≤ MB
    · rw [if_pos hm]
      have h1 := h out x (hp x (by simp))
      have h2 := loop_up h r (F out x) (fun y hy => hp y (by simp [hy]))
      omega
    · rw [if_neg hm]; omega
theorem lst_up {α : Type} {F : By → α → By} {P : α → Prop} {c : Nat} (h : Up F P c) : Up (lstW F) (fun l => ∀ x ∈ l, P x) (c + 10) := fun out l hp => by
  have h1 := numW_up out l.length trivial
  have h2 := loop_up h l (numW out l.length) hp
  show out.length ≤ (loopW F l (numW out l.length)).length ∧ (loopW F l (numW out l.length)).length ≤ _
  omega
theorem ints_up : Up intsW (fun _ => True) 20 := fun out l _ => lst_up numW_up out l (fun _ _ => trivial)
theorem ins_up : Up insW (fun _ => True) 30 := fun out i _ => by
  have h1 := numW_up out i.o trivial
  have h2 := numW_up (numW out i.o) i.a trivial
  have h3 := numW_up (numW (numW out i.o) i.a) i.b trivial
  unfold insW
  omega
theorem fd_up : Up fdW (fun _ => True) 200 := fun out f _ => by
  have h1 := numW_up out f.pa trivial
  have h2 := ints_up (numW out f.pa) f.lo trivial
  have h3 := ints_up (intsW (numW out f.pa) f.lo) f.re trivial
  have h4 := ints_up (intsW (intsW (numW out f.pa) f.lo) f.re) f.ar trivial
  have h5 := lst_up ins_up (intsW (intsW (intsW (numW out f.pa) f.lo) f.re) f.ar) f.co (fun _ _ => trivial)
  unfold fdW
  omega
theorem str_up : Up strW (fun s => s.length ≤ 1024) 1034 := fun out s hs => by
  have h1 := numW_up out s.length trivial
  unfold strW
  rw [List.length_append]
  omega
theorem ints_ok : Ok intsW intsE := lst_ok numW_ok
theorem ins_ok : Ok insW insE := fun out i => .inl (by simp [insW, insE, numW])
theorem str_ok : Ok strW strE := fun out s => .inl (by simp [strW, strE, numW])
theorem up_le {α : Type} {F : By → α → By} {P : α → Prop} {c : Nat} (h : Up F P c) (out : By) (x : α) (hp : P x) : out.length ≤ (F out x).length := (h out x hp).1
theorem fd_ok : Ok fdW fdE := fun out f => by
  have h0 : numW out f.pa = out ++ numE f.pa ∨ (MB < (numW out f.pa).length ∧ MB < (out ++ numE f.pa).length) := .inl rfl
  have h1 := ok_then h0 (ints_ok (numW out f.pa) f.lo) (up_le ints_up _ _ trivial)
  have h2 := ok_then h1 (ints_ok _ f.re) (up_le ints_up _ _ trivial)
  have h3 := ok_then h2 (ints_ok _ f.ar) (up_le ints_up _ _ trivial)
  exact ok_then h3 (lst_ok ins_ok _ f.co) (up_le (lst_up ins_up) _ _ (fun _ _ => trivial))
/-- A sound program's bytes, or too many both ways. -/
theorem pg_ok (p : Pg) (hs : ∀ s ∈ p.st, s.length ≤ 1024) : pgW p = pgE p ∨ (MB < (pgW p).length ∧ MB < (pgE p).length) := by
  have h0 : hdE = ([] : By) ++ hdE ∨ (MB < hdE.length ∧ MB < (([] : By) ++ hdE).length) := .inl rfl
  have h1 := ok_then h0 (lst_ok ints_ok hdE p.ty) (up_le (lst_up ints_up) _ _ (fun _ _ => trivial))
  have h2 := ok_then h1 (lst_ok fd_ok _ p.fu) (up_le (lst_up fd_up) _ _ (fun _ _ => trivial))
  have h3 := ok_then h2 (lst_ok ints_ok _ p.ta) (up_le (lst_up ints_up) _ _ (fun _ _ => trivial))
  have h4 := ok_then h3 (lst_ok str_ok _ p.st) (up_le (lst_up str_up) _ _ hs)
  exact h4
end Go.Proofs.YtkdojpnihinpbaaDoor
