/- The document's reader comes to what the parser comes to. -/
import Derived.Test.YtnkphlkjhgngkaaGreatDoorRdMJt
import Derived.Test.YtnkphlkjhgngkaaGreatDoorPmAJt
import Derived.Test.YtnkphlkjhgngkaaGreatDoorHexJt
import Derived.Test.YtnkphlkjhgngkaaGreatDoorParJt
namespace Go.Proofs.YtnkphlkjhgngkaaGreatDoor
/-- The one comes to what the other comes to. -/
def AgV {α : Type} (r : Res α) (v : α × Sg) : Prop:=match r with
  | .ok a j => v = (a,(j,false))
  | .bad j => v.2 = (j,true)
theorem AgV.bind {α β : Type} {r : Res α} {v : α × Sg} {f : α → Nat → Res β} {g : α → Sg → β × Sg} (h : AgV r v) (h1 : ∀ a j,AgV (f a j) (g a (j,false))) (h2 : ∀ a j,(g a (j,true)).2 = (j,true)) : AgV (r.bind f) (bindV v g):=by
 cases r with
 | ok a j => obtain rfl : v = (a,(j,false)):=h; exact h1 a j
 | bad j =>
  obtain ⟨a,s⟩:=v
  obtain rfl : s = (j,true):=h
  exact h2 a j
theorem AgV.ok {α : Type} (a : α) (i : Nat) : AgV (.ok a i) (a,(i,false)):=rfl
theorem Res.assoc {α β γ : Type} (r : Res α) (f : α → Nat → Res β) (g : β → Nat → Res γ) : (r.bind f).bind g = r.bind fun a i => (f a i).bind g:=by cases r <;> rfl
theorem isV_ok {l : List Tk} {i : Nat} {m : List UInt8} (hm : m ≠ []) : isV l (i,false) m = isM l i m:=by
 show ((if kindA l i == 4 || kindA l i == 5 then textA l i else []) == m) = ((kindA l i == 4 || kindA l i == 5) && textA l i == m)
 cases (kindA l i == 4 || kindA l i == 5) with
 | true => rfl
 | false =>
  show (([] : List UInt8) == m) = false
  simpa using fun h : [] = m => hm h.symm
theorem isV_bad {l : List Tk} {j : Nat} {m : List UInt8} (hm : m ≠ []) : isV l (j,true) m = false:=by
 unfold isV nowV
 simpa using fun h : [] = m => hm h.symm
theorem take_bad {l : List Tk} {j : Nat} {m : List UInt8} (hm : m ≠ []) : takeV l m (j,true) = (false,(j,true)):=by rw [takeV,isV_bad hm]; rfl
theorem need_bad {l : List Tk} {j : Nat} {m : List UInt8} (hm : m ≠ []) : needV l m (j,true) = (j,true):=by rw [needV,isV_bad hm]; rfl
theorem name_bad {l : List Tk} {j : Nat} : nameV l (j,true) = ([],(j,true)):=rfl
theorem take_ok {l : List Tk} {i : Nat} {m : List UInt8} (hm : m ≠ []) : takeV l m (i,false) = if isM l i m then (true,(i + 1,false)) else (false,(i,false)):=by rw [takeV,isV_ok hm]; rfl
theorem takV_yes {l : List Tk} {i : Nat} {m : List UInt8} (hm : m ≠ []) (h : isM l i m = true) : takeV l m (i,false) = (true,(i + 1,false)):=by rw [take_ok hm,h]; rfl
theorem takV_no {l : List Tk} {i : Nat} {m : List UInt8} (hm : m ≠ []) (h : isM l i m = false) : takeV l m (i,false) = (false,(i,false)):=by rw [take_ok hm,h]; rfl
theorem AgV.need {β : Type} {l : List Tk} {i : Nat} {m : List UInt8} {f : Unit → Nat → Res β} {g : Sg → β × Sg} (hm : m ≠ []) (h1 : AgV (f () (i + 1)) (g (i + 1,false))) (h2 : ∀ j,(g (j,true)).2 = (j,true)) : AgV ((needR l m i).bind f) (g (needV l m (i,false))):=by
 rw [needR,needV,isV_ok hm]
 cases isM l i m with
 | true => exact h1
 | false => exact h2 i
theorem AgV.name {l : List Tk} {i : Nat} : AgV (nameR l i) (nameV l (i,false)):=by
 unfold nameR nameV kindV
 cases h : (kindA l i == 1) with
 | true => simp [h,AgV,stepV]
 | false => simp [h,AgV,badV]
/-- need, at the end. -/
theorem AgV.last {α : Type} {l : List Tk} {i : Nat} {m : List UInt8} (hm : m ≠ []) (a : α) : AgV ((needR l m i).bind fun _ i => .ok a i) (a,needV l m (i,false)) :=
  AgV.need (g:=fun s => (a,s)) hm rfl (fun _ => rfl)
theorem last_bad {α : Type} {l : List Tk} {j : Nat} {m : List UInt8} (hm : m ≠ []) (a : α) : (a,needV l m (j,true)).2 = (j,true):=need_bad hm
/-- What keeps a fault as it is. -/
structure Kv (q : Vs) : Prop where
  typ : ∀ j,(q.typ (j,true)).2 = (j,true)
  bin : ∀ h least j,(q.bin h least (j,true)).2 = (j,true)
  una : ∀ h j,(q.una h (j,true)).2 = (j,true)
  blk : ∀ j,(q.blk (j,true)).2 = (j,true)
  ifS : ∀ j,(q.ifS (j,true)).2 = (j,true)
structure Av (l : List Tk) (p : Ps) (q : Vs) : Prop where
  typ : ∀ i,AgV (p.typ i) (q.typ (i,false))
  bin : ∀ h least i,1 ≤ least → AgV (p.bin h least i) (q.bin h least (i,false))
  una : ∀ h i,AgV (p.una h i) (q.una h (i,false))
  blk : ∀ i,AgV (p.blk i) (q.blk (i,false))
  ifS : ∀ i,AgV (p.ifS i) (q.ifS (i,false))
  no : ∀ i,isM l i [123] = false → p.blk i = .bad i
/-- Words are no operators. -/
def WkV (l : List Tk) : Prop:=∀ i,kindA l i = 5 → rankL (textA l i) = 0 ∧ prefixL (textA l i) = false
section
variable {l : List Tk} {p : Ps} {q : Vs}
theorem bindV_keep {α β : Type} {v : α × Sg} {g : α → Sg → β × Sg} {j : Nat} (h : v.2 = (j,true)) (h2 : ∀ a,(g a (j,true)).2 = (j,true)) : (bindV v g).2 = (j,true):=by
 obtain ⟨a,s⟩:=v
 obtain rfl : s = (j,true):=h
 exact h2 a
theorem bind_bad {α β : Type} {v : α × Sg} {g : α → Sg → β × Sg} {j : Nat} {a : α} (h : v = (a,(j,true))) (h2 : (g a (j,true)).2 = (j,true)) : (bindV v g).2 = (j,true):=by rw [h]; exact h2
theorem comma_bad {item : Sg → Tr × Sg} (f : Nat) (acc : List Tr) (j : Nat) : (commaV l item f acc (j,true)).2 = (j,true):=by
 cases f with
 | zero => rfl
 | succ f => rw [commaV]; exact bind_bad (take_bad (by decide)) rfl
theorem commas_bad {item : Sg → Tr × Sg} (h : ∀ j,(item (j,true)).2 = (j,true)) (j : Nat) : (commasV l item (j,true)).2 = (j,true):=bindV_keep (h j) fun _ => comma_bad _ _ j
theorem comma_ag {it : Nat → Res Tr} {item : Sg → Tr × Sg} (h : ∀ i,AgV (it i) (item (i,false))) : ∀ (f : Nat) (acc : List Tr) (i : Nat),AgV (commasF l it f acc i) (commaV l item f acc (i,false))
  | 0,acc,i => rfl
  | f + 1,acc,i => by
   rw [commasF,commaV]
   cases hm : isM l i [44] with
   | false => rw [takV_no (by decide) hm]; rfl
   | true =>
    rw [takV_yes (by decide) hm,if_pos rfl]
    show AgV _ (bindV (item (i + 1,false)) fun t s => commaV l item f (acc ++ [t]) s)
    exact (h (i + 1)).bind (fun _ j => comma_ag h f _ j) (fun _ j => comma_bad f _ j)
theorem commas_ag {it : Nat → Res Tr} {item : Sg → Tr × Sg} (h : ∀ i,AgV (it i) (item (i,false))) (i : Nat) : AgV (commasR l it i) (commasV l item (i,false)):=(h i).bind (fun _ _ => comma_ag h _ _ _) (fun _ j => comma_bad _ _ j)
/-- Between two marks, the first of which is taken. -/
theorem inner_ag {it : Nat → Res Tr} {V : Sg → List Tr × Sg} {m : List UInt8} (hm : m ≠ []) (h : ∀ i,isM l i m = false → AgV (commasR l it i) (V (i,false))) (i : Nat) :
    AgV ((innerR l m it i).bind fun a i => (needR l m i).bind fun _ i => .ok a i) (bindV (takeV l m (i,false)) fun b s => if b then ([],s) else bindV (V s) fun ks s => (ks,needV l m s)):=by
  unfold innerR
  cases hi : isM l i m with
  | true =>
   rw [takV_yes hm hi]
   show AgV ((needR l m i).bind fun _ i => .ok [] i) _
   rw [needR,hi]
   rfl
  | false =>
   rw [takV_no hm hi]
   show AgV _ (bindV (V (i,false)) fun ks s => (ks,needV l m s))
   exact (h i hi).bind (fun a _ => AgV.last hm a) (fun a _ => last_bad hm a)
theorem inner_bad {V : Sg → List Tr × Sg} {m : List UInt8} (hm : m ≠ []) (hb : ∀ j,(V (j,true)).2 = (j,true)) (j : Nat) :
    (bindV (takeV l m (j,true)) fun b s => if b then ([],s) else bindV (V s) fun ks s => (ks,needV l m s)).2 = (j,true) :=
  bind_bad (take_bad hm) (bindV_keep (v:=V (j,true)) (g:=fun ks s => (ks,needV l m s)) (hb j) fun a => last_bad hm a)
theorem results_bad (j : Nat) : (resultsV l q (j,true)).2 = (j,true):=by
 refine bind_bad (take_bad (by decide)) ?_
 simp only [Bool.false_eq_true,if_false,isV_bad (show ([42] : List UInt8) ≠ [] by decide),isV_bad (show ([91] : List UInt8) ≠ [] by decide),isV_bad (show ([102,117,110,99] : List UInt8) ≠ [] by decide)]
 rfl
theorem results_ag (A : Av l p q) (i : Nat) : AgV (resultsR l p i) (resultsV l q (i,false)):=by
 unfold resultsR resultsV atTypeR
 cases hm : isM l i [40] with
 | true =>
  rw [takV_yes (by decide) hm]
  show AgV (betweenR l [40] [41] (typesR l p) i) (bindV (commasV l q.typ (i + 1,false)) fun ks s => (ks,needV l [41] s))
  unfold betweenR
  rw [needR,hm]
  exact (commas_ag A.typ (i + 1)).bind (fun a _ => AgV.last (by decide) a) (fun a _ => last_bad (by decide) a)
 | false =>
  rw [takV_no (by decide) hm]
  show AgV _ (if kindV l (i,false) == 1 || isV l (i,false) [42] || isV l (i,false) [91] || isV l (i,false) [102,117,110,99] then _ else _)
  rw [isV_ok (by decide),isV_ok (by decide),isV_ok (by decide),show kindV l (i,false) = kindA l i from rfl]
  cases hc : (kindA l i == 1 || isM l i [42] || isM l i [91] || isM l i [102,117,110,99]) with
  | true =>
   show AgV ((p.typ i).bind fun t i => .ok [t] i) (bindV (q.typ (i,false)) fun t s => ([t],s))
   exact (A.typ i).bind (fun _ _ => rfl) (fun _ _ => rfl)
  | false => rfl
theorem bindV_assoc {α β γ : Type} (v : α × Sg) (f : α → Sg → β × Sg) (g : β → Sg → γ) : bindV (bindV v f) g = bindV v fun a s => bindV (f a s) g:=rfl
/-- A function's type, or a signature, behind what comes ahead of its brackets. -/
theorem func_ag (A : Av l p q) {kind : Int} {it : Nat → Res Tr} {V : Sg → List Tr × Sg} (h : ∀ i,isM l i [41] = false → AgV (commasR l it i) (V (i,false))) (hb : ∀ j,(V (j,true)).2 = (j,true)) (i : Nat) :
    AgV (functionR l p kind it i) (bindV (takeV l [41] (needV l [40] (i,false))) fun b s => bindV (if b then ([],s) else bindV (V s) fun ks s => (ks,needV l [41] s)) fun ks s => bindV (resultsV l q s) fun rs s => (Tr.mk kind [] ks.length (ks ++ rs),s)):=by
  unfold functionR listedR betweenR
  rw [Res.assoc]
  refine AgV.need (g:=fun s => bindV (takeV l [41] s) fun b s => bindV (if b then ([],s) else bindV (V s) fun ks s => (ks,needV l [41] s)) fun ks s => bindV (resultsV l q s) fun rs s => (Tr.mk kind [] ks.length (ks ++ rs),s)) (by decide) ?_ ?_
  · show AgV _ (bindV (bindV (takeV l [41] (i + 1,false)) fun b s => if b then ([],s) else bindV (V s) fun ks s => (ks,needV l [41] s)) fun ks s => bindV (resultsV l q s) fun rs s => (Tr.mk kind [] ks.length (ks ++ rs),s))
    refine AgV.bind (inner_ag (V:=V) (by decide) h (i + 1)) (fun _ j => ?_) (fun _ j => ?_)
    · refine AgV.bind (results_ag A j) (fun _ _ => ?_) (fun _ _ => ?_) <;> rfl
    · exact bindV_keep (results_bad j) fun _ => rfl
  · intro j
    show (bindV (bindV (takeV l [41] (j,true)) fun b s => if b then ([],s) else bindV (V s) fun ks s => (ks,needV l [41] s)) fun ks s => bindV (resultsV l q s) fun rs s => (Tr.mk kind [] ks.length (ks ++ rs),s)).2 = _
    exact bindV_keep (inner_bad (V:=V) (by decide) hb j) fun _ => bindV_keep (results_bad j) fun _ => rfl
theorem typ_bad (j : Nat) : (typV l q (j,true)).2 = (j,true):=rfl
theorem typ_ag (A : Av l p q) (hk : Kv q) (i : Nat) : AgV (typS l p i) (typV l q (i,false)):=by
 unfold typS typV
 simp only [Bool.false_eq_true,↓reduceIte]
 rw [isV_ok (by decide),isV_ok (by decide),isV_ok (by decide)]
 cases hn : (kindA l i == 1) with
 | true =>
  have h5 : ∀ m : List UInt8,isM l i m = false:=fun m => by
   have : kindA l i = 1:=by simpa using hn
   simp [isM,this]
  simp only [h5,Bool.false_eq_true,↓reduceIte]
  rw [nameV,show kindV l (i,false) = kindA l i from rfl,hn]
  rfl
 | false =>
  cases h1 : isM l i [42] with
  | true =>
   simp only [Bool.false_eq_true,↓reduceIte]
   refine AgV.bind (A.typ _) (fun _ _ => ?_) (fun _ _ => ?_) <;> rfl
  | false =>
   cases h2 : isM l i [91] with
   | true =>
    simp only [Bool.false_eq_true,↓reduceIte]
    refine AgV.need (g:=fun s => bindV (q.typ s) fun t s => (Tr.mk 12 [] 0 [t],s)) (by decide) ?_ (fun j => bindV_keep (hk.typ j) fun _ => rfl)
    refine AgV.bind (A.typ _) (fun _ _ => ?_) (fun _ _ => ?_) <;> rfl
   | false =>
    simp only [Bool.false_eq_true,↓reduceIte]
    rw [needR]
    cases h3 : isM l i [102,117,110,99] with
    | true =>
     simp only [↓reduceIte]
     exact func_ag A (fun i _ => commas_ag A.typ i) (commas_bad hk.typ) (i + 1)
    | false =>
     simp only [Bool.false_eq_true,↓reduceIte]
     rw [nameV,show kindV l (i,false) = kindA l i from rfl,hn]
     rfl
end
end Go.Proofs.YtnkphlkjhgngkaaGreatDoor

namespace Go.Proofs.YtnkphlkjhgngkaaGreatDoor
section
variable {l : List Tk} {p : Ps} {q : Vs}
theorem isM_othV {i : Nat} {a b : List UInt8} (h : isM l i a = true) (hab : a ≠ b) : isM l i b = false:=by
 simp only [isM,Bool.and_eq_true] at h ⊢
 have e : textA l i = a:=by simpa using h.2
 rw [e]
 simp [hab]
theorem func_bad {kind : Int} {V : Sg → List Tr × Sg} (hb : ∀ j,(V (j,true)).2 = (j,true)) (j : Nat) :
    (bindV (takeV l [41] (needV l [40] (j,true))) fun b s => bindV (if b then ([],s) else bindV (V s) fun ks s => (ks,needV l [41] s)) fun ks s => bindV (resultsV l q s) fun rs s => (Tr.mk kind [] ks.length (ks ++ rs),s)).2 = (j,true):=by
  rw [need_bad (by decide)]
  show (bindV (bindV (takeV l [41] (j,true)) fun b s => if b then ([],s) else bindV (V s) fun ks s => (ks,needV l [41] s)) fun ks s => bindV (resultsV l q s) fun rs s => (Tr.mk kind [] ks.length (ks ++ rs),s)).2 = _
  exact bindV_keep (inner_bad (V:=V) (by decide) hb j) fun _ => bindV_keep (results_bad j) fun _ => rfl
theorem par_bad (hk : Kv q) (j : Nat) : (parV l q (j,true)).2 = (j,true):=bind_bad name_bad (bindV_keep (hk.typ j) fun _ => rfl)
theorem par_ag (A : Av l p q) (hk : Kv q) (i : Nat) : AgV (paramR l p i) (parV l q (i,false)):=by
 refine AgV.bind AgV.name (fun _ j => ?_) (fun _ j => bindV_keep (hk.typ j) fun _ => rfl)
 refine AgV.bind (A.typ j) (fun _ _ => ?_) (fun _ _ => ?_) <;> rfl
theorem sig_bad (j : Nat) : (sigV l q (j,true)).2 = (j,true):=func_bad (V:=fun s => if s.2 then ([],s) else commasV l (parV l q) s) (fun _ => rfl) j
theorem sig_ag (A : Av l p q) (hk : Kv q) (i : Nat) : AgV (sigR l p i) (sigV l q (i,false)) :=
  func_ag A (V:=fun s => if s.2 then ([],s) else commasV l (parV l q) s) (fun i _ => commas_ag (par_ag A hk) i) (fun _ => rfl) i
theorem expr_ag (A : Av l p q) (h : Bool) (i : Nat) : AgV (exprR p h i) (exprV q h (i,false)):=A.bin h 1 i (by decide)
theorem exprs_ag (A : Av l p q) (h : Bool) (i : Nat) : AgV (exprsR l p h i) (exprsV l q h (i,false)):=commas_ag (expr_ag A h) i
theorem exprs_bad (hk : Kv q) (h : Bool) (j : Nat) : (exprsV l q h (j,true)).2 = (j,true):=commas_bad (fun j => hk.bin h 1 j) j
theorem until_bad (hk : Kv q) {m : List UInt8} (hm : m ≠ []) (j : Nat) : (untilV l q m (j,true)).2 = (j,true):=inner_bad (V:=exprsV l q false) hm (exprs_bad hk false) j
theorem until_ag (A : Av l p q) {m : List UInt8} (hm : m ≠ []) (i : Nat) : AgV ((innerR l m (exprR p false) i).bind fun a i => (needR l m i).bind fun _ i => .ok a i) (untilV l q m (i,false)) :=
  inner_ag (V:=exprsV l q false) hm (fun i _ => exprs_ag A false i) i
theorem listed_open {o m : List UInt8} {it : Nat → Res Tr} {i : Nat} (h : isM l i o = true) : listedR l o m it i = (innerR l m it (i + 1)).bind fun a i => (needR l m i).bind fun _ i => .ok a i:=by
 unfold listedR betweenR
 rw [needR,h]; rfl
theorem cut_bad (hk : Kv q) (num : Int) (ks : List Tr) (j : Nat) : (cutV l q num ks (j,true)).2 = (j,true):=by
 unfold cutV
 rw [need_bad (by decide)]
 exact bind_bad (take_bad (by decide)) (bindV_keep (v:=exprV q false (j,true)) (g:=fun e s => (Tr.mk 50 [] (num + 2) (ks ++ [e]),needV l [93] s)) (hk.bin false 1 j) fun _ => need_bad (l:=l) (m:=[93]) (by decide))
theorem cut_ag (A : Av l p q) (hk : Kv q) (num : Int) (ks : List Tr) (i : Nat) : AgV ((cutR l p num ks i).bind fun a i => (needR l [93] i).bind fun _ i => .ok a i) (cutV l q num ks (i,false)):=by
 unfold cutR cutV
 rw [Res.assoc]
 refine AgV.need (g:=fun s => bindV (takeV l [93] s) fun b s => if b then (Tr.mk 50 [] num ks,s) else bindV (exprV q false s) fun e s => (Tr.mk 50 [] (num + 2) (ks ++ [e]),needV l [93] s)) (by decide) ?_ ?_
 · cases h : isM l (i + 1) [93] with
   | true =>
    simp only [↓reduceIte]
    rw [takV_yes (by decide) h]
    show AgV ((needR l [93] (i + 1)).bind fun _ i => .ok _ i) _
    rw [needR,h]; rfl
   | false =>
    simp only [Bool.false_eq_true,↓reduceIte]
    rw [takV_no (by decide) h,Res.assoc]
    show AgV _ (bindV (exprV q false (i + 1,false)) fun e s => (Tr.mk 50 [] (num + 2) (ks ++ [e]),needV l [93] s))
    exact AgV.bind (expr_ag A false _) (fun _ _ => AgV.last (by decide) _) (fun _ _ => need_bad (l:=l) (m:=[93]) (by decide))
 · intro j
   exact bind_bad (take_bad (by decide)) (bindV_keep (v:=exprV q false (j,true)) (g:=fun e s => (Tr.mk 50 [] (num + 2) (ks ++ [e]),needV l [93] s)) (hk.bin false 1 j) fun _ => need_bad (l:=l) (m:=[93]) (by decide))
theorem index_bad (hk : Kv q) (n : Tr) (j : Nat) : (indexV l q n (j,true)).2 = (j,true):=by
 unfold indexV
 rw [isV_bad (by decide)]
 simp only [Bool.false_eq_true,↓reduceIte]
 exact bindV_keep (hk.bin false 1 j) fun _ => bind_bad (take_bad (by decide)) (cut_bad hk _ _ j)
theorem index_ag (A : Av l p q) (hk : Kv q) (n : Tr) (i : Nat) : AgV ((partR l p n i).bind fun a i => (needR l [93] i).bind fun _ i => .ok a i) (indexV l q n (i,false)):=by
 unfold partR indexV
 rw [isV_ok (by decide)]
 cases h : isM l i [58] with
 | true => simp only [↓reduceIte]; exact cut_ag A hk 0 [n] i
 | false =>
  simp only [Bool.false_eq_true,↓reduceIte]
  rw [Res.assoc]
  refine AgV.bind (expr_ag A false i) (fun e j => ?_) (fun e j => bind_bad (take_bad (by decide)) (cut_bad hk _ _ j))
  cases h1 : isM l j [58] with
  | true =>
   simp only [↓reduceIte]
   rw [takV_no (by decide) (isM_othV h1 (by decide))]
   exact cut_ag A hk 1 [n,e] j
  | false =>
   simp only [Bool.false_eq_true,↓reduceIte]
   show AgV ((needR l [93] j).bind fun _ i => .ok (Tr.mk 49 [] 0 [n,e]) i) _
   rw [needR]
   cases h2 : isM l j [93] with
   | true => rw [takV_yes (by decide) h2]; rfl
   | false =>
    rw [takV_no (by decide) h2]
    show (cutV l q 1 [n,e] (j,false)).2 = (j,true)
    have e1 : needV l [58] (j,false) = (j,true):=by rw [needV,isV_ok (by decide),h1]; rfl
    have e2 : needV l [58] (j,true) = (j,true):=need_bad (by decide)
    have:=cut_bad (l:=l) hk 1 [n,e] j
    unfold cutV at this ⊢
    rw [e2] at this
    rw [e1]; exact this
theorem named_ag (A : Av l p q) (h : Bool) (i : Nat) : AgV (namedR l p h i) (bindV (nameV l (i,false)) fun n s => if h then (Tr.mk 44 n 0 [],s) else bindV (takeV l [123] s) fun b s => if b then bindV (untilV l q [125] s) fun ks s => (Tr.mk 45 n 0 ks,s) else (Tr.mk 44 n 0 [],s)):=by
 unfold namedR
 refine AgV.bind AgV.name (fun n j => ?_) (fun n j => ?_)
 · cases h with
   | true => simp only [Bool.not_true,Bool.and_false,Bool.false_eq_true,↓reduceIte]; rfl
   | false =>
    simp only [Bool.not_false,Bool.and_true,Bool.false_eq_true,↓reduceIte]
    cases hm : isM l j [123] with
    | true =>
     simp only [↓reduceIte]
     rw [takV_yes (by decide) hm,elementsR,listed_open hm]
     show AgV _ (bindV (untilV l q [125] (j + 1,false)) fun ks s => (Tr.mk 45 n 0 ks,s))
     refine AgV.bind (until_ag A (by decide) _) (fun _ _ => ?_) (fun _ _ => ?_) <;> rfl
    | false =>
     simp only [Bool.false_eq_true,↓reduceIte]
     rw [takV_no (by decide) hm]; rfl
 · cases h with
   | true => rfl
   | false => exact bind_bad (take_bad (by decide)) rfl
theorem prim_bad (h : Bool) (j : Nat) : (primV l q h (j,true)).2 = (j,true):=by
 unfold primV
 simp only [show kindV l (j,true) = 0 from rfl,isV_bad (show ([116,114,117,101] : List UInt8) ≠ [] by decide),isV_bad (show ([102,97,108,115,101] : List UInt8) ≠ [] by decide),isV_bad (show ([110,105,108] : List UInt8) ≠ [] by decide),isV_bad (show ([40] : List UInt8) ≠ [] by decide),isV_bad (show ([91] : List UInt8) ≠ [] by decide),isV_bad (show ([102,117,110,99] : List UInt8) ≠ [] by decide)]
 rfl
theorem prim_ag (A : Av l p q) (hk : Kv q) (h : Bool) (i : Nat) : AgV (primR l p h i) (primV l q h (i,false)):=by
 unfold primR primV
 rw [show kindV l (i,false) = kindA l i from rfl,isV_ok (by decide),isV_ok (by decide),isV_ok (by decide),isV_ok (by decide),isV_ok (by decide),isV_ok (by decide)]
 cases (kindA l i == 2) with
 | true => rfl
 | false =>
 cases (kindA l i == 3) with
 | true => rfl
 | false =>
 cases (kindA l i == 1) with
 | true => simp only [Bool.false_eq_true,↓reduceIte]; exact named_ag A h i
 | false =>
 cases isM l i [116,114,117,101] with
 | true => rfl
 | false =>
 cases isM l i [102,97,108,115,101] with
 | true => rfl
 | false =>
 cases isM l i [110,105,108] with
 | true => rfl
 | false =>
 cases h1 : isM l i [40] with
 | true =>
  simp only [Bool.false_eq_true,↓reduceIte]
  unfold betweenR
  rw [needR,h1]
  show AgV ((exprR p false (i + 1)).bind fun a i => (needR l [41] i).bind fun _ i => .ok a i) (bindV (exprV q false (i + 1,false)) fun n s => (n,needV l [41] s))
  exact AgV.bind (expr_ag A false _) (fun _ _ => AgV.last (by decide) _) (fun _ _ => need_bad (l:=l) (m:=[41]) (by decide))
 | false =>
 cases h2 : isM l i [91] with
 | true =>
  simp only [Bool.false_eq_true,↓reduceIte]
  have kb : ∀ t j,(bindV (untilV l q [125] (needV l [123] (j,true))) fun ks s => (Tr.mk 46 [] 0 (t :: ks),s)).2 = (j,true):=fun t j => by
   rw [need_bad (by decide)]; exact bindV_keep (until_bad hk (by decide) j) fun _ => rfl
  refine AgV.need (g:=fun s => bindV (q.typ s) fun t s => bindV (untilV l q [125] (needV l [123] s)) fun ks s => (Tr.mk 46 [] 0 (t :: ks),s)) (by decide) ?_ (fun j => bindV_keep (hk.typ j) fun t => kb t j)
  refine AgV.bind (A.typ _) (fun t j => ?_) (fun t j => kb t j)
  unfold elementsR listedR betweenR
  rw [Res.assoc]
  refine AgV.need (g:=fun s => bindV (untilV l q [125] s) fun ks s => (Tr.mk 46 [] 0 (t :: ks),s)) (by decide) ?_ (fun j => bindV_keep (until_bad hk (by decide) j) fun _ => rfl)
  refine AgV.bind (until_ag A (by decide) _) (fun _ _ => ?_) (fun _ _ => ?_) <;> rfl
 | false =>
  simp only [Bool.false_eq_true,↓reduceIte]
  rw [needR]
  cases h3 : isM l i [102,117,110,99] with
  | true =>
   simp only [↓reduceIte]
   show AgV ((sigR l p (i + 1)).bind fun s i => (p.blk i).bind fun b i => .ok (Tr.mk 47 [] 0 [s,b]) i) (bindV (sigV l q (i + 1,false)) fun g s => bindV (q.blk s) fun b s => (Tr.mk 47 [] 0 [g,b],s))
   refine AgV.bind (sig_ag A hk _) (fun _ j => ?_) (fun _ j => bindV_keep (hk.blk j) fun _ => rfl)
   refine AgV.bind (A.blk j) (fun _ _ => ?_) (fun _ _ => ?_) <;> rfl
  | false => rfl
theorem post_bad (f : Nat) (n : Tr) (j : Nat) : (postV l q f n (j,true)).2 = (j,true):=by cases f <;> rfl
theorem post_ag (A : Av l p q) (hk : Kv q) : ∀ (f : Nat) (n : Tr) (i : Nat),AgV (postF l p f n i) (postV l q f n (i,false))
  | 0,n,i => rfl
  | f + 1,n,i => by
   rw [postF,postV,isV_ok (by decide),isV_ok (by decide),isV_ok (by decide)]
   simp only [Bool.false_eq_true,↓reduceIte]
   cases h1 : isM l i [46] with
   | true =>
    simp only [↓reduceIte]
    exact AgV.bind (v:=nameV l (i + 1,false)) AgV.name (fun _ j => post_ag A hk f _ j) (fun _ j => post_bad f _ j)
   | false =>
   cases h2 : isM l i [91] with
   | true =>
    simp only [Bool.false_eq_true,↓reduceIte]
    unfold betweenR
    rw [needR,h2]
    show AgV (((partR l p n (i + 1)).bind fun a i => (needR l [93] i).bind fun _ i => .ok a i).bind fun n j => postF l p f n j) (bindV (indexV l q n (i + 1,false)) fun n s => postV l q f n s)
    exact AgV.bind (index_ag A hk n _) (fun _ j => post_ag A hk f _ j) (fun _ j => post_bad f _ j)
   | false =>
   cases h3 : isM l i [40] with
   | true =>
    simp only [Bool.false_eq_true,↓reduceIte]
    rw [listed_open h3]
    show AgV _ (bindV (untilV l q [41] (i + 1,false)) fun ks s => postV l q f (Tr.mk 51 [] 0 (n :: ks)) s)
    exact AgV.bind (until_ag A (by decide) _) (fun _ j => post_ag A hk f _ j) (fun _ j => post_bad f _ j)
   | false => rfl
theorem now_rank (hw : WkV l) (i : Nat) : rankL (nowV l (i,false)) = rankL (markA l i):=by
 unfold nowV markA
 simp only [Bool.false_eq_true,↓reduceIte]
 by_cases h4 : kindA l i = 4
 · simp [h4]
 · by_cases h5 : kindA l i = 5
   · simp [h5,(hw i h5).1,show rankL [] = 0 from rfl]
   · simp [h4,h5]
theorem now_prefix (hw : WkV l) (i : Nat) : prefixL (nowV l (i,false)) = prefixL (markA l i):=by
 unfold nowV markA
 simp only [Bool.false_eq_true,↓reduceIte]
 by_cases h4 : kindA l i = 4
 · simp [h4]
 · by_cases h5 : kindA l i = 5
   · simp [h5,(hw i h5).2,show prefixL [] = false from rfl]
   · simp [h4,h5]
theorem now_mark {i : Nat} (h : markA l i ≠ []) : nowV l (i,false) = markA l i:=by
 unfold nowV
 unfold markA at h ⊢
 simp only [Bool.false_eq_true,↓reduceIte]
 by_cases h4 : kindA l i = 4
 · simp [h4]
 · simp [h4] at h
theorem una_bad (h : Bool) (j : Nat) : (unaV l q h (j,true)).2 = (j,true):=by
 unfold unaV
 rw [show prefixL (nowV l (j,true)) = false from rfl]
 simp only [Bool.false_eq_true,↓reduceIte]
 exact bindV_keep (prim_bad h j) fun _ => post_bad _ _ j
theorem una_ag (hw : WkV l) (A : Av l p q) (hk : Kv q) (h : Bool) (i : Nat) : AgV (unaS l p h i) (unaV l q h (i,false)):=by
 unfold unaS unaV
 rw [now_prefix hw]
 cases hp : prefixL (markA l i) with
 | true =>
  rw [now_mark (fun e => by rw [e] at hp; cases hp)]
  simp only [↓reduceIte]
  refine AgV.bind (v:=q.una h (i + 1,false)) (A.una h _) (fun _ _ => ?_) (fun _ _ => ?_) <;> rfl
 | false =>
  simp only [Bool.false_eq_true,↓reduceIte]
  exact AgV.bind (prim_ag A hk h i) (fun _ j => post_ag A hk _ _ j) (fun _ j => post_bad _ _ j)
theorem climb_bad (h : Bool) (least : Int) (f : Nat) (n : Tr) (j : Nat) : (climbV l q h least f n (j,true)).2 = (j,true):=by cases f <;> rfl
theorem climb_ag (hw : WkV l) (A : Av l p q) (h : Bool) (least : Int) (hl : 1 ≤ least) : ∀ (f : Nat) (n : Tr) (i : Nat),AgV (binF l p h least f n i) (climbV l q h least f n (i,false))
  | 0,n,i => rfl
  | f + 1,n,i => by
   rw [binF,climbV,now_rank hw]
   simp only [Bool.false_eq_true,↓reduceIte]
   by_cases hr : least ≤ rankL (markA l i)
   · rw [if_pos hr,if_pos hr,now_mark (fun e => by rw [e,show rankL [] = 0 from rfl] at hr; omega)]
     exact AgV.bind (v:=q.bin h _ (i + 1,false)) (A.bin h _ _ (by omega)) (fun _ j => climb_ag hw A h least hl f _ j) (fun _ j => climb_bad h least f _ j)
   · rw [if_neg hr,if_neg hr]; rfl
theorem bin_ag (hw : WkV l) (A : Av l p q) (h : Bool) (least : Int) (i : Nat) (hl : 1 ≤ least) : AgV (binS l p h least i) (binV l q h least (i,false)) :=
  AgV.bind (A.una h i) (fun _ j => climb_ag hw A h least hl _ _ j) (fun _ j => climb_bad h least _ _ j)
theorem bin_bad (hk : Kv q) (h : Bool) (least : Int) (j : Nat) : (binV l q h least (j,true)).2 = (j,true):=bindV_keep (hk.una h j) fun _ => climb_bad h least _ _ j
end
end Go.Proofs.YtnkphlkjhgngkaaGreatDoor

namespace Go.Proofs.YtnkphlkjhgngkaaGreatDoor
section
variable {l : List Tk} {p : Ps} {q : Vs}
theorem else_bad (hk : Kv q) (j : Nat) : (elseV l q (j,true)).2 = (j,true):=by
 unfold elseV
 rw [isV_bad (by decide)]
 exact hk.blk j
theorem ifT_bad {q : Vs} (c b : Tr) (j : Nat) : (bindV (takeV l [101,108,115,101] (j,true)) fun e s => if e then (if isV l s [105,102] || isV l s [123] then bindV (elseV l q s) fun x s => (Tr.mk 25 [] 0 [c,b,x],s) else (Tr.mk 25 [] 0 [c,b],badV s)) else (Tr.mk 25 [] 0 [c,b],s)).2 = (j,true) :=
  bind_bad (take_bad (by decide)) rfl
theorem if_bad (hk : Kv q) (j : Nat) : (ifV l q (j,true)).2 = (j,true):=bindV_keep (hk.bin true 1 j) fun _ => bindV_keep (hk.blk j) fun _ => ifT_bad _ _ j
theorem if_ag (A : Av l p q) (hk : Kv q) (i : Nat) : AgV (ifSS l p i) (ifV l q (i,false)):=by
 refine AgV.bind (expr_ag A true i) (fun c j => ?_) (fun c j => bindV_keep (hk.blk j) fun _ => ifT_bad _ _ j)
 refine AgV.bind (A.blk j) (fun b j => ?_) (fun b j => ifT_bad _ _ j)
 cases h : isM l j [101,108,115,101] with
 | false =>
  rw [takV_no (by decide) h]; rfl
 | true =>
  rw [takV_yes (by decide) h]
  show AgV _ (if isV l (j + 1,false) [105,102] || isV l (j + 1,false) [123] then bindV (elseV l q (j + 1,false)) fun x s => (Tr.mk 25 [] 0 [c,b,x],s) else (Tr.mk 25 [] 0 [c,b],badV (j + 1,false)))
  unfold elseV
  rw [isV_ok (by decide),isV_ok (by decide)]
  cases h1 : isM l (j + 1) [105,102] with
  | true =>
   simp only [Bool.true_or,↓reduceIte]
   refine AgV.bind (v:=q.ifS (j + 1 + 1,false)) (A.ifS _) (fun _ _ => ?_) (fun _ _ => ?_) <;> rfl
  | false =>
   cases h2 : isM l (j + 1) [123] with
   | true =>
    simp only [Bool.false_or,Bool.false_eq_true,↓reduceIte]
    refine AgV.bind (A.blk _) (fun _ _ => ?_) (fun _ _ => ?_) <;> rfl
   | false =>
    simp only [Bool.false_or,Bool.false_eq_true,↓reduceIte]
    rw [A.no _ h2]; rfl
theorem for_bad (hk : Kv q) (j : Nat) : (forV l q (j,true)).2 = (j,true):=by
 unfold forV
 rw [isV_bad (by decide)]
 simp only [Bool.false_eq_true,↓reduceIte]
 exact bindV_keep (hk.bin true 1 j) fun _ => bindV_keep (hk.blk j) fun _ => rfl
theorem for_ag (A : Av l p q) (hk : Kv q) (i : Nat) : AgV (forR l p i) (forV l q (i,false)):=by
 unfold forR forV
 rw [isV_ok (by decide)]
 cases isM l i [123] with
 | true =>
  simp only [↓reduceIte]
  refine AgV.bind (A.blk _) (fun _ _ => ?_) (fun _ _ => ?_) <;> rfl
 | false =>
  simp only [Bool.false_eq_true,↓reduceIte]
  refine AgV.bind (expr_ag A true i) (fun _ j => ?_) (fun _ j => bindV_keep (hk.blk j) fun _ => rfl)
  refine AgV.bind (A.blk _) (fun _ _ => ?_) (fun _ _ => ?_) <;> rfl
theorem assT_bad (hk : Kv q) (k : Int) (es : List Tr) (j : Nat) : (bindV (exprsV l q false (j,true)) fun fs s => (Tr.mk k [] es.length (es ++ fs),s)).2 = (j,true):=bindV_keep (exprs_bad hk false j) fun _ => rfl
theorem lineT_bad (q : Vs) (es : List Tr) (j : Nat) : (if isV l (j,true) [58,61] && es.all isNameT then bindV (exprsV l q false (stepV (j,true))) fun fs s => (Tr.mk 22 [] es.length (es ++ fs),s)
    else if isV l (j,true) [61] && es.all isPlaceT then bindV (exprsV l q false (stepV (j,true))) fun fs s => (Tr.mk 23 [] es.length (es ++ fs),s)
    else if isV l (j,true) [59] && (match es with | [e] => isCallT e | _ => false) then (Tr.mk 24 [] 0 es,(j,true))
    else (Tr.mk 23 [] 0 [],badV (j,true))).2 = (j,true):=by
  rw [isV_bad (by decide),isV_bad (by decide),isV_bad (by decide)]
  rfl
theorem line_bad (hk : Kv q) (j : Nat) : (lineV l q (j,true)).2 = (j,true):=by
 unfold lineV
 rw [isV_bad (m:=[118,97,114]) (by decide),isV_bad (m:=[114,101,116,117,114,110]) (by decide),isV_bad (m:=[98,114,101,97,107]) (by decide),isV_bad (m:=[99,111,110,116,105,110,117,101]) (by decide)]
 simp only [Bool.false_eq_true,↓reduceIte]
 exact bindV_keep (exprs_bad hk false j) fun es => lineT_bad q es j
theorem varT_bad (hk : Kv q) (n : List UInt8) (t : Tr) (j : Nat) : (bindV (takeV l [61] (j,true)) fun b s => if b then bindV (exprV q false s) fun e s => (Tr.mk 21 n 0 [t,e],s) else (Tr.mk 21 n 0 [t],s)).2 = (j,true):=by
 have _:=hk
 exact bind_bad (take_bad (by decide)) rfl
/-- A line, with the mark behind it. -/
theorem line_ag (A : Av l p q) (hk : Kv q) (i : Nat) : AgV ((simpleR l p false i).bind fun n i => (needR l [59] i).bind fun _ i => .ok n i) (bindV (lineV l q (i,false)) fun n s => (n,needV l [59] s)):=by
 have fin : ∀ {r : Res Tr} {v : Tr × Sg},AgV r v → AgV (r.bind fun n i => (needR l [59] i).bind fun _ i => .ok n i) (bindV v fun n s => (n,needV l [59] s)):=fun h => AgV.bind h (fun _ _ => AgV.last (by decide) _) (fun _ _ => need_bad (l:=l) (m:=[59]) (by decide))
 unfold simpleR lineV
 rw [isV_ok (m:=[118,97,114]) (by decide),isV_ok (m:=[114,101,116,117,114,110]) (by decide),isV_ok (m:=[98,114,101,97,107]) (by decide),isV_ok (m:=[99,111,110,116,105,110,117,101]) (by decide)]
 cases h1 : isM l i [118,97,114] with
 | true =>
  simp only [↓reduceIte]
  refine fin ?_
  show AgV (variableR l p false (i + 1)) (bindV (nameV l (i + 1,false)) fun n s => bindV (q.typ s) fun t s => bindV (takeV l [61] s) fun b s => if b then bindV (exprV q false s) fun e s => (Tr.mk 21 n 0 [t,e],s) else (Tr.mk 21 n 0 [t],s))
  refine AgV.bind AgV.name (fun n j => ?_) (fun n j => bindV_keep (hk.typ j) fun t => varT_bad hk n t j)
  refine AgV.bind (A.typ j) (fun t j => ?_) (fun t j => varT_bad hk n t j)
  cases h : isM l j [61] with
  | true =>
   rw [takV_yes (by decide) h]
   show AgV ((exprR p false (j + 1)).bind fun e i => .ok (Tr.mk 21 n 0 [t,e]) i) (bindV (exprV q false (j + 1,false)) fun e s => (Tr.mk 21 n 0 [t,e],s))
   refine AgV.bind (expr_ag A false _) (fun _ _ => ?_) (fun _ _ => ?_) <;> rfl
  | false => rw [takV_no (by decide) h]; rfl
 | false =>
 cases h2 : isM l i [114,101,116,117,114,110] with
 | true =>
  rw [isM_othV h2 (b:=[98,114,101,97,107]) (by decide),isM_othV h2 (b:=[99,111,110,116,105,110,117,101]) (by decide)]
  simp only [Bool.false_eq_true,↓reduceIte]
  refine fin ?_
  show AgV _ (if isV l (i + 1,false) [59] then (Tr.mk 27 [] 0 [],(i + 1,false)) else bindV (exprsV l q false (i + 1,false)) fun ks s => (Tr.mk 27 [] 0 ks,s))
  rw [isV_ok (by decide)]
  cases isM l (i + 1) [59] with
  | true => rfl
  | false =>
   simp only [Bool.false_eq_true,↓reduceIte]
   refine AgV.bind (exprs_ag A false _) (fun _ _ => ?_) (fun _ _ => ?_) <;> rfl
 | false =>
 cases h3 : isM l i [98,114,101,97,107] with
 | true => simp only [Bool.false_eq_true,↓reduceIte]; exact fin rfl
 | false =>
 cases h4 : isM l i [99,111,110,116,105,110,117,101] with
 | true => simp only [Bool.false_eq_true,↓reduceIte]; exact fin rfl
 | false =>
  simp only [Bool.false_eq_true,↓reduceIte]
  unfold assignmentR
  rw [Res.assoc,bindV_assoc]
  refine AgV.bind (exprs_ag A false i) (fun es j => ?_) (fun es j => bindV_keep (lineT_bad q es j) fun _ => need_bad (l:=l) (m:=[59]) (by decide))
  rw [isV_ok (m:=[58,61]) (by decide),isV_ok (m:=[61]) (by decide),isV_ok (m:=[59]) (by decide)]
  cases c1 : (isM l j [58,61] && es.all isNameT) with
  | true =>
   simp only [↓reduceIte]
   refine fin ?_
   show AgV ((exprsR l p false (j + 1)).bind fun fs i => .ok (Tr.mk 22 [] es.length (es ++ fs)) i) (bindV (exprsV l q false (j + 1,false)) fun fs s => (Tr.mk 22 [] es.length (es ++ fs),s))
   refine AgV.bind (exprs_ag A false _) (fun _ _ => ?_) (fun _ _ => ?_) <;> rfl
  | false =>
  cases c2 : (isM l j [61] && es.all isPlaceT) with
  | true =>
   simp only [Bool.false_eq_true,↓reduceIte]
   refine fin ?_
   show AgV ((exprsR l p false (j + 1)).bind fun fs i => .ok (Tr.mk 23 [] es.length (es ++ fs)) i) (bindV (exprsV l q false (j + 1,false)) fun fs s => (Tr.mk 23 [] es.length (es ++ fs),s))
   refine AgV.bind (exprs_ag A false _) (fun _ _ => ?_) (fun _ _ => ?_) <;> rfl
  | false =>
   simp only [Bool.false_eq_true,↓reduceIte]
   have bd : (bindV (Tr.mk 23 [] 0 [],badV (j,false)) fun n s => (n,needV l [59] s)).2 = (j,true):=need_bad (l:=l) (m:=[59]) (by decide)
   match es with
   | [] => simp only [Bool.and_false,Bool.false_eq_true,↓reduceIte]; exact bd
   | _ :: _ :: _ => simp only [Bool.and_false,Bool.false_eq_true,↓reduceIte]; exact bd
   | [e] =>
    cases hc : isCallT e with
    | false => simp only [hc,Bool.and_false,Bool.false_eq_true,↓reduceIte]; exact bd
    | true =>
     simp only [hc,Bool.and_true,↓reduceIte]
     show AgV ((needR l [59] j).bind fun _ i => .ok _ i) _
     rw [needR]
     cases hm : isM l j [59] with
     | true =>
      simp only [↓reduceIte]
      show AgV (.ok _ (j + 1)) (_,needV l [59] (j,false))
      rw [needV,isV_ok (by decide),hm]; rfl
     | false => simp only [Bool.false_eq_true,↓reduceIte]; exact bd
theorem stm_bad (hk : Kv q) (j : Nat) : (stmV l q (j,true)).2 = (j,true):=by
 unfold stmV
 rw [isV_bad (m:=[123]) (by decide),isV_bad (m:=[105,102]) (by decide),isV_bad (m:=[102,111,114]) (by decide)]
 simp only [Bool.false_eq_true,↓reduceIte]
 exact bindV_keep (line_bad hk j) fun _ => need_bad (l:=l) (m:=[59]) (by decide)
theorem stm_ag (A : Av l p q) (hk : Kv q) (i : Nat) : AgV (stmtR l p false i) (stmV l q (i,false)):=by
 unfold stmtR stmV
 rw [isV_ok (m:=[123]) (by decide),isV_ok (m:=[105,102]) (by decide),isV_ok (m:=[102,111,114]) (by decide)]
 cases isM l i [123] with
 | true => simp only [↓reduceIte]; exact A.blk i
 | false =>
 cases isM l i [105,102] with
 | true => simp only [Bool.false_eq_true,↓reduceIte]; exact A.ifS (i + 1)
 | false =>
 cases isM l i [102,111,114] with
 | true => simp only [Bool.false_eq_true,↓reduceIte]; exact for_ag A hk (i + 1)
 | false => simp only [Bool.false_eq_true,↓reduceIte]; exact line_ag A hk i
theorem stms_bad (f : Nat) (acc : List Tr) (j : Nat) : (stmsV l q f acc (j,true)).2 = (j,true):=by cases f <;> rfl
theorem stms_ag (A : Av l p q) (hk : Kv q) : ∀ (f : Nat) (acc : List Tr) (i : Nat),AgV ((upToF l [125] (stmtR l p false) f acc i).bind fun a i => (needR l [125] i).bind fun _ i => .ok a i) (stmsV l q f acc (i,false))
  | 0,acc,i => rfl
  | f + 1,acc,i => by
   rw [upToF,stmsV]
   simp only [Bool.false_eq_true,↓reduceIte]
   cases h : isM l i [125] with
   | true =>
    rw [takV_yes (by decide) h]
    show AgV ((needR l [125] i).bind fun _ i => .ok acc i) _
    rw [needR,h]; rfl
   | false =>
    rw [takV_no (by decide) h,if_neg (by decide),Res.assoc]
    show AgV _ (bindV (stmV l q (i,false)) fun t s => stmsV l q f (acc ++ [t]) s)
    exact AgV.bind (stm_ag A hk i) (fun _ j => stms_ag A hk f _ j) (fun _ j => stms_bad f _ j)
theorem blk_bad (j : Nat) : (blkV l q (j,true)).2 = (j,true):=by
 unfold blkV
 rw [need_bad (by decide)]
 exact bindV_keep (stms_bad _ _ j) fun _ => rfl
theorem blk_ag (A : Av l p q) (hk : Kv q) (i : Nat) : AgV (blkS l p i) (blkV l q (i,false)):=by
 unfold blkS blkV membersR betweenR upToR
 rw [Res.assoc]
 refine AgV.need (g:=fun s => bindV (stmsV l q (l.length + 1) [] s) fun ks s => (Tr.mk 20 [] 0 ks,s)) (by decide) ?_ (fun j => bindV_keep (stms_bad _ _ j) fun _ => rfl)
 refine AgV.bind (stms_ag A hk _ _ _) (fun _ _ => ?_) (fun _ _ => ?_) <;> rfl
theorem blk_no (i : Nat) (h : isM l i [123] = false) : blkS l p i = .bad i:=by
 unfold blkS membersR betweenR
 rw [needR,h]; rfl
end
theorem kvs (l : List Tk) : ∀ n,Kv (vs l n)
  | 0 => ⟨fun _ => rfl,fun _ _ _ => rfl,fun _ _ => rfl,fun _ => rfl,fun _ => rfl⟩
  | n + 1 => ⟨fun j => typ_bad (l:=l) (q:=vs l n) j,bin_bad (kvs l n),una_bad,blk_bad,if_bad (kvs l n)⟩
theorem avs (l : List Tk) (hw : WkV l) : ∀ n,Av l (ps l n) (vs l n)
  | 0 => ⟨fun _ => rfl,fun _ _ _ _ => rfl,fun _ _ => rfl,fun _ => rfl,fun _ => rfl,fun _ _ => rfl⟩
  | n + 1 => ⟨typ_ag (avs l hw n) (kvs l n),bin_ag hw (avs l hw n),una_ag hw (avs l hw n) (kvs l n),blk_ag (avs l hw n) (kvs l n),if_ag (avs l hw n) (kvs l n),blk_no⟩
section
variable {l : List Tk} {p : Ps} {q : Vs}
theorem memT_bad (hk : Kv q) (iface : Bool) (n : List UInt8) (j : Nat) : (bindV (if iface then sigV l q (j,true) else q.typ (j,true)) fun t s => (Tr.mk 6 n 0 [t],needV l [59] s)).2 = (j,true):=by
 cases iface with
 | true => exact bindV_keep (sig_bad j) fun _ => need_bad (l:=l) (m:=[59]) (by decide)
 | false => exact bindV_keep (hk.typ j) fun _ => need_bad (l:=l) (m:=[59]) (by decide)
theorem mem_bad (hk : Kv q) (iface : Bool) (j : Nat) : (memV l q iface (j,true)).2 = (j,true):=bind_bad name_bad (memT_bad hk iface _ j)
theorem field_ag (A : Av l p q) (hk : Kv q) (i : Nat) : AgV (fieldR l p i) (memV l q false (i,false)):=by
 refine AgV.bind AgV.name (fun _ j => ?_) (fun _ j => memT_bad hk false _ j)
 exact AgV.bind (A.typ j) (fun _ _ => AgV.last (by decide) _) (fun _ _ => need_bad (l:=l) (m:=[59]) (by decide))
theorem method_ag (A : Av l p q) (hk : Kv q) (i : Nat) : AgV (methodR l p i) (memV l q true (i,false)):=by
 refine AgV.bind AgV.name (fun _ j => ?_) (fun _ j => memT_bad hk true _ j)
 exact AgV.bind (sig_ag A hk j) (fun _ _ => AgV.last (by decide) _) (fun _ _ => need_bad (l:=l) (m:=[59]) (by decide))
theorem mems_bad (iface : Bool) (f : Nat) (acc : List Tr) (j : Nat) : (memsV l q iface f acc (j,true)).2 = (j,true):=by cases f <;> rfl
theorem mems_ag {it : Nat → Res Tr} {iface : Bool} (h : ∀ i,AgV (it i) (memV l q iface (i,false))) : ∀ (f : Nat) (acc : List Tr) (i : Nat),AgV ((upToF l [125] it f acc i).bind fun a i => (needR l [125] i).bind fun _ i => .ok a i) (memsV l q iface f acc (i,false))
  | 0,acc,i => rfl
  | f + 1,acc,i => by
   rw [upToF,memsV]
   simp only [Bool.false_eq_true,↓reduceIte]
   cases hm : isM l i [125] with
   | true =>
    rw [takV_yes (by decide) hm]
    show AgV ((needR l [125] i).bind fun _ i => .ok acc i) _
    rw [needR,hm]; rfl
   | false =>
    rw [takV_no (by decide) hm,if_neg (by decide),Res.assoc]
    show AgV _ (bindV (memV l q iface (i,false)) fun t s => memsV l q iface f (acc ++ [t]) s)
    exact AgV.bind (h i) (fun _ j => mems_ag h f _ j) (fun _ j => mems_bad iface f _ j)
theorem members_ag {it : Nat → Res Tr} {iface : Bool} (h : ∀ i,AgV (it i) (memV l q iface (i,false))) (k : Int) (n : List UInt8) (i : Nat) :
    AgV ((membersR l it i).bind fun ks i => .ok (Tr.mk k n 0 ks) i) (bindV (memsV l q iface (l.length + 1) [] (needV l [123] (i,false))) fun ks s => (Tr.mk k n 0 ks,s)):=by
  unfold membersR betweenR upToR
  rw [Res.assoc]
  refine AgV.need (g:=fun s => bindV (memsV l q iface (l.length + 1) [] s) fun ks s => (Tr.mk k n 0 ks,s)) (by decide) ?_ (fun j => bindV_keep (mems_bad _ _ _ j) fun _ => rfl)
  refine AgV.bind (mems_ag h _ _ _) (fun _ _ => ?_) (fun _ _ => ?_) <;> rfl
theorem typeT_bad (q : Vs) (n : List UInt8) (j : Nat) : (bindV (takeV l [105,110,116,101,114,102,97,99,101] (j,true)) fun i s => bindV (memsV l q i (l.length + 1) [] (needV l [123] (if i then s else needV l [115,116,114,117,99,116] s))) fun ks s => (Tr.mk (if i then 3 else 2) n 0 ks,s)).2 = (j,true):=by
 refine bind_bad (take_bad (by decide)) ?_
 show (bindV (memsV l q false (l.length + 1) [] (needV l [123] (needV l [115,116,114,117,99,116] (j,true)))) fun ks s => (Tr.mk 2 n 0 ks,s)).2 = _
 rw [need_bad (by decide),need_bad (by decide)]
 exact bindV_keep (mems_bad _ _ _ j) fun _ => rfl
theorem type_ag (A : Av l p q) (hk : Kv q) (i : Nat) : AgV (typeDeclR l p i) (bindV (nameV l (i,false)) fun n s => bindV (takeV l [105,110,116,101,114,102,97,99,101] s) fun i s => bindV (memsV l q i (l.length + 1) [] (needV l [123] (if i then s else needV l [115,116,114,117,99,116] s))) fun ks s => (Tr.mk (if i then 3 else 2) n 0 ks,s)):=by
 refine AgV.bind AgV.name (fun n j => ?_) (fun n j => typeT_bad q n j)
 cases h1 : isM l j [115,116,114,117,99,116] with
 | true =>
  rw [takV_no (by decide) (isM_othV h1 (by decide)),if_pos rfl]
  show AgV _ (bindV (memsV l q false (l.length + 1) [] (needV l [123] (needV l [115,116,114,117,99,116] (j,false)))) fun ks s => (Tr.mk 2 n 0 ks,s))
  rw [show needV l [115,116,114,117,99,116] (j,false) = (j + 1,false) by rw [needV,isV_ok (by decide),h1]; rfl]
  exact members_ag (field_ag A hk) 2 n (j + 1)
 | false =>
  rw [if_neg (by decide),needR]
  cases h2 : isM l j [105,110,116,101,114,102,97,99,101] with
  | true =>
   rw [takV_yes (by decide) h2]
   show AgV ((membersR l (methodR l p) (j + 1)).bind fun ks i => .ok (Tr.mk 3 n 0 ks) i) (bindV (memsV l q true (l.length + 1) [] (needV l [123] (j + 1,false))) fun ks s => (Tr.mk 3 n 0 ks,s))
   exact members_ag (method_ag A hk) 3 n (j + 1)
  | false =>
   rw [takV_no (by decide) h2]
   show (bindV (memsV l q false (l.length + 1) [] (needV l [123] (needV l [115,116,114,117,99,116] (j,false)))) fun ks s => (Tr.mk 2 n 0 ks,s)).2 = (j,true)
   rw [show needV l [115,116,114,117,99,116] (j,false) = (j,true) by rw [needV,isV_ok (by decide),h1]; rfl,need_bad (by decide)]
   exact bindV_keep (mems_bad _ _ _ j) fun _ => rfl
theorem bodyT_bad (hk : Kv q) {K : Tr → Tr → Tr} (j : Nat) : (bindV (sigV l q (j,true)) fun g s => bindV (q.blk s) fun b s => (K g b,s)).2 = (j,true):=bindV_keep (sig_bad j) fun _ => bindV_keep (hk.blk j) fun _ => rfl
theorem body_ag (A : Av l p q) (hk : Kv q) {K : Tr → Tr → Tr} (i : Nat) : AgV ((sigR l p i).bind fun g i => (p.blk i).bind fun b i => .ok (K g b) i) (bindV (sigV l q (i,false)) fun g s => bindV (q.blk s) fun b s => (K g b,s)):=by
 refine AgV.bind (sig_ag A hk i) (fun _ j => ?_) (fun _ j => bindV_keep (hk.blk j) fun _ => rfl)
 refine AgV.bind (A.blk j) (fun _ _ => ?_) (fun _ _ => ?_) <;> rfl
end
end Go.Proofs.YtnkphlkjhgngkaaGreatDoor

namespace Go.Proofs.YtnkphlkjhgngkaaGreatDoor
section
variable {l : List Tk} {p : Ps} {q : Vs}
/-- A function's declaration, behind the word. -/
def funcV (l : List Tk) (p : Vs) (s : Sg) : Tr × Sg :=
  bindV (takeV l [40] s) fun m s =>
   if m then bindV (nameV l s) fun r s => bindV (nameV l (needV l [42] s)) fun o s => bindV (nameV l (needV l [41] s)) fun n s => bindV (sigV l p s) fun g s => bindV (p.blk s) fun b s =>
    (Tr.mk 5 n 0 [.mk 8 r 0 [.mk 11 [] 0 [.mk 10 o 0 []]],g,b],s)
   else bindV (nameV l s) fun n s => bindV (sigV l p s) fun g s => bindV (p.blk s) fun b s => (Tr.mk 4 n 0 [g,b],s)
theorem func0_bad (hk : Kv q) (j : Nat) : (funcV l q (j,true)).2 = (j,true):=bind_bad (take_bad (by decide)) (bind_bad name_bad (bodyT_bad hk (K:=fun g b => Tr.mk 4 [] 0 [g,b]) j))
theorem func0_ag (A : Av l p q) (hk : Kv q) (i : Nat) : AgV (if isM l i [40] then (betweenR l [40] [41] (receiverR l) i).bind fun r i => (nameR l i).bind fun s i => (sigR l p i).bind fun g i => (p.blk i).bind fun b i => .ok (Tr.mk 5 s 0 [r,g,b]) i
    else (nameR l i).bind fun s i => (sigR l p i).bind fun g i => (p.blk i).bind fun b i => .ok (Tr.mk 4 s 0 [g,b]) i) (funcV l q (i,false)):=by
  unfold funcV
  cases h : isM l i [40] with
  | false =>
   rw [takV_no (by decide) h,if_neg (by decide)]
   show AgV _ (bindV (nameV l (i,false)) fun n s => bindV (sigV l q s) fun g s => bindV (q.blk s) fun b s => (Tr.mk 4 n 0 [g,b],s))
   exact AgV.bind AgV.name (fun n j => body_ag A hk (K:=fun g b => Tr.mk 4 n 0 [g,b]) j) (fun n j => bodyT_bad hk (K:=fun g b => Tr.mk 4 n 0 [g,b]) j)
  | true =>
   rw [takV_yes (by decide) h,if_pos rfl]
   unfold betweenR receiverR
   rw [needR,h,Res.assoc]
   show AgV (((((nameR l (i + 1)).bind fun s i => (needR l [42] i).bind fun _ i => (nameR l i).bind fun t i => Res.ok (Tr.mk 8 s 0 [.mk 11 [] 0 [.mk 10 t 0 []]]) i).bind fun a i => (needR l [41] i).bind fun _ i => Res.ok a i)).bind fun r i => (nameR l i).bind fun s i => (sigR l p i).bind fun g i => (p.blk i).bind fun b i => .ok (Tr.mk 5 s 0 [r,g,b]) i)
     (bindV (nameV l (i + 1,false)) fun r s => bindV (nameV l (needV l [42] s)) fun o s => bindV (nameV l (needV l [41] s)) fun n s => bindV (sigV l q s) fun g s => bindV (q.blk s) fun b s => (Tr.mk 5 n 0 [.mk 8 r 0 [.mk 11 [] 0 [.mk 10 o 0 []]],g,b],s))
   simp only [Res.assoc]
   have k3 : ∀ r o j,(bindV (nameV l (needV l [41] (j,true))) fun n s => bindV (sigV l q s) fun g s => bindV (q.blk s) fun b s => (Tr.mk 5 n 0 [.mk 8 r 0 [.mk 11 [] 0 [.mk 10 o 0 []]],g,b],s)).2 = (j,true):=fun r o j => by
    rw [need_bad (by decide)]; exact bind_bad name_bad (bodyT_bad hk (K:=fun g b => Tr.mk 5 [] 0 [.mk 8 r 0 [.mk 11 [] 0 [.mk 10 o 0 []]],g,b]) j)
   have k2 : ∀ r j,(bindV (nameV l (needV l [42] (j,true))) fun o s => bindV (nameV l (needV l [41] s)) fun n s => bindV (sigV l q s) fun g s => bindV (q.blk s) fun b s => (Tr.mk 5 n 0 [.mk 8 r 0 [.mk 11 [] 0 [.mk 10 o 0 []]],g,b],s)).2 = (j,true):=fun r j => by
    rw [need_bad (by decide)]; exact bind_bad name_bad (k3 r [] j)
   refine AgV.bind AgV.name (fun r j => ?_) (fun r j => k2 r j)
   refine AgV.need (g:=fun s => bindV (nameV l s) fun o s => bindV (nameV l (needV l [41] s)) fun n s => bindV (sigV l q s) fun g s => bindV (q.blk s) fun b s => (Tr.mk 5 n 0 [.mk 8 r 0 [.mk 11 [] 0 [.mk 10 o 0 []]],g,b],s)) (by decide) ?_ (fun j => bind_bad name_bad (k3 r [] j))
   refine AgV.bind AgV.name (fun o j => ?_) (fun o j => k3 r o j)
   refine AgV.need (g:=fun s => bindV (nameV l s) fun n s => bindV (sigV l q s) fun g s => bindV (q.blk s) fun b s => (Tr.mk 5 n 0 [.mk 8 r 0 [.mk 11 [] 0 [.mk 10 o 0 []]],g,b],s)) (by decide) ?_ (fun j => bind_bad name_bad (bodyT_bad hk (K:=fun g b => Tr.mk 5 [] 0 [.mk 8 r 0 [.mk 11 [] 0 [.mk 10 o 0 []]],g,b]) j))
   exact AgV.bind AgV.name (fun n j => body_ag A hk (K:=fun g b => Tr.mk 5 n 0 [.mk 8 r 0 [.mk 11 [] 0 [.mk 10 o 0 []]],g,b]) j) (fun n j => bodyT_bad hk (K:=fun g b => Tr.mk 5 n 0 [.mk 8 r 0 [.mk 11 [] 0 [.mk 10 o 0 []]],g,b]) j)
theorem decl_bad (hk : Kv q) (j : Nat) : (declV l q (j,true)).2 = (j,true):=by
 refine bind_bad (take_bad (by decide)) ?_
 show (funcV l q (needV l [102,117,110,99] (j,true))).2 = _
 rw [need_bad (by decide)]; exact func0_bad hk j
theorem decl_ag (A : Av l p q) (hk : Kv q) (i : Nat) : AgV (declR l p i) (declV l q (i,false)):=by
 unfold declR declV
 cases h : isM l i [116,121,112,101] with
 | true =>
  rw [takV_yes (by decide) h,if_pos rfl]
  exact type_ag A hk (i + 1)
 | false =>
  rw [takV_no (by decide) h,if_neg (by decide)]
  show AgV _ (funcV l q (needV l [102,117,110,99] (i,false)))
  exact AgV.need (g:=funcV l q) (by decide) (func0_ag A hk (i + 1)) (fun j => func0_bad hk j)
theorem decls_bad (len f : Nat) (acc : List Tr) (j : Nat) : (declsV l q len f acc (j,true)).2 = (j,true):=by cases f <;> rfl
theorem AgV.bindB {α β : Type} {L : Nat} {r : Res α} {v : α × Sg} {f : α → Nat → Res β} {g : α → Sg → β × Sg} (h : AgV r v) (hb : Bd L r) (h1 : ∀ a j,j < L → AgV (f a j) (g a (j,false))) (h2 : ∀ a j,(g a (j,true)).2 = (j,true)) : AgV (r.bind f) (bindV v g):=by
 cases r with
 | ok a j => obtain rfl : v = (a,(j,false)):=h; exact h1 a j hb
 | bad j =>
  obtain ⟨a,s⟩:=v
  obtain rfl : s = (j,true):=h
  exact h2 a j
theorem decls_ag (E : Ended l) (A : Av l p q) (P : PsB l.length p) (hk : Kv q) {len : Nat} (hlen : l.length = len + 1) (he : ∀ i,i < len → isM l i [] = false) (hz : isM l len [] = true) :
    ∀ (f : Nat) (acc : List Tr) (i : Nat),i < l.length → AgV (upToF l [] (declR l p) f acc i) (declsV l q len f acc (i,false))
  | 0,acc,i,_ => rfl
  | f + 1,acc,i,hi => by
   rw [upToF,declsV]
   simp only [Bool.false_eq_true,↓reduceIte]
   by_cases h : i < len
   · rw [he i h,if_neg (by decide),if_pos h]
     exact AgV.bindB (decl_ag A hk i) (declR_b E P hi) (fun _ j hj => decls_ag E A P hk hlen he hz f _ j hj) (fun _ j => decls_bad len f _ j)
   · obtain rfl : i = len:=by omega
     rw [hz,if_pos rfl,if_neg h]; rfl
/-- The whole. -/
def readV (l : List Tk) (len : Nat) : List Tr × Sg:=declsV l (vs l (3 * l.length + 3)) len (l.length + 1) [] (0,false)
theorem tree_ag (E : Ended l) (hw : WkV l) {len : Nat} (hlen : l.length = len + 1) (he : ∀ i,i < len → isM l i [] = false) (hz : isM l len [] = true) :
    AgV (treeR l) (bindV (readV l len) fun ks s => (Tr.mk 1 [] 0 ks,s)):=by
  unfold treeR progR upToR readV
  refine AgV.bind (decls_ag E (avs l hw _) (ps_b E _) (kvs l _) hlen he hz _ _ 0 (by omega)) (fun _ _ => ?_) (fun _ _ => ?_) <;> rfl
end
end Go.Proofs.YtnkphlkjhgngkaaGreatDoor

namespace Go.Proofs.YtnkphlkjhgngkaaGreatDoor
/-- A word is a word, a mark has a text. -/
def TkOk (t : TkA) : Prop:=(t.1 = 5 → wordP t.2.1 = true) ∧ (t.1 = 4 → t.2.1 ≠ [])
theorem words_plain : ∀ w ∈ words,rankL w = 0 ∧ prefixL w = false ∧ w ≠ []:=by decide
theorem word_plain {w : List UInt8} (h : wordP w = true) : rankL w = 0 ∧ prefixL w = false ∧ w ≠ []:=words_plain w (by simpa [wordP] using h)
theorem seg_neT {l : List UInt8} {k e : Nat} (h : k < l.length) (he : k < e) : seg l k e ≠ []:=fun h0 => by
 have:=congrArg List.length h0
 simp only [seg,List.length_take,List.length_drop,List.length_nil] at this
 omega
theorem tokL_ok {l : List UInt8} {k : Nat} {kd : Int} {t : List UInt8} {n : Int} {e a : Nat} (hk : k < l.length) (h : tokL l k = some (kd,t,n,e)) : TkOk (kd,t,n,a):=by
 unfold tokL at h
 split at h
 · unfold nameL at h
   split at h
   · cases h
   · simp only [Option.some.injEq,Prod.mk.injEq] at h
     obtain ⟨rfl,rfl,rfl,rfl⟩:=h
     unfold kindOf
     refine ⟨fun h5 => ?_,fun h4 => ?_⟩
     · simp only at h5
       split at h5
       · assumption
       · cases h5
     · simp only at h4
       split at h4 <;> cases h4
 split at h
 · unfold numL at h
   split at h
   · cases h
   split at h
   · cases h
   split at h
   · cases h
   · simp only [Option.some.injEq,Prod.mk.injEq] at h
     obtain ⟨rfl,rfl,rfl,rfl⟩:=h
     exact ⟨fun h5 => by simp at h5,fun h4 => by simp at h4⟩
 split at h
 · unfold textL at h
   split at h
   · simp only [Option.some.injEq,Prod.mk.injEq] at h
     obtain ⟨rfl,rfl,rfl,rfl⟩:=h
     exact ⟨fun h5 => by simp at h5,fun h4 => by simp at h4⟩
   · cases h
 · unfold markL at h
   split at h
   · simp only [Option.some.injEq,Prod.mk.injEq] at h
     obtain ⟨rfl,rfl,rfl,rfl⟩:=h
     exact ⟨fun h5 => by simp at h5,fun _ => seg_neT hk (by omega)⟩
   split at h
   · simp only [Option.some.injEq,Prod.mk.injEq] at h
     obtain ⟨rfl,rfl,rfl,rfl⟩:=h
     exact ⟨fun h5 => by simp at h5,fun _ => seg_neT hk (by omega)⟩
   · cases h
theorem scanF_ok (l : List UInt8) : ∀ (f a : Nat) (acc : List TkA),(∀ t ∈ acc,TkOk t) → ∀ t ∈ (scanF l f a acc).1,TkOk t
  | 0,_,_,h => h
  | f + 1,a,acc,h => by
   by_cases ha : a < l.length
   · by_cases hl : acc.length = 20000
     · rw [scanF_large (Nat.succ_pos _) ha hl]; exact fun t ht => absurd ht List.not_mem_nil
     · cases ht : tokL l a with
       | none => rw [scanF_fault (Nat.succ_pos _) ha hl ht]; exact fun t ht => absurd ht List.not_mem_nil
       | some x =>
        obtain ⟨kd,t,n,e⟩:=x
        rw [scanF_step ha hl ht]
        refine scanF_ok l f _ _ fun x hx => ?_
        rw [List.mem_append,List.mem_singleton] at hx
        rcases hx with hx | rfl
        · exact h x hx
        · exact tokL_ok ha ht
   · rw [scanF_end (Nat.succ_pos _) ha]; exact h
theorem scanRes_ok (l : List UInt8) : ∀ t ∈ (scanRes l).1,TkOk t:=by
 unfold scanRes
 split
 · exact fun t ht => absurd ht List.not_mem_nil
 · exact scanF_ok l _ _ _ (fun t ht => absurd ht List.not_mem_nil)
section
variable {ts : List Tk} {n : Nat}
theorem tkA_mem {i : Nat} (hi : i < ts.length) : tkA (ts ++ [(4,[],0,n)]) i ∈ ts:=by
 simp only [tkA,List.getD_eq_getElem?_getD,List.getElem?_append_left hi,List.getElem?_eq_getElem hi,Option.getD_some]
 exact List.getElem_mem hi
theorem tkA_at : tkA (ts ++ [(4,[],0,n)]) ts.length = (4,[],0,n):=by simp [tkA,List.getD_eq_getElem?_getD]
theorem tkA_past {i : Nat} (hi : ts.length < i) : tkA (ts ++ [(4,[],0,n)]) i = (0,[],0,0):=by
 simp only [tkA,List.getD_eq_getElem?_getD]
 rw [List.getElem?_eq_none (by simp; omega)]; rfl
theorem endedT : Ended (ts ++ [(4,[],0,n)]):=⟨fun i hi hn => by
 rw [List.length_append,List.length_singleton] at hi ⊢
 rcases Nat.lt_or_ge i ts.length with h | h
 · omega
 · exfalso; apply hn
   obtain rfl : i = ts.length:=by omega
   simp [kindA,textA,tkA_at]⟩
theorem wk_of (h : ∀ t ∈ ts,TkOk t) : WkV (ts ++ [(4,[],0,n)]):=fun i hk => by
 rcases Nat.lt_trichotomy i ts.length with hi | hi | hi
 · have:=word_plain ((h _ (tkA_mem (n:=n) hi)).1 hk)
   exact ⟨this.1,this.2.1⟩
 · subst hi; rw [kindA,tkA_at] at hk; cases hk
 · rw [kindA,tkA_past hi] at hk; cases hk
theorem he_of (h : ∀ t ∈ ts,TkOk t) {i : Nat} (hi : i < ts.length) : isM (ts ++ [(4,[],0,n)]) i [] = false:=by
 have ht:=h _ (tkA_mem (n:=n) hi)
 simp only [isM,kindA,textA,Bool.and_eq_false_iff]
 by_cases h4 : (tkA (ts ++ [(4,[],0,n)]) i).1 = 4
 · exact .inr (by simpa using ht.2 h4)
 · by_cases h5 : (tkA (ts ++ [(4,[],0,n)]) i).1 = 5
   · exact .inr (by simpa using (word_plain (ht.1 h5)).2.2)
   · exact .inl (by simp [h4,h5])
theorem hz_of : isM (ts ++ [(4,[],0,n)]) ts.length [] = true:=by simp [isM,kindA,textA,tkA_at]
theorem read_ag (h : ∀ t ∈ ts,TkOk t) : AgV (treeR (ts ++ [(4,[],0,n)])) (bindV (readV (ts ++ [(4,[],0,n)]) ts.length) fun ks s => (Tr.mk 1 [] 0 ks,s)) :=
  tree_ag endedT (wk_of h) (by rw [List.length_append,List.length_singleton]) (fun _ hi => he_of h hi) hz_of
/-- The tree by the reader. -/
theorem tree_bad (h : ∀ t ∈ ts,TkOk t) {ks : List Tr} {j : Nat} (hr : readV (ts ++ [(4,[],0,n)]) ts.length = (ks,(j,true))) : treeR (ts ++ [(4,[],0,n)]) = .bad j:=by
 have h1:=read_ag (n:=n) h
 rw [hr] at h1
 cases ht : treeR (ts ++ [(4,[],0,n)]) with
 | bad i => rw [ht] at h1; have h2 : ((j,true) : Sg) = (i,true):=h1; cases h2; rfl
 | ok a i => rw [ht] at h1; have h2 : ((Tr.mk 1 [] 0 ks,(j,true)) : Tr × Sg) = (a,(i,false)):=h1; cases h2
theorem tree_ok (h : ∀ t ∈ ts,TkOk t) {ks : List Tr} {j : Nat} (hr : readV (ts ++ [(4,[],0,n)]) ts.length = (ks,(j,false))) : treeR (ts ++ [(4,[],0,n)]) = .ok (.mk 1 [] 0 ks) j:=by
 have h1:=read_ag (n:=n) h
 rw [hr] at h1
 cases ht : treeR (ts ++ [(4,[],0,n)]) with
 | bad i => rw [ht] at h1; have h2 : ((j,false) : Sg) = (i,true):=h1; cases h2
 | ok a i => rw [ht] at h1; have h2 : ((Tr.mk 1 [] 0 ks,(j,false)) : Tr × Sg) = (a,(i,false)):=h1; cases h2; rfl
end
end Go.Proofs.YtnkphlkjhgngkaaGreatDoor
