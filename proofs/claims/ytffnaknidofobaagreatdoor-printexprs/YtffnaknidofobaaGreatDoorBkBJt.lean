/- There and back, plain: types and signatures. -/
import Derived.Test.YtffnaknidofobaaGreatDoorPrPJt
namespace Go.Proofs.YtffnaknidofobaaGreatDoor
/-- No type goes on at i. -/
def TyEnd (l : List Tk) (i : Nat) : Prop:=isM l i [40] = false ∧ atTypeR l i = false
/-- An expression begins at i. -/
def ExpAt (l : List Tk) (i : Nat) : Prop:=(kindA l i = 1 ∨ kindA l i = 2 ∨ kindA l i = 3) ∨ ∃ s,Lit l i s ∧ s ∈ [[116,114,117,101],[102,97,108,115,101],[110,105,108],[40],[91],[102,117,110,99]]
/-- An expression may end ahead of i. -/
def ExEnd (l : List Tk) (i : Nat) : Prop:=∃ s,Lit l i s ∧ s ∈ [[44],[41],[93],[58],[125],[59],[61],[58,61]]
section
variable {q : List UInt8 → Wd} {c : Wd → Int × List UInt8 × Int} {l : List Tk} {i j m n : Nat} {s x : Wd} {a b ws : List Wd} {t : Tr}
theorem TyEnd.of (h : Lit l i s) (hs : s ∈ [[44],[41],[59],[61],[123]]) : TyEnd l i:=by
 refine ⟨h.no ?_,?_⟩
 · clear h; revert hs; revert s; decide
 · have h1:=h.k1
   have h2 : isM l i [42] = false:=h.no (by revert hs; clear h1 h; revert s; decide)
   have h3 : isM l i [91] = false:=h.no (by revert hs; clear h1 h2 h; revert s; decide)
   have h4 : isM l i [102,117,110,99] = false:=h.no (by revert hs; clear h1 h2 h3 h; revert s; decide)
   simp [atTypeR,h1,h2,h3,h4]
/-- What a type begins with. -/
theorem typ_first (C : Clw q c) (hs : snd n .typ t = true) (hA : At c l i (tks q n .typ t)) : isM l i [40] = false ∧ isM l i [41] = false ∧ atTypeR l i = true ∧ 1 ≤ (tks q n .typ t).length:=by
 match n with
 | n + 1 =>
  simp only [snd,typB] at hs
  simp only [tks,typT] at hA ⊢
  split at hs
  · rename_i h
    rw [if_pos h] at hA ⊢
    simp only [namedT,Bool.and_eq_true] at hs
    have:=kind1 C hA.1 hs.1.2
    exact ⟨not_lit (.inl this.1) _,not_lit (.inl this.1) _,by simp [atTypeR,this.1],by simp⟩
  · rename_i h
    rw [if_neg h] at hA ⊢
    split at hs
    · rename_i h2
      simp only [Bool.or_eq_true] at h2
      by_cases h3 : (t.kind == 11) = true
      · rw [if_pos h3] at hA ⊢
        have:=At.lit C hA (by decide)
        exact ⟨this.no rfl,this.no rfl,by simp [atTypeR,this.yes],by simp⟩
      · have h4 : (t.kind == 12) = true:=by rcases h2 with h | h; exact absurd h h3; exact h
        rw [if_neg h3,if_pos h4] at hA ⊢
        have:=At.lit C hA (by decide)
        exact ⟨this.no rfl,this.no rfl,by simp [atTypeR,this.yes],by simp⟩
    · rename_i h2
      simp only [Bool.or_eq_true,not_or] at h2
      rw [if_neg h2.1,if_neg h2.2] at hA ⊢
      split at hs
      · rename_i h3
        rw [if_pos h3] at hA ⊢
        have:=At.lit C hA (by decide)
        exact ⟨this.no rfl,this.no rfl,by simp [atTypeR,this.yes],by simp⟩
      · cases hs
 | 0 => simp [snd] at hs
/-- A type of functions, or a signature. -/
theorem func_back (C : Clw q c) {f g : Tr → List Wd} {p : Ps} {pf pg : Tr → Bool} {param : Nat → Res Tr} {kind : Int}
    (hk : t.kind = kind) (htx : t.text = []) (hP : partedB t.kids t.num pf pg = true)
    (hI : ∀ x,x ∈ t.kids → pf x = true → ∀ j,At c l j (f x) → TyEnd l (j + (f x).length) → (f x).length + 2 ≤ (funcT f g t).length → param j = .ok x (j + (f x).length))
    (hF : ∀ x,x ∈ t.kids → pf x = true → ∀ j,At c l j (f x) → isM l j [41] = false)
    (hJ : ∀ x,x ∈ t.kids → pg x = true → ∀ j,At c l j (g x) → TyEnd l (j + (g x).length) → (g x).length + 2 ≤ (funcT f g t).length → p.typ j = .ok x (j + (g x).length))
    (hG : ∀ x,x ∈ t.kids → pg x = true → ∀ j,At c l j (g x) → isM l j [40] = false ∧ isM l j [41] = false ∧ atTypeR l j = true)
    (hA : At c l i (funcT f g t)) (hz : TyEnd l (i + (funcT f g t).length)) : functionR l p kind param i = .ok t (i + (funcT f g t).length):=by
  simp only [partedB,Bool.and_eq_true,decide_eq_true_eq,List.all_eq_true] at hP
  obtain ⟨h0,h1,h2,h3⟩:=hP
  have hL : (listedT [40] [41] f (t.kids.take t.num.toNat)).length ≤ (funcT f g t).length:=by simp [funcT]
  have hE : ∀ j,Lit l j [44] → TyEnd l j:=fun j h => TyEnd.of h (by decide)
  have hE2 : ∀ j,Lit l j [41] → TyEnd l j:=fun j h => TyEnd.of h (by decide)
  have ht : t = .mk kind [] (((t.kids.take t.num.toNat).length : Nat) : Int) (t.kids.take t.num.toNat ++ t.kids.drop t.num.toNat):=by
   rw [List.take_append_drop]
   have : ((t.kids.take t.num.toNat).length : Int) = t.num:=by simp only [List.length_take]; omega
   rw [this]
   cases t; simp only [Tr.kind,Tr.text,Tr.num,Tr.kids] at hk htx ⊢; rw [hk,htx]
  have hA1:=hA
  unfold funcT at hA1
  have e1:=listed_back C hE (by decide) (by decide) (by decide) hE2 (item:=param)
    (fun x hx j a e => hI x (List.mem_of_mem_take hx) (h2 x hx) j a e (by have:=commas_len (f:=f) hx; simp only [listedT,List.length_append,List.length_cons,List.length_nil] at hL; omega))
    (fun x hx j a => hF x (List.mem_of_mem_take hx) (h2 x hx) j a) hA1.fst
  unfold functionR
  rw [e1]
  simp only [Res.bind]
  have hA2:=hA1.snd
  have e2 : resultsR l p (i + (listedT [40] [41] f (t.kids.take t.num.toNat)).length) = .ok (t.kids.drop t.num.toNat) (i + (funcT f g t).length):=by
   have hfl : (funcT f g t).length = (listedT [40] [41] f (t.kids.take t.num.toNat)).length + (if 1 < (t.kids.drop t.num.toNat).length then listedT [40] [41] g (t.kids.drop t.num.toNat) else (t.kids.drop t.num.toNat).flatMap g).length:=by simp only [funcT,List.length_append]
   have hL1 : 2 ≤ (listedT [40] [41] f (t.kids.take t.num.toNat)).length:=by simp [listedT]
   have hm : ∀ x ∈ t.kids.drop t.num.toNat,x ∈ t.kids:=fun x hx => List.mem_of_mem_drop hx
   generalize hrs : t.kids.drop t.num.toNat = rs at *
   generalize hkk : i + (listedT [40] [41] f (t.kids.take t.num.toNat)).length = k at *
   have hkl : i + (funcT f g t).length = k + (if 1 < rs.length then listedT [40] [41] g rs else rs.flatMap g).length:=by omega
   rw [hkl] at hz ⊢
   match rs,h3,hm,hA2,hfl,hz with
   | [],_,_,_,_,hz =>
    simp at hz
    simp [resultsR,hz.1,hz.2]
   | [r],h3,hm,hA2,hfl,hz =>
    simp at hA2 hz hfl
    have hg:=hG r (hm r (by simp)) (h3 r (by simp)) k hA2
    rw [resultsR,if_neg (by rw [hg.1]; simp),if_pos hg.2.2,hJ r (hm r (by simp)) (h3 r (by simp)) k hA2 hz (by omega)]
    simp [Res.bind]
   | r :: r2 :: rs,h3,hm,hA2,hfl,hz =>
    have hd : 1 < (r :: r2 :: rs).length:=by simp
    rw [if_pos hd] at hA2 hfl ⊢
    have h8 : At c l (k + 1) (commasT g (r :: r2 :: rs) ++ [[41]]):=hA2.2
    have h0:=At.lit C hA2 (by decide)
    have h9:=At.lit C h8.snd (by decide)
    rw [resultsR,if_pos h0.yes,betweenR,needB h0]
    simp only [Res.bind,typesR]
    rw [commas_back C hE (by simp) (fun x hx j a e => hJ x (hm x hx) (h3 x hx) j a e (by have:=commas_len (f:=g) hx; simp only [listedT,List.length_append,List.length_cons,List.length_nil] at hfl; omega)) h8.fst (hE2 _ h9) (h9.no rfl)]
    simp only [needB h9]
    simp [listedT,Nat.add_assoc,Nat.add_comm 1]
  rw [e2]
  simp only
  rw [← ht]
end
end Go.Proofs.YtffnaknidofobaaGreatDoor

namespace Go.Proofs.YtffnaknidofobaaGreatDoor
/-- The forms of expressions. -/
inductive ExpC (r : Q → Tr → Bool) : Tr → Prop where
  | int (n : Int) (h : 0 ≤ n) : ExpC r (.mk 40 [] n [])
  | str (s : List UInt8) (h : s.length ≤ 1024) : ExpC r (.mk 41 s 0 [])
  | tt : ExpC r (.mk 42 [] 1 [])
  | ff : ExpC r (.mk 42 [] 0 [])
  | nil : ExpC r (.mk 43 [] 0 [])
  | name (s : List UInt8) (h : nameP s = true) : ExpC r (.mk 44 s 0 [])
  | lit (s : List UInt8) (ks : List Tr) (h : nameP s = true) (hk : ∀ k ∈ ks,r .exp k = true) : ExpC r (.mk 45 s 0 ks)
  | list (x : Tr) (ks : List Tr) (hx : r .typ x = true) (hk : ∀ k ∈ ks,r .exp k = true) : ExpC r (.mk 46 [] 0 (x :: ks))
  | func (x y : Tr) (hx : r .sig x = true) (hy : r .blk y = true) : ExpC r (.mk 47 [] 0 [x,y])
  | sel (s : List UInt8) (x : Tr) (h : nameP s = true) (hx : r .exp x = true) : ExpC r (.mk 48 s 0 [x])
  | index (x y : Tr) (hx : r .exp x = true) (hy : r .exp y = true) : ExpC r (.mk 49 [] 0 [x,y])
  | cut0 (x : Tr) (hx : r .exp x = true) : ExpC r (.mk 50 [] 0 [x])
  | cut1 (x y : Tr) (hx : r .exp x = true) (hy : r .exp y = true) : ExpC r (.mk 50 [] 1 [x,y])
  | cut2 (x y : Tr) (hx : r .exp x = true) (hy : r .exp y = true) : ExpC r (.mk 50 [] 2 [x,y])
  | cut3 (x y z : Tr) (hx : r .exp x = true) (hy : r .exp y = true) (hz : r .exp z = true) : ExpC r (.mk 50 [] 3 [x,y,z])
  | call (x : Tr) (ks : List Tr) (hx : r .exp x = true) (hk : ∀ k ∈ ks,r .exp k = true) : ExpC r (.mk 51 [] 0 (x :: ks))
  | una (s : List UInt8) (x : Tr) (h : prefixL s = true) (hx : r .exp x = true) : ExpC r (.mk 52 s 0 [x])
  | bin (s : List UInt8) (x y : Tr) (h : 0 < rankL s) (hx : r .exp x = true) (hy : r .exp y = true) : ExpC r (.mk 53 s 0 [x,y])
theorem exp_cases {r : Q → Tr → Bool} {t : Tr} (h : expB r t = true) : ExpC r t:=by
 obtain ⟨k,s,n,ks⟩:=t
 by_cases e40 : k = 40
 · subst e40
   simp [expB,leafB,numberedT,Tr.kind,Tr.text,Tr.num,Tr.kids] at h
   obtain ⟨rfl,rfl,h⟩:=h; exact .int n (of_decide_eq_true h)
 by_cases e41 : k = 41
 · subst e41
   simp [expB,leafB,Tr.kind,Tr.text,Tr.num,Tr.kids] at h
   obtain ⟨rfl,rfl,h⟩:=h; exact .str s (of_decide_eq_true h)
 by_cases e42 : k = 42
 · subst e42
   simp [expB,leafB,numberedT,Tr.kind,Tr.text,Tr.num,Tr.kids] at h
   obtain ⟨rfl,rfl,rfl | rfl⟩:=h
   · exact .ff
   · exact .tt
 by_cases e43 : k = 43
 · subst e43
   simp [expB,leafB,bareT,Tr.kind,Tr.text,Tr.num,Tr.kids] at h
   obtain ⟨rfl,rfl,rfl⟩:=h; exact .nil
 by_cases e44 : k = 44
 · subst e44
   simp [expB,leafB,namedT,Tr.kind,Tr.text,Tr.num,Tr.kids] at h
   obtain ⟨rfl,rfl,h⟩:=h; exact .name s h
 by_cases e45 : k = 45
 · subst e45
   simp [expB,namedT,Tr.kind,Tr.text,Tr.num,Tr.kids] at h
   obtain ⟨⟨rfl,h⟩,hk⟩:=h; exact .lit s ks h hk
 by_cases e46 : k = 46
 · subst e46
   simp [expB,bareT,Tr.kind,Tr.text,Tr.num,Tr.kids] at h
   obtain ⟨⟨rfl,rfl⟩,hk⟩:=h
   simp only [partedB,Bool.and_eq_true,decide_eq_true_eq,List.all_eq_true] at hk
   match ks,hk with
   | [],hk => simp at hk
   | x :: ks,hk => exact .list x ks (hk.2.2.1 x (by simp)) (fun k h => hk.2.2.2 k (by simpa using h))
 by_cases e47 : k = 47
 · subst e47
   simp [expB,bareT,Tr.kind,Tr.text,Tr.num,Tr.kids] at h
   obtain ⟨⟨rfl,rfl⟩,hk⟩:=h; obtain ⟨x,y,rfl,hx,hy⟩:=row2B hk; exact .func x y hx hy
 by_cases e48 : k = 48
 · subst e48
   simp [expB,namedT,Tr.kind,Tr.text,Tr.num,Tr.kids] at h
   obtain ⟨⟨rfl,h⟩,hk⟩:=h; obtain ⟨x,rfl,hx⟩:=row1B hk; exact .sel s x h hx
 by_cases e49 : k = 49
 · subst e49
   simp [expB,bareT,Tr.kind,Tr.text,Tr.num,Tr.kids] at h
   obtain ⟨⟨rfl,rfl⟩,hk⟩:=h; obtain ⟨x,y,rfl,hx,hy⟩:=row2B hk; exact .index x y hx hy
 by_cases e50 : k = 50
 · subst e50
   simp [expB,numberedT,Tr.kind,Tr.text,Tr.num,Tr.kids] at h
   obtain ⟨rfl,hl,hk⟩:=h
   unfold cutN at hl
   by_cases h0 : n = 0
   · subst h0
     match ks,hl,hk with
     | [x],_,hk => exact .cut0 x (hk x (by simp))
     | [],hl,_ => simp at hl
     | x :: y :: r,hl,_ => simp at hl; omega
   by_cases h1 : n = 1
   · subst h1
     match ks,hl,hk with
     | [x,y],_,hk => exact .cut1 x y (hk x (by simp)) (hk y (by simp))
     | [],hl,_ => simp at hl
     | [x],hl,_ => simp at hl
     | x :: y :: z :: r,hl,_ => simp at hl; omega
   by_cases h2 : n = 2
   · subst h2
     match ks,hl,hk with
     | [x,y],_,hk => exact .cut2 x y (hk x (by simp)) (hk y (by simp))
     | [],hl,_ => simp at hl
     | [x],hl,_ => simp at hl
     | x :: y :: z :: r,hl,_ => simp at hl; omega
   by_cases h3 : n = 3
   · subst h3
     match ks,hl,hk with
     | [x,y,z],_,hk => exact .cut3 x y z (hk x (by simp)) (hk y (by simp)) (hk z (by simp))
     | [],hl,_ => simp at hl
     | [x],hl,_ => simp at hl
     | [x,y],hl,_ => simp at hl
     | x :: y :: z :: w :: r,hl,_ => simp at hl; omega
   simp [h0,h1,h2,h3] at hl
 by_cases e51 : k = 51
 · subst e51
   simp [expB,bareT,Tr.kind,Tr.text,Tr.num,Tr.kids] at h
   obtain ⟨⟨rfl,rfl⟩,h0,hk⟩:=h
   match ks,h0,hk with
   | [],h0,_ => simp at h0
   | x :: ks,_,hk => exact .call x ks (hk x (by simp)) (fun k h => hk k (by simp [h]))
 by_cases e52 : k = 52
 · subst e52
   simp [expB,Tr.kind,Tr.text,Tr.num,Tr.kids] at h
   obtain ⟨rfl,h,hk⟩:=h; obtain ⟨x,rfl,hx⟩:=row1B hk; exact .una s x h hx
 by_cases e53 : k = 53
 · subst e53
   simp [expB,Tr.kind,Tr.text,Tr.num,Tr.kids] at h
   obtain ⟨rfl,h,hk⟩:=h; obtain ⟨x,y,rfl,hx,hy⟩:=row2B hk; exact .bin s x y (of_decide_eq_true h) hx hy
 simp [expB,Tr.kind,e40,e41,e42,e43,e44,e45,e46,e47,e48,e49,e50,e51,e52,e53] at h
section
variable {q : List UInt8 → Wd} {c : Wd → Int × List UInt8 × Int} {l : List Tk} {i j m n : Nat} {s x : Wd} {a b ws : List Wd} {t : Tr}
theorem ExpAt.no (h : ExpAt l i) (hs : s ∉ [[116,114,117,101],[102,97,108,115,101],[110,105,108],[40],[91],[102,117,110,99]]) : isM l i s = false:=by
 rcases h with h | ⟨x,hx,hm⟩
 · exact not_lit h s
 · refine hx.no ?_
   cases e : (x == s) with
   | false => rfl
   | true => exact absurd ((beq_iff_eq.1 e) ▸ hm) hs
theorem ExpAt.pre (h : ExpAt l i) : prefixL (markA l i) = false:=by
 rcases h with h | ⟨x,hx,hm⟩
 · unfold markA; rcases h with e | e | e <;> rw [e] <;> rfl
 · exact hx.pre (by clear hx; revert hm; revert x; decide)
theorem mem_lits : ∀ {s : Wd},s ∈ [[116,114,117,101],[102,97,108,115,101],[110,105,108],[40],[91],[102,117,110,99]] → s ∈ marksL ++ wordsL:=by decide
theorem exp_first (C : Clw q c) : ∀ (n : Nat) (t : Tr),snd n .exp t = true → nmT n t → (∀ i,At c l i (tks q n .exp t) → ExpAt l i) ∧ 1 ≤ (tks q n .exp t).length
  | 0,_,h,_ => by simp [snd] at h
  | n + 1,t,h,hn => by
   have hc:=exp_cases (show expB (snd n) t = true from h)
   have lt : ∀ {i : Nat} {s : Wd} {ws : List Wd},s ∈ [[116,114,117,101],[102,97,108,115,101],[110,105,108],[40],[91],[102,117,110,99]] → At c l i (s :: ws) → ExpAt l i:=fun hs hA =>
    .inr ⟨_,hA.lit C (mem_lits hs),hs⟩
   cases hc with
   | int k h0 =>
    refine ⟨fun i hA => .inl (.inr (.inl ?_)),by simp [tks,expT,Tr.kind]⟩
    have:=(show Tk1 c l i (Lib.itoa k) from hA.1).2.1
    rw [C.nu k h0 hn.1] at this; exact this
   | str s h0 =>
    refine ⟨fun i hA => .inl (.inr (.inr ?_)),by simp [tks,expT,Tr.kind]⟩
    have:=(show Tk1 c l i (q s) from hA.1).2.1
    rw [C.st s h0] at this; exact this
   | tt => exact ⟨fun i hA => lt (s:=[116,114,117,101]) (by decide) hA,by simp [tks,expT,Tr.kind]⟩
   | ff => exact ⟨fun i hA => lt (s:=[102,97,108,115,101]) (by decide) hA,by simp [tks,expT,Tr.kind]⟩
   | nil => exact ⟨fun i hA => lt (s:=[110,105,108]) (by decide) hA,by simp [tks,expT,Tr.kind]⟩
   | name s h0 =>
    refine ⟨fun i hA => .inl (.inl ?_),by simp [tks,expT,Tr.kind]⟩
    exact (kind1 C (show Tk1 c l i s from hA.1) h0).1
   | lit s ks h0 hk => exact ⟨fun i hA => lt (s:=[40]) (by decide) hA,by simp [tks,expT,Tr.kind]⟩
   | list x ks hx hk => exact ⟨fun i hA => lt (s:=[91]) (by decide) hA,by simp [tks,expT,Tr.kind]⟩
   | func x y hx hy => exact ⟨fun i hA => lt (s:=[102,117,110,99]) (by decide) hA,by simp [tks,expT,Tr.kind]⟩
   | una s x h0 hx => exact ⟨fun i hA => lt (s:=[40]) (by decide) hA,by simp [tks,expT,Tr.kind]⟩
   | bin s x y h0 hx hy => exact ⟨fun i hA => lt (s:=[40]) (by decide) hA,by simp [tks,expT,Tr.kind]⟩
   | sel s x h0 hx => have:=exp_first C n x hx (hn.2 x (by simp [Tr.kids])); exact ⟨fun i hA => this.1 i (At.fst (b:=behT (tks q n) _) hA),by simp [tks,expT,Tr.kind,kidT,Tr.kids]; omega⟩
   | index x y hx hy => have:=exp_first C n x hx (hn.2 x (by simp [Tr.kids])); exact ⟨fun i hA => this.1 i (At.fst (b:=behT (tks q n) _) hA),by simp [tks,expT,Tr.kind,kidT,Tr.kids]; omega⟩
   | cut0 x hx => have:=exp_first C n x hx (hn.2 x (by simp [Tr.kids])); exact ⟨fun i hA => this.1 i (At.fst (b:=behT (tks q n) _) hA),by simp [tks,expT,Tr.kind,kidT,Tr.kids]; omega⟩
   | cut1 x y hx hy => have:=exp_first C n x hx (hn.2 x (by simp [Tr.kids])); exact ⟨fun i hA => this.1 i (At.fst (b:=behT (tks q n) _) hA),by simp [tks,expT,Tr.kind,kidT,Tr.kids]; omega⟩
   | cut2 x y hx hy => have:=exp_first C n x hx (hn.2 x (by simp [Tr.kids])); exact ⟨fun i hA => this.1 i (At.fst (b:=behT (tks q n) _) hA),by simp [tks,expT,Tr.kind,kidT,Tr.kids]; omega⟩
   | cut3 x y z hx hy hz => have:=exp_first C n x hx (hn.2 x (by simp [Tr.kids])); exact ⟨fun i hA => this.1 i (At.fst (b:=behT (tks q n) _) hA),by simp [tks,expT,Tr.kind,kidT,Tr.kids]; omega⟩
   | call x ks hx hk => have:=exp_first C n x hx (hn.2 x (by simp [Tr.kids])); exact ⟨fun i hA => this.1 i (At.fst (b:=behT (tks q n) _) hA),by simp [tks,expT,Tr.kind,kidT,Tr.kids]; omega⟩
end
end Go.Proofs.YtffnaknidofobaaGreatDoor

namespace Go.Proofs.YtffnaknidofobaaGreatDoor
/-- What the parser makes of the tokens of sound trees. -/
structure Bk (q : List UInt8 → Wd) (c : Wd → Int × List UInt8 × Int) (l : List Tk) (n : Nat) : Prop where
  typ : ∀ (t : Tr) (m i : Nat),snd n .typ t = true → At c l i (tks q n .typ t) → TyEnd l (i + (tks q n .typ t).length) → 3 * (tks q n .typ t).length ≤ m → (ps l m).typ i = .ok t (i + (tks q n .typ t).length)
  par : ∀ (t : Tr) (m i : Nat),snd n .par t = true → At c l i (tks q n .par t) → TyEnd l (i + (tks q n .par t).length) → 3 * (tks q n .par t).length ≤ m → paramR l (ps l m) i = .ok t (i + (tks q n .par t).length)
  sig : ∀ (t : Tr) (m i : Nat),snd n .sig t = true → At c l i (tks q n .sig t) → TyEnd l (i + (tks q n .sig t).length) → 3 * (tks q n .sig t).length ≤ m → sigR l (ps l m) i = .ok t (i + (tks q n .sig t).length)
  blk : ∀ (t : Tr) (m i : Nat),snd n .blk t = true → nmT n t → At c l i (tks q n .blk t) → 3 * (tks q n .blk t).length ≤ m → (ps l m).blk i = .ok t (i + (tks q n .blk t).length)
  ifS : ∀ (t : Tr) (m i : Nat),snd n .ifS t = true → nmT n t → At c l i (tks q n .ifS t) → isM l (i + (tks q n .ifS t).length) [101,108,115,101] = false → 3 * (tks q n .ifS t).length ≤ m → (ps l m).ifS (i + 1) = .ok t (i + (tks q n .ifS t).length)
  els : ∀ (t : Tr) (m i : Nat),snd n .els t = true → nmT n t → At c l i (tks q n .els t) → isM l (i + (tks q n .els t).length) [101,108,115,101] = false → 3 * (tks q n .els t).length ≤ m → (if isM l i [105,102] then (ps l m).ifS (i + 1) else (ps l m).blk i) = .ok t (i + (tks q n .els t).length)
  stm : ∀ (t : Tr) (m i : Nat),snd n .stm t = true → nmT n t → At c l i (tks q n .stm t) → isM l (i + (tks q n .stm t).length) [101,108,115,101] = false → 3 * (tks q n .stm t).length + 2 ≤ m → stmtR l (ps l m) false i = .ok t (i + (tks q n .stm t).length)
  exp : ∀ (t : Tr) (m i : Nat) (h : Bool),snd n .exp t = true → nmT n t → At c l i (tks q n .exp t) → (h = false → isM l (i + (tks q n .exp t).length) [123] = false) → 3 * (tks q n .exp t).length ≤ m →
    ∃ f,l.length + 1 ≤ f + (tks q n .exp t).length ∧ postR l (ps l m) h i = postF l (ps l m) f t (i + (tks q n .exp t).length)
section
variable {q : List UInt8 → Wd} {c : Wd → Int × List UInt8 × Int} {l : List Tk} {i j m n : Nat} {s x : Wd} {a b ws : List Wd} {t : Tr}
theorem typ_bk (C : Clw q c) (I : Bk q c l n) (t : Tr) (m i : Nat) (hs : snd (n + 1) .typ t = true) (hA : At c l i (tks q (n + 1) .typ t)) (hz : TyEnd l (i + (tks q (n + 1) .typ t).length)) (hm : 3 * (tks q (n + 1) .typ t).length ≤ m) :
    (ps l m).typ i = .ok t (i + (tks q (n + 1) .typ t).length):=by
  obtain ⟨m,rfl⟩ : ∃ k,m = k + 1:=⟨m - 1,by have:=(typ_first C hs hA).2.2.2; omega⟩
  show typS l (ps l m) i = _
  obtain ⟨k,s,v,ks⟩:=t
  by_cases e10 : k = 10
  · subst e10
    simp [snd,typB,namedT,Tr.kind,Tr.text,Tr.num,Tr.kids] at hs
    obtain ⟨⟨rfl,hnm⟩,hk⟩:=hs
    have hk0:=rowB_length hk
    have hk1 : ks = []:=List.eq_nil_of_length_eq_zero hk0
    subst hk1
    have h1:=kind1 C (show Tk1 c l i s from hA.1) hnm
    simp [typS,h1.1,h1.2,tks,typT,Tr.kind,Tr.text]
  by_cases e11 : k = 11
  · subst e11
    simp [snd,typB,bareT,Tr.kind,Tr.text,Tr.num,Tr.kids] at hs
    obtain ⟨⟨rfl,rfl⟩,hk⟩:=hs
    obtain ⟨y,rfl,hy⟩:=row1B hk
    have hL : (tks q (n + 1) .typ (.mk 11 [] 0 [y])).length = 1 + (tks q n .typ y).length:=by simp [tks,typT,Tr.kind,kidT,Tr.kids,Nat.add_comm]
    have h0 : Lit l i [42]:=At.lit C hA (by decide)
    have hA1 : At c l (i + 1) (tks q n .typ y):=hA.2
    rw [hL] at hz hm ⊢
    rw [← Nat.add_assoc] at hz ⊢
    rw [typS,if_neg (by rw [h0.k1]; simp),if_pos h0.yes,I.typ y m (i + 1) hy hA1 hz (by omega)]
    simp [Res.bind]
  by_cases e12 : k = 12
  · subst e12
    simp [snd,typB,bareT,Tr.kind,Tr.text,Tr.num,Tr.kids] at hs
    obtain ⟨⟨rfl,rfl⟩,hk⟩:=hs
    obtain ⟨y,rfl,hy⟩:=row1B hk
    have hL : (tks q (n + 1) .typ (.mk 12 [] 0 [y])).length = 2 + (tks q n .typ y).length:=by simp [tks,typT,Tr.kind,kidT,Tr.kids]; omega
    have h0 : Lit l i [91]:=At.lit C hA (by decide)
    have h1 : Lit l (i + 1) [93]:=At.lit C hA.2 (by decide)
    have hA1 : At c l (i + 2) (tks q n .typ y):=hA.2.2
    rw [hL] at hz hm ⊢
    rw [← Nat.add_assoc] at hz ⊢
    rw [typS,if_neg (by rw [h0.k1]; simp),if_neg (by rw [h0.no rfl]; simp),if_pos h0.yes,needB h1]
    simp only [Res.bind]
    rw [I.typ y m (i + 2) hy hA1 hz (by omega)]
  by_cases e13 : k = 13
  · subst e13
    simp [snd,typB,numberedT,Tr.kind,Tr.text,Tr.num,Tr.kids] at hs
    obtain ⟨rfl,hk⟩:=hs
    have hL : (tks q (n + 1) .typ (.mk 13 [] v ks)).length = 1 + (funcT (tks q n .typ) (tks q n .typ) (.mk 13 [] v ks)).length:=by simp [tks,typT,Tr.kind,Nat.add_comm]
    have h0 : Lit l i [102,117,110,99]:=At.lit C hA (by decide)
    have hA1 : At c l (i + 1) (funcT (tks q n .typ) (tks q n .typ) (.mk 13 [] v ks)):=hA.2
    rw [hL] at hz hm ⊢
    rw [← Nat.add_assoc] at hz ⊢
    rw [typS,if_neg (by rw [h0.k1]; simp),if_neg (by rw [h0.no rfl]; simp),if_neg (by rw [h0.no rfl]; simp),needB h0]
    simp only [Res.bind]
    exact func_back C (pf:=snd n .typ) (pg:=snd n .typ) (t:=.mk 13 [] v ks) rfl rfl hk (fun x _ hx j a e hl => I.typ x m j hx a e (by omega)) (fun x _ hx j a => (typ_first C hx a).2.1)
      (fun x _ hx j a e hl => I.typ x m j hx a e (by omega)) (fun x _ hx j a => ⟨(typ_first C hx a).1,(typ_first C hx a).2.1,(typ_first C hx a).2.2.1⟩) hA1 hz
  simp [snd,typB,Tr.kind,e10,e11,e12,e13] at hs
theorem par_inv {r : Q → Tr → Bool} (h : parB r t = true) : ∃ s y,t = .mk 8 s 0 [y] ∧ nameP s = true ∧ r .typ y = true:=by
 obtain ⟨k,s,v,ks⟩:=t
 simp only [parB,namedT,Tr.kind,Tr.text,Tr.num,Tr.kids,Bool.and_eq_true,beq_iff_eq] at h
 obtain ⟨rfl,⟨rfl,hn⟩,hk⟩:=h
 obtain ⟨y,rfl,hy⟩:=row1B hk
 exact ⟨s,y,rfl,hn,hy⟩
theorem par_bk (C : Clw q c) (I : Bk q c l n) (t : Tr) (m i : Nat) (hs : snd (n + 1) .par t = true) (hA : At c l i (tks q (n + 1) .par t)) (hz : TyEnd l (i + (tks q (n + 1) .par t).length)) (hm : 3 * (tks q (n + 1) .par t).length ≤ m) :
    paramR l (ps l m) i = .ok t (i + (tks q (n + 1) .par t).length):=by
  obtain ⟨s,y,rfl,hn,hy⟩:=par_inv (show parB (snd n) t = true from hs)
  have hL : (tks q (n + 1) .par (.mk 8 s 0 [y])).length = 1 + (tks q n .typ y).length:=by simp [tks,parT,kidT,Tr.kids,Nat.add_comm]
  have hA1 : At c l (i + 1) (tks q n .typ y):=hA.2
  rw [hL] at hz hm ⊢
  rw [← Nat.add_assoc] at hz ⊢
  rw [paramR,nameB C (show Tk1 c l i s from hA.1) hn]
  simp only [Res.bind]
  rw [I.typ y m (i + 1) hy hA1 hz (by omega)]
theorem par_first (C : Clw q c) (hs : snd n .par t = true) (hA : At c l i (tks q n .par t)) : isM l i [41] = false:=by
 match n with
 | 0 => simp [snd] at hs
 | n + 1 =>
  obtain ⟨s,y,rfl,hn,hy⟩:=par_inv (show parB (snd n) t = true from hs)
  exact not_lit (.inl (kind1 C (show Tk1 c l i s from hA.1) hn).1) _
theorem sig_inv {r : Q → Tr → Bool} (h : sigB r t = true) : t.kind = 7 ∧ t.text = [] ∧ partedB t.kids t.num (r .par) (r .typ) = true:=by
 simpa [sigB,numberedT] using h
theorem sig_bk (C : Clw q c) (I : Bk q c l n) (t : Tr) (m i : Nat) (hs : snd (n + 1) .sig t = true) (hA : At c l i (tks q (n + 1) .sig t)) (hz : TyEnd l (i + (tks q (n + 1) .sig t).length)) (hm : 3 * (tks q (n + 1) .sig t).length ≤ m) :
    sigR l (ps l m) i = .ok t (i + (tks q (n + 1) .sig t).length):=by
  obtain ⟨h1,h2,h3⟩:=sig_inv (show sigB (snd n) t = true from hs)
  have hm' : 3 * (funcT (tks q n .par) (tks q n .typ) t).length ≤ m:=hm
  exact func_back C (pf:=snd n .par) (pg:=snd n .typ) h1 h2 h3 (fun x _ hx j a e hl => I.par x m j hx a e (by omega)) (fun x _ hx j a => par_first C hx a)
    (fun x _ hx j a e hl => I.typ x m j hx a e (by omega)) (fun x _ hx j a => ⟨(typ_first C hx a).1,(typ_first C hx a).2.1,(typ_first C hx a).2.2.1⟩) hA hz
theorem sig_len (hs : snd n .sig t = true) : 2 ≤ (tks q n .sig t).length:=by
 match n with
 | 0 => simp [snd] at hs
 | n + 1 => simp [tks,sigT,funcT,listedT]; omega
theorem sig_first (C : Clw q c) (hs : snd n .sig t = true) (hA : At c l i (tks q n .sig t)) : Lit l i [40]:=by
 match n with
 | 0 => simp [snd] at hs
 | n + 1 =>
  simp only [tks,sigT,funcT,listedT] at hA
  exact At.lit C hA.fst (by decide)
end
end Go.Proofs.YtffnaknidofobaaGreatDoor

namespace Go.Proofs.YtffnaknidofobaaGreatDoor
/-- Nothing of an expression goes on at i. -/
def PoEnd (l : List Tk) (i : Nat) : Prop:=isM l i [46] = false ∧ isM l i [91] = false ∧ isM l i [40] = false
section
variable {q : List UInt8 → Wd} {c : Wd → Int × List UInt8 × Int} {l : List Tk} {i j m n : Nat} {s x : Wd} {a b ws : List Wd} {t : Tr} {h : Bool}
theorem Lit.po (hl : Lit l i s) (hs : s ∈ marksL ++ wordsL) (h : s ∉ [[46],[91],[40]]) : PoEnd l i:=by
 have : ∀ s ∈ marksL ++ wordsL,s ∉ [[46],[91],[40]] → (s == [46]) = false ∧ (s == [91]) = false ∧ (s == [40]) = false:=by decide
 have:=this s hs h
 exact ⟨hl.no this.1,hl.no this.2.1,hl.no this.2.2⟩
theorem ends_fact : ∀ s ∈ [[44],[41],[93],[58],[125],[59],[61],[58,61]],s ∈ marksL ++ wordsL ∧ s ∉ [[46],[91],[40]] ∧ rankL s = 0 ∧ (s == [123]) = false:=by decide
theorem ExEnd.po (h : ExEnd l i) : PoEnd l i:=by
 obtain ⟨s,h1,h2⟩:=h
 have:=ends_fact s h2
 exact h1.po this.1 this.2.1
theorem ExEnd.rank (h : ExEnd l i) : rankL (markA l i) = 0:=by
 obtain ⟨s,h1,h2⟩:=h
 exact h1.rank (ends_fact s h2).2.2.1
theorem ExEnd.brace (h : ExEnd l i) : isM l i [123] = false:=by
 obtain ⟨s,h1,h2⟩:=h
 exact h1.no (ends_fact s h2).2.2.2
theorem ExEnd.of (h : Lit l i s) (hs : s ∈ [[44],[41],[93],[58],[125],[59],[61],[58,61]]) : ExEnd l i:=⟨s,h,hs⟩
theorem post_end {p : Ps} {f : Nat} (hf : 0 < f) (h : PoEnd l i) : postF l p f t i = .ok t i:=by
 match f,hf with
 | f + 1,_ => rw [postF,if_neg (by rw [h.1]; simp),if_neg (by rw [h.2.1]; simp),if_neg (by rw [h.2.2]; simp)]
theorem At.fits (h : At c l i ws) (h1 : 1 ≤ ws.length) : i + ws.length ≤ l.length:=by
 rcases h.le with e | e
 · subst e; simp at h1
 · exact e
theorem una_back (C : Clw q c) (I : Bk q c l n) (hs : snd n .exp t = true) (hn : nmT n t) (hA : At c l i (tks q n .exp t)) (hz : PoEnd l (i + (tks q n .exp t).length))
    (hb : h = false → isM l (i + (tks q n .exp t).length) [123] = false) (hm : 3 * (tks q n .exp t).length + 1 ≤ m) : (ps l m).una h i = .ok t (i + (tks q n .exp t).length):=by
  obtain ⟨m,rfl⟩ : ∃ k,m = k + 1:=⟨m - 1,by omega⟩
  show unaS l (ps l m) h i = _
  have h1:=exp_first C n t hs hn (l:=l)
  obtain ⟨f,hf,e⟩:=I.exp t m i h hs hn hA hb (by omega)
  have:=hA.fits h1.2
  rw [unaS,if_neg (by rw [(h1.1 i hA).pre]; simp),e,post_end (by omega) hz]
theorem bin_back (C : Clw q c) (I : Bk q c l n) {least : Int} (hs : snd n .exp t = true) (hn : nmT n t) (hA : At c l i (tks q n .exp t)) (hz : PoEnd l (i + (tks q n .exp t).length)) (hr : rankL (markA l (i + (tks q n .exp t).length)) < least)
    (hb : h = false → isM l (i + (tks q n .exp t).length) [123] = false) (hm : 3 * (tks q n .exp t).length + 2 ≤ m) : (ps l m).bin h least i = .ok t (i + (tks q n .exp t).length):=by
  obtain ⟨m,rfl⟩ : ∃ k,m = k + 1:=⟨m - 1,by omega⟩
  show binS l (ps l m) h least i = _
  rw [binS,una_back C I hs hn hA hz hb (by omega)]
  simp only [Res.bind,binF]
  rw [if_neg (by omega)]
theorem expr_back (C : Clw q c) (I : Bk q c l n) (hs : snd n .exp t = true) (hn : nmT n t) (hA : At c l i (tks q n .exp t)) (hz : ExEnd l (i + (tks q n .exp t).length)) (hm : 3 * (tks q n .exp t).length + 2 ≤ m) :
    exprR (ps l m) false i = .ok t (i + (tks q n .exp t).length) :=
  bin_back C I hs hn hA hz.po (by rw [hz.rank]; omega) (fun _ => hz.brace) hm
theorem cond_back (C : Clw q c) (I : Bk q c l n) (hs : snd n .exp t = true) (hn : nmT n t) (hA : At c l i (tks q n .exp t)) (hz : Lit l (i + (tks q n .exp t).length) [123]) (hm : 3 * (tks q n .exp t).length + 2 ≤ m) :
    condR (ps l m) i = .ok t (i + (tks q n .exp t).length) :=
  bin_back C I hs hn hA (hz.po (by decide) (by decide)) (by rw [hz.rank (by decide)]; omega) (fun e => by cases e) hm
/-- Expressions between brackets. -/
theorem exprs_listed (C : Clw q c) (I : Bk q c l n) {o s : Wd} {ks : List Tr} (ho : o ∈ marksL ++ wordsL) (hs : s ∈ [[41],[93],[125]]) (hk : ∀ k ∈ ks,snd n .exp k = true) (hn : ∀ k ∈ ks,nmT n k)
    (hA : At c l i (listedT o s (tks q n .exp) ks)) (hm : 3 * (listedT o s (tks q n .exp) ks).length ≤ m) : listedR l o s (exprR (ps l m) false) i = .ok ks (i + (listedT o s (tks q n .exp) ks).length):=by
  have hf : ∀ s ∈ [[41],[93],[125]],s ∈ marksL ++ wordsL ∧ (s == [44]) = false ∧ s ∈ [[44],[41],[93],[58],[125],[59],[61],[58,61]] ∧ s ∉ [[116,114,117,101],[102,97,108,115,101],[110,105,108],[40],[91],[102,117,110,99]]:=by decide
  have hf:=hf s hs
  refine listed_back C (E:=ExEnd l) (fun j h => .of h (by decide)) ho hf.1 hf.2.1 (fun j h => .of h hf.2.2.1) (fun k hk' j a e => expr_back C I (hk k hk') (hn k hk') a e ?_) (fun k hk' j a => ((exp_first C n k (hk k hk') (hn k hk')).1 j a).no hf.2.2.2) hA
  have:=commas_len (f:=tks q n .exp) hk'
  simp only [listedT,List.length_append,List.length_cons,List.length_nil] at hm
  omega
theorem kids_nm {k : Int} {s : List UInt8} {v : Int} {ks : List Tr} (h : nmT (n + 1) (.mk k s v ks)) : ∀ x ∈ ks,nmT n x:=h.2
/-- A form that stands behind another expression. -/
theorem behind_back (C : Clw q c) (I : Bk q c l n) {x y : Tr} {b : List Wd} (hx : snd n .exp x = true) (hn : nmT n x)
    (hA : At c l i (tks q n .exp x ++ b)) (hb : isM l (i + (tks q n .exp x).length) [123] = false) (hb1 : 1 ≤ b.length) (hm : 3 * (tks q n .exp x ++ b).length ≤ m)
    (hS : ∀ f j,j = i + (tks q n .exp x).length → At c l j b → postF l (ps l m) (f + 1) x j = postF l (ps l m) f y (j + b.length)) :
    ∃ f,l.length + 1 ≤ f + (tks q n .exp x ++ b).length ∧ postR l (ps l m) h i = postF l (ps l m) f y (i + (tks q n .exp x ++ b).length):=by
  simp only [List.length_append] at hm ⊢
  obtain ⟨f,hf,e⟩:=I.exp x m i h hx hn hA.fst (fun _ => hb) (by omega)
  have h1:=(exp_first C n x hx hn (l:=l)).2
  have:=hA.fits (by simp; omega)
  simp only [List.length_append] at this
  obtain ⟨f,rfl⟩ : ∃ k,f = k + 1:=⟨f - 1,by omega⟩
  exact ⟨f,by omega,by rw [e,hS f _ rfl hA.snd,Nat.add_assoc]⟩
end
end Go.Proofs.YtffnaknidofobaaGreatDoor
