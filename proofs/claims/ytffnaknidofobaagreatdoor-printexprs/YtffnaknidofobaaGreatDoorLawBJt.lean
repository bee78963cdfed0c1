/- The document's Same. -/
import Derived.Test.YtffnaknidofobaaGreatDoorParYJt
import Derived.Test.YtffnaknidofobaaGreatDoorSndIJt
import Derived.Test.YtffnaknidofobaaGreatDoorParMJt
namespace Go.Proofs.YtffnaknidofobaaGreatDoor
open Go.RowKit
attribute [local go_sem ↓] Go.wp_at_zero Go.wp_at_succ
mutual
def sameT : Tr → Tr → Bool
  | .mk k s n ks,.mk k' s' n' ks' => k == k' && (s == s' && (n == n' && (ks.length == ks'.length && sameL ks ks')))
def sameL : List Tr → List Tr → Bool
  | a :: xs,b :: ys => sameT a b && sameL xs ys
  | _,_ => true
end
mutual
theorem sameT_refl : ∀ a,sameT a a = true
  | .mk k s n ks => by simp [sameT,sameL_refl ks]
theorem sameL_refl : ∀ a,sameL a a = true
  | [] => rfl
  | a :: xs => by simp [sameL,sameT_refl a,sameL_refl xs]
end
mutual
theorem sameT_eq : ∀ a b,sameT a b = true → a = b
  | .mk k s n ks,.mk k' s' n' ks',h => by
   simp only [sameT,Bool.and_eq_true,beq_iff_eq] at h
   obtain ⟨rfl,rfl,rfl,hl,h⟩:=h
   rw [sameL_eq ks ks' hl h]
theorem sameL_eq : ∀ a b : List Tr,a.length = b.length → sameL a b = true → a = b
  | [],[],_,_ => rfl
  | a :: xs,b :: ys,hl,h => by
   simp only [sameL,Bool.and_eq_true] at h
   rw [sameT_eq a b h.1,sameL_eq xs ys (by simpa using hl) h.2]
  | [],_ :: _,hl,_ => by simp at hl
  | _ :: _,[],hl,_ => by simp at hl
end
theorem sameL_get : ∀ (xs ys : List Tr) (k : Nat) (a b : Tr),xs[k]? = some a → ys[k]? = some b → sameT a b = false → sameL xs ys = false
  | a :: xs,b :: ys,0,_,_,h1,h2,h => by simp at h1 h2; subst h1 h2; simp [sameL,h]
  | a :: xs,b :: ys,k + 1,_,_,h1,h2,h => by simp at h1 h2; simp [sameL,sameL_get xs ys k _ _ h1 h2 h]
  | [],_,_,_,_,h1,_,_ => by simp at h1
  | _ :: _,[],_,_,_,_,h2,_ => by simp at h2
theorem sameL_all : ∀ (xs ys : List Tr),(∀ (k : Nat) a b,xs[k]? = some a → ys[k]? = some b → sameT a b = true) → sameL xs ys = true
  | a :: xs,b :: ys,h => by
   simp only [sameL,Bool.and_eq_true]
   exact ⟨h 0 a b rfl rfl,sameL_all xs ys fun k x y hx hy => h (k + 1) x y (by simpa using hx) (by simpa using hy)⟩
  | [],_,_ => by simp [sameL]
  | _ :: _,[],_ => by simp [sameL]
/-- A tree is so deep at most, and its lists are not too long. -/
def Lim : Nat → Tr → Prop
  | 0,_ => False
  | n + 1,t => t.kids.length ≤ 20000 ∧ ∀ k ∈ t.kids,Lim n k
mutual
theorem lim_of_cnt : ∀ (t : Tr) (deep left l : Nat),cntT t deep left = some l → left ≤ 20000 → Lim deep t
  | .mk k s m ks,deep,left,l,h,hl => by
   simp only [cntT] at h
   split at h
   · cases h
   · rename_i hd
     obtain ⟨d,rfl⟩ : ∃ d,deep = d + 1:=⟨deep - 1,by omega⟩
     have h1:=cntL_len ks d (left - 1) l h
     exact ⟨by simp only [Tr.kids]; omega,lim_of_cntL ks d (left - 1) l h (by omega)⟩
theorem lim_of_cntL : ∀ (ts : List Tr) (deep left l : Nat),cntL ts deep left = some l → left ≤ 20000 → ∀ t ∈ ts,Lim deep t
  | [],_,_,_,_,_,t,hm => by cases hm
  | u :: ts,deep,left,l,h,hl,t,hm => by
   simp only [cntL] at h
   split at h
   · cases h
   · rename_i l1 h1
     rcases List.mem_cons.1 hm with he | hm
     · rw [he]; exact lim_of_cnt u deep left l1 h1 hl
     · exact lim_of_cntL ts deep l1 l h (by have:=cntT_le u deep left l1 h1; omega) t hm
end
theorem lim_of_small {t : Tr} (h : smallT t = true) : Lim 100 t:=by
 simp only [smallT,Option.isSome_iff_exists] at h
 obtain ⟨l,h⟩:=h
 exact lim_of_cnt t 100 20000 l h (Nat.le_refl _)
/-- Two nodes' boxes. -/
structure Hy (w : World) (c0 c1 c2 c3 d0 d1 d2 d3 : Value) (W : World) : Prop where
  bel : Below (w.heap.size + 2) ((w.alloc (.cells #[c0,c1,c2,c3] 24)).alloc (.cells #[d0,d1,d2,d3] 24)) W
section
variable {w W W' : World} {c0 c1 c2 c3 d0 d1 d2 d3 : Value}
theorem Hy.start : Hy w c0 c1 c2 c3 d0 d1 d2 d3 ((w.alloc (.cells #[c0,c1,c2,c3] 24)).alloc (.cells #[d0,d1,d2,d3] 24)):=⟨Below.refl _ _⟩
theorem Hy.size (h : Hy w c0 c1 c2 c3 d0 d1 d2 d3 W) : w.heap.size + 2 ≤ W.heap.size:=by have:=Below.size h.bel; simpa using this
theorem Hy.next (h : Hy w c0 c1 c2 c3 d0 d1 d2 d3 W) (hb : Below W.heap.size W W') : Hy w c0 c1 c2 c3 d0 d1 d2 d3 W':=⟨Below.trans h.bel (hb.mono h.size)⟩
theorem Hy.drew (h : Hy w c0 c1 c2 c3 d0 d1 d2 d3 W) : Hy w c0 c1 c2 c3 d0 d1 d2 d3 W.drew:=by
 have h':=h.bel
 exact ⟨⟨h'.os,h'.tape,h'.output,h'.size,h'.block⟩⟩
theorem Hy.out (h : Hy w c0 c1 c2 c3 d0 d1 d2 d3 W) : Below w.heap.size w W:=(((Below.refl w.heap.size w).alloc (Nat.le_refl _) _).alloc (by simp) _).trans (Below.mono h.bel (by omega))
theorem Hy.cells (h : Hy w c0 c1 c2 c3 d0 d1 d2 d3 W) : W.cell? ⟨w.heap.size,0,none⟩ = some c0 ∧ W.cell? ⟨w.heap.size,1,none⟩ = some c1 ∧ W.cell? ⟨w.heap.size,2,none⟩ = some c2 ∧ W.cell? ⟨w.heap.size,3,none⟩ = some c3 ∧ W.cell? ⟨w.heap.size + 1,0,none⟩ = some d0 ∧ W.cell? ⟨w.heap.size + 1,1,none⟩ = some d1 ∧ W.cell? ⟨w.heap.size + 1,2,none⟩ = some d2 ∧ W.cell? ⟨w.heap.size + 1,3,none⟩ = some d3:=by
 have r : ∀ o,W.cell? ⟨w.heap.size,o,none⟩ = (w.alloc (.cells #[c0,c1,c2,c3] 24)).cell? ⟨w.heap.size,o,none⟩:=fun o => (Below.cell (p:=⟨w.heap.size,o,none⟩) h.bel (by simp)).trans (World.cell?_of_block (Below.heap_alloc _ _ _ (by simp)))
 have r2 : ∀ o,W.cell? ⟨w.heap.size + 1,o,none⟩ = ((w.alloc (.cells #[c0,c1,c2,c3] 24)).alloc (.cells #[d0,d1,d2,d3] 24)).cell? ⟨(w.alloc (.cells #[c0,c1,c2,c3] 24)).heap.size,o,none⟩:=fun o => by
  rw [World.size_alloc]
  exact Below.cell (p:=⟨w.heap.size + 1,o,none⟩) h.bel (by simp)
 refine ⟨?_,?_,?_,?_,?_,?_,?_,?_⟩
 · rw [r,World.cell?_alloc_new]; rfl
 · rw [r,World.cell?_alloc_new]; rfl
 · rw [r,World.cell?_alloc_new]; rfl
 · rw [r,World.cell?_alloc_new]; rfl
 · rw [r2,World.cell?_alloc_new]; rfl
 · rw [r2,World.cell?_alloc_new]; rfl
 · rw [r2,World.cell?_alloc_new]; rfl
 · rw [r2,World.cell?_alloc_new]; rfl
end
/-- A kid of a list that lies. -/
theorem Lst.kid {w : World} {S : Nat → Prop} {ks : List Tr} {ao : Option Addr} {n c j : Nat} {a : Tr} (hL : Lst w S ks (.slice ao n c)) (ha : ks[j]? = some a) (hS : ∀ b,S b → b < w.heap.size) :
    ∃ g o a0 n0 q0,ao = some ⟨g,o,none⟩ ∧ w.cell? ⟨g,o + j * 4,none⟩ = some (.int .i64 a.kind) ∧ w.cell? ⟨g,o + j * 4 + 1,none⟩ = some (.string ⟨a.text.toArray⟩) ∧ w.cell? ⟨g,o + j * 4 + 2,none⟩ = some (.int .i64 a.num) ∧ w.cell? ⟨g,o + j * 4 + 3,none⟩ = some (.slice a0 n0 q0) ∧ g < w.heap.size ∧ KT w S a (.slice a0 n0 q0):=by
  obtain ⟨sls,h1,h2⟩:=hL
  have hl : j < ks.length:=by
   rcases Nat.lt_or_ge j ks.length with h | h
   · exact h
   · rw [List.getElem?_eq_none h] at ha; cases ha
  rcases h1 with ⟨h0,ao',cap,e⟩ | ⟨g,o,cap,e,_,hg,hc⟩
  · omega
  · injection e with e1 e2 e3
    obtain ⟨sl,hs⟩ : ∃ sl,sls[j]? = some sl:=⟨_,List.getElem?_eq_getElem (by rw [h2.length]; exact hl)⟩
    have hk:=h2.get ha hs
    obtain ⟨a0,n0,q0,rfl⟩:=hk.slice
    obtain ⟨q0',q1,q2,q3⟩:=cellsOf_get ha hs
    exact ⟨g,o,a0,n0,q0,e1,hc _ _ q0',hc _ _ q1,hc _ _ q2,hc _ _ q3,hS g hg,hk⟩
/-- What Same leaves. -/
def OutB (b : Bool) (w : World) (e : Ending) (w' : World) : Prop:=e = .returned (.bool b) ∧ Below w.heap.size w w'
theorem OutB.of {b b' : Bool} {w : World} {e : Ending} {w' : World} (hr : Hid (b = b')) (o : OutB b' w e w') : OutB b w e w':=by
 have:=hr.out; subst this; exact o
end Go.Proofs.YtffnaknidofobaaGreatDoor

namespace Go.Proofs.YtffnaknidofobaaGreatDoor
/-- What is told of the tokens. -/
structure Tks (l : List Tk) : Prop where
  nm : ∀ i,kindA l i = 1 → nameP (textA l i) = true
  st : ∀ i,kindA l i = 3 → (textA l i).length ≤ 1024
  nu : ∀ i,kindA l i = 2 → 0 ≤ numA l i
def Sd (q : Q) (t : Tr) : Prop:=∀ m,Lim m t → snd m q t = true
theorem Sd.mk {q : Q} {t : Tr} (h : ∀ m,(∀ k ∈ t.kids,Lim m k) → snd (m + 1) q t = true) : Sd q t:=fun m hm => by
 cases m with
 | zero => exact hm.elim
 | succ m => exact h m hm.2
theorem sd_all {q : Q} {m : Nat} {ts : List Tr} (h : ∀ t ∈ ts,Sd q t) (hk : ∀ t ∈ ts,Lim m t) : ts.all (snd m q) = true:=List.all_eq_true.2 fun t ht => h t ht m (hk t ht)
section
variable {t a b c : Tr} {s : List UInt8} {n : Int} {ts us : List Tr}
theorem sd10 (h : nameP s = true) : Sd .typ (.mk 10 s 0 []):=Sd.mk fun m _ => by show typB (snd m) _ = true; simp [typB,Tr.kind,namedT,Tr.num,Tr.text,Tr.kids,rowB,h]
theorem sd11 (h : Sd .typ a) : Sd .typ (.mk 11 [] 0 [a]):=Sd.mk fun m hk => by show typB (snd m) _ = true; simp [typB,Tr.kind,bareT,Tr.num,Tr.text,Tr.kids,rowB,h m (hk a (by simp [Tr.kids]))]
theorem sd12 (h : Sd .typ a) : Sd .typ (.mk 12 [] 0 [a]):=Sd.mk fun m hk => by show typB (snd m) _ = true; simp [typB,Tr.kind,bareT,Tr.num,Tr.text,Tr.kids,rowB,h m (hk a (by simp [Tr.kids]))]
theorem parted_app {p q : Tr → Bool} (h1 : ts.all p = true) (h2 : us.all q = true) : partedB (ts ++ us) ts.length p q = true:=by
 simp only [partedB,Int.toNat_natCast,List.take_left',List.drop_left',h1,h2,List.length_append]
 simp; omega
theorem sd13 (h1 : ∀ t ∈ ts,Sd .typ t) (h2 : ∀ t ∈ us,Sd .typ t) : Sd .typ (.mk 13 [] ts.length (ts ++ us)):=Sd.mk fun m hk => by
 show typB (snd m) _ = true
 have e1:=sd_all h1 (fun t ht => hk t (by simp [Tr.kids,ht]))
 have e2:=sd_all h2 (fun t ht => hk t (by simp [Tr.kids,ht]))
 simp [typB,Tr.kind,numberedT,Tr.num,Tr.text,Tr.kids,parted_app e1 e2]
theorem sd8 (hs : nameP s = true) (h : Sd .typ a) : Sd .par (.mk 8 s 0 [a]):=Sd.mk fun m hk => by show parB (snd m) _ = true; simp [parB,Tr.kind,namedT,Tr.num,Tr.text,Tr.kids,rowB,hs,h m (hk a (by simp [Tr.kids]))]
theorem sd7 (h1 : ∀ t ∈ ts,Sd .par t) (h2 : ∀ t ∈ us,Sd .typ t) : Sd .sig (.mk 7 [] ts.length (ts ++ us)):=Sd.mk fun m hk => by
 show sigB (snd m) _ = true
 have e1:=sd_all h1 (fun t ht => hk t (by simp [Tr.kids,ht]))
 have e2:=sd_all h2 (fun t ht => hk t (by simp [Tr.kids,ht]))
 simp [sigB,Tr.kind,numberedT,Tr.num,Tr.text,Tr.kids,parted_app e1 e2]
theorem sd40 (h : 0 ≤ n) : Sd .exp (.mk 40 [] n []):=Sd.mk fun m _ => by show expB (snd m) _ = true; simp [expB,leafB,Tr.kind,numberedT,Tr.num,Tr.text,Tr.kids,h]
theorem sd41 (h : s.length ≤ 1024) : Sd .exp (.mk 41 s 0 []):=Sd.mk fun m _ => by show expB (snd m) _ = true; simp [expB,leafB,Tr.kind,Tr.num,Tr.text,Tr.kids,h]
theorem sd42 (h : n = 0 ∨ n = 1) : Sd .exp (.mk 42 [] n []):=Sd.mk fun m _ => by show expB (snd m) _ = true; simp [expB,leafB,Tr.kind,numberedT,Tr.num,Tr.text,Tr.kids,h]
theorem sd43 : Sd .exp (.mk 43 [] 0 []):=Sd.mk fun m _ => by show expB (snd m) _ = true; simp [expB,leafB,Tr.kind,bareT,Tr.num,Tr.text,Tr.kids]
theorem sd44 (h : nameP s = true) : Sd .exp (.mk 44 s 0 []):=Sd.mk fun m _ => by show expB (snd m) _ = true; simp [expB,leafB,Tr.kind,namedT,Tr.num,Tr.text,Tr.kids,h]
theorem sd45 (hs : nameP s = true) (h : ∀ t ∈ ts,Sd .exp t) : Sd .exp (.mk 45 s 0 ts):=Sd.mk fun m hk => by
 have e:=sd_all h (fun t ht => hk t (by simp [Tr.kids,ht]))
 show expB (snd m) _ = true
 simp [expB,Tr.kind,namedT,Tr.num,Tr.text,Tr.kids,hs]; exact List.all_eq_true.1 e
theorem sd46 (ha : Sd .typ a) (h : ∀ t ∈ ts,Sd .exp t) : Sd .exp (.mk 46 [] 0 (a :: ts)):=Sd.mk fun m hk => by
 have e:=sd_all h (fun t ht => hk t (by simp [Tr.kids,ht]))
 have e1 : [a].all (snd m .typ) = true:=by simp [ha m (hk a (by simp [Tr.kids]))]
 have:=parted_app e1 e
 show expB (snd m) _ = true
 simp [expB,Tr.kind,bareT,Tr.num,Tr.text,Tr.kids]; exact this
theorem sd47 (ha : Sd .sig a) (hb : Sd .blk b) : Sd .exp (.mk 47 [] 0 [a,b]):=Sd.mk fun m hk => by show expB (snd m) _ = true; simp [expB,Tr.kind,bareT,Tr.num,Tr.text,Tr.kids,rowB,ha m (hk a (by simp [Tr.kids])),hb m (hk b (by simp [Tr.kids]))]
theorem sd48 (hs : nameP s = true) (ha : Sd .exp a) : Sd .exp (.mk 48 s 0 [a]):=Sd.mk fun m hk => by show expB (snd m) _ = true; simp [expB,Tr.kind,namedT,Tr.num,Tr.text,Tr.kids,rowB,hs,ha m (hk a (by simp [Tr.kids]))]
theorem sd49 (ha : Sd .exp a) (hb : Sd .exp b) : Sd .exp (.mk 49 [] 0 [a,b]):=Sd.mk fun m hk => by show expB (snd m) _ = true; simp [expB,Tr.kind,bareT,Tr.num,Tr.text,Tr.kids,rowB,ha m (hk a (by simp [Tr.kids])),hb m (hk b (by simp [Tr.kids]))]
theorem sd50 (h : ∀ t ∈ ts,Sd .exp t) (hn : (ts.length : Int) = cutN n) : Sd .exp (.mk 50 [] n ts):=Sd.mk fun m hk => by
 have e:=sd_all h (fun t ht => hk t (by simp [Tr.kids,ht]))
 show expB (snd m) _ = true
 simp [expB,Tr.kind,numberedT,Tr.num,Tr.text,Tr.kids,hn]; exact List.all_eq_true.1 e
theorem sd51 (ha : Sd .exp a) (h : ∀ t ∈ ts,Sd .exp t) : Sd .exp (.mk 51 [] 0 (a :: ts)):=Sd.mk fun m hk => by
 have e:=sd_all h (fun t ht => hk t (by simp [Tr.kids,ht]))
 show expB (snd m) _ = true
 simp [expB,Tr.kind,bareT,Tr.num,Tr.text,Tr.kids,ha m (hk a (by simp [Tr.kids]))]; exact List.all_eq_true.1 e
theorem sd52 (hs : prefixL s = true) (ha : Sd .exp a) : Sd .exp (.mk 52 s 0 [a]):=Sd.mk fun m hk => by show expB (snd m) _ = true; simp [expB,Tr.kind,Tr.num,Tr.text,Tr.kids,rowB,hs,ha m (hk a (by simp [Tr.kids]))]
theorem sd53 (hs : 0 < rankL s) (ha : Sd .exp a) (hb : Sd .exp b) : Sd .exp (.mk 53 s 0 [a,b]):=Sd.mk fun m hk => by show expB (snd m) _ = true; simp [expB,Tr.kind,Tr.num,Tr.text,Tr.kids,rowB,hs,ha m (hk a (by simp [Tr.kids])),hb m (hk b (by simp [Tr.kids]))]
theorem sd20 (h : ∀ t ∈ ts,Sd .stm t) : Sd .blk (.mk 20 [] 0 ts):=Sd.mk fun m hk => by
 have e:=sd_all h (fun t ht => hk t (by simp [Tr.kids,ht]))
 show blkB (snd m) _ = true
 simp [blkB,Tr.kind,bareT,Tr.num,Tr.text,Tr.kids]; exact List.all_eq_true.1 e
theorem sd25 (ha : Sd .exp a) (hb : Sd .blk b) : Sd .ifS (.mk 25 [] 0 [a,b]):=Sd.mk fun m hk => by show ifB (snd m) _ = true; simp [ifB,Tr.kind,bareT,Tr.num,Tr.text,Tr.kids,rowB,ha m (hk a (by simp [Tr.kids])),hb m (hk b (by simp [Tr.kids]))]
theorem sd25e (ha : Sd .exp a) (hb : Sd .blk b) (hc : Sd .els c) : Sd .ifS (.mk 25 [] 0 [a,b,c]):=Sd.mk fun m hk => by show ifB (snd m) _ = true; simp [ifB,Tr.kind,bareT,Tr.num,Tr.text,Tr.kids,rowB,ha m (hk a (by simp [Tr.kids])),hb m (hk b (by simp [Tr.kids])),hc m (hk c (by simp [Tr.kids]))]
theorem blk_els (h : Sd .blk a) : Sd .els a:=fun m hm => by
 cases m with
 | zero => exact hm.elim
 | succ m =>
  have e : blkB (snd m) a = true:=h (m + 1) hm
  show elsB (snd m) a = true
  simp [elsB,e]
theorem if_els (h : Sd .ifS a) : Sd .els a:=fun m hm => by
 cases m with
 | zero => exact hm.elim
 | succ m =>
  have e : ifB (snd m) a = true:=h (m + 1) hm
  show elsB (snd m) a = true
  simp [elsB,e]
theorem blk_stm (h : Sd .blk a) : Sd .stm a:=fun m hm => by
 cases m with
 | zero => exact hm.elim
 | succ m =>
  have e : blkB (snd m) a = true:=h (m + 1) hm
  have k : (a.kind == 20) = true:=by simp [blkB] at e; simp [e.1]
  show stmB (snd m) a = true
  unfold stmB; rw [if_pos k]; exact e
theorem if_stm (h : Sd .ifS a) : Sd .stm a:=fun m hm => by
 cases m with
 | zero => exact hm.elim
 | succ m =>
  have e : ifB (snd m) a = true:=h (m + 1) hm
  have k : a.kind = 25:=by simp [ifB] at e; exact e.1
  show stmB (snd m) a = true
  unfold stmB; rw [if_neg (by simp [k]),if_pos (by simp [k])]; exact e
theorem sd21 (hs : nameP s = true) (ha : Sd .typ a) : Sd .stm (.mk 21 s 0 [a]):=Sd.mk fun m hk => by show stmB (snd m) _ = true; simp [stmB,Tr.kind,namedT,Tr.num,Tr.text,Tr.kids,rowB,hs,ha m (hk a (by simp [Tr.kids]))]
theorem sd21e (hs : nameP s = true) (ha : Sd .typ a) (hb : Sd .exp b) : Sd .stm (.mk 21 s 0 [a,b]):=Sd.mk fun m hk => by show stmB (snd m) _ = true; simp [stmB,Tr.kind,namedT,Tr.num,Tr.text,Tr.kids,rowB,hs,ha m (hk a (by simp [Tr.kids])),hb m (hk b (by simp [Tr.kids]))]
theorem asg_app {r : Q → Tr → Bool} {p : Tr → Bool} {k : Int} (h0 : 0 < ts.length) (h1 : 0 < us.length) (hp : ts.all p = true) (e1 : ts.all (r .exp) = true) (e2 : us.all (r .exp) = true) : asgB r p (.mk k [] ts.length (ts ++ us)) = true:=by
 simp only [asgB,numberedT,Tr.text,Tr.num,Tr.kids,Int.toNat_natCast,List.take_left',hp,List.all_append,e1,e2,List.length_append]
 simp; omega
theorem sd22 (h0 : 0 < ts.length) (h1 : 0 < us.length) (hp : ts.all isNameT = true) (e1 : ∀ t ∈ ts,Sd .exp t) (e2 : ∀ t ∈ us,Sd .exp t) : Sd .stm (.mk 22 [] ts.length (ts ++ us)):=Sd.mk fun m hk => by
 have q1:=sd_all e1 (fun t ht => hk t (by simp [Tr.kids,ht]))
 have q2:=sd_all e2 (fun t ht => hk t (by simp [Tr.kids,ht]))
 show stmB (snd m) _ = true
 simp [stmB,Tr.kind]; exact asg_app h0 h1 hp q1 q2
theorem sd23 (h0 : 0 < ts.length) (h1 : 0 < us.length) (hp : ts.all isPlaceT = true) (e1 : ∀ t ∈ ts,Sd .exp t) (e2 : ∀ t ∈ us,Sd .exp t) : Sd .stm (.mk 23 [] ts.length (ts ++ us)):=Sd.mk fun m hk => by
 have q1:=sd_all e1 (fun t ht => hk t (by simp [Tr.kids,ht]))
 have q2:=sd_all e2 (fun t ht => hk t (by simp [Tr.kids,ht]))
 show stmB (snd m) _ = true
 simp [stmB,Tr.kind]; exact asg_app h0 h1 hp q1 q2
theorem sd24 (hc : isCallT a = true) (ha : Sd .exp a) : Sd .stm (.mk 24 [] 0 [a]):=Sd.mk fun m hk => by show stmB (snd m) _ = true; simp [stmB,Tr.kind,bareT,Tr.num,Tr.text,Tr.kids,rowB,hc,ha m (hk a (by simp [Tr.kids]))]
theorem sd26 (ha : Sd .blk a) : Sd .stm (.mk 26 [] 0 [a]):=Sd.mk fun m hk => by show stmB (snd m) _ = true; simp [stmB,Tr.kind,bareT,Tr.num,Tr.text,Tr.kids,rowB,ha m (hk a (by simp [Tr.kids]))]
theorem sd26e (ha : Sd .exp a) (hb : Sd .blk b) : Sd .stm (.mk 26 [] 0 [a,b]):=Sd.mk fun m hk => by show stmB (snd m) _ = true; simp [stmB,Tr.kind,bareT,Tr.num,Tr.text,Tr.kids,rowB,ha m (hk a (by simp [Tr.kids])),hb m (hk b (by simp [Tr.kids]))]
theorem sd27 (h : ∀ t ∈ ts,Sd .exp t) : Sd .stm (.mk 27 [] 0 ts):=Sd.mk fun m hk => by
 have e:=sd_all h (fun t ht => hk t (by simp [Tr.kids,ht]))
 show stmB (snd m) _ = true
 simp [stmB,Tr.kind,bareT,Tr.num,Tr.text,Tr.kids]; exact List.all_eq_true.1 e
theorem sd28 : Sd .stm (.mk 28 [] 0 []):=Sd.mk fun m _ => by show stmB (snd m) _ = true; simp [stmB,Tr.kind,bareT,Tr.num,Tr.text,Tr.kids,rowB]
theorem sd29 : Sd .stm (.mk 29 [] 0 []):=Sd.mk fun m _ => by show stmB (snd m) _ = true; simp [stmB,Tr.kind,bareT,Tr.num,Tr.text,Tr.kids,rowB]
/-- Fields, methods, receivers, declarations. -/
def Fd (t : Tr) : Prop:=∀ m,Lim (m + 1) t → fldB (snd m) t = true
def Md (t : Tr) : Prop:=∀ m,Lim (m + 1) t → metB (snd m) t = true
def Rd (t : Tr) : Prop:=∀ m,Lim (m + 1) t → recB (snd m) t = true
def Dd (t : Tr) : Prop:=∀ m,Lim (m + 2) t → decB m t = true
theorem fd6 (hs : nameP s = true) (ha : Sd .typ a) : Fd (.mk 6 s 0 [a]):=fun m hm => by simp [fldB,Tr.kind,namedT,Tr.num,Tr.text,Tr.kids,rowB,hs,ha m (hm.2 a (by simp [Tr.kids]))]
theorem md6 (hs : nameP s = true) (ha : Sd .sig a) : Md (.mk 6 s 0 [a]):=fun m hm => by simp [metB,Tr.kind,namedT,Tr.num,Tr.text,Tr.kids,rowB,hs,ha m (hm.2 a (by simp [Tr.kids]))]
theorem rd8 {u : List UInt8} (hs : nameP s = true) (hu : nameP u = true) : Rd (.mk 8 s 0 [.mk 11 [] 0 [.mk 10 u 0 []]]):=fun m hm => by
 have h : Sd .typ (.mk 11 [] 0 [.mk 10 u 0 []]):=sd11 (sd10 hu)
 simp [recB,parB,Tr.kind,namedT,Tr.num,Tr.text,Tr.kids,rowB,hs,h m (hm.2 _ (by simp [Tr.kids]))]
theorem dd2 (hs : nameP s = true) (h : ∀ t ∈ ts,Fd t) : Dd (.mk 2 s 0 ts):=fun m hm => by
 simp [decB,Tr.kind,namedT,Tr.num,Tr.text,Tr.kids,hs]
 exact fun t ht => h t ht m (hm.2 t (by simp [Tr.kids,ht]))
theorem dd3 (hs : nameP s = true) (h : ∀ t ∈ ts,Md t) : Dd (.mk 3 s 0 ts):=fun m hm => by
 simp [decB,Tr.kind,namedT,Tr.num,Tr.text,Tr.kids,hs]
 exact fun t ht => h t ht m (hm.2 t (by simp [Tr.kids,ht]))
theorem dd4 (hs : nameP s = true) (ha : Sd .sig a) (hb : Sd .blk b) : Dd (.mk 4 s 0 [a,b]):=fun m hm => by
 simp [decB,Tr.kind,namedT,Tr.num,Tr.text,Tr.kids,rowB,hs,ha (m + 1) (hm.2 a (by simp [Tr.kids])),hb (m + 1) (hm.2 b (by simp [Tr.kids]))]
theorem dd5 (hs : nameP s = true) (hc : Rd c) (ha : Sd .sig a) (hb : Sd .blk b) : Dd (.mk 5 s 0 [c,a,b]):=fun m hm => by
 simp [decB,Tr.kind,namedT,Tr.num,Tr.text,Tr.kids,rowB,hs,hc m (hm.2 c (by simp [Tr.kids])),ha (m + 1) (hm.2 a (by simp [Tr.kids])),hb (m + 1) (hm.2 b (by simp [Tr.kids]))]
theorem pd1 (h : ∀ t ∈ ts,Dd t) (hl : Lim 100 (.mk 1 [] 0 ts)) : prgB (.mk 1 [] 0 ts) = true:=by
 simp [prgB,Tr.kind,bareT,Tr.num,Tr.text,Tr.kids]
 exact fun t ht => h t ht 97 (hl.2 t (by simp [Tr.kids,ht]))
end
end Go.Proofs.YtffnaknidofobaaGreatDoor

namespace Go.Proofs.YtffnaknidofobaaGreatDoor
/-- What it comes to has a property. -/
def Rp {α : Type} (P : α → Prop) (r : Res α) : Prop:=∀ a j,r = .ok a j → P a
section
variable {α β : Type} {P : β → Prop} {R : α → Prop} {r : Res α} {a b : Res β} {f : α → Nat → Res β}
theorem Rp.ok {x : β} (h : P x) (j : Nat) : Rp P (.ok x j):=fun _ _ e => by cases e; exact h
theorem Rp.bad (j : Nat) : Rp P (.bad j):=fun _ _ e => by cases e
theorem Rp.bind (h : Rp R r) (hf : ∀ x j,R x → Rp P (f x j)) : Rp P (r.bind f):=by
 cases r with
 | bad j => exact Rp.bad j
 | ok x j => exact hf x j (h x j rfl)
theorem Rp.ite {c : Prop} [Decidable c] (h1 : c → Rp P a) (h2 : ¬ c → Rp P b) : Rp P (if c then a else b):=by
 split
 · rename_i h; exact h1 h
 · rename_i h; exact h2 h
theorem Rp.mono {P' : β → Prop} (h : Rp P a) (hp : ∀ x,P x → P' x) : Rp P' a:=fun x j e => hp x (h x j e)
end
abbrev Al (P : Tr → Prop) (ts : List Tr) : Prop:=∀ t ∈ ts,P t
abbrev Al1 (P : Tr → Prop) (ts : List Tr) : Prop:=0 < ts.length ∧ ∀ t ∈ ts,P t
theorem al_nil {P : Tr → Prop} : Al P []:=fun _ h => by cases h
theorem al_snoc {P : Tr → Prop} {ts : List Tr} {t : Tr} (h : Al P ts) (ht : P t) : Al P (ts ++ [t]):=fun x hx => by
 rcases List.mem_append.1 hx with h1 | h1
 · exact h x h1
 · rw [List.mem_singleton.1 h1]; exact ht
structure PsS (p : Ps) : Prop where
  typ : ∀ i,Rp (Sd .typ) (p.typ i)
  bin : ∀ h n i,1 ≤ n → Rp (Sd .exp) (p.bin h n i)
  una : ∀ h i,Rp (Sd .exp) (p.una h i)
  blk : ∀ i,Rp (Sd .blk) (p.blk i)
  ifS : ∀ i,Rp (Sd .ifS) (p.ifS i)
section
variable {l : List Tk} (T : Tks l)
include T
theorem nameR_p (i : Nat) : Rp (fun s => nameP s = true) (nameR l i):=Rp.ite (fun h => Rp.ok (P:=fun s => nameP s = true) (T.nm i (beq_iff_eq.1 h)) _) (fun _ => Rp.bad _)
omit T in
theorem needR_p (s : List UInt8) (i : Nat) : Rp (fun _ => True) (needR l s i):=Rp.ite (fun _ => Rp.ok trivial _) (fun _ => Rp.bad _)
variable {item : Nat → Res Tr} {P : Tr → Prop}
omit T in
theorem upToF_p (h : ∀ k,Rp P (item k)) (mark : List UInt8) : ∀ f acc i,Al P acc → Rp (Al P) (upToF l mark item f acc i)
  | 0,_,_,_ => Rp.bad _
  | f + 1,_,i,ha => Rp.ite (fun _ => Rp.ok ha _) (fun _ => Rp.bind (h i) fun _ _ ht => upToF_p h mark f _ _ (al_snoc ha ht))
omit T in
theorem commasF_p (h : ∀ k,Rp P (item k)) : ∀ f acc i,Al1 P acc → Rp (Al1 P) (commasF l item f acc i)
  | 0,_,_,_ => Rp.bad _
  | f + 1,_,_,ha => Rp.ite (fun _ => Rp.bind (h _) fun _ _ ht => commasF_p h f _ _ ⟨by simp,al_snoc ha.2 ht⟩) (fun _ => Rp.ok ha _)
omit T in
theorem upToR_p (h : ∀ k,Rp P (item k)) (mark : List UInt8) (i : Nat) : Rp (Al P) (upToR l mark item i):=upToF_p h mark _ _ _ al_nil
omit T in
theorem commasR_p (h : ∀ k,Rp P (item k)) (i : Nat) : Rp (Al1 P) (commasR l item i):=Rp.bind (h i) fun t _ ht => commasF_p h _ _ _ ⟨by simp,fun x hx => by rw [List.mem_singleton.1 hx]; exact ht⟩
omit T in
theorem betweenR_p {α : Type} {inner : Nat → Res α} {R : α → Prop} (h : ∀ k,Rp R (inner k)) (o s : List UInt8) (i : Nat) : Rp R (betweenR l o s inner i) :=
  Rp.bind (needR_p o i) fun _ _ _ => Rp.bind (h _) fun _ _ ha => Rp.bind (needR_p s _) fun _ _ _ => Rp.ok ha _
omit T in
theorem listedR_p (h : ∀ k,Rp P (item k)) (o s : List UInt8) (i : Nat) : Rp (Al P) (listedR l o s item i):=betweenR_p (fun _ => Rp.ite (fun _ => Rp.ok al_nil _) (fun _ => (commasR_p h _).mono fun _ h => h.2)) o s i
omit T in
theorem membersR_p (h : ∀ k,Rp P (item k)) (i : Nat) : Rp (Al P) (membersR l item i):=betweenR_p (fun k => upToR_p h _ k) _ _ i
variable {p : Ps} (S : PsS p)
include S
omit T in
theorem resultsR_p (i : Nat) : Rp (Al (Sd .typ)) (resultsR l p i):=Rp.ite (fun _ => betweenR_p (fun k => (commasR_p S.typ k).mono fun _ h => h.2) _ _ i) (fun _ => Rp.ite (fun _ => Rp.bind (S.typ i) fun t _ ht => Rp.ok (fun x hx => by rw [List.mem_singleton.1 hx]; exact ht) _) (fun _ => Rp.ok al_nil _))
omit T in
theorem functionR_p {param : Nat → Res Tr} {R : Tr → Prop} {P : Tr → Prop} (h : ∀ k,Rp R (param k)) (kind : Int) (hk : ∀ ts us : List Tr,Al R ts → Al (Sd .typ) us → P (.mk kind [] ts.length (ts ++ us))) (i : Nat) : Rp P (functionR l p kind param i) :=
  Rp.bind (listedR_p h _ _ i) fun ts _ hts => Rp.bind (resultsR_p S _) fun us _ hus => Rp.ok (hk ts us hts hus) _
theorem typS_p (i : Nat) : Rp (Sd .typ) (typS l p i) :=
  Rp.ite (fun h => Rp.ok (sd10 (T.nm i (beq_iff_eq.1 h))) _) (fun _ => Rp.ite (fun _ => Rp.bind (S.typ _) fun _ _ h => Rp.ok (sd11 h) _) (fun _ => Rp.ite (fun _ => Rp.bind (needR_p _ _) fun _ _ _ => Rp.bind (S.typ _) fun _ _ h => Rp.ok (sd12 h) _) (fun _ => Rp.bind (needR_p _ _) fun _ _ _ => functionR_p S S.typ 13 (fun _ _ h1 h2 => sd13 h1 h2) _)))
theorem paramR_p (i : Nat) : Rp (Sd .par) (paramR l p i):=Rp.bind (nameR_p T i) fun _ _ hs => Rp.bind (S.typ _) fun _ _ h => Rp.ok (sd8 hs h) _
theorem sigR_p (i : Nat) : Rp (Sd .sig) (sigR l p i):=functionR_p S (paramR_p T S) 7 (fun _ _ h1 h2 => sd7 h1 h2) i
omit T l in
theorem exprR_p (h : Bool) (i : Nat) : Rp (Sd .exp) (exprR p h i):=S.bin _ _ _ (by decide)
omit T in
theorem exprsR_p (h : Bool) (i : Nat) : Rp (Al1 (Sd .exp)) (exprsR l p h i):=commasR_p (exprR_p S h) i
omit T in
theorem elementsR_p (i : Nat) : Rp (Al (Sd .exp)) (elementsR l p i):=listedR_p (exprR_p S false) _ _ i
theorem namedR_p (h : Bool) (i : Nat) : Rp (Sd .exp) (namedR l p h i):=Rp.bind (nameR_p T i) fun _ _ hs => Rp.ite (fun _ => Rp.bind (elementsR_p S _) fun _ _ he => Rp.ok (sd45 hs he) _) (fun _ => Rp.ok (sd44 hs) _)
omit T in
theorem cutR_p {num : Int} {ks : List Tr} (hk : Al (Sd .exp) ks) (h1 : (ks.length : Int) = cutN num) (h2 : (ks.length : Int) + 1 = cutN (num + 2)) (i : Nat) : Rp (Sd .exp) (cutR l p num ks i) :=
  Rp.bind (needR_p _ i) fun _ _ _ => Rp.ite (fun _ => Rp.ok (sd50 hk h1) _) (fun _ => Rp.bind (exprR_p S _ _) fun _ _ he => Rp.ok (sd50 (al_snoc hk he) (by simpa using h2)) _)
omit T in
theorem partR_p {t : Tr} (ht : Sd .exp t) (i : Nat) : Rp (Sd .exp) (partR l p t i) :=
  Rp.ite (fun _ => cutR_p S (fun x hx => by rw [List.mem_singleton.1 hx]; exact ht) rfl rfl i) (fun _ => Rp.bind (exprR_p S _ _) fun b _ hb => Rp.ite (fun _ => cutR_p S (fun x hx => by
   rcases List.mem_cons.1 hx with rfl | hx
   · exact ht
   · rw [List.mem_singleton.1 hx]; exact hb) rfl rfl _) (fun _ => Rp.ok (sd49 ht hb) _))
theorem primR_p (h : Bool) (i : Nat) : Rp (Sd .exp) (primR l p h i) :=
  Rp.ite (fun h => Rp.ok (sd40 (T.nu i (beq_iff_eq.1 h))) _) (fun _ => Rp.ite (fun h => Rp.ok (sd41 (T.st i (beq_iff_eq.1 h))) _) (fun _ => Rp.ite (fun _ => namedR_p T S _ _) (fun _ => Rp.ite (fun _ => Rp.ok (sd42 (.inr rfl)) _) (fun _ => Rp.ite (fun _ => Rp.ok (sd42 (.inl rfl)) _) (fun _ => Rp.ite (fun _ => Rp.ok sd43 _) (fun _ => Rp.ite (fun _ => betweenR_p (fun k => exprR_p S _ k) _ _ _)
    (fun _ => Rp.ite (fun _ => Rp.bind (needR_p _ _) fun _ _ _ => Rp.bind (S.typ _) fun _ _ ht => Rp.bind (elementsR_p S _) fun _ _ he => Rp.ok (sd46 ht he) _) (fun _ => Rp.bind (needR_p _ _) fun _ _ _ => Rp.bind (sigR_p T S _) fun _ _ hs => Rp.bind (S.blk _) fun _ _ hb => Rp.ok (sd47 hs hb) _))))))))
theorem postF_p : ∀ f t i,Sd .exp t → Rp (Sd .exp) (postF l p f t i)
  | 0,_,_,_ => Rp.bad _
  | f + 1,_,_,ht => Rp.ite (fun _ => Rp.bind (nameR_p T _) fun _ _ hs => postF_p f _ _ (sd48 hs ht)) (fun _ => Rp.ite (fun _ => Rp.bind (betweenR_p (fun k => partR_p S ht k) _ _ _) fun _ _ h => postF_p f _ _ h) (fun _ => Rp.ite (fun _ => Rp.bind (listedR_p (exprR_p S _) _ _ _) fun _ _ he => postF_p f _ _ (sd51 ht he)) (fun _ => Rp.ok ht _)))
theorem postR_p (h : Bool) (i : Nat) : Rp (Sd .exp) (postR l p h i):=Rp.bind (primR_p T S h i) fun _ _ ht => postF_p T S _ _ _ ht
theorem unaS_p (h : Bool) (i : Nat) : Rp (Sd .exp) (unaS l p h i):=Rp.ite (fun hp => Rp.bind (S.una _ _) fun _ _ ht => Rp.ok (sd52 hp ht) _) (fun _ => postR_p T S _ _)
omit T in
theorem binF_p (h : Bool) {n : Int} (hn : 1 ≤ n) : ∀ f t i,Sd .exp t → Rp (Sd .exp) (binF l p h n f t i)
  | 0,_,_,_ => Rp.bad _
  | f + 1,_,_,ht => Rp.ite (fun hr => Rp.bind (S.bin _ _ _ (by omega)) fun _ _ hu => binF_p h hn f _ _ (sd53 (by omega) ht hu)) (fun _ => Rp.ok ht _)
omit T in
theorem binS_p (h : Bool) {n : Int} (hn : 1 ≤ n) (i : Nat) : Rp (Sd .exp) (binS l p h n i):=Rp.bind (S.una _ _) fun _ _ ht => binF_p S h hn _ _ _ ht
omit T in
theorem ifSS_p (i : Nat) : Rp (Sd .ifS) (ifSS l p i):=Rp.bind (exprR_p S true i) fun _ _ hc => Rp.bind (S.blk _) fun _ _ hb => Rp.ite (fun _ => Rp.ite (fun _ => Rp.bind (S.ifS _) fun _ _ he => Rp.ok (sd25e hc hb (if_els he)) _) (fun _ => Rp.bind (S.blk _) fun _ _ he => Rp.ok (sd25e hc hb (blk_els he)) _)) (fun _ => Rp.ok (sd25 hc hb) _)
omit T in
theorem forR_p (i : Nat) : Rp (Sd .stm) (forR l p i):=Rp.ite (fun _ => Rp.bind (S.blk _) fun _ _ hb => Rp.ok (sd26 hb) _) (fun _ => Rp.bind (exprR_p S true i) fun _ _ hc => Rp.bind (S.blk _) fun _ _ hb => Rp.ok (sd26e hc hb) _)
theorem variableR_p (h : Bool) (i : Nat) : Rp (Sd .stm) (variableR l p h i):=Rp.bind (nameR_p T i) fun _ _ hs => Rp.bind (S.typ _) fun _ _ ht => Rp.ite (fun _ => Rp.bind (exprR_p S _ _) fun _ _ he => Rp.ok (sd21e hs ht he) _) (fun _ => Rp.ok (sd21 hs ht) _)
omit T in
theorem assignmentR_p (h : Bool) (i : Nat) : Rp (Sd .stm) (assignmentR l p h i):=Rp.bind (exprsR_p S h i) fun es _ he => Rp.ite (fun hc => by
 simp only [Bool.and_eq_true] at hc
 exact Rp.bind (exprsR_p S h _) fun us _ hu => Rp.ok (sd22 he.1 hu.1 hc.2 he.2 hu.2) _) (fun _ => Rp.ite (fun hc => by
 simp only [Bool.and_eq_true] at hc
 exact Rp.bind (exprsR_p S h _) fun us _ hu => Rp.ok (sd23 he.1 hu.1 hc.2 he.2 hu.2) _) (fun _ => by
 split
 · exact Rp.ite (fun hc => Rp.ok (sd24 hc (he.2 _ (by simp))) _) (fun _ => Rp.bad _)
 · exact Rp.bad _))
theorem simpleR_p (h : Bool) (i : Nat) : Rp (Sd .stm) (simpleR l p h i) :=
  Rp.ite (fun _ => variableR_p T S _ _) (fun _ => Rp.ite (fun _ => Rp.ok sd28 _) (fun _ => Rp.ite (fun _ => Rp.ok sd29 _) (fun _ => Rp.ite (fun _ => Rp.ite (fun _ => Rp.ok (sd27 al_nil) _) (fun _ => Rp.bind (exprsR_p S _ _) fun _ _ he => Rp.ok (sd27 he.2) _)) (fun _ => assignmentR_p S _ _))))
theorem stmtR_p (h : Bool) (i : Nat) : Rp (Sd .stm) (stmtR l p h i) :=
  Rp.ite (fun _ => (S.blk i).mono fun _ h => blk_stm h) (fun _ => Rp.ite (fun _ => (S.ifS _).mono fun _ h => if_stm h) (fun _ => Rp.ite (fun _ => forR_p S _) (fun _ => Rp.bind (simpleR_p T S _ _) fun _ _ ht => Rp.bind (needR_p _ _) fun _ _ _ => Rp.ok ht _)))
theorem blkS_p (i : Nat) : Rp (Sd .blk) (blkS l p i):=Rp.bind (membersR_p (stmtR_p T S false) i) fun _ _ h => Rp.ok (sd20 h) _
theorem typeDeclR_p (i : Nat) : Rp Dd (typeDeclR l p i):=Rp.bind (nameR_p T i) fun _ _ hs => Rp.ite (fun _ => Rp.bind (membersR_p (P:=Fd) (fun k => Rp.bind (nameR_p T k) fun _ _ hs => Rp.bind (S.typ _) fun _ _ ht => Rp.bind (needR_p _ _) fun _ _ _ => Rp.ok (fd6 hs ht) _) _) fun _ _ h => Rp.ok (dd2 hs h) _)
  (fun _ => Rp.bind (needR_p _ _) fun _ _ _ => Rp.bind (membersR_p (P:=Md) (fun k => Rp.bind (nameR_p T k) fun _ _ hs => Rp.bind (sigR_p T S _) fun _ _ ht => Rp.bind (needR_p _ _) fun _ _ _ => Rp.ok (md6 hs ht) _) _) fun _ _ h => Rp.ok (dd3 hs h) _)
theorem declR_p (i : Nat) : Rp Dd (declR l p i) :=
  Rp.ite (fun _ => typeDeclR_p T S _) (fun _ => Rp.bind (needR_p _ i) fun _ _ _ => Rp.ite (fun _ => Rp.bind (betweenR_p (R:=Rd) (fun k => Rp.bind (nameR_p T k) fun _ _ hs => Rp.bind (needR_p _ _) fun _ _ _ => Rp.bind (nameR_p T _) fun _ _ hu => Rp.ok (rd8 hs hu) _) _ _ _) fun _ _ hr => Rp.bind (nameR_p T _) fun _ _ hs => Rp.bind (sigR_p T S _) fun _ _ hg => Rp.bind (S.blk _) fun _ _ hb => Rp.ok (dd5 hs hr hg hb) _)
    (fun _ => Rp.bind (nameR_p T _) fun _ _ hs => Rp.bind (sigR_p T S _) fun _ _ hg => Rp.bind (S.blk _) fun _ _ hb => Rp.ok (dd4 hs hg hb) _))
omit S in
theorem ps_p : ∀ n,PsS (ps l n)
  | 0 => ⟨fun _ => Rp.bad _,fun _ _ _ _ => Rp.bad _,fun _ _ => Rp.bad _,fun _ => Rp.bad _,fun _ => Rp.bad _⟩
  | n + 1 => ⟨typS_p T (ps_p n),fun h _ i hn => binS_p (ps_p n) h hn i,unaS_p T (ps_p n),blkS_p T (ps_p n),ifSS_p (ps_p n)⟩
omit S in
/-- What is read is a sound tree, if it is small enough. -/
theorem treeR_sound {t : Tr} {j : Nat} (h : treeR l = .ok t j) (hs : smallT t = true) : soundT t = true:=by
 have hp : Rp (fun t => ∃ ts,t = .mk 1 [] 0 ts ∧ Al Dd ts) (treeR l):=Rp.bind (upToR_p (declR_p T (ps_p T _)) _ _) fun ts _ h => Rp.ok ⟨ts,rfl,h⟩ _
 obtain ⟨ts,rfl,hd⟩:=hp t j h
 unfold soundT
 rw [hs,pd1 hd (lim_of_small hs)]; rfl
end
end Go.Proofs.YtffnaknidofobaaGreatDoor
