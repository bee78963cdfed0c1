/- The parser's memory: where it lies, what a call leaves as it was, and where trees lie. -/
import Derived.Test.YtffnaknidofobaaGreatDoorParMJt
import Derived.Test.YtffnaknidofobaaGreatDoorChecked
import Derived.WalkSpells
import Derived.WalkLawsBesides
import Derived.Deep.Draws
import Derived.Deep.AppendLies
namespace Go.Proofs.YtffnaknidofobaaGreatDoor
open Go.RowKit
/-- All below block B lies as it lay, but for block P. -/
structure But (P B : Nat) (w w' : World) : Prop where
  os : w'.os = w.os
  tape : w'.tape = w.tape
  output : w'.output = w.output
  size : w.heap.size ≤ w'.heap.size
  block : ∀ k,k < B → k ≠ P → w'.heap[k]? = w.heap[k]?
theorem But.refl (P B : Nat) (w : World) : But P B w w:=⟨rfl,rfl,rfl,Nat.le_refl _,fun _ _ _ => rfl⟩
theorem But.trans {P B : Nat} {a b c : World} (h : But P B a b) (k : But P B b c) : But P B a c :=
  ⟨k.os.trans h.os,k.tape.trans h.tape,k.output.trans h.output,Nat.le_trans h.size k.size,fun i hi hp => (k.block i hi hp).trans (h.block i hi hp)⟩
theorem But.mono {P B C : Nat} {a b : World} (h : But P B a b) (hC : C ≤ B) : But P C a b:=⟨h.os,h.tape,h.output,h.size,fun k hk hp => h.block k (Nat.lt_of_lt_of_le hk hC) hp⟩
theorem But.of_below {P B : Nat} {a b : World} (h : Below B a b) : But P B a b:=⟨h.os,h.tape,h.output,h.size,fun k hk _ => h.block k hk⟩
theorem But.drew {P B : Nat} {a w : World} (h : But P B a w) : But P B a w.drew:=⟨h.os,h.tape,h.output,h.size,h.block⟩
theorem But.drewN {P B : Nat} {a w : World} (h : But P B a w) (q : Nat) : But P B a (w.drewN q):=⟨h.os,h.tape,h.output,h.size,h.block⟩
theorem But.alloc {P B : Nat} {a w : World} (h : But P B a w) (hB : B ≤ w.heap.size) (o : Obj) : But P B a (w.alloc o) :=
  ⟨h.os,h.tape,h.output,by rw [World.size_alloc]; exact Nat.le_succ_of_le h.size,fun k hk hp => (Below.heap_alloc w o k (Nat.lt_of_lt_of_le hk hB)).trans (h.block k hk hp)⟩
theorem But.setCell {P B : Nat} {a w : World} (h : But P B a w) {p : Addr} (hp : p.block = P ∨ B ≤ p.block) (u : Value) : But P B a (w.setCell p u) :=
  ⟨h.os,h.tape,h.output,by rw [World.size_setCell]; exact h.size,fun k hk hk2 => (Below.heap_setCell w p u k (by rcases hp with hp | hp <;> omega)).trans (h.block k hk hk2)⟩
theorem But.grown {P B : Nat} {a w w' : World} {row : Option Nat} (h : But P B a w) (hg : w.grownBy w' row) (hB : B ≤ w.heap.size) (hr : ∀ k,row = some k → B ≤ k) : But P B a w' :=
  ⟨hg.os.trans h.os,hg.tape.trans h.tape,hg.output.trans h.output,Nat.le_trans h.size hg.size,
    fun k hk hp => (hg.block k (Nat.lt_of_lt_of_le hk hB) (fun e => by have:=hr k e.symm; omega)).trans (h.block k hk hp)⟩
theorem But.cell {P B : Nat} {w w' : World} (h : But P B w w') {b o : Nat} (h1 : b < B) (h2 : b ≠ P) : w'.cell? ⟨b,o,none⟩ = w.cell? ⟨b,o,none⟩:=World.cell?_of_block (w:=w) (a:=⟨b,o,none⟩) (h.block b h1 h2)
theorem But.frozen {P B : Nat} {w w' : World} (h : But P B w w') {b o : Nat} (h1 : b < B) (h2 : b ≠ P) : w'.frozen? ⟨b,o,none⟩ = w.frozen? ⟨b,o,none⟩:=World.frozen?_of_block (w:=w) (a:=⟨b,o,none⟩) (h.block b h1 h2)
/-- A parser: its block, its tokens' block, their room; the text's tokens and its length. -/
structure Px where
  P : Nat
  tb : Nat
  cp : Nat
  toks : List Tk
  len : Nat
abbrev Px.p (X : Px) : Value:=.pointer (some ⟨X.P,0,none⟩)
def Px.l (X : Px) : List Tk:=X.toks ++ [(4,[],0,X.len)]
/-- The parser X lies in w, at token i, in a head or not. -/
structure Par (X : Px) (w : World) (i : Nat) (h : Bool) : Prop where
  blk : w.heap[X.P]? = some (.cells #[.slice (some ⟨X.tb,0,none⟩) X.l.length X.cp,.int .i64 i,.bool h] 85 (0,0))
  tok : ∀ (j : Nat) (t : Tk),X.l[j]? = some t → w.cell? ⟨X.tb,j * 4,none⟩ = some (.int .i64 t.1) ∧ w.cell? ⟨X.tb,j * 4 + 1,none⟩ = some (.string ⟨t.2.1.toArray⟩) ∧ w.cell? ⟨X.tb,j * 4 + 2,none⟩ = some (.int .i64 t.2.2.1) ∧ w.cell? ⟨X.tb,j * 4 + 3,none⟩ = some (.int .i64 t.2.2.2)
  ne : X.P ≠ X.tb
  lt : i < X.l.length
  cap : X.toks.length ≤ 20000
theorem lt_of_block {w : World} {b : Nat} {o : Obj} (h : w.heap[b]? = some o) : b < w.heap.size:=by
 rcases Nat.lt_or_ge b w.heap.size with h1 | h1
 · exact h1
 · rw [Array.getElem?_eq_none h1] at h; cases h
theorem lt_of_cell {w : World} {b o : Nat} {v : Value} (h : w.cell? ⟨b,o,none⟩ = some v) : b < w.heap.size:=World.block_lt_of_cell? w ⟨b,o,none⟩ h
section
variable {X : Px} {w w' : World} {i : Nat} {h : Bool}
theorem Px.length (X : Px) : X.l.length = X.toks.length + 1:=by simp [Px.l]
theorem Par.plt (H : Par X w i h) : X.P < w.heap.size:=lt_of_block H.blk
theorem Par.tlt (H : Par X w i h) : X.tb < w.heap.size:=by
 have h0 : X.l[0]? = some (X.l[0]'(by rw [X.length]; omega)):=by simp [X.length]
 exact lt_of_cell (H.tok 0 _ h0).1
theorem Par.c0 (H : Par X w i h) : w.cell? ⟨X.P,0,none⟩ = some (.slice (some ⟨X.tb,0,none⟩) X.l.length X.cp):=by simp [World.cell?,H.blk]
theorem Par.c1 (H : Par X w i h) : w.cell? ⟨X.P,1,none⟩ = some (.int .i64 i):=by simp [World.cell?,H.blk]
theorem Par.c2 (H : Par X w i h) : w.cell? ⟨X.P,2,none⟩ = some (.bool h):=by simp [World.cell?,H.blk]
theorem Par.fz (H : Par X w i h) (o : Nat) : w.frozen? ⟨X.P,o,none⟩ = false:=by simp [World.frozen?,H.blk]
theorem Par.bnd (H : Par X w i h) : i ≤ 20000:=by have:=H.lt; have:=H.cap; rw [X.length] at *; omega
theorem Par.of_blocks (H : Par X w i h) (h1 : w'.heap[X.P]? = w.heap[X.P]?) (h2 : w'.heap[X.tb]? = w.heap[X.tb]?) : Par X w' i h :=
  have r : ∀ o,w'.cell? ⟨X.tb,o,none⟩ = w.cell? ⟨X.tb,o,none⟩:=fun o => World.cell?_of_block (w:=w) (a:=⟨X.tb,o,none⟩) h2
  ⟨h1.trans H.blk,fun j t hj => by simp only [r]; exact H.tok j t hj,H.ne,H.lt,H.cap⟩
theorem Par.alloc (H : Par X w i h) (o : Obj) : Par X (w.alloc o) i h:=H.of_blocks (Below.heap_alloc w o _ H.plt) (Below.heap_alloc w o _ H.tlt)
theorem Par.drewN (H : Par X w i h) (q : Nat) : Par X (w.drewN q) i h:=H.of_blocks rfl rfl
theorem Par.setCell (H : Par X w i h) {b o : Nat} (h1 : b ≠ X.P) (h2 : b ≠ X.tb) (u : Value) : Par X (w.setCell ⟨b,o,none⟩ u) i h :=
  H.of_blocks (Below.heap_setCell w _ u _ (fun e => h1 e.symm)) (Below.heap_setCell w _ u _ (fun e => h2 e.symm))
theorem Par.below (H : Par X w i h) {B : Nat} (hb : Below B w w') (hB : w.heap.size ≤ B) : Par X w' i h :=
  H.of_blocks (hb.block _ (Nat.lt_of_lt_of_le H.plt hB)) (hb.block _ (Nat.lt_of_lt_of_le H.tlt hB))
theorem Par.grown (H : Par X w i h) {row : Option Nat} (hg : w.grownBy w' row) (h1 : some X.P ≠ row) (h2 : some X.tb ≠ row) : Par X w' i h :=
  H.of_blocks (hg.block _ H.plt h1) (hg.block _ H.tlt h2)
theorem heap_setCell_same (w : World) (b o : Nat) (u : Value) {c : Array Value} {t : TypeId} {f : Nat × Nat} (hb : w.heap[b]? = some (.cells c t f)) :
    (w.setCell ⟨b,o,none⟩ u).heap[b]? = some (.cells (c.setIfInBounds o u) t f):=by
  simp [World.setCell,Array.getElem?_modify,hb]
theorem Par.next (H : Par X w i h) {j : Nat} (hj : j < X.l.length) : Par X (w.setCell ⟨X.P,1,none⟩ (.int .i64 j)) j h:=by
 have r : ∀ o,(w.setCell ⟨X.P,1,none⟩ (.int .i64 j)).cell? ⟨X.tb,o,none⟩ = w.cell? ⟨X.tb,o,none⟩:=fun o => World.cell?_of_block (w:=w) (a:=⟨X.tb,o,none⟩) (Below.heap_setCell w _ _ _ (fun e => H.ne e.symm))
 refine ⟨?_,fun k t hk => by simp only [r]; exact H.tok k t hk,H.ne,hj,H.cap⟩
 rw [heap_setCell_same w X.P 1 _ H.blk]; rfl
theorem Par.head (H : Par X w i h) (g : Bool) : Par X (w.setCell ⟨X.P,2,none⟩ (.bool g)) i g:=by
 have r : ∀ o,(w.setCell ⟨X.P,2,none⟩ (.bool g)).cell? ⟨X.tb,o,none⟩ = w.cell? ⟨X.tb,o,none⟩:=fun o => World.cell?_of_block (w:=w) (a:=⟨X.tb,o,none⟩) (Below.heap_setCell w _ _ _ (fun e => H.ne e.symm))
 refine ⟨?_,fun k t hk => by simp only [r]; exact H.tok k t hk,H.ne,H.lt,H.cap⟩
 rw [heap_setCell_same w X.P 2 _ H.blk]; rfl
theorem tkA_some {l : List Tk} {i : Nat} (h : i < l.length) : l[i]? = some (tkA l i):=by simp [tkA,List.getD_eq_getElem?_getD,List.getElem?_eq_getElem h]
theorem tkA_last (X : Px) : tkA X.l X.toks.length = (4,[],0,X.len):=by simp [tkA,Px.l,List.getD_eq_getElem?_getD]
/-- What is not the end has one behind it. -/
theorem not_end (H : Par X w i h) (hn : ¬ (kindA X.l i = 4 ∧ textA X.l i = [])) : i + 1 < X.l.length:=by
 have h1:=H.lt
 rw [X.length] at h1 ⊢
 rcases Nat.lt_or_ge i X.toks.length with h2 | h2
 · omega
 · have e : i = X.toks.length:=by omega
   exfalso; apply hn
   rw [e]; simp [kindA,textA,tkA_last]
theorem isM_end (H : Par X w i h) {s : List UInt8} (hs : s ≠ []) (hm : isM X.l i s = true) : i + 1 < X.l.length:=by
 refine not_end H (fun hn => ?_)
 simp only [isM,Bool.and_eq_true,beq_iff_eq] at hm
 exact hs (hm.2.symm.trans hn.2)
theorem kind_end (H : Par X w i h) {k : Int} (hk : k ≠ 4) (hm : kindA X.l i = k) : i + 1 < X.l.length :=
  not_end H (fun hn => hk (hm.symm.trans hn.1))
end
/-- A node's value: the tree and the slice of its kids. -/
abbrev tv (t : Tr) (sl : Value) : Value:=.agg #[.int .i64 t.kind,.string ⟨t.text.toArray⟩,.int .i64 t.num,sl]
def cellsOf : List Tr → List Value → List Value
  | t :: ts,sl :: sls => .int .i64 t.kind :: .string ⟨t.text.toArray⟩ :: .int .i64 t.num :: sl :: cellsOf ts sls
  | _,_ => []
/-- n elements, whose cells are xs, lie at the slice sl, in a block of S. -/
def RowAt (w : World) (S : Nat → Prop) (sl : Value) (n : Nat) (xs : List Value) : Prop :=
  (n = 0 ∧ ∃ ao cap,sl = .slice ao 0 cap) ∨
  ∃ g o cap,sl = .slice (some ⟨g,o,none⟩) n cap ∧ n ≤ cap ∧ S g ∧ ∀ (j : Nat) u,xs[j]? = some u → w.cell? ⟨g,o + j,none⟩ = some u
mutual
/-- The tree t with its kids' slice sl lies in w, in blocks of S. -/
def KT (w : World) (S : Nat → Prop) : Tr → Value → Prop
  | .mk _ _ _ ks,sl => ∃ sls,RowAt w S sl ks.length (cellsOf ks sls) ∧ KL w S ks sls
def KL (w : World) (S : Nat → Prop) : List Tr → List Value → Prop
  | [],sls => sls = []
  | t :: ts,sls => ∃ sl r,sls = sl :: r ∧ KT w S t sl ∧ KL w S ts r
end
theorem RowAt.keep {w w' : World} {S S' : Nat → Prop} {sl : Value} {n : Nat} {xs : List Value} (hw : ∀ b,S b → w'.heap[b]? = w.heap[b]?) (hS : ∀ b,S b → S' b) (h : RowAt w S sl n xs) : RowAt w' S' sl n xs:=by
 rcases h with h | ⟨g,o,cap,h1,hcp,h2,h3⟩
 · exact .inl h
 · exact .inr ⟨g,o,cap,h1,hcp,hS g h2,fun j u hj => (World.cell?_of_block (w:=w) (a:=⟨g,o + j,none⟩) (hw g h2)).trans (h3 j u hj)⟩
mutual
theorem KT.keep {w w' : World} {S S' : Nat → Prop} (hw : ∀ b,S b → w'.heap[b]? = w.heap[b]?) (hS : ∀ b,S b → S' b) : ∀ (t : Tr) (sl : Value),KT w S t sl → KT w' S' t sl
  | .mk _ _ _ ks,sl,h => by
   simp only [KT] at h ⊢
   obtain ⟨sls,h1,h2⟩:=h
   exact ⟨sls,h1.keep hw hS,KL.keep hw hS ks sls h2⟩
theorem KL.keep {w w' : World} {S S' : Nat → Prop} (hw : ∀ b,S b → w'.heap[b]? = w.heap[b]?) (hS : ∀ b,S b → S' b) : ∀ (ts : List Tr) (sls : List Value),KL w S ts sls → KL w' S' ts sls
  | [],sls,h => by simp only [KL] at h ⊢; exact h
  | t :: ts,sls,h => by
   simp only [KL] at h ⊢
   obtain ⟨sl,r,h1,h2,h3⟩:=h
   exact ⟨sl,r,h1,KT.keep hw hS t sl h2,KL.keep hw hS ts r h3⟩
end
theorem KL.length {w : World} {S : Nat → Prop} : ∀ {ts : List Tr} {sls : List Value},KL w S ts sls → sls.length = ts.length
  | [],sls,h => by simp only [KL] at h; rw [h]; rfl
  | t :: ts,sls,h => by
   simp only [KL] at h
   obtain ⟨sl,r,rfl,_,h3⟩:=h
   simp [KL.length h3]
theorem KL.append {w : World} {S : Nat → Prop} : ∀ {ts us : List Tr} {a b : List Value},KL w S ts a → KL w S us b → KL w S (ts ++ us) (a ++ b)
  | [],us,a,b,h,k => by simp only [KL] at h; rw [h]; exact k
  | t :: ts,us,a,b,h,k => by
   simp only [KL] at h
   obtain ⟨sl,r,rfl,h2,h3⟩:=h
   simp only [List.cons_append,KL]
   exact ⟨sl,r ++ b,rfl,h2,KL.append h3 k⟩
theorem cellsOf_append : ∀ {ts us : List Tr} {a b : List Value},a.length = ts.length → cellsOf (ts ++ us) (a ++ b) = cellsOf ts a ++ cellsOf us b
  | [],us,a,b,h => by
   have : a = []:=List.eq_nil_of_length_eq_zero (by simpa using h)
   subst this; simp [cellsOf]
  | t :: ts,us,sl :: r,b,h => by simp only [List.cons_append,cellsOf]; rw [cellsOf_append (by simpa using h)]
  | t :: ts,us,[],b,h => by simp at h
theorem cellsOf_length : ∀ {ts : List Tr} {a : List Value},a.length = ts.length → (cellsOf ts a).length = ts.length * 4
  | [],a,h => by simp [cellsOf]
  | t :: ts,sl :: r,h => by simp only [cellsOf,List.length_cons]; rw [cellsOf_length (by simpa using h)]; omega
  | t :: ts,[],h => by simp at h
theorem cellsOf_one : ∀ {ts : List Tr} {a : List Value},(∀ v ∈ a,v.oneCell' = true) → ∀ u ∈ cellsOf ts a,u.oneCell' = true
  | [],a,_,u,hu => by simp [cellsOf] at hu
  | t :: ts,[],_,u,hu => by simp [cellsOf] at hu
  | t :: ts,sl :: r,hv,u,hu => by
   simp only [cellsOf,List.mem_cons] at hu
   rcases hu with rfl | rfl | rfl | rfl | hu
   · rfl
   · rfl
   · rfl
   · exact hv _ (by simp)
   · exact cellsOf_one (fun v hv' => hv v (by simp [hv'])) u hu
theorem KT.slice {w : World} {S : Nat → Prop} : ∀ {t : Tr} {sl : Value},KT w S t sl → ∃ ao n cap,sl = .slice ao n cap
  | .mk _ _ _ ks,sl,h => by
   simp only [KT] at h
   obtain ⟨sls,h1 | ⟨g,o,cap,h1,_⟩,_⟩:=h
   · obtain ⟨_,ao,cap,h⟩:=h1; exact ⟨ao,0,cap,h⟩
   · exact ⟨_,_,cap,h1⟩
theorem KL.one {w : World} {S : Nat → Prop} : ∀ {ts : List Tr} {sls : List Value},KL w S ts sls → ∀ v ∈ sls,v.oneCell' = true
  | [],sls,h,v,hv => by simp only [KL] at h; rw [h] at hv; simp at hv
  | t :: ts,sls,h,v,hv => by
   simp only [KL] at h
   obtain ⟨sl,r,rfl,h2,h3⟩:=h
   simp only [List.mem_cons] at hv
   rcases hv with rfl | hv
   · obtain ⟨ao,n,cap,rfl⟩:=h2.slice; rfl
   · exact KL.one h3 v hv
abbrev Rg (lo hi : Nat) : Nat → Prop:=fun b => lo ≤ b ∧ b < hi
/-- A list of trees that a call has made: its own row, the trees elsewhere. -/
def OwnL (w : World) (B : Nat) (v : Value) (ts : List Tr) : Prop :=
  ∃ sls,w.ownsRow B 24 4 v ts.length (cellsOf ts sls) ∧ KL w (fun b => (B ≤ b ∧ b < w.heap.size) ∧ some b ≠ v.ownBlock) ts sls
def pan : Ending:=.panicked [{ v:=.iface 25 (.int .i64 3),recovered:=false }]
/-- What a part that answers a tree leaves. -/
def OutT (X : Px) (w : World) (i : Nat) (h : Bool) (r : Res Tr) (e : Ending) (w' : World) : Prop :=
  But X.P w.heap.size w w' ∧ match r with
  | .ok t j => i < j ∧ Par X w' j h ∧ ∃ sl,e = .returned (tv t sl) ∧ KT w' (Rg w.heap.size w'.heap.size) t sl
  | .bad j => e = pan ∧ ∃ h',Par X w' j h'
/-- What a part that answers a list of trees leaves. -/
def OutL (X : Px) (w : World) (i : Nat) (h : Bool) (r : Res (List Tr)) (e : Ending) (w' : World) : Prop :=
  But X.P w.heap.size w w' ∧ match r with
  | .ok ts j => i + ts.length ≤ j ∧ Par X w' j h ∧ ∃ v,e = .returned v ∧ OwnL w' w.heap.size v ts
  | .bad j => e = pan ∧ ∃ h',Par X w' j h'
end Go.Proofs.YtffnaknidofobaaGreatDoor
