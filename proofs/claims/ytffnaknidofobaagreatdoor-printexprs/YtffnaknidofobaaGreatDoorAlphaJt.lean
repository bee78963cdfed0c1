/- newAlphabet and newReader: the eight classes of the reader. -/
import Derived.Test.YtffnaknidofobaaGreatDoorKlsJt
namespace Go.Proofs.YtffnaknidofobaaGreatDoor
open Go.RowKit
def digitP : UInt8 → Bool:=betweenP 48 57
def firstP : UInt8 → Bool:=eitherP [betweenP 97 122,betweenP 65 90,oneOfP [95]]
def innerP : UInt8 → Bool:=eitherP [firstP,digitP]
def blankP : UInt8 → Bool:=oneOfP [9,10,13,32]
def remarkP : UInt8 → Bool:=notP (oneOfP [10])
def quoteP : UInt8 → Bool:=oneOfP [34]
def plainP : UInt8 → Bool:=notP (oneOfP [34,92,10])
def singleP : UInt8 → Bool:=oneOfP [40,41,123,125,91,93,44,59,46,58,61,60,62,43,45,42,47,37,38,33]
set_option maxRecDepth 20000 in
theorem either2_any (w : World) (B : Nat) (hB : B ≤ w.heap.size) (g1 g2 : Nat) (l1 l2 : Array Value) (p1 p2 : UInt8 → Bool) (e1 : Enters Tryz.prog g1) (e2 : Enters Tryz.prog g2)
    (k1 : KlsAt g1 l1 p1 B w) (k2 : KlsAt g2 l2 p2 B w) :
    Calls Tryz.prog 129 #[.slice (some ⟨w.heap.size,0,none⟩) 2 2] (w.alloc (.cells #[.func (.func g1) #[] l1,.func (.func g2) #[] l2] 75))
      (Made (eitherP [p1,p2]) B (w.alloc (.cells #[.func (.func g1) #[] l1,.func (.func g2) #[] l2] 75))):=by
  have hb : Below w.heap.size w (w.alloc (.cells #[.func (.func g1) #[] l1,.func (.func g2) #[] l2] 75)):=(Below.refl _ _).alloc (Nat.le_refl _) _
  refine either_any w.heap.size 2 [p1,p2] B _ rfl (by decide) ⟨hB,by simp⟩ ?_
  intro k p h
  match k,h with
  | 0,h => cases h; exact ⟨_,by simp,g1,l1,rfl,e1,k1.later (Same.of_below hb)⟩
  | 1,h => cases h; exact ⟨_,by simp,g2,l2,rfl,e2,k2.later (Same.of_below hb)⟩
/-- Eight function values. -/
structure AB where
  g0 : Nat
  l0 : Array Value
  g1 : Nat
  l1 : Array Value
  g2 : Nat
  l2 : Array Value
  g3 : Nat
  l3 : Array Value
  g4 : Nat
  l4 : Array Value
  g5 : Nat
  l5 : Array Value
  g6 : Nat
  l6 : Array Value
  g7 : Nat
  l7 : Array Value
abbrev AB.alpha (a : AB) : Value:=.agg #[.func (.func a.g0) #[] a.l0,.func (.func a.g1) #[] a.l1,.func (.func a.g2) #[] a.l2,.func (.func a.g3) #[] a.l3,.func (.func a.g4) #[] a.l4,.func (.func a.g5) #[] a.l5,.func (.func a.g6) #[] a.l6,.func (.func a.g7) #[] a.l7]
abbrev AB.rd (a : AB) (s : ByteArray) : Value:=.agg #[.func (.func a.g0) #[] a.l0,.func (.func a.g1) #[] a.l1,.func (.func a.g2) #[] a.l2,.func (.func a.g3) #[] a.l3,.func (.func a.g4) #[] a.l4,.func (.func a.g5) #[] a.l5,.func (.func a.g6) #[] a.l6,.func (.func a.g7) #[] a.l7,.string s]
/-- They are the eight classes, in the order of the struct's fields. -/
structure Alpha (a : AB) (B : Nat) (w : World) : Prop where
  e0 : Enters Tryz.prog a.g0
  blank : KlsAt a.g0 a.l0 blankP B w
  e1 : Enters Tryz.prog a.g1
  remark : KlsAt a.g1 a.l1 remarkP B w
  e2 : Enters Tryz.prog a.g2
  first : KlsAt a.g2 a.l2 firstP B w
  e3 : Enters Tryz.prog a.g3
  inner : KlsAt a.g3 a.l3 innerP B w
  e4 : Enters Tryz.prog a.g4
  digit : KlsAt a.g4 a.l4 digitP B w
  e5 : Enters Tryz.prog a.g5
  quote : KlsAt a.g5 a.l5 quoteP B w
  e6 : Enters Tryz.prog a.g6
  plain : KlsAt a.g6 a.l6 plainP B w
  e7 : Enters Tryz.prog a.g7
  single : KlsAt a.g7 a.l7 singleP B w
set_option maxRecDepth 20000 in
theorem Alpha.later {a : AB} {B : Nat} {w W : World} (h : Alpha a B w) (hb : Same B w W) : Alpha a B W :=
  ⟨h.e0,h.blank.later hb,h.e1,h.remark.later hb,h.e2,h.first.later hb,h.e3,h.inner.later hb,h.e4,h.digit.later hb,h.e5,h.quote.later hb,h.e6,h.plain.later hb,h.e7,h.single.later hb⟩
set_option maxRecDepth 20000 in
theorem Alpha.wide {a : AB} {B C : Nat} {w : World} (h : Alpha a B w) (hb : C ≤ B) : Alpha a C w :=
  ⟨h.e0,h.blank.wide hb,h.e1,h.remark.wide hb,h.e2,h.first.wide hb,h.e3,h.inner.wide hb,h.e4,h.digit.wide hb,h.e5,h.quote.wide hb,h.e6,h.plain.wide hb,h.e7,h.single.wide hb⟩
set_option maxRecDepth 20000 in
theorem put8 (b : Nat) (w : World) (v0 v1 v2 v3 v4 v5 v6 v7 : Value) (W : World) {u0 u1 u2 u3 u4 u5 u6 u7 : Value}
    (c0 : w.cell? ⟨b,0,none⟩ = some u0) (c1 : w.cell? ⟨b,1,none⟩ = some u1) (c2 : w.cell? ⟨b,2,none⟩ = some u2) (c3 : w.cell? ⟨b,3,none⟩ = some u3) (c4 : w.cell? ⟨b,4,none⟩ = some u4) (c5 : w.cell? ⟨b,5,none⟩ = some u5) (c6 : w.cell? ⟨b,6,none⟩ = some u6) (c7 : w.cell? ⟨b,7,none⟩ = some u7)
    (hW : ((((((((w.setCell ⟨b,0,none⟩ v0).setCell ⟨b,1,none⟩ v1).setCell ⟨b,2,none⟩ v2).setCell ⟨b,3,none⟩ v3).setCell ⟨b,4,none⟩ v4).setCell ⟨b,5,none⟩ v5).setCell ⟨b,6,none⟩ v6).setCell ⟨b,7,none⟩ v7) = W) :
    Same (b + 1) w W ∧ (∀ B a,B ≤ b → Below B a w → Below B a W) ∧
    (W.cell? ⟨b,0,none⟩ = some v0 ∧ W.cell? ⟨b,1,none⟩ = some v1 ∧ W.cell? ⟨b,2,none⟩ = some v2 ∧ W.cell? ⟨b,3,none⟩ = some v3 ∧ W.cell? ⟨b,4,none⟩ = some v4 ∧ W.cell? ⟨b,5,none⟩ = some v5 ∧ W.cell? ⟨b,6,none⟩ = some v6 ∧ W.cell? ⟨b,7,none⟩ = some v7):=by
  subst hW
  refine ⟨?_,?_,?_⟩
  · have key : ∀ (a : World) (j : Nat) (v : Value),Same (b + 1) w a → Same (b + 1) w (a.setCell ⟨b,j,none⟩ v):=fun a j v h => h.setCell (p:=⟨b,j,none⟩) (Nat.lt_succ_self b) v
    exact key _ _ _ (key _ _ _ (key _ _ _ (key _ _ _ (key _ _ _ (key _ _ _ (key _ _ _ (key _ _ _ (Same.refl _ w))))))))
  · intro B a hB hw
    have key : ∀ (x : World) (j : Nat) (v : Value),Below B a x → Below B a (x.setCell ⟨b,j,none⟩ v):=fun x j v h => h.setCell (p:=⟨b,j,none⟩) hB v
    exact key _ _ _ (key _ _ _ (key _ _ _ (key _ _ _ (key _ _ _ (key _ _ _ (key _ _ _ (key _ _ _ hw)))))))
  · refine ⟨?_,?_,?_,?_,?_,?_,?_,?_⟩ <;> simp [go_sem,c0,c1,c2,c3,c4,c5,c6,c7]
set_option maxRecDepth 20000 in
theorem byte_allA {P : UInt8 → Prop} (h : ∀ n,n < 256 → P (UInt8.ofNat n)) (c : UInt8) : P c:=by
 have:=h c.toNat c.toNat_lt
 simpa using this
set_option maxRecDepth 20000 in
theorem first_eqA : ∀ b : UInt8,firstP b = (decide (97 ≤ (b.toNat : Int)) && decide ((b.toNat : Int) ≤ 122) || decide (65 ≤ (b.toNat : Int)) && decide ((b.toNat : Int) ≤ 90) || ((b.toNat : Int) == 95)):=byte_allA (by decide +kernel)
set_option maxRecDepth 20000 in
set_option maxHeartbeats 1000000 in
theorem digit_any (b : UInt8) (w : World) : Calls Tryz.prog 130 #[.int .u8 b.toNat] w fun e w' => e = .returned (.bool (digitP b)) ∧ w' = w:=by
 by_cases h1 : 48 ≤ (b.toNat : Int) <;> by_cases h2 : (b.toNat : Int) ≤ 57
 all_goals
  go_enter Tryz.func130,Tryz.ntmps130
  go_wp2
  all_goals first | (exfalso; omega) | (go_ret; exact ⟨by simp [digitP,betweenP,h1,h2],rfl⟩)
set_option maxRecDepth 20000 in
set_option maxHeartbeats 4000000 in
theorem letter_any (b : UInt8) (w : World) : Calls Tryz.prog 128 #[.int .u8 b.toNat] w fun e w' => e = .returned (.bool (firstP b)) ∧ w' = w:=by
 rw [first_eqA]
 cases h5 : ((b.toNat : Int) == 95)
 all_goals
  by_cases h1 : 97 ≤ (b.toNat : Int) <;> by_cases h2 : (b.toNat : Int) ≤ 122 <;> by_cases h3 : 65 ≤ (b.toNat : Int) <;> by_cases h4 : (b.toNat : Int) ≤ 90
  all_goals first | (exfalso; omega) | skip
  all_goals
   go_enter Tryz.func128,Tryz.ntmps128
   go_wp2
   all_goals first | (exfalso; omega) | (go_ret; exact ⟨by simp [h1,h2,h3,h4],rfl⟩)
set_option maxRecDepth 20000 in
theorem enLetter : Enters Tryz.prog 128:=enters_of Tryz.func128 (by kernel_rfl) rfl
set_option maxRecDepth 20000 in
theorem enDigit : Enters Tryz.prog 130:=enters_of Tryz.func130 (by kernel_rfl) rfl
set_option maxRecDepth 20000 in
theorem letter_at (B : Nat) (w : World) : KlsAt 128 #[] firstP B w:=fun W b _ => by
 rw [Array.append_empty]
 exact (letter_any b W).mono fun e w' h => ⟨h.1,0,h.2⟩
set_option maxRecDepth 20000 in
theorem digit_at (B : Nat) (w : World) : KlsAt 130 #[] digitP B w:=fun W b _ => by
 rw [Array.append_empty]
 exact (digit_any b W).mono fun e w' h => ⟨h.1,0,h.2⟩
set_option maxRecDepth 20000 in
set_option maxHeartbeats 2000000 in
theorem newAlphabet_any (w : World) : Calls Tryz.prog 88 #[] w fun e w' => ∃ a : AB,e = .returned a.alpha ∧ Alpha a w.heap.size w' ∧ Below w.heap.size w w':=by
 go_enter Tryz.func88,Tryz.ntmps88
 go_wp2_with fail
 refine (oneOf_any _ (w.heap.size + 1) _ (by simp)).mono ?_
 rintro e w1 ⟨g1,l1,rfl,e1,k1,b1⟩
 have z1 : w.heap.size + 1 ≤ w1.heap.size:=by have:=b1.size; simpa using this
 go_wp2_with fail
 refine (oneOf_any _ (w.heap.size + 1) _ z1).mono ?_
 rintro e w2 ⟨g2,l2,rfl,e2,k2,b2⟩
 have z2 : w.heap.size + 1 ≤ w2.heap.size:=by have:=b2.size; omega
 replace k1:=k1.later (Same.of_below b2)
 go_wp2_with fail
 refine (not_any _ _ _ (w.heap.size + 1) _ e2 k2 z2).mono ?_
 rintro e w3 ⟨g3,l3,rfl,e3,k3,b3⟩
 have z3 : w.heap.size + 1 ≤ w3.heap.size:=by have:=b3.size; omega
 clear k2
 replace k1:=k1.later (Same.of_below b3)
 go_wp2_with fail
 refine (either2_any _ (w.heap.size + 1) z3 _ _ _ _ _ _ enLetter enDigit (letter_at _ _) (digit_at _ _)).mono ?_
 rintro e w4 ⟨g4,l4,rfl,e4,k4,b4'⟩
 have b4 : Below w3.heap.size w3 w4:=((Below.refl _ _).alloc (Nat.le_refl _) _).trans (b4'.mono (by simp))
 clear b4'
 have z4 : w.heap.size + 1 ≤ w4.heap.size:=by have:=b4.size; omega
 replace k1:=k1.later (Same.of_below b4)
 replace k3:=k3.later (Same.of_below b4)
 go_wp2_with fail
 refine (oneOf_any _ (w.heap.size + 1) _ z4).mono ?_
 rintro e w5 ⟨g5,l5,rfl,e5,k5,b5⟩
 have z5 : w.heap.size + 1 ≤ w5.heap.size:=by have:=b5.size; omega
 replace k1:=k1.later (Same.of_below b5)
 replace k3:=k3.later (Same.of_below b5)
 replace k4:=k4.later (Same.of_below b5)
 go_wp2_with fail
 refine (oneOf_any _ (w.heap.size + 1) _ z5).mono ?_
 rintro e w6 ⟨g6,l6,rfl,e6,k6,b6⟩
 have z6 : w.heap.size + 1 ≤ w6.heap.size:=by have:=b6.size; omega
 replace k1:=k1.later (Same.of_below b6)
 replace k3:=k3.later (Same.of_below b6)
 replace k4:=k4.later (Same.of_below b6)
 replace k5:=k5.later (Same.of_below b6)
 go_wp2_with fail
 refine (not_any _ _ _ (w.heap.size + 1) _ e6 k6 z6).mono ?_
 rintro e w7 ⟨g7,l7,rfl,e7,k7,b7⟩
 have z7 : w.heap.size + 1 ≤ w7.heap.size:=by have:=b7.size; omega
 clear k6
 replace k1:=k1.later (Same.of_below b7)
 replace k3:=k3.later (Same.of_below b7)
 replace k4:=k4.later (Same.of_below b7)
 replace k5:=k5.later (Same.of_below b7)
 go_wp2_with fail
 refine (oneOf_any _ (w.heap.size + 1) _ z7).mono ?_
 rintro e w8 ⟨g8,l8,rfl,e8,k8,b8⟩
 have z8 : w.heap.size + 1 ≤ w8.heap.size:=by have:=b8.size; omega
 replace k1:=k1.later (Same.of_below b8)
 replace k3:=k3.later (Same.of_below b8)
 replace k4:=k4.later (Same.of_below b8)
 replace k5:=k5.later (Same.of_below b8)
 replace k7:=k7.later (Same.of_below b8)
 have bA : Below (w.heap.size + 1) (w.alloc (Obj.cells #[Value.nilFunc,Value.nilFunc,Value.nilFunc,Value.nilFunc,Value.nilFunc,Value.nilFunc,Value.nilFunc,Value.nilFunc] 77)) w8:=((((((((b1.mono (by simp)).trans (b2.mono z1)).trans (b3.mono z2)).trans (b4.mono z3)).trans (b5.mono z4)).trans (b6.mono z5)).trans (b7.mono z6)).trans (b8.mono z7))
 have cc : ∀ j,w8.cell? ⟨w.heap.size,j,none⟩ = (w.alloc (Obj.cells #[Value.nilFunc,Value.nilFunc,Value.nilFunc,Value.nilFunc,Value.nilFunc,Value.nilFunc,Value.nilFunc,Value.nilFunc] 77)).cell? ⟨w.heap.size,j,none⟩:=fun j => bA.cell (p:=⟨w.heap.size,j,none⟩) (Nat.lt_succ_self _)
 have cf : ∀ j,w8.frozen? ⟨w.heap.size,j,none⟩ = false:=fun j => (bA.frozen (p:=⟨w.heap.size,j,none⟩) (Nat.lt_succ_self _)).trans (by simp)
 have c0:=(cc 0).trans (by simp : _ = some Value.nilFunc)
 have c1:=(cc 1).trans (by simp : _ = some Value.nilFunc)
 have c2:=(cc 2).trans (by simp : _ = some Value.nilFunc)
 have c3:=(cc 3).trans (by simp : _ = some Value.nilFunc)
 have c4:=(cc 4).trans (by simp : _ = some Value.nilFunc)
 have c5:=(cc 5).trans (by simp : _ = some Value.nilFunc)
 have c6:=(cc 6).trans (by simp : _ = some Value.nilFunc)
 have c7:=(cc 7).trans (by simp : _ = some Value.nilFunc)
 clear cc b1 b2 b3 b4 b5 b6 b7 b8 z1 z2 z3 z4 z5 z6 z7 z8
 go_wp2
 generalize hWf : ((((((((w8.setCell ⟨w.heap.size,0,none⟩ (Value.func (Fn.func g1) #[] l1)).setCell ⟨w.heap.size,1,none⟩ (Value.func (Fn.func g3) #[] l3)).setCell ⟨w.heap.size,2,none⟩ (Value.func (Fn.func 128) #[] #[])).setCell ⟨w.heap.size,3,none⟩ (Value.func (Fn.func g4) #[] l4)).setCell ⟨w.heap.size,4,none⟩ (Value.func (Fn.func 130) #[] #[])).setCell ⟨w.heap.size,5,none⟩ (Value.func (Fn.func g5) #[] l5)).setCell ⟨w.heap.size,6,none⟩ (Value.func (Fn.func g7) #[] l7)).setCell ⟨w.heap.size,7,none⟩ (Value.func (Fn.func g8) #[] l8)) = Wf
 obtain ⟨hs,hw,hc⟩:=put8 w.heap.size w8 _ _ _ _ _ _ _ _ Wf c0 c1 c2 c3 c4 c5 c6 c7 hWf
 clear hWf
 obtain ⟨d0,d1,d2,d3,d4,d5,d6,d7⟩:=hc
 have hw2 : Below w.heap.size w Wf:=hw _ _ (Nat.le_refl _) (((Below.refl _ _).alloc (Nat.le_refl _) _).trans (bA.mono (Nat.le_succ _)))
 have hz : w.heap.size ≤ w.heap.size + 1:=Nat.le_succ _
 refine bodyPost_ret (v:=.agg #[Value.func (Fn.func g1) #[] l1,Value.func (Fn.func g3) #[] l3,Value.func (Fn.func 128) #[] #[],Value.func (Fn.func g4) #[] l4,Value.func (Fn.func 130) #[] #[],Value.func (Fn.func g5) #[] l5,Value.func (Fn.func g7) #[] l7,Value.func (Fn.func g8) #[] l8])
   (by simp [results,Tryz.results88,go_sem,d0,d1,d2,d3,d4,d5,d6,d7]) rfl ⟨⟨g1,l1,g3,l3,128,#[],g4,l4,130,#[],g5,l5,g7,l7,g8,l8⟩,rfl,?_,hw2⟩
 exact ⟨e1,(k1.later hs).wide hz,e3,(k3.later hs).wide hz,enLetter,letter_at _ _,e4,(k4.later hs).wide hz,enDigit,digit_at _ _,e5,(k5.later hs).wide hz,e7,(k7.later hs).wide hz,e8,(k8.later hs).wide hz⟩
end Go.Proofs.YtffnaknidofobaaGreatDoor

namespace Go.Proofs.YtffnaknidofobaaGreatDoor
open Go.RowKit
/-- Is the byte at place k one of p? (Beyond the end: no.) -/
def atP (p : UInt8 → Bool) (l : List UInt8) (k : Nat) : Bool:=match l[k]? with
  | some b => p b
  | none => false
/-- Where the longest run of p from place k on ends. -/
def endOf (p : UInt8 → Bool) (l : List UInt8) (k : Nat) : Nat:=k + ((l.drop k).takeWhile p).length
set_option maxRecDepth 20000 in
theorem endOf_no {p : UInt8 → Bool} {l : List UInt8} {k : Nat} (h : atP p l k = false) : endOf p l k = k:=by
 unfold endOf
 unfold atP at h
 cases hk : l[k]? with
 | none => rw [List.drop_eq_nil_of_le (by simpa using hk)]; simp
 | some b =>
  rw [hk] at h
  obtain ⟨hl,rfl⟩:=List.getElem?_eq_some_iff.1 hk
  rw [List.drop_eq_getElem_cons hl,List.takeWhile_cons_of_neg (by simpa using h)]; simp
set_option maxRecDepth 20000 in
theorem endOf_yes {p : UInt8 → Bool} {l : List UInt8} {k : Nat} (h : atP p l k = true) : k < l.length ∧ endOf p l (k + 1) = endOf p l k:=by
 unfold atP at h
 cases hk : l[k]? with
 | none => rw [hk] at h; cases h
 | some b =>
  rw [hk] at h
  obtain ⟨hl,rfl⟩:=List.getElem?_eq_some_iff.1 hk
  refine ⟨hl,?_⟩
  unfold endOf
  rw [List.drop_eq_getElem_cons hl,List.takeWhile_cons_of_pos (by simpa using h)]
  simp; omega
set_option maxRecDepth 20000 in
theorem endOf_ge (p : UInt8 → Bool) (l : List UInt8) (k : Nat) : k ≤ endOf p l k:=Nat.le_add_right _ _
set_option maxRecDepth 20000 in
theorem endOf_le (p : UInt8 → Bool) (l : List UInt8) (k : Nat) (h : k ≤ l.length) : endOf p l k ≤ l.length:=by
 unfold endOf
 have:=(List.takeWhile_sublist p (l:=l.drop k)).length_le
 simp at this; omega
set_option maxRecDepth 20000 in
theorem atP_lt {p : UInt8 → Bool} {s : ByteArray} {k : Nat} (h : k < s.size) : atP p s.data.toList k = p s[k]:=by
 unfold atP
 rw [List.getElem?_eq_getElem (by simpa using h)]
 rfl
set_option maxRecDepth 20000 in
theorem atP_ge {p : UInt8 → Bool} {s : ByteArray} {k : Nat} (h : ¬ k < s.size) : atP p s.data.toList k = false:=by
 unfold atP
 rw [List.getElem?_eq_none (by simpa using h)]
set_option maxRecDepth 20000 in
set_option maxHeartbeats 400000 in
theorem at_any (g : Nat) (lb : Array Value) (p : UInt8 → Bool) (B : Nat) (w0 w : World) (he : Enters Tryz.prog g) (hk : KlsAt g lb p B w0) (hw : Same B w0 w) (s : ByteArray) (_hs : s.size ≤ maxLen) (k : Nat) (_hkm : k ≤ s.size) :
    Calls Tryz.prog 131 #[.func (.func g) #[] lb,.string s,.int .i64 k] w fun e w' => e = .returned (.bool (atP p s.data.toList k)) ∧ ∃ q,w' = w.drewN q:=by
  unfold maxLen at _hs
  have eg : ∀ args w,(callFunc g args).run Tryz.prog w = .ok (.enter g args) w:=he
  by_cases hlt : k < s.size
  · have cS : Calls Tryz.prog g (#[.int .u8 (s[k]).toNat] ++ lb) w _:=hk w s[k] hw
    rw [atP_lt hlt]
    clear hk hw he
    go_enter Tryz.func131,Tryz.ntmps131
    go_wp2_with (go_at_fn g; refine cS.mono ?_; rintro e w' ⟨rfl,q,rfl⟩)
    go_ret
    exact ⟨rfl,q,rfl⟩
  · rw [atP_ge hlt]
    clear hk hw he
    go_enter Tryz.func131,Tryz.ntmps131
    go_wp2
    go_ret
    exact ⟨rfl,0,rfl⟩
set_option maxRecDepth 20000 in
set_option maxHeartbeats 1000000 in
theorem end_any (g : Nat) (lb : Array Value) (p : UInt8 → Bool) (B : Nat) (w0 w : World) (he : Enters Tryz.prog g) (hk : KlsAt g lb p B w0) (hw : Same B w0 w) (s : ByteArray) (hs : s.size ≤ maxLen) (k : Nat) (hkm : k ≤ s.size) :
    Calls Tryz.prog 89 #[.func (.func g) #[] lb,.string s,.int .i64 k] w fun e w' => e = .returned (.int .i64 (endOf p s.data.toList k)) ∧ ∃ q,w' = w.drewN q:=by
  have hs':=hs
  unfold maxLen at hs'
  go_enter Tryz.func89,Tryz.ntmps89
  go_wp2
  go_loopw [2] (fun i wr => ∃ j q : Nat,j ≤ s.size ∧ i = .int .i64 j ∧ wr = w.drewN q ∧ Hid (endOf p s.data.toList j = endOf p s.data.toList k)) (fun i _ => s.size - (intOf i).toNat)
  case atStart => exact ⟨k,0,hkm,rfl,rfl,rfl⟩
  case round =>
   obtain ⟨j,q,hj,rfl,rfl,HE⟩:=hrel
   have cA:=at_any g lb p B w0 (w.drewN q) he hk (hw.drewN q) s hs j hj
   cases hat : atP p s.data.toList j <;> rw [hat] at cA
   · have HA : Hid (atP p s.data.toList j = false):=hat
     clear hat
     go_wp2_with (go_at_call 131; refine cA.mono ?_; rintro e w' ⟨rfl,q2,rfl⟩)
     go_ret
     exact ⟨by rw [← HE.out,endOf_no HA.out]; rfl,_,rfl⟩
   · have HA : Hid (j < s.data.toList.length ∧ endOf p s.data.toList (j + 1) = endOf p s.data.toList j):=endOf_yes hat
     have hjl : j < s.size:=by simpa using HA.out.1
     clear hat
     go_wp2_with (go_at_call 131; refine cA.mono ?_; rintro e w' ⟨rfl,q2,rfl⟩)
     go_roundw
     case rel => exact ⟨j + 1,_,hjl,by go_num,rfl,HA.out.2.trans HE.out⟩
     case measure => simp [intOf]; omega
set_option maxRecDepth 20000 in
theorem put9 (b : Nat) (w : World) (v0 v1 v2 v3 v4 v5 v6 v7 v8 : Value) (W : World) {u0 u1 u2 u3 u4 u5 u6 u7 u8 : Value}
    (c0 : w.cell? ⟨b,0,none⟩ = some u0) (c1 : w.cell? ⟨b,1,none⟩ = some u1) (c2 : w.cell? ⟨b,2,none⟩ = some u2) (c3 : w.cell? ⟨b,3,none⟩ = some u3) (c4 : w.cell? ⟨b,4,none⟩ = some u4) (c5 : w.cell? ⟨b,5,none⟩ = some u5) (c6 : w.cell? ⟨b,6,none⟩ = some u6) (c7 : w.cell? ⟨b,7,none⟩ = some u7) (c8 : w.cell? ⟨b,8,none⟩ = some u8)
    (hW : (((((((((w.setCell ⟨b,0,none⟩ v0).setCell ⟨b,1,none⟩ v1).setCell ⟨b,2,none⟩ v2).setCell ⟨b,3,none⟩ v3).setCell ⟨b,4,none⟩ v4).setCell ⟨b,5,none⟩ v5).setCell ⟨b,6,none⟩ v6).setCell ⟨b,7,none⟩ v7).setCell ⟨b,8,none⟩ v8) = W) :
    Same (b + 1) w W ∧ (∀ B a,B ≤ b → Below B a w → Below B a W) ∧
    (W.cell? ⟨b,0,none⟩ = some v0 ∧ W.cell? ⟨b,1,none⟩ = some v1 ∧ W.cell? ⟨b,2,none⟩ = some v2 ∧ W.cell? ⟨b,3,none⟩ = some v3 ∧ W.cell? ⟨b,4,none⟩ = some v4 ∧ W.cell? ⟨b,5,none⟩ = some v5 ∧ W.cell? ⟨b,6,none⟩ = some v6 ∧ W.cell? ⟨b,7,none⟩ = some v7 ∧ W.cell? ⟨b,8,none⟩ = some v8):=by
  subst hW
  refine ⟨?_,?_,?_⟩
  · have key : ∀ (a : World) (j : Nat) (v : Value),Same (b + 1) w a → Same (b + 1) w (a.setCell ⟨b,j,none⟩ v):=fun a j v h => h.setCell (p:=⟨b,j,none⟩) (Nat.lt_succ_self b) v
    exact key _ _ _ (key _ _ _ (key _ _ _ (key _ _ _ (key _ _ _ (key _ _ _ (key _ _ _ (key _ _ _ (key _ _ _ (Same.refl _ w)))))))))
  · intro B a hB hw
    have key : ∀ (x : World) (j : Nat) (v : Value),Below B a x → Below B a (x.setCell ⟨b,j,none⟩ v):=fun x j v h => h.setCell (p:=⟨b,j,none⟩) hB v
    exact key _ _ _ (key _ _ _ (key _ _ _ (key _ _ _ (key _ _ _ (key _ _ _ (key _ _ _ (key _ _ _ (key _ _ _ hw))))))))
  · refine ⟨?_,?_,?_,?_,?_,?_,?_,?_,?_⟩ <;> simp [go_sem,c0,c1,c2,c3,c4,c5,c6,c7,c8]
set_option maxRecDepth 20000 in
set_option maxHeartbeats 1000000 in
theorem newReader_any (s : ByteArray) (w : World) : Calls Tryz.prog 55 #[.string s] w fun e w' => ∃ a : AB,e = .returned (a.rd s) ∧ Alpha a w.heap.size w' ∧ Below w.heap.size w w':=by
 go_enter Tryz.func55,Tryz.ntmps55
 go_wp2_with fail
 refine (newAlphabet_any _).mono ?_
 rintro e w1 ⟨a,rfl,hA,b1⟩
 have cc : ∀ j,w1.cell? ⟨w.heap.size,j,none⟩ = (w.alloc (Obj.cells #[Value.nilFunc,Value.nilFunc,Value.nilFunc,Value.nilFunc,Value.nilFunc,Value.nilFunc,Value.nilFunc,Value.nilFunc,Value.string { data:=#[] }] 79)).cell? ⟨w.heap.size,j,none⟩:=fun j => b1.cell (p:=⟨w.heap.size,j,none⟩) (by simp)
 have cf : ∀ j,w1.frozen? ⟨w.heap.size,j,none⟩ = false:=fun j => (b1.frozen (p:=⟨w.heap.size,j,none⟩) (by simp)).trans (by simp)
 have c0:=(cc 0).trans (by simp : _ = some Value.nilFunc)
 have c1:=(cc 1).trans (by simp : _ = some Value.nilFunc)
 have c2:=(cc 2).trans (by simp : _ = some Value.nilFunc)
 have c3:=(cc 3).trans (by simp : _ = some Value.nilFunc)
 have c4:=(cc 4).trans (by simp : _ = some Value.nilFunc)
 have c5:=(cc 5).trans (by simp : _ = some Value.nilFunc)
 have c6:=(cc 6).trans (by simp : _ = some Value.nilFunc)
 have c7:=(cc 7).trans (by simp : _ = some Value.nilFunc)
 have c8:=(cc 8).trans (by simp : _ = some (Value.string { data:=#[] }))
 clear cc
 go_wp2
 generalize hWf : (((((((((w1.setCell ⟨w.heap.size,0,none⟩ (.func (.func a.g0) #[] a.l0)).setCell ⟨w.heap.size,1,none⟩ (.func (.func a.g1) #[] a.l1)).setCell ⟨w.heap.size,2,none⟩ (.func (.func a.g2) #[] a.l2)).setCell ⟨w.heap.size,3,none⟩ (.func (.func a.g3) #[] a.l3)).setCell ⟨w.heap.size,4,none⟩ (.func (.func a.g4) #[] a.l4)).setCell
     ⟨w.heap.size,5,none⟩ (.func (.func a.g5) #[] a.l5)).setCell ⟨w.heap.size,6,none⟩ (.func (.func a.g6) #[] a.l6)).setCell ⟨w.heap.size,7,none⟩ (.func (.func a.g7) #[] a.l7)).setCell ⟨w.heap.size,8,none⟩ (.string s)) = Wf
 obtain ⟨hs,hw,hc⟩:=put9 w.heap.size w1 _ _ _ _ _ _ _ _ _ Wf c0 c1 c2 c3 c4 c5 c6 c7 c8 hWf
 clear hWf
 obtain ⟨d0,d1,d2,d3,d4,d5,d6,d7,d8⟩:=hc
 have hw2 : Below w.heap.size w Wf:=hw _ _ (Nat.le_refl _) (((Below.refl _ _).alloc (Nat.le_refl _) _).trans (b1.mono (by simp)))
 have hA2 : Alpha a (w.heap.size + 1) w1:=by simpa using hA
 refine bodyPost_ret (v:=a.rd s) (by simp [results,Tryz.results55,go_sem,d0,d1,d2,d3,d4,d5,d6,d7,d8]) rfl ⟨a,rfl,(hA2.later hs).wide (Nat.le_succ _),hw2⟩
end Go.Proofs.YtffnaknidofobaaGreatDoor
