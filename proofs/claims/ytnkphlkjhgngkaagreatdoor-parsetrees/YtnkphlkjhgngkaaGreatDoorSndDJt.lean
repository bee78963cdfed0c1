/- Tests of leaves. -/
import Derived.Test.YtnkphlkjhgngkaaGreatDoorSndMJt
namespace Go.Proofs.YtnkphlkjhgngkaaGreatDoor
open Go.RowKit
attribute [local go_sem ↓] Go.wp_at_zero Go.wp_at_succ
set_option maxRecDepth 20000 in
set_option maxHeartbeats 4000000 in
theorem leaf_step {n : Nat} : Tst 165 (n + 1) (leafB):=by
 intro t sl S w hG hS hF hk
 obtain ⟨k,s,m,ks⟩:=t
 obtain ⟨ao,c,rfl⟩:=(Lst.of hk).slice
 have hF0:=hF
 obtain ⟨hF1,hF2,hF3⟩:=hF0
 change ∀ t ∈ ks,Fit _ t at hF3
 change ks.length ≤ 20000 at hF1
 change s.length ≤ maxLen at hF2
 have hL:=Lst.of hk
 have hkn : ks.length ≤ 20000:=hF1
 by_cases hl : 0 < ks.length
 · have HX : Hid (leafB (.mk k s m ks) = false):=if_pos hl
   have hX0:=Hx.start (w:=w) (c0:=.int .i64 k) (c1:=.string ⟨s.toArray⟩) (c2:=.int .i64 m) (c3:=.slice ao ks.length c)
   change Calls Tryz.prog 165 #[.agg #[.int .i64 k,.string ⟨s.toArray⟩,.int .i64 m,.slice ao ks.length c]] w _
   go_enter Tryz.func165,Tryz.ntmps165
   go_wp2
   go_ret
   exact ⟨congrArg (fun b => Ending.returned (Value.bool b)) HX.out.symm,hX0.out⟩
 by_cases hk40 : k = 40
 · subst hk40
   have HR : Hid (leafB (.mk 40 s m ks) = (numberedT (.mk 40 s m ks) && decide (0 ≤ m))):=(if_neg hl).trans rfl
   have hX0:=Hx.start (w:=w) (c0:=.int .i64 40) (c1:=.string ⟨s.toArray⟩) (c2:=.int .i64 m) (c3:=.slice ao ks.length c)
   cases hp0 : decide (0 ≤ m) with
   | true =>
    have qm : 0 ≤ m:=of_decide_eq_true hp0
    have c1:=numberedW hX0.out (.mk 40 s m ks) ao ks.length c
    change Calls Tryz.prog 165 #[.agg #[.int .i64 40,.string ⟨s.toArray⟩,.int .i64 m,.slice ao ks.length c]] w _
    go_enter Tryz.func165,Tryz.ntmps165
    go_wp2_with fail
    refine c1.mono ?_
    rintro e w1 ⟨rfl,hb1⟩
    have hX1:=hX0.next hb1
    clear c1
    obtain ⟨x0,x1,x2,x3⟩:=hX1.cells
    cases h1 : numberedT (.mk 40 s m ks) with
    | false =>
     have HX : Hid (leafB (.mk 40 s m ks) = false):=HR.out.trans (by rw [h1]; try rfl)
     clear h1
     go_wp2
     go_ret
     exact ⟨congrArg (fun b => Ending.returned (Value.bool b)) HX.out.symm,hX1.out⟩
    | true =>
     have HR1 : Hid (leafB (.mk 40 s m ks) = decide (0 ≤ m)):=HR.out.trans (by rw [h1]; try rfl)
     clear h1
     have HX : Hid (leafB (.mk 40 s m ks) = true):=HR1.out.trans (by rw [hp0]; try rfl)
     go_wp2
     go_ret
     exact ⟨congrArg (fun b => Ending.returned (Value.bool b)) HX.out.symm,hX1.out⟩
   | false =>
    have qm : ¬ (0 ≤ m):=of_decide_eq_false hp0
    have c1:=numberedW hX0.out (.mk 40 s m ks) ao ks.length c
    change Calls Tryz.prog 165 #[.agg #[.int .i64 40,.string ⟨s.toArray⟩,.int .i64 m,.slice ao ks.length c]] w _
    go_enter Tryz.func165,Tryz.ntmps165
    go_wp2_with fail
    refine c1.mono ?_
    rintro e w1 ⟨rfl,hb1⟩
    have hX1:=hX0.next hb1
    clear c1
    obtain ⟨x0,x1,x2,x3⟩:=hX1.cells
    cases h1 : numberedT (.mk 40 s m ks) with
    | false =>
     have HX : Hid (leafB (.mk 40 s m ks) = false):=HR.out.trans (by rw [h1]; try rfl)
     clear h1
     go_wp2
     go_ret
     exact ⟨congrArg (fun b => Ending.returned (Value.bool b)) HX.out.symm,hX1.out⟩
    | true =>
     have HR1 : Hid (leafB (.mk 40 s m ks) = decide (0 ≤ m)):=HR.out.trans (by rw [h1]; try rfl)
     clear h1
     have HX : Hid (leafB (.mk 40 s m ks) = false):=HR1.out.trans (by rw [hp0]; try rfl)
     go_wp2
     go_ret
     exact ⟨congrArg (fun b => Ending.returned (Value.bool b)) HX.out.symm,hX1.out⟩
 by_cases hk41 : k = 41
 · subst hk41
   have HR : Hid (leafB (.mk 41 s m ks) = ((m == 0) && decide (s.length ≤ 1024))):=(if_neg hl).trans rfl
   have hX0:=Hx.start (w:=w) (c0:=.int .i64 41) (c1:=.string ⟨s.toArray⟩) (c2:=.int .i64 m) (c3:=.slice ao ks.length c)
   cases hp0 : (m == 0) with
   | true =>
    cases hp1 : decide (s.length ≤ 1024) with
    | true =>
     have qm : (s.length : Int) ≤ 1024:=by have:=of_decide_eq_true hp1; omega
     have HRp : Hid (leafB (.mk 41 s m ks) = decide (s.length ≤ 1024)):=HR.out.trans (by rw [hp0]; try rfl)
     have HX : Hid (leafB (.mk 41 s m ks) = true):=HRp.out.trans (by rw [hp1]; try rfl)
     change Calls Tryz.prog 165 #[.agg #[.int .i64 41,.string ⟨s.toArray⟩,.int .i64 m,.slice ao ks.length c]] w _
     go_enter Tryz.func165,Tryz.ntmps165
     go_wp2
     go_ret
     exact ⟨congrArg (fun b => Ending.returned (Value.bool b)) HX.out.symm,hX0.out⟩
    | false =>
     have qm : ¬ ((s.length : Int) ≤ 1024):=by have:=of_decide_eq_false hp1; omega
     have HRp : Hid (leafB (.mk 41 s m ks) = decide (s.length ≤ 1024)):=HR.out.trans (by rw [hp0]; try rfl)
     have HX : Hid (leafB (.mk 41 s m ks) = false):=HRp.out.trans (by rw [hp1]; try rfl)
     change Calls Tryz.prog 165 #[.agg #[.int .i64 41,.string ⟨s.toArray⟩,.int .i64 m,.slice ao ks.length c]] w _
     go_enter Tryz.func165,Tryz.ntmps165
     go_wp2
     go_ret
     exact ⟨congrArg (fun b => Ending.returned (Value.bool b)) HX.out.symm,hX0.out⟩
   | false =>
    cases hp1 : decide (s.length ≤ 1024) with
    | true =>
     have qm : (s.length : Int) ≤ 1024:=by have:=of_decide_eq_true hp1; omega
     have HX : Hid (leafB (.mk 41 s m ks) = false):=HR.out.trans (by rw [hp0]; try rfl)
     change Calls Tryz.prog 165 #[.agg #[.int .i64 41,.string ⟨s.toArray⟩,.int .i64 m,.slice ao ks.length c]] w _
     go_enter Tryz.func165,Tryz.ntmps165
     go_wp2
     go_ret
     exact ⟨congrArg (fun b => Ending.returned (Value.bool b)) HX.out.symm,hX0.out⟩
    | false =>
     have qm : ¬ ((s.length : Int) ≤ 1024):=by have:=of_decide_eq_false hp1; omega
     have HX : Hid (leafB (.mk 41 s m ks) = false):=HR.out.trans (by rw [hp0]; try rfl)
     change Calls Tryz.prog 165 #[.agg #[.int .i64 41,.string ⟨s.toArray⟩,.int .i64 m,.slice ao ks.length c]] w _
     go_enter Tryz.func165,Tryz.ntmps165
     go_wp2
     go_ret
     exact ⟨congrArg (fun b => Ending.returned (Value.bool b)) HX.out.symm,hX0.out⟩
 by_cases hk42 : k = 42
 · subst hk42
   have HR : Hid (leafB (.mk 42 s m ks) = (numberedT (.mk 42 s m ks) && (m == 0 || m == 1))):=(if_neg hl).trans rfl
   have hX0:=Hx.start (w:=w) (c0:=.int .i64 42) (c1:=.string ⟨s.toArray⟩) (c2:=.int .i64 m) (c3:=.slice ao ks.length c)
   cases hq0 : (m == 0) with
   | true =>
    cases hq1 : (m == 1) with
    | true =>
     have c1:=numberedW hX0.out (.mk 42 s m ks) ao ks.length c
     change Calls Tryz.prog 165 #[.agg #[.int .i64 42,.string ⟨s.toArray⟩,.int .i64 m,.slice ao ks.length c]] w _
     go_enter Tryz.func165,Tryz.ntmps165
     go_wp2_with fail
     refine c1.mono ?_
     rintro e w1 ⟨rfl,hb1⟩
     have hX1:=hX0.next hb1
     clear c1
     obtain ⟨x0,x1,x2,x3⟩:=hX1.cells
     cases h1 : numberedT (.mk 42 s m ks) with
     | false =>
      have HX : Hid (leafB (.mk 42 s m ks) = false):=HR.out.trans (by rw [h1]; try rfl)
      clear h1
      go_wp2
      go_ret
      exact ⟨congrArg (fun b => Ending.returned (Value.bool b)) HX.out.symm,hX1.out⟩
     | true =>
      have HR1 : Hid (leafB (.mk 42 s m ks) = (m == 0 || m == 1)):=HR.out.trans (by rw [h1]; try rfl)
      clear h1
      have HX : Hid (leafB (.mk 42 s m ks) = true):=HR1.out.trans (by rw [hq0]; try rfl)
      go_wp2
      go_ret
      exact ⟨congrArg (fun b => Ending.returned (Value.bool b)) HX.out.symm,hX1.out⟩
    | false =>
     have c1:=numberedW hX0.out (.mk 42 s m ks) ao ks.length c
     change Calls Tryz.prog 165 #[.agg #[.int .i64 42,.string ⟨s.toArray⟩,.int .i64 m,.slice ao ks.length c]] w _
     go_enter Tryz.func165,Tryz.ntmps165
     go_wp2_with fail
     refine c1.mono ?_
     rintro e w1 ⟨rfl,hb1⟩
     have hX1:=hX0.next hb1
     clear c1
     obtain ⟨x0,x1,x2,x3⟩:=hX1.cells
     cases h1 : numberedT (.mk 42 s m ks) with
     | false =>
      have HX : Hid (leafB (.mk 42 s m ks) = false):=HR.out.trans (by rw [h1]; try rfl)
      clear h1
      go_wp2
      go_ret
      exact ⟨congrArg (fun b => Ending.returned (Value.bool b)) HX.out.symm,hX1.out⟩
     | true =>
      have HR1 : Hid (leafB (.mk 42 s m ks) = (m == 0 || m == 1)):=HR.out.trans (by rw [h1]; try rfl)
      clear h1
      have HX : Hid (leafB (.mk 42 s m ks) = true):=HR1.out.trans (by rw [hq0]; try rfl)
      go_wp2
      go_ret
      exact ⟨congrArg (fun b => Ending.returned (Value.bool b)) HX.out.symm,hX1.out⟩
   | false =>
    cases hq1 : (m == 1) with
    | true =>
     have c1:=numberedW hX0.out (.mk 42 s m ks) ao ks.length c
     change Calls Tryz.prog 165 #[.agg #[.int .i64 42,.string ⟨s.toArray⟩,.int .i64 m,.slice ao ks.length c]] w _
     go_enter Tryz.func165,Tryz.ntmps165
     go_wp2_with fail
     refine c1.mono ?_
     rintro e w1 ⟨rfl,hb1⟩
     have hX1:=hX0.next hb1
     clear c1
     obtain ⟨x0,x1,x2,x3⟩:=hX1.cells
     cases h1 : numberedT (.mk 42 s m ks) with
     | false =>
      have HX : Hid (leafB (.mk 42 s m ks) = false):=HR.out.trans (by rw [h1]; try rfl)
      clear h1
      go_wp2
      go_ret
      exact ⟨congrArg (fun b => Ending.returned (Value.bool b)) HX.out.symm,hX1.out⟩
     | true =>
      have HR1 : Hid (leafB (.mk 42 s m ks) = (m == 0 || m == 1)):=HR.out.trans (by rw [h1]; try rfl)
      clear h1
      have HX : Hid (leafB (.mk 42 s m ks) = true):=HR1.out.trans (by rw [hq0,hq1]; try rfl)
      go_wp2
      go_ret
      exact ⟨congrArg (fun b => Ending.returned (Value.bool b)) HX.out.symm,hX1.out⟩
    | false =>
     have c1:=numberedW hX0.out (.mk 42 s m ks) ao ks.length c
     change Calls Tryz.prog 165 #[.agg #[.int .i64 42,.string ⟨s.toArray⟩,.int .i64 m,.slice ao ks.length c]] w _
     go_enter Tryz.func165,Tryz.ntmps165
     go_wp2_with fail
     refine c1.mono ?_
     rintro e w1 ⟨rfl,hb1⟩
     have hX1:=hX0.next hb1
     clear c1
     obtain ⟨x0,x1,x2,x3⟩:=hX1.cells
     cases h1 : numberedT (.mk 42 s m ks) with
     | false =>
      have HX : Hid (leafB (.mk 42 s m ks) = false):=HR.out.trans (by rw [h1]; try rfl)
      clear h1
      go_wp2
      go_ret
      exact ⟨congrArg (fun b => Ending.returned (Value.bool b)) HX.out.symm,hX1.out⟩
     | true =>
      have HR1 : Hid (leafB (.mk 42 s m ks) = (m == 0 || m == 1)):=HR.out.trans (by rw [h1]; try rfl)
      clear h1
      have HX : Hid (leafB (.mk 42 s m ks) = false):=HR1.out.trans (by rw [hq0,hq1]; try rfl)
      go_wp2
      go_ret
      exact ⟨congrArg (fun b => Ending.returned (Value.bool b)) HX.out.symm,hX1.out⟩
 by_cases hk44 : k = 44
 · subst hk44
   have HR : Hid (leafB (.mk 44 s m ks) = namedT (.mk 44 s m ks)):=(if_neg hl).trans rfl
   have hX0:=Hx.start (w:=w) (c0:=.int .i64 44) (c1:=.string ⟨s.toArray⟩) (c2:=.int .i64 m) (c3:=.slice ao ks.length c)
   have c1:=namedS_any (.mk 44 s m ks) ao ks.length c _ (hG.later hX0.out) hF2
   change Calls Tryz.prog 165 #[.agg #[.int .i64 44,.string ⟨s.toArray⟩,.int .i64 m,.slice ao ks.length c]] w _
   go_enter Tryz.func165,Tryz.ntmps165
   go_wp2_with fail
   refine c1.mono ?_
   rintro e w1 ⟨rfl,hb1⟩
   have hX1:=hX0.next hb1
   clear c1
   obtain ⟨x0,x1,x2,x3⟩:=hX1.cells
   have HX:=HR
   go_wp2
   go_ret
   exact ⟨congrArg (fun b => Ending.returned (Value.bool b)) HX.out.symm,hX1.out⟩
 have HR : Hid (leafB (.mk k s m ks) = bareT (.mk k s m ks)):=by simp [Hid,leafB,Tr.kids,Tr.kind,hl,hk40,hk41,hk42,hk44]
 have e40 : (k == 40) = false:=by simpa using hk40
 clear hk40
 have e41 : (k == 41) = false:=by simpa using hk41
 clear hk41
 have e42 : (k == 42) = false:=by simpa using hk42
 clear hk42
 have e44 : (k == 44) = false:=by simpa using hk44
 clear hk44
 have hX0:=Hx.start (w:=w) (c0:=.int .i64 k) (c1:=.string ⟨s.toArray⟩) (c2:=.int .i64 m) (c3:=.slice ao ks.length c)
 have c1:=bareW hX0.out (.mk k s m ks) ao ks.length c
 change Calls Tryz.prog 165 #[.agg #[.int .i64 k,.string ⟨s.toArray⟩,.int .i64 m,.slice ao ks.length c]] w _
 go_enter Tryz.func165,Tryz.ntmps165
 go_wp2_with fail
 refine c1.mono ?_
 rintro e w1 ⟨rfl,hb1⟩
 have hX1:=hX0.next hb1
 clear c1
 obtain ⟨x0,x1,x2,x3⟩:=hX1.cells
 have HX:=HR
 go_wp2
 go_ret
 exact ⟨congrArg (fun b => Ending.returned (Value.bool b)) HX.out.symm,hX1.out⟩
end Go.Proofs.YtnkphlkjhgngkaaGreatDoor

namespace Go.Proofs.YtnkphlkjhgngkaaGreatDoor
open Go.RowKit
attribute [local go_sem ↓] Go.wp_at_zero Go.wp_at_succ
theorem Lst.kid0 {w : World} {S : Nat → Prop} {ks : List Tr} {ao : Option Addr} {n c : Nat} {a : Tr} (hL : Lst w S ks (.slice ao n c)) (ha : ks[0]? = some a) (hS : ∀ b,S b → b < w.heap.size) :
    ∃ g o a0 n0 q0,ao = some ⟨g,o,none⟩ ∧ w.cell? ⟨g,o,none⟩ = some (.int .i64 a.kind) ∧ w.cell? ⟨g,o + 1,none⟩ = some (.string ⟨a.text.toArray⟩) ∧ w.cell? ⟨g,o + 2,none⟩ = some (.int .i64 a.num) ∧ w.cell? ⟨g,o + 3,none⟩ = some (.slice a0 n0 q0) ∧ g < w.heap.size ∧ KT w S a (.slice a0 n0 q0):=by
  obtain ⟨sls,h1,h2⟩:=hL
  rcases h1 with ⟨h0,ao',cap,e⟩ | ⟨g,o,cap,e,_,hg,hc⟩
  · rw [List.eq_nil_of_length_eq_zero h0] at ha; cases ha
  · injection e with e1 e2 e3
    have hl : 0 < ks.length:=by
     rcases Nat.lt_or_ge 0 ks.length with h | h
     · exact h
     · rw [List.getElem?_eq_none h] at ha; cases ha
    obtain ⟨sl,hs⟩ : ∃ sl,sls[0]? = some sl:=⟨_,List.getElem?_eq_getElem (by rw [h2.length]; exact hl)⟩
    have hk:=h2.get ha hs
    obtain ⟨a0,n0,q0,rfl⟩:=hk.slice
    obtain ⟨q0',q1,q2,q3⟩:=cellsOf_get ha hs
    exact ⟨g,o,a0,n0,q0,e1,hc _ _ q0',hc _ _ q1,hc _ _ q2,hc _ _ q3,hS g hg,hk⟩
theorem Lst.kid1 {w : World} {S : Nat → Prop} {ks : List Tr} {ao : Option Addr} {n c : Nat} (hL : Lst w S ks (.slice ao n c)) (hl : ks.length = 1) (hS : ∀ b,S b → b < w.heap.size) :
    ∃ a g o a0 n0 q0,ks = [a] ∧ ao = some ⟨g,o,none⟩ ∧ w.cell? ⟨g,o + 0,none⟩ = some (.int .i64 a.kind) ∧ w.cell? ⟨g,o + 1,none⟩ = some (.string ⟨a.text.toArray⟩) ∧ w.cell? ⟨g,o + 2,none⟩ = some (.int .i64 a.num) ∧ w.cell? ⟨g,o + 3,none⟩ = some (.slice a0 n0 q0) ∧ g < w.heap.size ∧ KT w S a (.slice a0 n0 q0):=by
  match ks,hl with
  | [a],_ =>
   obtain ⟨g,o,a0,n0,q0,h⟩:=hL.kid0 (a:=a) rfl hS
   exact ⟨a,g,o,a0,n0,q0,rfl,h⟩
set_option maxRecDepth 20000 in
set_option maxHeartbeats 4000000 in
theorem asg_any {g n : Nat} {p : Tr → Bool} {r : Q → Tr → Bool} (he : Enters Tryz.prog g) (T1 : Tst g n p) (hExp : Tst 141 n (r .exp)) (k : Int) (s : List UInt8) (m : Int) (ks : List Tr) (ao : Option Addr) (c : Nat) (S : Nat → Prop) (w : World) (hG : Gl w) (hS : ∀ b,S b → b < w.heap.size) (hF : Fit (n + 1) (.mk k s m ks)) (hk : KT w S (.mk k s m ks) (.slice ao ks.length c)) :
    Calls Tryz.prog 142 #[.agg #[.int .i64 k,.string ⟨s.toArray⟩,.int .i64 m,.slice ao ks.length c],.func (.func g) #[] #[]] w fun e w' => e = .returned (.bool (asgB r p (.mk k s m ks))) ∧ Below w.heap.size w w':=by
  obtain ⟨hF1,hF2,hF3⟩:=hF
  change ∀ t ∈ ks,Fit _ t at hF3
  change ks.length ≤ 20000 at hF1
  have hL:=Lst.of hk
  have HR : Hid (asgB r p (.mk k s m ks) = (numberedT (.mk k s m ks) && (decide (0 < m) && (decide (m < ks.length) && ((ks.take m.toNat).all p && ks.all (r .exp)))))):=rfl
  have hX0:=Hx.start (w:=w) (c0:=.int .i64 k) (c1:=.string ⟨s.toArray⟩) (c2:=.int .i64 m) (c3:=.slice ao ks.length c)
  have c1:=numberedW hX0.out (.mk k s m ks) ao ks.length c
  by_cases hm : 0 < m
  · by_cases hm2 : m < ks.length
    · obtain ⟨j,rfl⟩ : ∃ j : Nat,m = j:=⟨m.toNat,by omega⟩
      have hj : j ≤ ks.length:=by omega
      have hj1 : 0 < j:=by omega
      have hj2 : j < ks.length:=by omega
      have HR' : Hid (asgB r p (.mk k s j ks) = (numberedT (.mk k s j ks) && ((ks.take j).all p && ks.all (r .exp)))):=HR.out.trans (by simp [hj1,hj2])
      have hl1 : (ks.take j).length = j:=by simp [hj]
      have hF4 : ∀ t ∈ ks.take j,Fit n t:=fun t h => hF3 t (List.mem_of_mem_take h)
      have hL':=hL
      obtain ⟨sls,hr,hkl⟩:=hL'
      clear HR hm hm2
      rcases hr with ⟨e0,ao,cap,e⟩ | ⟨gb,o,cap,e,hcp,hg,hc⟩
      · omega
      · injection e with e1 e2 e3
        subst e1 e3
        obtain ⟨L1,_⟩:=Lst.parts (w:=w) (ts:=ks.take j) (us:=ks.drop j) hg (by rwa [List.take_append_drop]) (by rwa [List.take_append_drop]) c (c - j) (by omega) (by simp; omega)
        clear hc hkl e2
        go_enter Tryz.func142,Tryz.ntmps142
        go_wp2_with fail
        refine c1.mono ?_
        rintro e w1 ⟨rfl,hb1⟩
        have hX1:=hX0.next hb1
        clear c1
        obtain ⟨x0,x1,x2,x3⟩:=hX1.cells
        cases h1 : numberedT (.mk k s j ks) with
        | false =>
         have HX : Hid (asgB r p (.mk k s j ks) = false):=HR'.out.trans (by rw [h1]; rfl)
         clear h1
         go_wp2
         go_ret
         exact ⟨congrArg (fun b => Ending.returned (Value.bool b)) HX.out.symm,hX1.out⟩
        | true =>
         have HR1 : Hid (asgB r p (.mk k s j ks) = ((ks.take j).all p && ks.all (r .exp))):=HR'.out.trans (by rw [h1]; rfl)
         clear h1
         have c2:=everyW he T1 hG hS hF4 (by omega) L1 hX1.out
         rw [hl1] at c2
         go_wp2_with fail
         refine c2.mono ?_
         rintro e w2 ⟨rfl,hb2⟩
         have hX2:=hX1.next hb2
         clear c2 x0 x1 x2 x3
         obtain ⟨x0,x1,x2,x3⟩:=hX2.cells
         cases h2 : (ks.take j).all p with
         | false =>
          have HX : Hid (asgB r p (.mk k s j ks) = false):=HR1.out.trans (by rw [h2]; rfl)
          clear h2
          go_wp2
          go_ret
          exact ⟨congrArg (fun b => Ending.returned (Value.bool b)) HX.out.symm,hX2.out⟩
         | true =>
          have HX : Hid (asgB r p (.mk k s j ks) = ks.all (r .exp)):=HR1.out.trans (by rw [h2]; rfl)
          clear h2
          have c3:=everyW ent_exp hExp hG hS hF3 hF1 hL hX2.out
          go_wp2_with fail
          refine c3.mono ?_
          rintro e w3 ⟨rfl,hb3⟩
          have hX3:=hX2.next hb3
          clear c3
          go_wp2
          go_ret
          exact ⟨congrArg (fun b => Ending.returned (Value.bool b)) HX.out.symm,hX3.out⟩
    · have HX : Hid (asgB r p (.mk k s m ks) = false):=HR.out.trans (by simp [hm2])
      clear HR
      go_enter Tryz.func142,Tryz.ntmps142
      go_wp2_with fail
      refine c1.mono ?_
      rintro e w1 ⟨rfl,hb1⟩
      have hX1:=hX0.next hb1
      clear c1
      obtain ⟨x0,x1,x2,x3⟩:=hX1.cells
      cases h1 : numberedT (.mk k s m ks) with
      | false =>
       clear h1
       go_wp2
       go_ret
       exact ⟨congrArg (fun b => Ending.returned (Value.bool b)) HX.out.symm,hX1.out⟩
      | true =>
       clear h1
       go_wp2
       go_ret
       exact ⟨congrArg (fun b => Ending.returned (Value.bool b)) HX.out.symm,hX1.out⟩
  · have HX : Hid (asgB r p (.mk k s m ks) = false):=HR.out.trans (by simp [hm])
    clear HR
    go_enter Tryz.func142,Tryz.ntmps142
    go_wp2_with fail
    refine c1.mono ?_
    rintro e w1 ⟨rfl,hb1⟩
    have hX1:=hX0.next hb1
    clear c1
    obtain ⟨x0,x1,x2,x3⟩:=hX1.cells
    cases h1 : numberedT (.mk k s m ks) with
    | false =>
     clear h1
     go_wp2
     go_ret
     exact ⟨congrArg (fun b => Ending.returned (Value.bool b)) HX.out.symm,hX1.out⟩
    | true =>
     clear h1
     go_wp2
     go_ret
     exact ⟨congrArg (fun b => Ending.returned (Value.bool b)) HX.out.symm,hX1.out⟩
theorem asgW {g n : Nat} {p : Tr → Bool} {r : Q → Tr → Bool} {k : Int} {s : List UInt8} {m : Int} {ks : List Tr} {ao : Option Addr} {c : Nat} {S : Nat → Prop} {w W : World} (he : Enters Tryz.prog g) (T1 : Tst g n p) (hExp : Tst 141 n (r .exp)) (hG : Gl w) (hS : ∀ b,S b → b < w.heap.size) (hF : Fit (n + 1) (.mk k s m ks)) (hk : KT w S (.mk k s m ks) (.slice ao ks.length c)) (hB : Below w.heap.size w W) :
    Calls Tryz.prog 142 #[.agg #[.int .i64 k,.string ⟨s.toArray⟩,.int .i64 m,.slice ao ks.length c],.func (.func g) #[] #[]] W fun e w' => e = .returned (.bool (asgB r p (.mk k s m ks))) ∧ Below W.heap.size W w' :=
  asg_any he T1 hExp k s m ks ao c S W (hG.later hB) (fun b hb => Nat.lt_of_lt_of_le (hS b hb) hB.size) hF (hk.fr (fun b hb => hB.block b (hS b hb)) (fun _ h => h))
end Go.Proofs.YtnkphlkjhgngkaaGreatDoor

namespace Go.Proofs.YtnkphlkjhgngkaaGreatDoor
open Go.RowKit
attribute [local go_sem ↓] Go.wp_at_zero Go.wp_at_succ
set_option maxRecDepth 20000 in
set_option maxHeartbeats 4000000 in
theorem stm_step {n : Nat} {r : Q → Tr → Bool} (hTyp : Tst 115 n (r .typ)) (hExp : Tst 141 n (r .exp)) (hBlk : Tst 83 n (r .blk)) (hBlkS : Tst 83 (n + 1) (blkB r)) (hIfS : Tst 140 (n + 1) (ifB r)) : Tst 119 (n + 1) (stmB r):=by
 intro t sl S w hG hS hF hk
 obtain ⟨k,s,m,ks⟩:=t
 obtain ⟨ao,c,rfl⟩:=(Lst.of hk).slice
 have hF0:=hF
 obtain ⟨hF1,hF2,hF3⟩:=hF0
 change ∀ t ∈ ks,Fit _ t at hF3
 change ks.length ≤ 20000 at hF1
 change s.length ≤ maxLen at hF2
 have hL:=Lst.of hk
 have hkn : ks.length ≤ 20000:=hF1
 by_cases hk20 : k = 20
 · subst hk20
   have HR : Hid (stmB r (.mk 20 s m ks) = blkB r (.mk 20 s m ks)):=rfl
   have hX0:=Hx.start (w:=w) (c0:=.int .i64 20) (c1:=.string ⟨s.toArray⟩) (c2:=.int .i64 m) (c3:=.slice ao ks.length c)
   have c1:=hBlkS.at hG hS hF hk hX0.out
   change Calls Tryz.prog 119 #[.agg #[.int .i64 20,.string ⟨s.toArray⟩,.int .i64 m,.slice ao ks.length c]] w _
   go_enter Tryz.func119,Tryz.ntmps119
   go_wp2_with fail
   refine c1.mono ?_
   rintro e w1 ⟨rfl,hb1⟩
   have hX1:=hX0.next hb1
   clear c1
   obtain ⟨x0,x1,x2,x3⟩:=hX1.cells
   have HX:=HR
   go_wp2
   go_ret
   exact ⟨congrArg (fun b => Ending.returned (Value.bool b)) HX.out.symm,hX1.out⟩
 by_cases hk25 : k = 25
 · subst hk25
   have HR : Hid (stmB r (.mk 25 s m ks) = ifB r (.mk 25 s m ks)):=rfl
   have hX0:=Hx.start (w:=w) (c0:=.int .i64 25) (c1:=.string ⟨s.toArray⟩) (c2:=.int .i64 m) (c3:=.slice ao ks.length c)
   have c1:=hIfS.at hG hS hF hk hX0.out
   change Calls Tryz.prog 119 #[.agg #[.int .i64 25,.string ⟨s.toArray⟩,.int .i64 m,.slice ao ks.length c]] w _
   go_enter Tryz.func119,Tryz.ntmps119
   go_wp2_with fail
   refine c1.mono ?_
   rintro e w1 ⟨rfl,hb1⟩
   have hX1:=hX0.next hb1
   clear c1
   obtain ⟨x0,x1,x2,x3⟩:=hX1.cells
   have HX:=HR
   go_wp2
   go_ret
   exact ⟨congrArg (fun b => Ending.returned (Value.bool b)) HX.out.symm,hX1.out⟩
 by_cases hk21 : k = 21
 · subst hk21
   have HR : Hid (stmB r (.mk 21 s m ks) = (namedT (.mk 21 s m ks) && (rowB [r .typ] ks || rowB [r .typ,r .exp] ks))):=rfl
   have hX0:=Hx.start (w:=w) (c0:=.int .i64 21) (c1:=.string ⟨s.toArray⟩) (c2:=.int .i64 m) (c3:=.slice ao ks.length c)
   have c1:=namedS_any (.mk 21 s m ks) ao ks.length c _ (hG.later hX0.out) hF2
   change Calls Tryz.prog 119 #[.agg #[.int .i64 21,.string ⟨s.toArray⟩,.int .i64 m,.slice ao ks.length c]] w _
   go_enter Tryz.func119,Tryz.ntmps119
   go_wp2_with fail
   refine c1.mono ?_
   rintro e w1 ⟨rfl,hb1⟩
   have hX1:=hX0.next hb1
   clear c1
   obtain ⟨x0,x1,x2,x3⟩:=hX1.cells
   cases h1 : namedT (.mk 21 s m ks) with
   | false =>
    have HX : Hid (stmB r (.mk 21 s m ks) = false):=HR.out.trans (by rw [h1]; try rfl)
    clear h1
    go_wp2
    go_ret
    exact ⟨congrArg (fun b => Ending.returned (Value.bool b)) HX.out.symm,hX1.out⟩
   | true =>
    have HR1 : Hid (stmB r (.mk 21 s m ks) = (rowB [r .typ] ks || rowB [r .typ,r .exp] ks)):=HR.out.trans (by rw [h1]; try rfl)
    clear h1
    have c2:=rowW1 ent_typ hTyp hG hS hF3 hL hX1.out
    go_wp2_with fail
    refine c2.mono ?_
    rintro e w2 ⟨rfl,hb2⟩
    have hX2:=hX1.next hb2
    clear c2
    clear x0 x1 x2 x3
    obtain ⟨x0,x1,x2,x3⟩:=hX2.cells
    cases h2 : rowB [r .typ] ks with
    | true =>
     have HX : Hid (stmB r (.mk 21 s m ks) = true):=HR1.out.trans (by rw [h2]; try rfl)
     clear h2
     go_wp2
     go_ret
     exact ⟨congrArg (fun b => Ending.returned (Value.bool b)) HX.out.symm,hX2.out⟩
    | false =>
     have HR2 : Hid (stmB r (.mk 21 s m ks) = rowB [r .typ,r .exp] ks):=HR1.out.trans (by rw [h2]; try rfl)
     clear h2
     have c3:=rowW2 ent_typ ent_exp hTyp hExp hG hS hF3 hL hX2.out
     go_wp2_with fail
     refine c3.mono ?_
     rintro e w3 ⟨rfl,hb3⟩
     have hX3:=hX2.next hb3
     clear c3
     clear x0 x1 x2 x3
     obtain ⟨x0,x1,x2,x3⟩:=hX3.cells
     have HX:=HR2
     go_wp2
     go_ret
     exact ⟨congrArg (fun b => Ending.returned (Value.bool b)) HX.out.symm,hX3.out⟩
 by_cases hk22 : k = 22
 · subst hk22
   have HR : Hid (stmB r (.mk 22 s m ks) = asgB r isNameT (.mk 22 s m ks)):=rfl
   have hX0:=Hx.start (w:=w) (c0:=.int .i64 22) (c1:=.string ⟨s.toArray⟩) (c2:=.int .i64 m) (c3:=.slice ao ks.length c)
   have c1:=asgW ent_isName tst_isName hExp hG hS hF hk hX0.out
   change Calls Tryz.prog 119 #[.agg #[.int .i64 22,.string ⟨s.toArray⟩,.int .i64 m,.slice ao ks.length c]] w _
   go_enter Tryz.func119,Tryz.ntmps119
   go_wp2_with fail
   refine c1.mono ?_
   rintro e w1 ⟨rfl,hb1⟩
   have hX1:=hX0.next hb1
   clear c1
   obtain ⟨x0,x1,x2,x3⟩:=hX1.cells
   have HX:=HR
   go_wp2
   go_ret
   exact ⟨congrArg (fun b => Ending.returned (Value.bool b)) HX.out.symm,hX1.out⟩
 by_cases hk23 : k = 23
 · subst hk23
   have HR : Hid (stmB r (.mk 23 s m ks) = asgB r isPlaceT (.mk 23 s m ks)):=rfl
   have hX0:=Hx.start (w:=w) (c0:=.int .i64 23) (c1:=.string ⟨s.toArray⟩) (c2:=.int .i64 m) (c3:=.slice ao ks.length c)
   have c1:=asgW ent_isPlace tst_isPlace hExp hG hS hF hk hX0.out
   change Calls Tryz.prog 119 #[.agg #[.int .i64 23,.string ⟨s.toArray⟩,.int .i64 m,.slice ao ks.length c]] w _
   go_enter Tryz.func119,Tryz.ntmps119
   go_wp2_with fail
   refine c1.mono ?_
   rintro e w1 ⟨rfl,hb1⟩
   have hX1:=hX0.next hb1
   clear c1
   obtain ⟨x0,x1,x2,x3⟩:=hX1.cells
   have HX:=HR
   go_wp2
   go_ret
   exact ⟨congrArg (fun b => Ending.returned (Value.bool b)) HX.out.symm,hX1.out⟩
 by_cases hk24 : k = 24
 · subst hk24
   have HR : Hid (stmB r (.mk 24 s m ks) = (bareT (.mk 24 s m ks) && (rowB [isCallT] ks && rowB [r .exp] ks))):=rfl
   have hX0:=Hx.start (w:=w) (c0:=.int .i64 24) (c1:=.string ⟨s.toArray⟩) (c2:=.int .i64 m) (c3:=.slice ao ks.length c)
   have c1:=bareW hX0.out (.mk 24 s m ks) ao ks.length c
   change Calls Tryz.prog 119 #[.agg #[.int .i64 24,.string ⟨s.toArray⟩,.int .i64 m,.slice ao ks.length c]] w _
   go_enter Tryz.func119,Tryz.ntmps119
   go_wp2_with fail
   refine c1.mono ?_
   rintro e w1 ⟨rfl,hb1⟩
   have hX1:=hX0.next hb1
   clear c1
   obtain ⟨x0,x1,x2,x3⟩:=hX1.cells
   cases h1 : bareT (.mk 24 s m ks) with
   | false =>
    have HX : Hid (stmB r (.mk 24 s m ks) = false):=HR.out.trans (by rw [h1]; try rfl)
    clear h1
    go_wp2
    go_ret
    exact ⟨congrArg (fun b => Ending.returned (Value.bool b)) HX.out.symm,hX1.out⟩
   | true =>
    have HR1 : Hid (stmB r (.mk 24 s m ks) = (rowB [isCallT] ks && rowB [r .exp] ks)):=HR.out.trans (by rw [h1]; try rfl)
    clear h1
    have c2:=rowW1 ent_isCall tst_isCall hG hS hF3 hL hX1.out
    go_wp2_with fail
    refine c2.mono ?_
    rintro e w2 ⟨rfl,hb2⟩
    have hX2:=hX1.next hb2
    clear c2
    clear x0 x1 x2 x3
    obtain ⟨x0,x1,x2,x3⟩:=hX2.cells
    cases h2 : rowB [isCallT] ks with
    | false =>
     have HX : Hid (stmB r (.mk 24 s m ks) = false):=HR1.out.trans (by rw [h2]; try rfl)
     clear h2
     go_wp2
     go_ret
     exact ⟨congrArg (fun b => Ending.returned (Value.bool b)) HX.out.symm,hX2.out⟩
    | true =>
     have HR2 : Hid (stmB r (.mk 24 s m ks) = rowB [r .exp] ks):=HR1.out.trans (by rw [h2]; try rfl)
     have hlen:=rowB_length h2
     clear h2
     obtain ⟨a,g0,o0,a0,n0,q0,hks,hao,y0,y1,y2,y3,hla,hka⟩:=Lst.kid1 hL hlen hS
     obtain rfl:=hao
     have HKS : Hid (ks = [a]):=hks
     have hlt0 : 0 < ks.length:=by rw [hks]; simp
     have hFa : Fit n a:=hF3 a (by rw [hks]; simp)
     have z0:=(hX2.out.cell (p:=⟨g0,o0 + 0,none⟩) hla).trans y0
     have z1:=(hX2.out.cell (p:=⟨g0,o0 + 1,none⟩) hla).trans y1
     have z2:=(hX2.out.cell (p:=⟨g0,o0 + 2,none⟩) hla).trans y2
     have z3:=(hX2.out.cell (p:=⟨g0,o0 + 3,none⟩) hla).trans y3
     rw [Nat.add_zero] at z0
     have c3:=hExp.at hG hS hFa hka hX2.out
     clear hks hlen y0 y1 y2 y3
     go_wp2_with fail
     refine c3.mono ?_
     rintro e w3 ⟨rfl,hb3⟩
     have hX3:=hX2.next hb3
     have HY : Hid (rowB [r .exp] ks = r .exp a):=by rw [HKS.out]; simp [Hid,rowB]
     have HX : Hid (stmB r (.mk 24 s m ks) = r .exp a):=HR2.out.trans HY.out
     go_wp2
     go_ret
     exact ⟨congrArg (fun b => Ending.returned (Value.bool b)) HX.out.symm,hX3.out⟩
 by_cases hk26 : k = 26
 · subst hk26
   have HR : Hid (stmB r (.mk 26 s m ks) = (bareT (.mk 26 s m ks) && (rowB [r .blk] ks || rowB [r .exp,r .blk] ks))):=rfl
   have hX0:=Hx.start (w:=w) (c0:=.int .i64 26) (c1:=.string ⟨s.toArray⟩) (c2:=.int .i64 m) (c3:=.slice ao ks.length c)
   have c1:=bareW hX0.out (.mk 26 s m ks) ao ks.length c
   change Calls Tryz.prog 119 #[.agg #[.int .i64 26,.string ⟨s.toArray⟩,.int .i64 m,.slice ao ks.length c]] w _
   go_enter Tryz.func119,Tryz.ntmps119
   go_wp2_with fail
   refine c1.mono ?_
   rintro e w1 ⟨rfl,hb1⟩
   have hX1:=hX0.next hb1
   clear c1
   obtain ⟨x0,x1,x2,x3⟩:=hX1.cells
   cases h1 : bareT (.mk 26 s m ks) with
   | false =>
    have HX : Hid (stmB r (.mk 26 s m ks) = false):=HR.out.trans (by rw [h1]; try rfl)
    clear h1
    go_wp2
    go_ret
    exact ⟨congrArg (fun b => Ending.returned (Value.bool b)) HX.out.symm,hX1.out⟩
   | true =>
    have HR1 : Hid (stmB r (.mk 26 s m ks) = (rowB [r .blk] ks || rowB [r .exp,r .blk] ks)):=HR.out.trans (by rw [h1]; try rfl)
    clear h1
    have c2:=rowW1 ent_blk hBlk hG hS hF3 hL hX1.out
    go_wp2_with fail
    refine c2.mono ?_
    rintro e w2 ⟨rfl,hb2⟩
    have hX2:=hX1.next hb2
    clear c2
    clear x0 x1 x2 x3
    obtain ⟨x0,x1,x2,x3⟩:=hX2.cells
    cases h2 : rowB [r .blk] ks with
    | true =>
     have HX : Hid (stmB r (.mk 26 s m ks) = true):=HR1.out.trans (by rw [h2]; try rfl)
     clear h2
     go_wp2
     go_ret
     exact ⟨congrArg (fun b => Ending.returned (Value.bool b)) HX.out.symm,hX2.out⟩
    | false =>
     have HR2 : Hid (stmB r (.mk 26 s m ks) = rowB [r .exp,r .blk] ks):=HR1.out.trans (by rw [h2]; try rfl)
     clear h2
     have c3:=rowW2 ent_exp ent_blk hExp hBlk hG hS hF3 hL hX2.out
     go_wp2_with fail
     refine c3.mono ?_
     rintro e w3 ⟨rfl,hb3⟩
     have hX3:=hX2.next hb3
     clear c3
     clear x0 x1 x2 x3
     obtain ⟨x0,x1,x2,x3⟩:=hX3.cells
     have HX:=HR2
     go_wp2
     go_ret
     exact ⟨congrArg (fun b => Ending.returned (Value.bool b)) HX.out.symm,hX3.out⟩
 by_cases hk27 : k = 27
 · subst hk27
   have HR : Hid (stmB r (.mk 27 s m ks) = (bareT (.mk 27 s m ks) && ks.all (r .exp))):=rfl
   have hX0:=Hx.start (w:=w) (c0:=.int .i64 27) (c1:=.string ⟨s.toArray⟩) (c2:=.int .i64 m) (c3:=.slice ao ks.length c)
   have c1:=bareW hX0.out (.mk 27 s m ks) ao ks.length c
   change Calls Tryz.prog 119 #[.agg #[.int .i64 27,.string ⟨s.toArray⟩,.int .i64 m,.slice ao ks.length c]] w _
   go_enter Tryz.func119,Tryz.ntmps119
   go_wp2_with fail
   refine c1.mono ?_
   rintro e w1 ⟨rfl,hb1⟩
   have hX1:=hX0.next hb1
   clear c1
   obtain ⟨x0,x1,x2,x3⟩:=hX1.cells
   cases h1 : bareT (.mk 27 s m ks) with
   | false =>
    have HX : Hid (stmB r (.mk 27 s m ks) = false):=HR.out.trans (by rw [h1]; try rfl)
    clear h1
    go_wp2
    go_ret
    exact ⟨congrArg (fun b => Ending.returned (Value.bool b)) HX.out.symm,hX1.out⟩
   | true =>
    have HR1 : Hid (stmB r (.mk 27 s m ks) = ks.all (r .exp)):=HR.out.trans (by rw [h1]; try rfl)
    clear h1
    have c2:=everyW ent_exp hExp hG hS hF3 hF1 hL hX1.out
    go_wp2_with fail
    refine c2.mono ?_
    rintro e w2 ⟨rfl,hb2⟩
    have hX2:=hX1.next hb2
    clear c2
    clear x0 x1 x2 x3
    obtain ⟨x0,x1,x2,x3⟩:=hX2.cells
    have HX:=HR1
    go_wp2
    go_ret
    exact ⟨congrArg (fun b => Ending.returned (Value.bool b)) HX.out.symm,hX2.out⟩
 by_cases hk28 : k = 28
 · subst hk28
   have HR : Hid (stmB r (.mk 28 s m ks) = (bareT (.mk 28 s m ks) && rowB [] ks)):=rfl
   have hX0:=Hx.start (w:=w) (c0:=.int .i64 28) (c1:=.string ⟨s.toArray⟩) (c2:=.int .i64 m) (c3:=.slice ao ks.length c)
   have c1:=bareW hX0.out (.mk 28 s m ks) ao ks.length c
   change Calls Tryz.prog 119 #[.agg #[.int .i64 28,.string ⟨s.toArray⟩,.int .i64 m,.slice ao ks.length c]] w _
   go_enter Tryz.func119,Tryz.ntmps119
   go_wp2_with fail
   refine c1.mono ?_
   rintro e w1 ⟨rfl,hb1⟩
   have hX1:=hX0.next hb1
   clear c1
   obtain ⟨x0,x1,x2,x3⟩:=hX1.cells
   cases h1 : bareT (.mk 28 s m ks) with
   | false =>
    have HX : Hid (stmB r (.mk 28 s m ks) = false):=HR.out.trans (by rw [h1]; try rfl)
    clear h1
    go_wp2
    go_ret
    exact ⟨congrArg (fun b => Ending.returned (Value.bool b)) HX.out.symm,hX1.out⟩
   | true =>
    have HR1 : Hid (stmB r (.mk 28 s m ks) = rowB [] ks):=HR.out.trans (by rw [h1]; try rfl)
    clear h1
    have c2:=rowW0 hL hX1.out
    go_wp2_with fail
    refine c2.mono ?_
    rintro e w2 ⟨rfl,hb2⟩
    have hX2:=hX1.next hb2
    clear c2
    clear x0 x1 x2 x3
    obtain ⟨x0,x1,x2,x3⟩:=hX2.cells
    have HX:=HR1
    go_wp2
    go_ret
    exact ⟨congrArg (fun b => Ending.returned (Value.bool b)) HX.out.symm,hX2.out⟩
 by_cases hk29 : k = 29
 · subst hk29
   have HR : Hid (stmB r (.mk 29 s m ks) = (bareT (.mk 29 s m ks) && rowB [] ks)):=rfl
   have hX0:=Hx.start (w:=w) (c0:=.int .i64 29) (c1:=.string ⟨s.toArray⟩) (c2:=.int .i64 m) (c3:=.slice ao ks.length c)
   have c1:=bareW hX0.out (.mk 29 s m ks) ao ks.length c
   change Calls Tryz.prog 119 #[.agg #[.int .i64 29,.string ⟨s.toArray⟩,.int .i64 m,.slice ao ks.length c]] w _
   go_enter Tryz.func119,Tryz.ntmps119
   go_wp2_with fail
   refine c1.mono ?_
   rintro e w1 ⟨rfl,hb1⟩
   have hX1:=hX0.next hb1
   clear c1
   obtain ⟨x0,x1,x2,x3⟩:=hX1.cells
   cases h1 : bareT (.mk 29 s m ks) with
   | false =>
    have HX : Hid (stmB r (.mk 29 s m ks) = false):=HR.out.trans (by rw [h1]; try rfl)
    clear h1
    go_wp2
    go_ret
    exact ⟨congrArg (fun b => Ending.returned (Value.bool b)) HX.out.symm,hX1.out⟩
   | true =>
    have HR1 : Hid (stmB r (.mk 29 s m ks) = rowB [] ks):=HR.out.trans (by rw [h1]; try rfl)
    clear h1
    have c2:=rowW0 hL hX1.out
    go_wp2_with fail
    refine c2.mono ?_
    rintro e w2 ⟨rfl,hb2⟩
    have hX2:=hX1.next hb2
    clear c2
    clear x0 x1 x2 x3
    obtain ⟨x0,x1,x2,x3⟩:=hX2.cells
    have HX:=HR1
    go_wp2
    go_ret
    exact ⟨congrArg (fun b => Ending.returned (Value.bool b)) HX.out.symm,hX2.out⟩
 have HX : Hid (stmB r (.mk k s m ks) = false):=by simp [Hid,stmB,Tr.kind,hk20,hk25,hk21,hk22,hk23,hk24,hk26,hk27,hk28,hk29]
 have hX0:=Hx.start (w:=w) (c0:=.int .i64 k) (c1:=.string ⟨s.toArray⟩) (c2:=.int .i64 m) (c3:=.slice ao ks.length c)
 have e20 : (k == 20) = false:=by simpa using hk20
 clear hk20
 have e25 : (k == 25) = false:=by simpa using hk25
 clear hk25
 have e21 : (k == 21) = false:=by simpa using hk21
 clear hk21
 have e22 : (k == 22) = false:=by simpa using hk22
 clear hk22
 have e23 : (k == 23) = false:=by simpa using hk23
 clear hk23
 have e24 : (k == 24) = false:=by simpa using hk24
 clear hk24
 have e26 : (k == 26) = false:=by simpa using hk26
 clear hk26
 have e27 : (k == 27) = false:=by simpa using hk27
 clear hk27
 have e28 : (k == 28) = false:=by simpa using hk28
 clear hk28
 have e29 : (k == 29) = false:=by simpa using hk29
 clear hk29
 change Calls Tryz.prog 119 #[.agg #[.int .i64 k,.string ⟨s.toArray⟩,.int .i64 m,.slice ao ks.length c]] w _
 go_enter Tryz.func119,Tryz.ntmps119
 go_wp2
 go_ret
 exact ⟨congrArg (fun b => Ending.returned (Value.bool b)) HX.out.symm,hX0.out⟩
end Go.Proofs.YtnkphlkjhgngkaaGreatDoor

namespace Go.Proofs.YtnkphlkjhgngkaaGreatDoor
open Go.RowKit
attribute [local go_sem ↓] Go.wp_at_zero Go.wp_at_succ
set_option maxRecDepth 20000 in
set_option maxHeartbeats 4000000 in
theorem exp_step {n : Nat} {r : Q → Tr → Bool} (hTyp : Tst 115 n (r .typ)) (hExp : Tst 141 n (r .exp)) (hSig : Tst 82 n (r .sig)) (hBlk : Tst 83 n (r .blk)) (hCut : ∀ (s : List UInt8) (m : Int) (ks : List Tr) (sl : Value) (S : Nat → Prop) (w : World),Gl w → (∀ b,S b → b < w.heap.size) → Fit (n + 1) (.mk 50 s m ks) → KT w S (.mk 50 s m ks) sl → Calls Tryz.prog 141 #[tv (.mk 50 s m ks) sl] w fun e w' => e = .returned (.bool (expB r (.mk 50 s m ks))) ∧ Below w.heap.size w w') : Tst 141 (n + 1) (expB r):=by
 intro t sl S w hG hS hF hk
 obtain ⟨k,s,m,ks⟩:=t
 obtain ⟨ao,c,rfl⟩:=(Lst.of hk).slice
 have hF0:=hF
 obtain ⟨hF1,hF2,hF3⟩:=hF0
 change ∀ t ∈ ks,Fit _ t at hF3
 change ks.length ≤ 20000 at hF1
 change s.length ≤ maxLen at hF2
 have hL:=Lst.of hk
 have hkn : ks.length ≤ 20000:=hF1
 by_cases hk40 : k = 40
 · subst hk40
   have HR : Hid (expB r (.mk 40 s m ks) = leafB (.mk 40 s m ks)):=rfl
   have hX0:=Hx.start (w:=w) (c0:=.int .i64 40) (c1:=.string ⟨s.toArray⟩) (c2:=.int .i64 m) (c3:=.slice ao ks.length c)
   have c1:=leaf_step.at hG hS hF hk hX0.out
   change Calls Tryz.prog 141 #[.agg #[.int .i64 40,.string ⟨s.toArray⟩,.int .i64 m,.slice ao ks.length c]] w _
   go_enter Tryz.func141,Tryz.ntmps141
   go_wp2_with fail
   refine c1.mono ?_
   rintro e w1 ⟨rfl,hb1⟩
   have hX1:=hX0.next hb1
   clear c1
   obtain ⟨x0,x1,x2,x3⟩:=hX1.cells
   have HX:=HR
   go_wp2
   go_ret
   exact ⟨congrArg (fun b => Ending.returned (Value.bool b)) HX.out.symm,hX1.out⟩
 by_cases hk41 : k = 41
 · subst hk41
   have HR : Hid (expB r (.mk 41 s m ks) = leafB (.mk 41 s m ks)):=rfl
   have hX0:=Hx.start (w:=w) (c0:=.int .i64 41) (c1:=.string ⟨s.toArray⟩) (c2:=.int .i64 m) (c3:=.slice ao ks.length c)
   have c1:=leaf_step.at hG hS hF hk hX0.out
   change Calls Tryz.prog 141 #[.agg #[.int .i64 41,.string ⟨s.toArray⟩,.int .i64 m,.slice ao ks.length c]] w _
   go_enter Tryz.func141,Tryz.ntmps141
   go_wp2_with fail
   refine c1.mono ?_
   rintro e w1 ⟨rfl,hb1⟩
   have hX1:=hX0.next hb1
   clear c1
   obtain ⟨x0,x1,x2,x3⟩:=hX1.cells
   have HX:=HR
   go_wp2
   go_ret
   exact ⟨congrArg (fun b => Ending.returned (Value.bool b)) HX.out.symm,hX1.out⟩
 by_cases hk42 : k = 42
 · subst hk42
   have HR : Hid (expB r (.mk 42 s m ks) = leafB (.mk 42 s m ks)):=rfl
   have hX0:=Hx.start (w:=w) (c0:=.int .i64 42) (c1:=.string ⟨s.toArray⟩) (c2:=.int .i64 m) (c3:=.slice ao ks.length c)
   have c1:=leaf_step.at hG hS hF hk hX0.out
   change Calls Tryz.prog 141 #[.agg #[.int .i64 42,.string ⟨s.toArray⟩,.int .i64 m,.slice ao ks.length c]] w _
   go_enter Tryz.func141,Tryz.ntmps141
   go_wp2_with fail
   refine c1.mono ?_
   rintro e w1 ⟨rfl,hb1⟩
   have hX1:=hX0.next hb1
   clear c1
   obtain ⟨x0,x1,x2,x3⟩:=hX1.cells
   have HX:=HR
   go_wp2
   go_ret
   exact ⟨congrArg (fun b => Ending.returned (Value.bool b)) HX.out.symm,hX1.out⟩
 by_cases hk43 : k = 43
 · subst hk43
   have HR : Hid (expB r (.mk 43 s m ks) = leafB (.mk 43 s m ks)):=rfl
   have hX0:=Hx.start (w:=w) (c0:=.int .i64 43) (c1:=.string ⟨s.toArray⟩) (c2:=.int .i64 m) (c3:=.slice ao ks.length c)
   have c1:=leaf_step.at hG hS hF hk hX0.out
   change Calls Tryz.prog 141 #[.agg #[.int .i64 43,.string ⟨s.toArray⟩,.int .i64 m,.slice ao ks.length c]] w _
   go_enter Tryz.func141,Tryz.ntmps141
   go_wp2_with fail
   refine c1.mono ?_
   rintro e w1 ⟨rfl,hb1⟩
   have hX1:=hX0.next hb1
   clear c1
   obtain ⟨x0,x1,x2,x3⟩:=hX1.cells
   have HX:=HR
   go_wp2
   go_ret
   exact ⟨congrArg (fun b => Ending.returned (Value.bool b)) HX.out.symm,hX1.out⟩
 by_cases hk44 : k = 44
 · subst hk44
   have HR : Hid (expB r (.mk 44 s m ks) = leafB (.mk 44 s m ks)):=rfl
   have hX0:=Hx.start (w:=w) (c0:=.int .i64 44) (c1:=.string ⟨s.toArray⟩) (c2:=.int .i64 m) (c3:=.slice ao ks.length c)
   have c1:=leaf_step.at hG hS hF hk hX0.out
   change Calls Tryz.prog 141 #[.agg #[.int .i64 44,.string ⟨s.toArray⟩,.int .i64 m,.slice ao ks.length c]] w _
   go_enter Tryz.func141,Tryz.ntmps141
   go_wp2_with fail
   refine c1.mono ?_
   rintro e w1 ⟨rfl,hb1⟩
   have hX1:=hX0.next hb1
   clear c1
   obtain ⟨x0,x1,x2,x3⟩:=hX1.cells
   have HX:=HR
   go_wp2
   go_ret
   exact ⟨congrArg (fun b => Ending.returned (Value.bool b)) HX.out.symm,hX1.out⟩
 by_cases hk45 : k = 45
 · subst hk45
   have HR : Hid (expB r (.mk 45 s m ks) = (namedT (.mk 45 s m ks) && ks.all (r .exp))):=rfl
   have hX0:=Hx.start (w:=w) (c0:=.int .i64 45) (c1:=.string ⟨s.toArray⟩) (c2:=.int .i64 m) (c3:=.slice ao ks.length c)
   have c1:=namedS_any (.mk 45 s m ks) ao ks.length c _ (hG.later hX0.out) hF2
   change Calls Tryz.prog 141 #[.agg #[.int .i64 45,.string ⟨s.toArray⟩,.int .i64 m,.slice ao ks.length c]] w _
   go_enter Tryz.func141,Tryz.ntmps141
   go_wp2_with fail
   refine c1.mono ?_
   rintro e w1 ⟨rfl,hb1⟩
   have hX1:=hX0.next hb1
   clear c1
   obtain ⟨x0,x1,x2,x3⟩:=hX1.cells
   cases h1 : namedT (.mk 45 s m ks) with
   | false =>
    have HX : Hid (expB r (.mk 45 s m ks) = false):=HR.out.trans (by rw [h1]; try rfl)
    clear h1
    go_wp2
    go_ret
    exact ⟨congrArg (fun b => Ending.returned (Value.bool b)) HX.out.symm,hX1.out⟩
   | true =>
    have HR1 : Hid (expB r (.mk 45 s m ks) = ks.all (r .exp)):=HR.out.trans (by rw [h1]; try rfl)
    clear h1
    have c2:=everyW ent_exp hExp hG hS hF3 hF1 hL hX1.out
    go_wp2_with fail
    refine c2.mono ?_
    rintro e w2 ⟨rfl,hb2⟩
    have hX2:=hX1.next hb2
    clear c2
    clear x0 x1 x2 x3
    obtain ⟨x0,x1,x2,x3⟩:=hX2.cells
    have HX:=HR1
    go_wp2
    go_ret
    exact ⟨congrArg (fun b => Ending.returned (Value.bool b)) HX.out.symm,hX2.out⟩
 by_cases hk46 : k = 46
 · subst hk46
   have HR : Hid (expB r (.mk 46 s m ks) = (bareT (.mk 46 s m ks) && partedB ks 1 (r .typ) (r .exp))):=rfl
   have hX0:=Hx.start (w:=w) (c0:=.int .i64 46) (c1:=.string ⟨s.toArray⟩) (c2:=.int .i64 m) (c3:=.slice ao ks.length c)
   have c1:=bareW hX0.out (.mk 46 s m ks) ao ks.length c
   change Calls Tryz.prog 141 #[.agg #[.int .i64 46,.string ⟨s.toArray⟩,.int .i64 m,.slice ao ks.length c]] w _
   go_enter Tryz.func141,Tryz.ntmps141
   go_wp2_with fail
   refine c1.mono ?_
   rintro e w1 ⟨rfl,hb1⟩
   have hX1:=hX0.next hb1
   clear c1
   obtain ⟨x0,x1,x2,x3⟩:=hX1.cells
   cases h1 : bareT (.mk 46 s m ks) with
   | false =>
    have HX : Hid (expB r (.mk 46 s m ks) = false):=HR.out.trans (by rw [h1]; try rfl)
    clear h1
    go_wp2
    go_ret
    exact ⟨congrArg (fun b => Ending.returned (Value.bool b)) HX.out.symm,hX1.out⟩
   | true =>
    have HR1 : Hid (expB r (.mk 46 s m ks) = partedB ks 1 (r .typ) (r .exp)):=HR.out.trans (by rw [h1]; try rfl)
    clear h1
    have c2:=partedW ent_typ ent_exp hTyp hExp hG hS hF3 hF1 hL hX1.out 1
    go_wp2_with fail
    refine c2.mono ?_
    rintro e w2 ⟨rfl,hb2⟩
    have hX2:=hX1.next hb2
    clear c2
    clear x0 x1 x2 x3
    obtain ⟨x0,x1,x2,x3⟩:=hX2.cells
    have HX:=HR1
    go_wp2
    go_ret
    exact ⟨congrArg (fun b => Ending.returned (Value.bool b)) HX.out.symm,hX2.out⟩
 by_cases hk47 : k = 47
 · subst hk47
   have HR : Hid (expB r (.mk 47 s m ks) = (bareT (.mk 47 s m ks) && rowB [r .sig,r .blk] ks)):=rfl
   have hX0:=Hx.start (w:=w) (c0:=.int .i64 47) (c1:=.string ⟨s.toArray⟩) (c2:=.int .i64 m) (c3:=.slice ao ks.length c)
   have c1:=bareW hX0.out (.mk 47 s m ks) ao ks.length c
   change Calls Tryz.prog 141 #[.agg #[.int .i64 47,.string ⟨s.toArray⟩,.int .i64 m,.slice ao ks.length c]] w _
   go_enter Tryz.func141,Tryz.ntmps141
   go_wp2_with fail
   refine c1.mono ?_
   rintro e w1 ⟨rfl,hb1⟩
   have hX1:=hX0.next hb1
   clear c1
   obtain ⟨x0,x1,x2,x3⟩:=hX1.cells
   cases h1 : bareT (.mk 47 s m ks) with
   | false =>
    have HX : Hid (expB r (.mk 47 s m ks) = false):=HR.out.trans (by rw [h1]; try rfl)
    clear h1
    go_wp2
    go_ret
    exact ⟨congrArg (fun b => Ending.returned (Value.bool b)) HX.out.symm,hX1.out⟩
   | true =>
    have HR1 : Hid (expB r (.mk 47 s m ks) = rowB [r .sig,r .blk] ks):=HR.out.trans (by rw [h1]; try rfl)
    clear h1
    have c2:=rowW2 ent_sig ent_blk hSig hBlk hG hS hF3 hL hX1.out
    go_wp2_with fail
    refine c2.mono ?_
    rintro e w2 ⟨rfl,hb2⟩
    have hX2:=hX1.next hb2
    clear c2
    clear x0 x1 x2 x3
    obtain ⟨x0,x1,x2,x3⟩:=hX2.cells
    have HX:=HR1
    go_wp2
    go_ret
    exact ⟨congrArg (fun b => Ending.returned (Value.bool b)) HX.out.symm,hX2.out⟩
 by_cases hk48 : k = 48
 · subst hk48
   have HR : Hid (expB r (.mk 48 s m ks) = (namedT (.mk 48 s m ks) && rowB [r .exp] ks)):=rfl
   have hX0:=Hx.start (w:=w) (c0:=.int .i64 48) (c1:=.string ⟨s.toArray⟩) (c2:=.int .i64 m) (c3:=.slice ao ks.length c)
   have c1:=namedS_any (.mk 48 s m ks) ao ks.length c _ (hG.later hX0.out) hF2
   change Calls Tryz.prog 141 #[.agg #[.int .i64 48,.string ⟨s.toArray⟩,.int .i64 m,.slice ao ks.length c]] w _
   go_enter Tryz.func141,Tryz.ntmps141
   go_wp2_with fail
   refine c1.mono ?_
   rintro e w1 ⟨rfl,hb1⟩
   have hX1:=hX0.next hb1
   clear c1
   obtain ⟨x0,x1,x2,x3⟩:=hX1.cells
   cases h1 : namedT (.mk 48 s m ks) with
   | false =>
    have HX : Hid (expB r (.mk 48 s m ks) = false):=HR.out.trans (by rw [h1]; try rfl)
    clear h1
    go_wp2
    go_ret
    exact ⟨congrArg (fun b => Ending.returned (Value.bool b)) HX.out.symm,hX1.out⟩
   | true =>
    have HR1 : Hid (expB r (.mk 48 s m ks) = rowB [r .exp] ks):=HR.out.trans (by rw [h1]; try rfl)
    clear h1
    have c2:=rowW1 ent_exp hExp hG hS hF3 hL hX1.out
    go_wp2_with fail
    refine c2.mono ?_
    rintro e w2 ⟨rfl,hb2⟩
    have hX2:=hX1.next hb2
    clear c2
    clear x0 x1 x2 x3
    obtain ⟨x0,x1,x2,x3⟩:=hX2.cells
    have HX:=HR1
    go_wp2
    go_ret
    exact ⟨congrArg (fun b => Ending.returned (Value.bool b)) HX.out.symm,hX2.out⟩
 by_cases hk49 : k = 49
 · subst hk49
   have HR : Hid (expB r (.mk 49 s m ks) = (bareT (.mk 49 s m ks) && rowB [r .exp,r .exp] ks)):=rfl
   have hX0:=Hx.start (w:=w) (c0:=.int .i64 49) (c1:=.string ⟨s.toArray⟩) (c2:=.int .i64 m) (c3:=.slice ao ks.length c)
   have c1:=bareW hX0.out (.mk 49 s m ks) ao ks.length c
   change Calls Tryz.prog 141 #[.agg #[.int .i64 49,.string ⟨s.toArray⟩,.int .i64 m,.slice ao ks.length c]] w _
   go_enter Tryz.func141,Tryz.ntmps141
   go_wp2_with fail
   refine c1.mono ?_
   rintro e w1 ⟨rfl,hb1⟩
   have hX1:=hX0.next hb1
   clear c1
   obtain ⟨x0,x1,x2,x3⟩:=hX1.cells
   cases h1 : bareT (.mk 49 s m ks) with
   | false =>
    have HX : Hid (expB r (.mk 49 s m ks) = false):=HR.out.trans (by rw [h1]; try rfl)
    clear h1
    go_wp2
    go_ret
    exact ⟨congrArg (fun b => Ending.returned (Value.bool b)) HX.out.symm,hX1.out⟩
   | true =>
    have HR1 : Hid (expB r (.mk 49 s m ks) = rowB [r .exp,r .exp] ks):=HR.out.trans (by rw [h1]; try rfl)
    clear h1
    have c2:=rowW2 ent_exp ent_exp hExp hExp hG hS hF3 hL hX1.out
    go_wp2_with fail
    refine c2.mono ?_
    rintro e w2 ⟨rfl,hb2⟩
    have hX2:=hX1.next hb2
    clear c2
    clear x0 x1 x2 x3
    obtain ⟨x0,x1,x2,x3⟩:=hX2.cells
    have HX:=HR1
    go_wp2
    go_ret
    exact ⟨congrArg (fun b => Ending.returned (Value.bool b)) HX.out.symm,hX2.out⟩
 by_cases hk50 : k = 50
 · subst hk50
   exact hCut s m ks _ S w hG hS hF hk
 by_cases hk51 : k = 51
 · subst hk51
   have HR : Hid (expB r (.mk 51 s m ks) = (bareT (.mk 51 s m ks) && (decide (0 < ks.length) && ks.all (r .exp)))):=rfl
   have hX0:=Hx.start (w:=w) (c0:=.int .i64 51) (c1:=.string ⟨s.toArray⟩) (c2:=.int .i64 m) (c3:=.slice ao ks.length c)
   cases hp0 : decide (0 < ks.length) with
   | true =>
    have ql : 0 < ks.length:=of_decide_eq_true hp0
    have c1:=bareW hX0.out (.mk 51 s m ks) ao ks.length c
    change Calls Tryz.prog 141 #[.agg #[.int .i64 51,.string ⟨s.toArray⟩,.int .i64 m,.slice ao ks.length c]] w _
    go_enter Tryz.func141,Tryz.ntmps141
    go_wp2_with fail
    refine c1.mono ?_
    rintro e w1 ⟨rfl,hb1⟩
    have hX1:=hX0.next hb1
    clear c1
    obtain ⟨x0,x1,x2,x3⟩:=hX1.cells
    cases h1 : bareT (.mk 51 s m ks) with
    | false =>
     have HX : Hid (expB r (.mk 51 s m ks) = false):=HR.out.trans (by rw [h1]; try rfl)
     clear h1
     go_wp2
     go_ret
     exact ⟨congrArg (fun b => Ending.returned (Value.bool b)) HX.out.symm,hX1.out⟩
    | true =>
     have HR1 : Hid (expB r (.mk 51 s m ks) = (decide (0 < ks.length) && ks.all (r .exp))):=HR.out.trans (by rw [h1]; try rfl)
     clear h1
     have HR1p : Hid (expB r (.mk 51 s m ks) = ks.all (r .exp)):=HR1.out.trans (by rw [hp0]; try rfl)
     have c2:=everyW ent_exp hExp hG hS hF3 hF1 hL hX1.out
     go_wp2_with fail
     refine c2.mono ?_
     rintro e w2 ⟨rfl,hb2⟩
     have hX2:=hX1.next hb2
     clear c2
     clear x0 x1 x2 x3
     obtain ⟨x0,x1,x2,x3⟩:=hX2.cells
     have HX:=HR1p
     go_wp2
     go_ret
     exact ⟨congrArg (fun b => Ending.returned (Value.bool b)) HX.out.symm,hX2.out⟩
   | false =>
    have ql : ¬ (0 < ks.length):=of_decide_eq_false hp0
    have c1:=bareW hX0.out (.mk 51 s m ks) ao ks.length c
    change Calls Tryz.prog 141 #[.agg #[.int .i64 51,.string ⟨s.toArray⟩,.int .i64 m,.slice ao ks.length c]] w _
    go_enter Tryz.func141,Tryz.ntmps141
    go_wp2_with fail
    refine c1.mono ?_
    rintro e w1 ⟨rfl,hb1⟩
    have hX1:=hX0.next hb1
    clear c1
    obtain ⟨x0,x1,x2,x3⟩:=hX1.cells
    cases h1 : bareT (.mk 51 s m ks) with
    | false =>
     have HX : Hid (expB r (.mk 51 s m ks) = false):=HR.out.trans (by rw [h1]; try rfl)
     clear h1
     go_wp2
     go_ret
     exact ⟨congrArg (fun b => Ending.returned (Value.bool b)) HX.out.symm,hX1.out⟩
    | true =>
     have HR1 : Hid (expB r (.mk 51 s m ks) = (decide (0 < ks.length) && ks.all (r .exp))):=HR.out.trans (by rw [h1]; try rfl)
     clear h1
     have HX : Hid (expB r (.mk 51 s m ks) = false):=HR1.out.trans (by rw [hp0]; try rfl)
     go_wp2
     go_ret
     exact ⟨congrArg (fun b => Ending.returned (Value.bool b)) HX.out.symm,hX1.out⟩
 by_cases hk52 : k = 52
 · subst hk52
   have HR : Hid (expB r (.mk 52 s m ks) = ((m == 0) && (prefixL s && rowB [r .exp] ks))):=rfl
   have hX0:=Hx.start (w:=w) (c0:=.int .i64 52) (c1:=.string ⟨s.toArray⟩) (c2:=.int .i64 m) (c3:=.slice ao ks.length c)
   cases hpm : (m == 0) with
   | true =>
    have HRp : Hid (expB r (.mk 52 s m ks) = (prefixL s && rowB [r .exp] ks)):=HR.out.trans (by rw [hpm]; try rfl)
    have c1:=prefixW s hX0.out
    change Calls Tryz.prog 141 #[.agg #[.int .i64 52,.string ⟨s.toArray⟩,.int .i64 m,.slice ao ks.length c]] w _
    go_enter Tryz.func141,Tryz.ntmps141
    go_wp2_with fail
    refine c1.mono ?_
    rintro e w1 ⟨rfl,hb1⟩
    have hX1:=hX0.next hb1
    clear c1
    obtain ⟨x0,x1,x2,x3⟩:=hX1.cells
    cases h1 : prefixL s with
    | false =>
     have HX : Hid (expB r (.mk 52 s m ks) = false):=HRp.out.trans (by rw [h1]; try rfl)
     clear h1
     go_wp2
     go_ret
     exact ⟨congrArg (fun b => Ending.returned (Value.bool b)) HX.out.symm,hX1.out⟩
    | true =>
     have HR1 : Hid (expB r (.mk 52 s m ks) = rowB [r .exp] ks):=HRp.out.trans (by rw [h1]; try rfl)
     clear h1
     have c2:=rowW1 ent_exp hExp hG hS hF3 hL hX1.out
     go_wp2_with fail
     refine c2.mono ?_
     rintro e w2 ⟨rfl,hb2⟩
     have hX2:=hX1.next hb2
     clear c2
     clear x0 x1 x2 x3
     obtain ⟨x0,x1,x2,x3⟩:=hX2.cells
     have HX:=HR1
     go_wp2
     go_ret
     exact ⟨congrArg (fun b => Ending.returned (Value.bool b)) HX.out.symm,hX2.out⟩
   | false =>
    have HX : Hid (expB r (.mk 52 s m ks) = false):=HR.out.trans (by rw [hpm]; try rfl)
    change Calls Tryz.prog 141 #[.agg #[.int .i64 52,.string ⟨s.toArray⟩,.int .i64 m,.slice ao ks.length c]] w _
    go_enter Tryz.func141,Tryz.ntmps141
    go_wp2
    go_ret
    exact ⟨congrArg (fun b => Ending.returned (Value.bool b)) HX.out.symm,hX0.out⟩
 by_cases hk53 : k = 53
 · subst hk53
   have HR : Hid (expB r (.mk 53 s m ks) = ((m == 0) && (decide (0 < rankL s) && rowB [r .exp,r .exp] ks))):=rfl
   have hX0:=Hx.start (w:=w) (c0:=.int .i64 53) (c1:=.string ⟨s.toArray⟩) (c2:=.int .i64 m) (c3:=.slice ao ks.length c)
   cases hpm : (m == 0) with
   | true =>
    have HRp : Hid (expB r (.mk 53 s m ks) = (decide (0 < rankL s) && rowB [r .exp,r .exp] ks)):=HR.out.trans (by rw [hpm]; try rfl)
    have c1:=rankW s hX0.out
    change Calls Tryz.prog 141 #[.agg #[.int .i64 53,.string ⟨s.toArray⟩,.int .i64 m,.slice ao ks.length c]] w _
    go_enter Tryz.func141,Tryz.ntmps141
    go_wp2_with fail
    refine c1.mono ?_
    rintro e w1 ⟨rfl,hb1⟩
    have hX1:=hX0.next hb1
    clear c1
    obtain ⟨x0,x1,x2,x3⟩:=hX1.cells
    cases h1 : decide (0 < rankL s) with
    | false =>
     have HX : Hid (expB r (.mk 53 s m ks) = false):=HRp.out.trans (by rw [h1]; try rfl)
     have hrk : ¬ (0 < rankL s):=of_decide_eq_false h1
     clear h1
     go_wp2
     go_ret
     exact ⟨congrArg (fun b => Ending.returned (Value.bool b)) HX.out.symm,hX1.out⟩
    | true =>
     have HR1 : Hid (expB r (.mk 53 s m ks) = rowB [r .exp,r .exp] ks):=HRp.out.trans (by rw [h1]; try rfl)
     have hrk : 0 < rankL s:=of_decide_eq_true h1
     clear h1
     have c2:=rowW2 ent_exp ent_exp hExp hExp hG hS hF3 hL hX1.out
     go_wp2_with fail
     refine c2.mono ?_
     rintro e w2 ⟨rfl,hb2⟩
     have hX2:=hX1.next hb2
     clear c2
     clear x0 x1 x2 x3
     obtain ⟨x0,x1,x2,x3⟩:=hX2.cells
     have HX:=HR1
     go_wp2
     go_ret
     exact ⟨congrArg (fun b => Ending.returned (Value.bool b)) HX.out.symm,hX2.out⟩
   | false =>
    have HX : Hid (expB r (.mk 53 s m ks) = false):=HR.out.trans (by rw [hpm]; try rfl)
    change Calls Tryz.prog 141 #[.agg #[.int .i64 53,.string ⟨s.toArray⟩,.int .i64 m,.slice ao ks.length c]] w _
    go_enter Tryz.func141,Tryz.ntmps141
    go_wp2
    go_ret
    exact ⟨congrArg (fun b => Ending.returned (Value.bool b)) HX.out.symm,hX0.out⟩
 have HX : Hid (expB r (.mk k s m ks) = false):=by simp [Hid,expB,Tr.kind,hk40,hk41,hk42,hk43,hk44,hk45,hk46,hk47,hk48,hk49,hk50,hk51,hk52,hk53]
 have hX0:=Hx.start (w:=w) (c0:=.int .i64 k) (c1:=.string ⟨s.toArray⟩) (c2:=.int .i64 m) (c3:=.slice ao ks.length c)
 have e40 : (k == 40) = false:=by simpa using hk40
 clear hk40
 have e41 : (k == 41) = false:=by simpa using hk41
 clear hk41
 have e42 : (k == 42) = false:=by simpa using hk42
 clear hk42
 have e43 : (k == 43) = false:=by simpa using hk43
 clear hk43
 have e44 : (k == 44) = false:=by simpa using hk44
 clear hk44
 have e45 : (k == 45) = false:=by simpa using hk45
 clear hk45
 have e46 : (k == 46) = false:=by simpa using hk46
 clear hk46
 have e47 : (k == 47) = false:=by simpa using hk47
 clear hk47
 have e48 : (k == 48) = false:=by simpa using hk48
 clear hk48
 have e49 : (k == 49) = false:=by simpa using hk49
 clear hk49
 have e50 : (k == 50) = false:=by simpa using hk50
 clear hk50
 have e51 : (k == 51) = false:=by simpa using hk51
 clear hk51
 have e52 : (k == 52) = false:=by simpa using hk52
 clear hk52
 have e53 : (k == 53) = false:=by simpa using hk53
 clear hk53
 change Calls Tryz.prog 141 #[.agg #[.int .i64 k,.string ⟨s.toArray⟩,.int .i64 m,.slice ao ks.length c]] w _
 go_enter Tryz.func141,Tryz.ntmps141
 go_wp2
 go_ret
 exact ⟨congrArg (fun b => Ending.returned (Value.bool b)) HX.out.symm,hX0.out⟩
end Go.Proofs.YtnkphlkjhgngkaaGreatDoor
