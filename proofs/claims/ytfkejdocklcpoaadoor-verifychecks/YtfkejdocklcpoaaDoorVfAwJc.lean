/- awake: the simplest facts. -/
import Derived.Test.YtfkejdocklcpoaaDoorVfCmJc
import Derived.Test.YtfkejdocklcpoaaDoorVfTJc
import Derived.Test.YtfkejdocklcpoaaDoorVfFoJc
import Derived.Deep.CutRange
import Derived.Test.YtfkejdocklcpoaaDoorVfTk
namespace Go.Proofs.YtfkejdocklcpoaaDoor
open Go.RowKit
def awF:Fd:=⟨0,[],[],[],[⟨1,5,0⟩,⟨25,0,0⟩,⟨28,0,0⟩]⟩
def awP:Pg:=⟨[],[awF],[],[]⟩
theorem aw_check:checkP awP=(0,0,0):=by decide +kernel
theorem aw_size:(match followP awP awF with | .ok F=>szP awP awF F | .error _=>0)=1:=by decide +kernel
theorem sl_nil {α:Type} {k:Nat} {P:World→List Value→α→Prop} {B:Nat} {w:World}:SlAt k P B w (.slice none 0 0) ([]:List α):=⟨none,0,rfl,⟨by simp,by simp,by unfold maxLen;omega⟩,fun j x hx=>by simp at hx⟩
section
variable {w:World}
theorem aw_pg {W:World} {b0 b1:Nat} (h0:W.heap[b0]?=some (.cells #[.int .i64 1,.int .i64 5,.int .i64 0,.int .i64 25,.int .i64 0,.int .i64 0,.int .i64 28,.int .i64 0,.int .i64 0] 50 (0,0))) (h1:W.heap[b1]?=some (.cells #[.int .i64 0,.slice none 0 0,.slice none 0 0,.slice none 0 0,.slice (some ⟨b0,0,none⟩) 3 3] 48 (0,0))):PgAt W.heap.size W (.slice none 0 0) (.slice (some ⟨b1,0,none⟩) 1 1) (.slice none 0 0) (.slice none 0 0) awP:=by
 refine ⟨sl_nil,⟨some ⟨b1,0,none⟩,1,rfl,⟨by simp [awP],by simp [awP],by unfold maxLen;omega⟩,fun j x hx=>?_⟩,sl_nil,sl_nil⟩
 match j,hx with
 | 0,hx =>
  cases hx
  refine ⟨b1,0,[.int .i64 0,.slice none 0 0,.slice none 0 0,.slice none 0 0,.slice (some ⟨b0,0,none⟩) 3 3],rfl,lt_of_block h1,fun r u hu=>?_,_,_,_,_,rfl,by simp [awF],sl_nil,sl_nil,sl_nil,⟨some ⟨b0,0,none⟩,3,rfl,⟨by simp [awF],by simp [awF],by unfold maxLen;omega⟩,fun j y hy=>?_⟩⟩
  · rw [Nat.zero_mul,Nat.add_zero,Nat.zero_add]
    exact cell_of h1 (by simpa using hu)
  · match j,hy with
    | 0,hy =>
     cases hy
     refine ⟨b0,0,[.int .i64 1,.int .i64 5,.int .i64 0],rfl,lt_of_block h0,fun r u hu=>?_,rfl,by simp⟩
     match r,hu with
     | 0,hu=>cases hu;exact cell_of h0 rfl
     | 1,hu=>cases hu;exact cell_of h0 rfl
     | 2,hu=>cases hu;exact cell_of h0 rfl
    | 1,hy =>
     cases hy
     refine ⟨b0,0,[.int .i64 25,.int .i64 0,.int .i64 0],rfl,lt_of_block h0,fun r u hu=>?_,rfl,by simp⟩
     match r,hu with
     | 0,hu=>cases hu;exact cell_of h0 rfl
     | 1,hu=>cases hu;exact cell_of h0 rfl
     | 2,hu=>cases hu;exact cell_of h0 rfl
    | 2,hy =>
     cases hy
     refine ⟨b0,0,[.int .i64 28,.int .i64 0,.int .i64 0],rfl,lt_of_block h0,fun r u hu=>?_,rfl,by simp⟩
     match r,hu with
     | 0,hu=>cases hu;exact cell_of h0 rfl
     | 1,hu=>cases hu;exact cell_of h0 rfl
     | 2,hu=>cases hu;exact cell_of h0 rfl
set_option maxRecDepth 100000 in
set_option maxHeartbeats 1000000 in
theorem awake_any (w:World) (hT:Tb w):Calls Tryd.prog 10 #[] w fun e w'=>e=.returned (.bool true)∧Below w.heap.size w w':=by
 have h0:0<w.heap.size:=World.block_lt_of_cell? w ⟨0,0,none⟩ (hT 0 (by decide))
 obtain ⟨W1,hW1⟩ : ∃ W1,((w.alloc (.cells #[.int .i64 1,.int .i64 5,.int .i64 0,.int .i64 25,.int .i64 0,.int .i64 0,.int .i64 28,.int .i64 0,.int .i64 0] 50)).alloc (.cells #[.int .i64 0,.slice none 0 0,.slice none 0 0,.slice none 0 0,.slice (some ⟨w.heap.size,0,none⟩) 3 3] 48)).alloc (.cells #[.slice none 0 0,.slice (some ⟨w.heap.size+1,0,none⟩) 1 1,.slice none 0 0,.slice none 0 0] 27)=W1:=⟨_,rfl⟩
 have b1:Below w.heap.size w W1:=by rw [← hW1];exact (((Below.refl _ _).alloc (Nat.le_refl _) _).alloc (by simp) _).alloc (by simp;omega) _
 have g0:W1.heap[w.heap.size]?=some (.cells #[.int .i64 1,.int .i64 5,.int .i64 0,.int .i64 25,.int .i64 0,.int .i64 0,.int .i64 28,.int .i64 0,.int .i64 0] 50 (0,0)):=by rw [← hW1,Below.heap_alloc _ _ _ (by simp;omega),Below.heap_alloc _ _ _ (by simp)];exact heap_new _ _ rfl
 have g1:W1.heap[w.heap.size+1]?=some (.cells #[.int .i64 0,.slice none 0 0,.slice none 0 0,.slice none 0 0,.slice (some ⟨w.heap.size,0,none⟩) 3 3] 48 (0,0)):=by rw [← hW1,Below.heap_alloc _ _ _ (by simp)];exact heap_new _ _ (by simp)
 have g2:W1.heap[w.heap.size+1+1]?=some (.cells #[.slice none 0 0,.slice (some ⟨w.heap.size+1,0,none⟩) 1 1,.slice none 0 0,.slice none 0 0] 27 (0,0)):=by rw [← hW1];exact heap_new _ _ (by simp)
 have HCK:=hide (check_any (aw_pg g0 g1) (Nat.le_refl _) (hT.keep (b1.block 0 h0)) (Nat.lt_of_lt_of_le h0 b1.size))
 have HSZ:=hide (show ∀ W:World,Below W1.heap.size W1 W→Calls Tryd.prog 12 #[.agg #[.slice none 0 0,.slice (some ⟨w.heap.size+1,0,none⟩) 1 1,.slice none 0 0,.slice none 0 0],.int .i64 0] W fun e w'=>e=.returned (.tuple #[.int .i64 1,.int .i64 0])∧Below W.heap.size W w' from fun W h=>by
  have hb:=bel_tr b1 h
  refine (size_any (aw_pg ((h.block _ (lt_of_block g0)).trans g0) ((h.block _ (lt_of_block g1)).trans g1)) (Nat.le_refl _) (hT.keep (hb.block 0 h0)) (Nat.lt_of_lt_of_le h0 hb.size) 0).mono ?_
  rintro e w' ⟨hb2,(⟨hc,_⟩ | ⟨_,hi,_⟩ | ⟨k,f,F,_,hk,hf,hF,rfl⟩)⟩
  · rw [aw_check] at hc
    exact absurd rfl hc
  · cases hi
  · have hk0:k=0:=by omega
    subst hk0
    cases hf
    have hs:=aw_size
    rw [hF] at hs
    have hs2:szP awP awF F=1:=hs
    rw [hs2]
    exact ⟨rfl,hb2⟩)
 unfold CkO at HCK
 rw [aw_check] at HCK
 have HB1:=hide b1
 have HBX:=hide (show ∀ W:World,Below W1.heap.size W1 W→W.cell? ⟨w.heap.size+1+1,0,none⟩=some (.slice none 0 0)∧W.cell? ⟨w.heap.size+1+1,1,none⟩=some (.slice (some ⟨w.heap.size+1,0,none⟩) 1 1)∧W.cell? ⟨w.heap.size+1+1,2,none⟩=some (.slice none 0 0)∧W.cell? ⟨w.heap.size+1+1,3,none⟩=some (.slice none 0 0)∧w.heap.size+1+1<W.heap.size from fun W h=>by
  have h1:=(h.block _ (lt_of_block g2)).trans g2
  exact ⟨cell_of h1 rfl,cell_of h1 rfl,cell_of h1 rfl,cell_of h1 rfl,lt_of_block h1⟩)
 obtain ⟨k0,k1,k2,k3,k4⟩:=HBX.out W1 (Below.refl _ _)
 clear b1 g0 g1 g2 hT h0
 have HW1:=hide hW1
 clear hW1
 go_enter Tryd.func10,Tryd.ntmps10
 go_upto_region 2 with (fail)
 rw [HW1.out]
 go_wp2_with fail
 refine HCK.out.mono ?_
 rintro e w2 ⟨rfl,hb2⟩
 have HB2:=hide hb2
 clear hb2 k0 k1 k2 k3 k4
 obtain ⟨k0,k1,k2,k3,k4⟩:=HBX.out w2 HB2.out
 go_wp2_with fail
 refine (HSZ.out w2 HB2.out).mono ?_
 rintro e w3 ⟨rfl,hb3⟩
 have HB3:=hide (bel_tr HB1.out (bel_tr HB2.out hb3))
 clear hb3 k0 k1 k2 k3 k4
 go_wp2
 go_ret
 exact ⟨rfl,HB3.out⟩
end
end Go.Proofs.YtfkejdocklcpoaaDoor

namespace Go.Proofs.YtfkejdocklcpoaaDoor
section
variable {p q:Pg} {f g:Fd} {i:In3}
end
end Go.Proofs.YtfkejdocklcpoaaDoor

namespace Go.Proofs.YtfkejdocklcpoaaDoor
section
variable {p:Pg}
end
end Go.Proofs.YtfkejdocklcpoaaDoor

namespace Go.Proofs.YtfkejdocklcpoaaDoor
open Go.RowKit
section
variable {α:Type} {k B:Nat} {P:World→List Value→α→Prop} {w w' : World}
theorem run_nil_cap {t ty e:TypeId} {i:TypeInfo} {C n:Nat} {v:Value} {xs:List Value} (ht:Tryd.prog.underlying t=some (.slice e)) (hi:Tryd.prog.info? e=some i) (hown:w.ownsRow C e k v n xs) (c:Nat):(Builtin.append_ #[t,t] ty #[v,.slice none 0 c]).run Tryd.prog w=.ok v w:=by
 rcases hown.2 with ⟨rfl,rfl⟩ | ⟨g,cap,cur,rfl,_,_,hnc,_⟩
 · simp [Builtin.append_,run_underlying ht,sizeOf,typeInfo,hi,Builtin.lenOf,Builtin.firstCells]
 · simp [Builtin.append_,run_underlying ht,sizeOf,typeInfo,hi,Builtin.lenOf,Builtin.firstCells,hnc,storeCells]
end
section
variable {α:Type} {k bE:Nat}
theorem owns_emp {W:World} {e bE:Nat} (h:W.heap[bE]?=some (.cells #[] e (0,0))):W.ownsRow bE e k (.slice (some ⟨bE,0,none⟩) 0 0) 0 [] :=
  ⟨by simp,.inr ⟨bE,0,#[],rfl,Nat.le_refl _,h,Nat.le_refl _,by decide,by simp,by simp⟩⟩
theorem own_ge {W:World} {C e n:Nat} {v:Value} {xs:List Value} (h:W.ownsRow C e k v n xs):∀ g,v.ownBlock=some g→C≤g∧g<W.heap.size:=by
 intro g hg
 rcases h.2 with ⟨rfl,_⟩ | ⟨g',cap,cur,rfl,h1,h2,_⟩
 · cases hg
 · cases hg
   exact ⟨h1,lt_of_block h2⟩
end
end Go.Proofs.YtfkejdocklcpoaaDoor

namespace Go.Proofs.YtfkejdocklcpoaaDoor
open Go.RowKit
section
variable {W:World} {g T:Nat} {f:Nat × Nat}
end
section
variable {B b:Nat} {W4:World} {v:Value}
end
end Go.Proofs.YtfkejdocklcpoaaDoor

namespace Go.Proofs.YtfkejdocklcpoaaDoor
open Go.RowKit
section
variable {Wb X:World} {B b:Nat} {l:List (List Int)} {fl:Int} {e0:Option Nat} {v5:Option Value} {i1 i2:Option Nat} {v:Value}
theorem al_old (X:World) (o:Obj) {j:Nat} {u:Obj} (h:X.heap[j]?=some u):(X.alloc o).heap[j]?=some u:=by rw [heap_alloc_old _ _ (lt_of_block h)];exact h
end
end Go.Proofs.YtfkejdocklcpoaaDoor

namespace Go.Proofs.YtfkejdocklcpoaaDoor
open Go.RowKit Go.Shelf
attribute [local go_sem] Oper.semAt_some
theorem info_intD:(Tryd.prog.info? 3).map (fun i=>(i.zero,i.size,i.bytes))=some (some (.int .i64 0),1,8):=by kernel_rfl
def ivs (l:List Int):List Value:=l.map fun x=>Value.int .i64 x
section
variable {m E b:Nat} {Z:Nat→Prop} {s:List Int} {w:World}
end
end Go.Proofs.YtfkejdocklcpoaaDoor

namespace Go.Proofs.YtfkejdocklcpoaaDoor
open Go.RowKit
abbrev oSt0 : Oper := { dst := some 19, op := .move (.tmp 7), type := 61, pos := "verify.go:24", after := #[], guard := none }
abbrev oSt1 : Oper := { dst := some 20, op := .nilCheck (.tmp 19), type := 0, pos := "verify.go:24", after := #[{ on := 0, ground := .data }], guard := none }
abbrev oSt2 : Oper := { dst := some 21, op := .fieldAddr 68 (.tmp 20) 3, type := 0, pos := "verify.go:24", after := #[{ on := 1, ground := .data }], guard := none }
abbrev oSt3 : Oper := { dst := some 22, op := .load 64 (.tmp 21), type := 64, pos := "verify.go:24", after := #[{ on := 2, ground := .data }], guard := none }
abbrev oSt4 : Oper := { dst := some 23, op := .call { callee := .builtin .len, args := #[.tmp 22], argTypes := #[64] }, type := 3, pos := "verify.go:24", after := #[{ on := 3, ground := .data }], guard := none }
abbrev oSt5 : Oper := { dst := some 25, op := .move (.tmp 7), type := 61, pos := "verify.go:24", after := #[], guard := none }
abbrev oSt6 : Oper := { dst := some 26, op := .nilCheck (.tmp 25), type := 0, pos := "verify.go:24", after := #[{ on := 6, ground := .data }], guard := none }
abbrev oSt7 : Oper := { dst := some 27, op := .fieldAddr 68 (.tmp 26) 3, type := 0, pos := "verify.go:24", after := #[{ on := 7, ground := .data }], guard := none }
abbrev oSt8 : Oper := { dst := some 28, op := .load 64 (.tmp 27), type := 64, pos := "verify.go:24", after := #[{ on := 8, ground := .data }], guard := none }
abbrev oSt9 : Oper := { dst := some 29, op := .call { callee := .builtin .len, args := #[.tmp 28], argTypes := #[64] }, type := 3, pos := "verify.go:24", after := #[{ on := 9, ground := .data }], guard := none }
abbrev oSt10 : Oper := { dst := some 24, op := .makeSlice 24 (.tmp 23) (.tmp 23), type := 24, pos := "verify.go:24", after := #[{ on := 4, ground := .data }, { on := 4, ground := .data }], guard := none }
abbrev oSt11 : Oper := { dst := some 30, op := .makeSlice 33 (.tmp 29) (.tmp 29), type := 33, pos := "verify.go:24", after := #[{ on := 10, ground := .data }, { on := 10, ground := .data }], guard := none }
abbrev oSt12 : Oper := { dst := some 4, op := .assign (.tmp 24), type := 24, pos := "verify.go:24", after := #[{ on := 5, ground := .data }, { on := 0, ground := .phase }, { on := 1, ground := .phase }, { on := 2, ground := .phase }, { on := 3, ground := .phase }, { on := 4, ground := .phase }, { on := 5, ground := .phase }, { on := 6, ground := .textOnly .lateStores }, { on := 7, ground := .textOnly .lateStores }, { on := 8, ground := .textOnly .lateStores }, { on := 9, ground := .textOnly .lateStores }, { on := 10, ground := .textOnly .lateStoresUnsure }, { on := 11, ground := .textOnly .lateStoresUnsure }], guard := none }
abbrev oSt13 : Oper := { dst := some 5, op := .assign (.tmp 30), type := 33, pos := "verify.go:24", after := #[{ on := 11, ground := .data }, { on := 12, ground := .chain }, { on := 0, ground := .phase }, { on := 1, ground := .phase }, { on := 2, ground := .phase }, { on := 3, ground := .phase }, { on := 4, ground := .phase }, { on := 5, ground := .phase }, { on := 6, ground := .phase }, { on := 7, ground := .phase }, { on := 8, ground := .phase }, { on := 9, ground := .phase }, { on := 10, ground := .phase }, { on := 11, ground := .phase }, { on := 12, ground := .phase }], guard := none }
theorem info_intsD:(Tryd.prog.info? 44).map (fun i=>(i.zero,i.size,i.bytes))=some (some (.slice none 0 0),1,24):=by kernel_rfl
theorem info_boolD:(Tryd.prog.info? 4).map (fun i=>(i.zero,i.size,i.bytes))=some (some (.bool false),1,1):=by kernel_rfl
theorem made_one (v:Value) (n:Nat):madeCells #[v] n=(List.replicate n v).toArray:=by
 apply Array.ext
 · simp [madeCells]
 · intro i h1 h2
   simp [madeCells,Nat.mod_one]
theorem run_intss (w:World) (n:Nat) (hn:n≤65536):(Instr.makeSlice 24 (.int .i64 n) (.int .i64 n)).run Tryd.prog w=.ok (.slice (some ⟨w.heap.size,0,none⟩) n n) (w.alloc (.cells (List.replicate n (Value.slice none 0 0)).toArray 44)):=by
 obtain ⟨i0,hi,hz0,hz1,hz2⟩:=info_parts info_intsD
 have hmk:=run_make (P:=Tryd.prog) w 24 44 i0 (.slice none 0 0) Tryd.underlying24 hi hz0 .i64 .i64 n n (by omega) (Int.le_refl _) (by rw [hz2];omega) (by omega)
 rw [hz1] at hmk
 simp only [Int.toNat_natCast,Nat.mul_one] at hmk
 rw [show (Value.slice none 0 0).cells=#[Value.slice none 0 0] from rfl,made_one] at hmk
 exact hmk
theorem run_bools (w:World) (n:Nat) (hn:n≤65536):(Instr.makeSlice 33 (.int .i64 n) (.int .i64 n)).run Tryd.prog w=.ok (.slice (some ⟨w.heap.size,0,none⟩) n n) (w.alloc (.cells (List.replicate n (Value.bool false)).toArray 4)):=by
 obtain ⟨i0,hi,hz0,hz1,hz2⟩:=info_parts info_boolD
 have hmk:=run_make (P:=Tryd.prog) w 33 4 i0 (.bool false) Tryd.underlying33 hi hz0 .i64 .i64 n n (by omega) (Int.le_refl _) (by rw [hz2];omega) (by omega)
 rw [hz1] at hmk
 simp only [Int.toNat_natCast,Nat.mul_one] at hmk
 rw [show (Value.bool false).cells=#[Value.bool false] from rfl,made_one] at hmk
 exact hmk
section
variable {ah:List (Option (List Int))} {L sb cb k:Nat} {w2 W W' : World} {scs ccs:List Value}
theorem ints_block {g:Nat} {s:List Int} (h:W.heap[g]?=some (.cells (ivs s).toArray 3 (0,0))) (hb:∀ x∈s,-9223372036854775808≤x∧x≤9223372036854775807) (hl:s.length≤300000000):SlAt 1 IntP W.heap.size W (.slice (some ⟨g,0,none⟩) s.length s.length) s:=by
 refine ⟨_,_,rfl,⟨by omega,Nat.le_refl _,by unfold maxLen;omega⟩,fun j x hx=>⟨g,0,[.int .i64 x],rfl,lt_of_block h,fun r u hr=>?_,rfl,hb x (List.mem_of_getElem? hx)⟩⟩
 match r,hr with
 | 0,hr =>
  cases hr
  refine cell_of h ?_
  rw [Nat.zero_add,Nat.add_zero,Nat.mul_one,List.getElem?_toArray]
  simp [ivs,hx]
end
section
variable {B:Nat} {w:World} {p:Pg}
end
end Go.Proofs.YtfkejdocklcpoaaDoor

namespace Go.Proofs.YtfkejdocklcpoaaDoor
section
variable {p:Pg} {n:Nat} {f:Fd} {j:List In3}
end
end Go.Proofs.YtfkejdocklcpoaaDoor

namespace Go.Proofs.YtfkejdocklcpoaaDoor
open Go.RowKit
theorem owns_weak {W:World} {C C' e k n:Nat} {v:Value} {xs:List Value} (h:W.ownsRow C e k v n xs) (hC:C'≤C):W.ownsRow C' e k v n xs:=by
 refine ⟨h.1,?_⟩
 rcases h.2 with h | ⟨g,cap,cur,hv,h1,h2⟩
 · exact .inl h
 · exact .inr ⟨g,cap,cur,hv,Nat.le_trans hC h1,h2⟩
section
variable {bE g k B:Nat} {cur:Array Value} {Wq W X:World} {vc:Value} {c:List In3}
end
end Go.Proofs.YtfkejdocklcpoaaDoor
