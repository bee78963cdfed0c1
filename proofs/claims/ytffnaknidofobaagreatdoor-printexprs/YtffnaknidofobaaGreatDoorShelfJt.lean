/- The library's contracts that the scanner's calls come to, laid over this program: each is one application of a theorem of the shelf. -/
import Derived.Shelf.Strings.Builder1
import Derived.Shelf.Small.Strs
import Derived.Shelf.LaysM
import Derived.Shelf.Strconv.Clone
import Derived.Shelf.LaysC
import Derived.Shelf.Strconv.ToError
import Derived.Shelf.Strconv.Lower
import Derived.Shelf.Strconv.ToErrorRange
import Derived.Shelf.Strconv.ParseIntPublic10
import Derived.Shelf.Strings.Prefix
import Derived.Test.YtffnaknidofobaaGreatDoorProg
namespace Go.Proofs.YtffnaknidofobaaGreatDoor
open Go.Shelf
def Tryz.lays170_ren : Go.Shelf.Ren:=⟨fun | 170 => 67 | n => n,fun | 70 => 36 | 3 => 3 | 0 => 0 | 72 => 39 | 37 => 37 | 5 => 5 | n => n,fun | n => n⟩
set_option maxRecDepth 20000 in
theorem Tryz.lays170 : Go.Proofs.Lays.n170 Tryz.prog Tryz.lays170_ren:={
  mixed:=by kernel_rfl
  f170:=Tryz.func67.trans (congrArg some (by kernel_rfl))
  t0:=Tryz.underlying0
  a0:=Tryz.isAgg0
  z0:=Tryz.sizeOf0
  v0:=Tryz.zeroValue0
  t3:=Tryz.underlying3
  a3:=Tryz.isAgg3
  z3:=Tryz.sizeOf3
  v3:=Tryz.zeroValue3
  t37:=Tryz.underlying37
  a37:=Tryz.isAgg37
  z37:=Tryz.sizeOf37
  v37:=Tryz.zeroValue37
  t70:=Tryz.underlying36
  a70:=Tryz.isAgg36
  z70:=Tryz.sizeOf36
  v70:=Tryz.zeroValue36
  t72:=Tryz.underlying39
  a72:=Tryz.isAgg39
  z72:=Tryz.sizeOf39
  v72:=Tryz.zeroValue39 }
open Go.RowKit in
theorem Tryz.Builder_Len (B b : Nat) (bs : List Value) (w : World) (h : Lib.IsBuilder 39 5 B b bs w) :
    Calls Tryz.prog 67 #[.pointer (some ⟨b,0,none⟩)] w fun e w' => e = .returned (.int .i64 bs.length) ∧ w' = w:=Any.Builder_Len Tryz.lays170 B b bs w h
def Tryz.lays169_ren : Go.Shelf.Ren:=⟨fun | 169 => 33 | n => n,fun | 70 => 36 | 9 => 9 | 0 => 0 | 72 => 39 | 37 => 37 | 127 => 91 | 3 => 3 | 5 => 5 | n => n,fun | n => n⟩
set_option maxRecDepth 20000 in
theorem Tryz.lays169 : Go.Proofs.Lays.n169 Tryz.prog Tryz.lays169_ren:={
  mixed:=by kernel_rfl
  f169:=Tryz.func33.trans (congrArg some (by kernel_rfl))
  t0:=Tryz.underlying0
  a0:=Tryz.isAgg0
  z0:=Tryz.sizeOf0
  v0:=Tryz.zeroValue0
  t3:=Tryz.underlying3
  a3:=Tryz.isAgg3
  z3:=Tryz.sizeOf3
  v3:=Tryz.zeroValue3
  t9:=Tryz.underlying9
  a9:=Tryz.isAgg9
  z9:=Tryz.sizeOf9
  v9:=Tryz.zeroValue9
  t37:=Tryz.underlying37
  a37:=Tryz.isAgg37
  z37:=Tryz.sizeOf37
  v37:=Tryz.zeroValue37
  t70:=Tryz.underlying36
  a70:=Tryz.isAgg36
  z70:=Tryz.sizeOf36
  v70:=Tryz.zeroValue36
  t72:=Tryz.underlying39
  a72:=Tryz.isAgg39
  z72:=Tryz.sizeOf39
  v72:=Tryz.zeroValue39
  t127:=Tryz.underlying91
  a127:=Tryz.isAgg91
  z127:=Tryz.sizeOf91
  v127:=Tryz.zeroValue91 }
set_option maxRecDepth 20000 in
theorem Tryz.Builder_Extra_169 : Builder.Extra Tryz.prog Tryz.lays169_ren:={
  sizeBuilder:=by kernel_rfl
  liesBuilder:=by kernel_rfl
  t5:=Tryz.underlying5
  a5:=Tryz.isAgg5
  z5:=Tryz.sizeOf5
  v5:=Tryz.zeroValue5
  infoByte:=by kernel_rfl
  cellsByte:=by kernel_rfl
  sizeByte:=by kernel_rfl
  neB5:=by decide }
open Go.RowKit in
theorem Tryz.Builder_String_any (B b : Nat) (l : List UInt8) (w : World) (h : Lib.IsBuilder 39 5 B b (Lib.byteCells l) w) (hBw : B ≤ w.heap.size) :
    Calls Tryz.prog 33 #[.pointer (some ⟨b,0,none⟩)] w fun e w' => e = .returned (.string ⟨l.toArray⟩) ∧ Below B w w':=Any.Builder_String_any Tryz.lays169 Tryz.Builder_Extra_169 B b l w h hBw
def Tryz.lays137_ren : Go.Shelf.Ren:=⟨fun | 137 => 159 | 217 => 184 | 266 => 205 | n => n,fun | 9 => 9 | 5 => 5 | 3 => 3 | n => n,fun | n => n⟩
set_option maxRecDepth 20000 in
theorem Tryz.lays137 : Go.Proofs.Lays.n137 Tryz.prog Tryz.lays137_ren:={
  mixed:=by kernel_rfl
  f137:=Tryz.func159.trans (congrArg some (by kernel_rfl))
  f217:=Tryz.func184.trans (congrArg some (by kernel_rfl))
  f266:=Tryz.func205.trans (congrArg some (by kernel_rfl))
  t3:=Tryz.underlying3
  a3:=Tryz.isAgg3
  z3:=Tryz.sizeOf3
  v3:=Tryz.zeroValue3
  t5:=Tryz.underlying5
  a5:=Tryz.isAgg5
  z5:=Tryz.sizeOf5
  v5:=Tryz.zeroValue5
  t9:=Tryz.underlying9
  a9:=Tryz.isAgg9
  z9:=Tryz.sizeOf9
  v9:=Tryz.zeroValue9 }
open Go.RowKit in
theorem Tryz.strings_IndexByte (s : ByteArray) (c : Int) (w : World) :
    Calls Tryz.prog 159 #[.string s,.int .u8 c] w fun e w' => e = .returned (.int .i64 (Lib.indexByte s.data.toList c.toNat.toUInt8)) ∧ w' = w:=Any.strings_IndexByte Tryz.lays137 s c w
def Tryz.laysM316_ren : Go.Shelf.Ren:=⟨fun | 316 => 162 | n => n,fun | 9 => 9 | 3 => 3 | 4 => 4 | 37 => 37 | 0 => 0 | 127 => 91 | 5 => 5 | n => n,fun | n => n⟩
set_option maxRecDepth 20000 in
theorem Tryz.laysM316 : Go.Proofs.LaysM.n316 Tryz.prog Tryz.laysM316_ren:={
  mixed:=by kernel_rfl
  f316:=Tryz.func162.trans (congrArg some (by kernel_rfl))
  t0:=Tryz.underlying0
  a0:=Tryz.isAgg0
  z0:=Tryz.sizeOf0
  v0:=Tryz.zeroValue0
  t3:=Tryz.underlying3
  a3:=Tryz.isAgg3
  z3:=Tryz.sizeOf3
  v3:=Tryz.zeroValue3
  t4:=Tryz.underlying4
  a4:=Tryz.isAgg4
  z4:=Tryz.sizeOf4
  v4:=Tryz.zeroValue4
  t9:=Tryz.underlying9
  a9:=Tryz.isAgg9
  z9:=Tryz.sizeOf9
  v9:=Tryz.zeroValue9
  t37:=Tryz.underlying37
  a37:=Tryz.isAgg37
  z37:=Tryz.sizeOf37
  v37:=Tryz.zeroValue37
  t127:=Tryz.underlying91
  a127:=Tryz.isAgg91
  z127:=Tryz.sizeOf91
  v127:=Tryz.zeroValue91
  t5:=Tryz.underlying5
  a5:=Tryz.isAgg5
  z5:=Tryz.sizeOf5
  v5:=Tryz.zeroValue5
  i0:=by kernel_rfl
  i3:=by kernel_rfl
  i4:=by kernel_rfl
  i5:=by kernel_rfl
  i9:=by kernel_rfl
  i37:=by kernel_rfl
  i127:=by kernel_rfl }
open Go.RowKit in
theorem Tryz.stringslite_Clone (s : ByteArray) (w : World) (hlim : s.size ≤ 281474976710656) :
    Calls Tryz.prog 162 #[.string s] w fun e w' => e = .returned (.string s) ∧ Below w.heap.size w w':=Any.stringslite_Clone Tryz.laysM316 s w hlim
def Tryz.laysC245_ren : Go.Shelf.Ren:=⟨fun | 245 => 164 | 279 => 186 | 280 => 187 | 281 => 188 | 282 => 189 | 316 => 162 | 171 => 75 | 205 => 208 | 243 => 114 | 246 => 148 | 283 => 175 | 284 => 176 | 285 => 177 | 286 => 178 | 129 => 201 | 317 => 200 | 318 => 202 | 319 => 203 | 320 => 204 | 337 => 211 | 338 => 212 | n => n,fun | 9 => 9 | 3 => 3 | 75 => 113 | 167 => 150 | 4 => 4 | 168 => 153 | 210 => 165 | 37 => 37 | 0 => 0 | 127 => 91 | 145 => 171 | 143 => 169 | 2 => 2 | 171 => 145 | 53 => 111 | 5 => 5 | 173 => 148 | 212 => 159 | 51 => 160 | 20 => 20 | 213 => 161 | 46 => 134 | 232 => 173 | 233 => 174 | 80 => 60 | n => n,fun | 15 => 1 | 16 => 2 | 17 => 0 | 18 => 4 | 19 => 5 | n => n⟩
set_option maxRecDepth 20000 in
theorem Tryz.laysC245 : Go.Proofs.LaysC.n245 Tryz.prog Tryz.laysC245_ren:={
  mixed:=by kernel_rfl
  f129:=Tryz.func201.trans (congrArg some (by kernel_rfl))
  f171:=Tryz.func75.trans (congrArg some (by kernel_rfl))
  f205:=Tryz.func208.trans (congrArg some (by kernel_rfl))
  f243:=Tryz.func114.trans (congrArg some (by kernel_rfl))
  f245:=Tryz.func164.trans (congrArg some (by kernel_rfl))
  f246:=Tryz.func148.trans (congrArg some (by kernel_rfl))
  f279:=Tryz.func186.trans (congrArg some (by kernel_rfl))
  f280:=Tryz.func187.trans (congrArg some (by kernel_rfl))
  f281:=Tryz.func188.trans (congrArg some (by kernel_rfl))
  f282:=Tryz.func189.trans (congrArg some (by kernel_rfl))
  f283:=Tryz.func175.trans (congrArg some (by kernel_rfl))
  f284:=Tryz.func176.trans (congrArg some (by kernel_rfl))
  f285:=Tryz.func177.trans (congrArg some (by kernel_rfl))
  f286:=Tryz.func178.trans (congrArg some (by kernel_rfl))
  f316:=Tryz.func162.trans (congrArg some (by kernel_rfl))
  f317:=Tryz.func200.trans (congrArg some (by kernel_rfl))
  f318:=Tryz.func202.trans (congrArg some (by kernel_rfl))
  f319:=Tryz.func203.trans (congrArg some (by kernel_rfl))
  f320:=Tryz.func204.trans (congrArg some (by kernel_rfl))
  f337:=Tryz.func211.trans (congrArg some (by kernel_rfl))
  f338:=Tryz.func212.trans (congrArg some (by kernel_rfl))
  t0:=Tryz.underlying0
  a0:=Tryz.isAgg0
  z0:=Tryz.sizeOf0
  v0:=Tryz.zeroValue0
  t2:=Tryz.underlying2
  a2:=Tryz.isAgg2
  z2:=Tryz.sizeOf2
  v2:=Tryz.zeroValue2
  t3:=Tryz.underlying3
  a3:=Tryz.isAgg3
  z3:=Tryz.sizeOf3
  v3:=Tryz.zeroValue3
  t4:=Tryz.underlying4
  a4:=Tryz.isAgg4
  z4:=Tryz.sizeOf4
  v4:=Tryz.zeroValue4
  t5:=Tryz.underlying5
  a5:=Tryz.isAgg5
  z5:=Tryz.sizeOf5
  v5:=Tryz.zeroValue5
  t9:=Tryz.underlying9
  a9:=Tryz.isAgg9
  z9:=Tryz.sizeOf9
  v9:=Tryz.zeroValue9
  t20:=Tryz.underlying20
  a20:=Tryz.isAgg20
  z20:=Tryz.sizeOf20
  v20:=Tryz.zeroValue20
  t37:=Tryz.underlying37
  a37:=Tryz.isAgg37
  z37:=Tryz.sizeOf37
  v37:=Tryz.zeroValue37
  t46:=Tryz.underlying134
  a46:=Tryz.isAgg134
  z46:=Tryz.sizeOf134
  v46:=Tryz.zeroValue134
  t51:=Tryz.underlying160
  a51:=Tryz.isAgg160
  z51:=Tryz.sizeOf160
  v51:=Tryz.zeroValue160
  t53:=Tryz.underlying111
  a53:=Tryz.isAgg111
  z53:=Tryz.sizeOf111
  v53:=Tryz.zeroValue111
  t75:=Tryz.underlying113
  a75:=Tryz.isAgg113
  z75:=Tryz.sizeOf113
  v75:=Tryz.zeroValue113
  t127:=Tryz.underlying91
  a127:=Tryz.isAgg91
  z127:=Tryz.sizeOf91
  v127:=Tryz.zeroValue91
  t143:=Tryz.underlying169
  a143:=Tryz.isAgg169
  z143:=Tryz.sizeOf169
  v143:=Tryz.zeroValue169
  t145:=Tryz.underlying171
  a145:=Tryz.isAgg171
  z145:=Tryz.sizeOf171
  v145:=Tryz.zeroValue171
  t167:=Tryz.underlying150
  a167:=Tryz.isAgg150
  z167:=Tryz.sizeOf150
  v167:=Tryz.zeroValue150
  t168:=Tryz.underlying153
  a168:=Tryz.isAgg153
  z168:=Tryz.sizeOf153
  v168:=Tryz.zeroValue153
  t171:=Tryz.underlying145
  a171:=Tryz.isAgg145
  z171:=Tryz.sizeOf145
  v171:=Tryz.zeroValue145
  t173:=Tryz.underlying148
  a173:=Tryz.isAgg148
  z173:=Tryz.sizeOf148
  v173:=Tryz.zeroValue148
  t210:=Tryz.underlying165
  a210:=Tryz.isAgg165
  z210:=Tryz.sizeOf165
  v210:=Tryz.zeroValue165
  t212:=Tryz.underlying159
  a212:=Tryz.isAgg159
  z212:=Tryz.sizeOf159
  v212:=Tryz.zeroValue159
  t213:=Tryz.underlying161
  a213:=Tryz.isAgg161
  z213:=Tryz.sizeOf161
  t232:=Tryz.underlying173
  a232:=Tryz.isAgg173
  z232:=Tryz.sizeOf173
  v232:=Tryz.zeroValue173
  t233:=Tryz.underlying174
  a233:=Tryz.isAgg174
  z233:=Tryz.sizeOf174
  v233:=Tryz.zeroValue174
  g15:=by kernel_rfl
  g16:=by kernel_rfl
  g17:=by kernel_rfl
  g18:=by kernel_rfl
  g19:=by kernel_rfl
  t80:=Tryz.underlying60
  a80:=Tryz.isAgg60
  z80:=Tryz.sizeOf60
  v80:=Tryz.zeroValue60
  i0:=by kernel_rfl
  i2:=by kernel_rfl
  i3:=by kernel_rfl
  i4:=by kernel_rfl
  i5:=by kernel_rfl
  i9:=by kernel_rfl
  i20:=by kernel_rfl
  i37:=by kernel_rfl
  i46:=by kernel_rfl
  i51:=by kernel_rfl
  i53:=by kernel_rfl
  i75:=by kernel_rfl
  i80:=by kernel_rfl
  i127:=by kernel_rfl
  i143:=by kernel_rfl
  i145:=by kernel_rfl
  i167:=by kernel_rfl
  i168:=by kernel_rfl
  i171:=by kernel_rfl
  i173:=by kernel_rfl
  i210:=by kernel_rfl
  i212:=by kernel_rfl
  i232:=by kernel_rfl
  i233:=by kernel_rfl
  m15:=by kernel_rfl
  m16:=by kernel_rfl
  m17:=by kernel_rfl
  m18:=by kernel_rfl
  m19:=by kernel_rfl
  c0:=by kernel_rfl
  c2:=by kernel_rfl
  c3:=by kernel_rfl
  c4:=by kernel_rfl
  c5:=by kernel_rfl
  c9:=by kernel_rfl
  c20:=by kernel_rfl
  c37:=by kernel_rfl
  c46:=by kernel_rfl
  c51:=by kernel_rfl
  c53:=by kernel_rfl
  c75:=by kernel_rfl
  c80:=by kernel_rfl
  c127:=by kernel_rfl
  c143:=by kernel_rfl
  c145:=by kernel_rfl
  c167:=by kernel_rfl
  c168:=by kernel_rfl
  c171:=by kernel_rfl
  c173:=by kernel_rfl
  c210:=by kernel_rfl
  c212:=by kernel_rfl
  c213:=by kernel_rfl
  c232:=by kernel_rfl
  c233:=by kernel_rfl }
open Go.RowKit in
theorem Tryz.strconv_toError_syntax (fn s : ByteArray) (base bits : Int) (ev : Value) (w : World) (hlim : s.size ≤ 281474976710656) (hv : w.cell? ⟨1,0,none⟩ = some ev) (hev : ev = .nilIface ∨ ∃ te pe,ev = .iface te pe) :
    Calls Tryz.prog 164 #[.string fn,.string s,.int .i64 base,.int .i64 bits,.iface 150 (.int .i64 2)] w fun e w' => ∃ N,e = .returned (.iface 153 (.pointer (some ⟨N,0,none⟩))) ∧ w.heap.size ≤ N ∧ w'.heap[N]? = some (.cells #[.string fn,.string s,ev] 165 (0,0)) ∧ Below w.heap.size w w':=Any.strconv_toError_syntax Tryz.laysC245 fn s base bits ev w hlim hv hev
def Tryz.lays321_ren : Go.Shelf.Ren:=⟨fun | 321 => 206 | n => n,fun | 5 => 5 | n => n,fun | n => n⟩
set_option maxRecDepth 20000 in
theorem Tryz.lays321 : Go.Proofs.Lays.n321 Tryz.prog Tryz.lays321_ren:={
  mixed:=by kernel_rfl
  f321:=Tryz.func206.trans (congrArg some (by kernel_rfl))
  t5:=Tryz.underlying5
  a5:=Tryz.isAgg5
  z5:=Tryz.sizeOf5
  v5:=Tryz.zeroValue5 }
open Go.RowKit in
theorem Tryz.internal_strconv_lower (c : Int) (w : World) :
    Calls Tryz.prog 206 #[.int .u8 c] w fun e w' => e = .returned (.int .u8 (bits .or .u8 c 32)) ∧ w' = w:=Any.internal_strconv_lower Tryz.lays321 c w
open Go.RowKit in
theorem Tryz.strconv_toError_range (fn s : ByteArray) (base bits : Int) (ev : Value) (w : World) (hlim : s.size ≤ 281474976710656) (hv : w.cell? ⟨2,0,none⟩ = some ev) (hev : ev = .nilIface ∨ ∃ te pe,ev = .iface te pe) :
    Calls Tryz.prog 164 #[.string fn,.string s,.int .i64 base,.int .i64 bits,.iface 150 (.int .i64 1)] w fun e w' => ∃ N,e = .returned (.iface 153 (.pointer (some ⟨N,0,none⟩))) ∧ w.heap.size ≤ N ∧ w'.heap[N]? = some (.cells #[.string fn,.string s,ev] 165 (0,0)) ∧ Below w.heap.size w w':=Any.strconv_toError_range Tryz.laysC245 fn s base bits ev w hlim hv hev
def Tryz.laysC174_ren : Go.Shelf.Ren:=⟨fun | 174 => 135 | 247 => 163 | 245 => 164 | 287 => 185 | 279 => 186 | 280 => 187 | 281 => 188 | 282 => 189 | 321 => 206 | 322 => 207 | 316 => 162 | 171 => 75 | 205 => 208 | 243 => 114 | 246 => 148 | 283 => 175 | 284 => 176 | 285 => 177 | 286 => 178 | 129 => 201 | 317 => 200 | 318 => 202 | 319 => 203 | 320 => 204 | 337 => 211 | 338 => 212 | n => n,fun | 9 => 9 | 3 => 3 | 2 => 2 | 75 => 113 | 85 => 125 | 4 => 4 | 167 => 150 | 5 => 5 | 53 => 111 | 175 => 151 | 46 => 134 | 168 => 153 | 37 => 37 | 0 => 0 | 210 => 165 | 21 => 21 | 127 => 91 | 145 => 171 | 143 => 169 | 171 => 145 | 173 => 148 | 212 => 159 | 51 => 160 | 20 => 20 | 213 => 161 | 232 => 173 | 233 => 174 | 80 => 60 | n => n,fun | 15 => 1 | 16 => 2 | 17 => 0 | 18 => 4 | 19 => 5 | n => n⟩
set_option maxRecDepth 20000 in
theorem Tryz.laysC174 : Go.Proofs.LaysC.n174 Tryz.prog Tryz.laysC174_ren:={
  mixed:=by kernel_rfl
  f129:=Tryz.func201.trans (congrArg some (by kernel_rfl))
  f171:=Tryz.func75.trans (congrArg some (by kernel_rfl))
  f174:=Tryz.func135.trans (congrArg some (by kernel_rfl))
  f205:=Tryz.func208.trans (congrArg some (by kernel_rfl))
  f243:=Tryz.func114.trans (congrArg some (by kernel_rfl))
  f245:=Tryz.func164.trans (congrArg some (by kernel_rfl))
  f246:=Tryz.func148.trans (congrArg some (by kernel_rfl))
  f247:=Tryz.func163.trans (congrArg some (by kernel_rfl))
  f279:=Tryz.func186.trans (congrArg some (by kernel_rfl))
  f280:=Tryz.func187.trans (congrArg some (by kernel_rfl))
  f281:=Tryz.func188.trans (congrArg some (by kernel_rfl))
  f282:=Tryz.func189.trans (congrArg some (by kernel_rfl))
  f283:=Tryz.func175.trans (congrArg some (by kernel_rfl))
  f284:=Tryz.func176.trans (congrArg some (by kernel_rfl))
  f285:=Tryz.func177.trans (congrArg some (by kernel_rfl))
  f286:=Tryz.func178.trans (congrArg some (by kernel_rfl))
  f287:=Tryz.func185.trans (congrArg some (by kernel_rfl))
  f316:=Tryz.func162.trans (congrArg some (by kernel_rfl))
  f317:=Tryz.func200.trans (congrArg some (by kernel_rfl))
  f318:=Tryz.func202.trans (congrArg some (by kernel_rfl))
  f319:=Tryz.func203.trans (congrArg some (by kernel_rfl))
  f320:=Tryz.func204.trans (congrArg some (by kernel_rfl))
  f321:=Tryz.func206.trans (congrArg some (by kernel_rfl))
  f322:=Tryz.func207.trans (congrArg some (by kernel_rfl))
  f337:=Tryz.func211.trans (congrArg some (by kernel_rfl))
  f338:=Tryz.func212.trans (congrArg some (by kernel_rfl))
  t0:=Tryz.underlying0
  a0:=Tryz.isAgg0
  z0:=Tryz.sizeOf0
  v0:=Tryz.zeroValue0
  t2:=Tryz.underlying2
  a2:=Tryz.isAgg2
  z2:=Tryz.sizeOf2
  v2:=Tryz.zeroValue2
  t3:=Tryz.underlying3
  a3:=Tryz.isAgg3
  z3:=Tryz.sizeOf3
  v3:=Tryz.zeroValue3
  t4:=Tryz.underlying4
  a4:=Tryz.isAgg4
  z4:=Tryz.sizeOf4
  v4:=Tryz.zeroValue4
  t5:=Tryz.underlying5
  a5:=Tryz.isAgg5
  z5:=Tryz.sizeOf5
  v5:=Tryz.zeroValue5
  t9:=Tryz.underlying9
  a9:=Tryz.isAgg9
  z9:=Tryz.sizeOf9
  v9:=Tryz.zeroValue9
  t20:=Tryz.underlying20
  a20:=Tryz.isAgg20
  z20:=Tryz.sizeOf20
  v20:=Tryz.zeroValue20
  t21:=Tryz.underlying21
  a21:=Tryz.isAgg21
  z21:=Tryz.sizeOf21
  v21:=Tryz.zeroValue21
  t37:=Tryz.underlying37
  a37:=Tryz.isAgg37
  z37:=Tryz.sizeOf37
  v37:=Tryz.zeroValue37
  t46:=Tryz.underlying134
  a46:=Tryz.isAgg134
  z46:=Tryz.sizeOf134
  v46:=Tryz.zeroValue134
  t51:=Tryz.underlying160
  a51:=Tryz.isAgg160
  z51:=Tryz.sizeOf160
  v51:=Tryz.zeroValue160
  t53:=Tryz.underlying111
  a53:=Tryz.isAgg111
  z53:=Tryz.sizeOf111
  v53:=Tryz.zeroValue111
  t75:=Tryz.underlying113
  a75:=Tryz.isAgg113
  z75:=Tryz.sizeOf113
  v75:=Tryz.zeroValue113
  t85:=Tryz.underlying125
  a85:=Tryz.isAgg125
  z85:=Tryz.sizeOf125
  v85:=Tryz.zeroValue125
  t127:=Tryz.underlying91
  a127:=Tryz.isAgg91
  z127:=Tryz.sizeOf91
  v127:=Tryz.zeroValue91
  t143:=Tryz.underlying169
  a143:=Tryz.isAgg169
  z143:=Tryz.sizeOf169
  v143:=Tryz.zeroValue169
  t145:=Tryz.underlying171
  a145:=Tryz.isAgg171
  z145:=Tryz.sizeOf171
  v145:=Tryz.zeroValue171
  t167:=Tryz.underlying150
  a167:=Tryz.isAgg150
  z167:=Tryz.sizeOf150
  v167:=Tryz.zeroValue150
  t168:=Tryz.underlying153
  a168:=Tryz.isAgg153
  z168:=Tryz.sizeOf153
  v168:=Tryz.zeroValue153
  t171:=Tryz.underlying145
  a171:=Tryz.isAgg145
  z171:=Tryz.sizeOf145
  v171:=Tryz.zeroValue145
  t173:=Tryz.underlying148
  a173:=Tryz.isAgg148
  z173:=Tryz.sizeOf148
  v173:=Tryz.zeroValue148
  t175:=Tryz.underlying151
  a175:=Tryz.isAgg151
  z175:=Tryz.sizeOf151
  v175:=Tryz.zeroValue151
  t210:=Tryz.underlying165
  a210:=Tryz.isAgg165
  z210:=Tryz.sizeOf165
  v210:=Tryz.zeroValue165
  t212:=Tryz.underlying159
  a212:=Tryz.isAgg159
  z212:=Tryz.sizeOf159
  v212:=Tryz.zeroValue159
  t213:=Tryz.underlying161
  a213:=Tryz.isAgg161
  z213:=Tryz.sizeOf161
  t232:=Tryz.underlying173
  a232:=Tryz.isAgg173
  z232:=Tryz.sizeOf173
  v232:=Tryz.zeroValue173
  t233:=Tryz.underlying174
  a233:=Tryz.isAgg174
  z233:=Tryz.sizeOf174
  v233:=Tryz.zeroValue174
  g15:=by kernel_rfl
  g16:=by kernel_rfl
  g17:=by kernel_rfl
  g18:=by kernel_rfl
  g19:=by kernel_rfl
  t80:=Tryz.underlying60
  a80:=Tryz.isAgg60
  z80:=Tryz.sizeOf60
  v80:=Tryz.zeroValue60
  i0:=by kernel_rfl
  i2:=by kernel_rfl
  i3:=by kernel_rfl
  i4:=by kernel_rfl
  i5:=by kernel_rfl
  i9:=by kernel_rfl
  i20:=by kernel_rfl
  i21:=by kernel_rfl
  i37:=by kernel_rfl
  i46:=by kernel_rfl
  i51:=by kernel_rfl
  i53:=by kernel_rfl
  i75:=by kernel_rfl
  i80:=by kernel_rfl
  i85:=by kernel_rfl
  i127:=by kernel_rfl
  i143:=by kernel_rfl
  i145:=by kernel_rfl
  i167:=by kernel_rfl
  i168:=by kernel_rfl
  i171:=by kernel_rfl
  i173:=by kernel_rfl
  i175:=by kernel_rfl
  i210:=by kernel_rfl
  i212:=by kernel_rfl
  i232:=by kernel_rfl
  i233:=by kernel_rfl
  m15:=by kernel_rfl
  m16:=by kernel_rfl
  m17:=by kernel_rfl
  m18:=by kernel_rfl
  m19:=by kernel_rfl
  c0:=by kernel_rfl
  c2:=by kernel_rfl
  c3:=by kernel_rfl
  c4:=by kernel_rfl
  c5:=by kernel_rfl
  c9:=by kernel_rfl
  c20:=by kernel_rfl
  c21:=by kernel_rfl
  c37:=by kernel_rfl
  c46:=by kernel_rfl
  c51:=by kernel_rfl
  c53:=by kernel_rfl
  c75:=by kernel_rfl
  c80:=by kernel_rfl
  c85:=by kernel_rfl
  c127:=by kernel_rfl
  c143:=by kernel_rfl
  c145:=by kernel_rfl
  c167:=by kernel_rfl
  c168:=by kernel_rfl
  c171:=by kernel_rfl
  c173:=by kernel_rfl
  c175:=by kernel_rfl
  c210:=by kernel_rfl
  c212:=by kernel_rfl
  c213:=by kernel_rfl
  c232:=by kernel_rfl
  c233:=by kernel_rfl }
open Go.RowKit in
theorem Tryz.strconv_ParseInt_10_at64_ok (s : ByteArray) (hmax : s.size ≤ 9223372036854775806) (v : Int) (h : Lib.parseIntB 64 s.data.toList = .ok v) (w : World) :
    Calls Tryz.prog 135 #[.string s,.int .i64 10,.int .i64 64] w fun e w' => e = .returned (.tuple #[.int .i64 v,.nilIface]) ∧ (w' = w ∨ ∃ t,w' = Lib.bytesWorld w 5 t):=Any.strconv_ParseInt_10_at64_ok Tryz.laysC174 s hmax v h w
open Go.RowKit in
theorem Tryz.strconv_ParseInt_10_at64_range (s : ByteArray) (hlim : s.size ≤ 281474976710656) (h : Lib.parseIntB 64 s.data.toList = .range) (ev : Value) (w : World) (hv : w.cell? ⟨2,0,none⟩ = some ev) (hev : ev = .nilIface ∨ ∃ te pe,ev = .iface te pe) :
    Calls Tryz.prog 135 #[.string s,.int .i64 10,.int .i64 64] w fun e w' => ∃ N,e = .returned (.tuple #[.int .i64 (Lib.intSat 64 s.data.toList),.iface 153 (.pointer (some ⟨N,0,none⟩))]) ∧ w.heap.size ≤ N ∧ w'.heap[N]? = some (.cells #[.string ⟨#[80,97,114,115,101,73,110,116]⟩,.string s,ev] 165 (0,0)) ∧ Below w.heap.size w w':=Any.strconv_ParseInt_10_at64_range Tryz.laysC174 s hlim h ev w hv hev
def Tryz.lays99_ren : Go.Shelf.Ren:=⟨fun | 99 => 90 | 206 => 132 | n => n,fun | 9 => 9 | 4 => 4 | 3 => 3 | n => n,fun | n => n⟩
set_option maxRecDepth 20000 in
theorem Tryz.lays99 : Go.Proofs.Lays.n99 Tryz.prog Tryz.lays99_ren:={
  mixed:=by kernel_rfl
  f99:=Tryz.func90.trans (congrArg some (by kernel_rfl))
  f206:=Tryz.func132.trans (congrArg some (by kernel_rfl))
  t3:=Tryz.underlying3
  a3:=Tryz.isAgg3
  z3:=Tryz.sizeOf3
  v3:=Tryz.zeroValue3
  t4:=Tryz.underlying4
  a4:=Tryz.isAgg4
  z4:=Tryz.sizeOf4
  v4:=Tryz.zeroValue4
  t9:=Tryz.underlying9
  a9:=Tryz.isAgg9
  z9:=Tryz.sizeOf9
  v9:=Tryz.zeroValue9 }
open Go.RowKit Go.Lib in
theorem Tryz.strings_HasPrefix (s p : ByteArray) (w : World) :
    Calls Tryz.prog 90 #[.string s,.string p] w fun e w' => e = .returned (.bool (Lib.hasPrefix s.data.toList p.data.toList)) ∧ w' = w:=Any.strings_HasPrefix Tryz.lays99 s p w
def Tryz.lays240_ren : Go.Shelf.Ren:=⟨fun | 240 => 147 | 276 => 174 | n => n,fun | 0 => 0 | 4 => 4 | 9 => 9 | 20 => 20 | 70 => 36 | 72 => 39 | 37 => 37 | 164 => 143 | n => n,fun | n => n⟩
set_option maxRecDepth 20000 in
theorem Tryz.lays240 : Go.Proofs.Lays.n240 Tryz.prog Tryz.lays240_ren:={
  mixed:=by kernel_rfl
  f240:=Tryz.func147.trans (congrArg some (by kernel_rfl))
  f276:=Tryz.func174.trans (congrArg some (by kernel_rfl))
  t0:=Tryz.underlying0
  a0:=Tryz.isAgg0
  z0:=Tryz.sizeOf0
  v0:=Tryz.zeroValue0
  t4:=Tryz.underlying4
  a4:=Tryz.isAgg4
  z4:=Tryz.sizeOf4
  v4:=Tryz.zeroValue4
  t9:=Tryz.underlying9
  a9:=Tryz.isAgg9
  z9:=Tryz.sizeOf9
  v9:=Tryz.zeroValue9
  t20:=Tryz.underlying20
  a20:=Tryz.isAgg20
  z20:=Tryz.sizeOf20
  v20:=Tryz.zeroValue20
  t70:=Tryz.underlying36
  a70:=Tryz.isAgg36
  z70:=Tryz.sizeOf36
  v70:=Tryz.zeroValue36
  t72:=Tryz.underlying39
  a72:=Tryz.isAgg39
  z72:=Tryz.sizeOf39
  v72:=Tryz.zeroValue39
  t164:=Tryz.underlying143
  a164:=Tryz.isAgg143
  z164:=Tryz.sizeOf143
  v164:=Tryz.zeroValue143 }
def Tryz.lays166_ren : Go.Shelf.Ren:=⟨fun | 166 => 112 | 240 => 147 | 276 => 174 | n => n,fun | 0 => 0 | 4 => 4 | 9 => 9 | 20 => 20 | 70 => 36 | 72 => 39 | 37 => 37 | 164 => 143 | 3 => 3 | 5 => 5 | 75 => 113 | 80 => 60 | n => n,fun | n => n⟩
set_option maxRecDepth 20000 in
theorem Tryz.lays166 : Go.Proofs.Lays.n166 Tryz.prog Tryz.lays166_ren:={
  mixed:=by kernel_rfl
  f166:=Tryz.func112.trans (congrArg some (by kernel_rfl))
  f240:=Tryz.func147.trans (congrArg some (by kernel_rfl))
  f276:=Tryz.func174.trans (congrArg some (by kernel_rfl))
  t0:=Tryz.underlying0
  a0:=Tryz.isAgg0
  z0:=Tryz.sizeOf0
  v0:=Tryz.zeroValue0
  t3:=Tryz.underlying3
  a3:=Tryz.isAgg3
  z3:=Tryz.sizeOf3
  v3:=Tryz.zeroValue3
  t4:=Tryz.underlying4
  a4:=Tryz.isAgg4
  z4:=Tryz.sizeOf4
  v4:=Tryz.zeroValue4
  t9:=Tryz.underlying9
  a9:=Tryz.isAgg9
  z9:=Tryz.sizeOf9
  v9:=Tryz.zeroValue9
  t20:=Tryz.underlying20
  a20:=Tryz.isAgg20
  z20:=Tryz.sizeOf20
  v20:=Tryz.zeroValue20
  t37:=Tryz.underlying37
  a37:=Tryz.isAgg37
  z37:=Tryz.sizeOf37
  v37:=Tryz.zeroValue37
  t70:=Tryz.underlying36
  a70:=Tryz.isAgg36
  z70:=Tryz.sizeOf36
  v70:=Tryz.zeroValue36
  t72:=Tryz.underlying39
  a72:=Tryz.isAgg39
  z72:=Tryz.sizeOf39
  v72:=Tryz.zeroValue39
  t75:=Tryz.underlying113
  a75:=Tryz.isAgg113
  z75:=Tryz.sizeOf113
  v75:=Tryz.zeroValue113
  t164:=Tryz.underlying143
  a164:=Tryz.isAgg143
  z164:=Tryz.sizeOf143
  v164:=Tryz.zeroValue143 }
def Tryz.lays167_ren : Go.Shelf.Ren:=⟨fun | 167 => 111 | 240 => 147 | 276 => 174 | n => n,fun | 0 => 0 | 4 => 4 | 9 => 9 | 20 => 20 | 70 => 36 | 72 => 39 | 37 => 37 | 164 => 143 | 3 => 3 | 5 => 5 | 75 => 113 | 80 => 60 | n => n,fun | n => n⟩
set_option maxRecDepth 20000 in
theorem Tryz.lays167 : Go.Proofs.Lays.n167 Tryz.prog Tryz.lays167_ren:={
  mixed:=by kernel_rfl
  f167:=Tryz.func111.trans (congrArg some (by kernel_rfl))
  f240:=Tryz.func147.trans (congrArg some (by kernel_rfl))
  f276:=Tryz.func174.trans (congrArg some (by kernel_rfl))
  t0:=Tryz.underlying0
  a0:=Tryz.isAgg0
  z0:=Tryz.sizeOf0
  v0:=Tryz.zeroValue0
  t4:=Tryz.underlying4
  a4:=Tryz.isAgg4
  z4:=Tryz.sizeOf4
  v4:=Tryz.zeroValue4
  t5:=Tryz.underlying5
  a5:=Tryz.isAgg5
  z5:=Tryz.sizeOf5
  v5:=Tryz.zeroValue5
  t9:=Tryz.underlying9
  a9:=Tryz.isAgg9
  z9:=Tryz.sizeOf9
  v9:=Tryz.zeroValue9
  t20:=Tryz.underlying20
  a20:=Tryz.isAgg20
  z20:=Tryz.sizeOf20
  v20:=Tryz.zeroValue20
  t37:=Tryz.underlying37
  a37:=Tryz.isAgg37
  z37:=Tryz.sizeOf37
  v37:=Tryz.zeroValue37
  t70:=Tryz.underlying36
  a70:=Tryz.isAgg36
  z70:=Tryz.sizeOf36
  v70:=Tryz.zeroValue36
  t72:=Tryz.underlying39
  a72:=Tryz.isAgg39
  z72:=Tryz.sizeOf39
  v72:=Tryz.zeroValue39
  t75:=Tryz.underlying113
  a75:=Tryz.isAgg113
  z75:=Tryz.sizeOf113
  v75:=Tryz.zeroValue113
  t164:=Tryz.underlying143
  a164:=Tryz.isAgg143
  z164:=Tryz.sizeOf143
  v164:=Tryz.zeroValue143 }
set_option maxRecDepth 20000 in
theorem Tryz.Builder_Extra_167 : Builder.Extra Tryz.prog Tryz.lays167_ren:={
  sizeBuilder:=by kernel_rfl
  liesBuilder:=by kernel_rfl
  t5:=Tryz.underlying5
  a5:=Tryz.isAgg5
  z5:=Tryz.sizeOf5
  v5:=Tryz.zeroValue5
  infoByte:=by kernel_rfl
  cellsByte:=by kernel_rfl
  sizeByte:=by kernel_rfl
  neB5:=by decide }
set_option maxRecDepth 20000 in
theorem Tryz.Builder_Extra_166 : Builder.Extra Tryz.prog Tryz.lays166_ren:={
  sizeBuilder:=by kernel_rfl
  liesBuilder:=by kernel_rfl
  t5:=Tryz.underlying5
  a5:=Tryz.isAgg5
  z5:=Tryz.sizeOf5
  v5:=Tryz.zeroValue5
  infoByte:=by kernel_rfl
  cellsByte:=by kernel_rfl
  sizeByte:=by kernel_rfl
  neB5:=by decide }
open Go.RowKit in
theorem Tryz.Builder_WriteByte (B b : Nat) (bs : List Value) (c : Int) (w : World) (h : Lib.IsBuilder 39 5 B b bs w) (hlen : bs.length + 1 ≤ 140737488355328) (hBw : B ≤ w.heap.size) :
    Calls Tryz.prog 111 #[.pointer (some ⟨b,0,none⟩),.int .u8 c] w fun e w' => e = .returned .nilIface ∧ (Lib.BuilderAt 39 5 B b (.pointer (some ⟨b,0,none⟩)) (bs ++ [.int .u8 c]) w' ∧ Below B w w'):=Any.Builder_WriteByte Tryz.lays167 Tryz.Builder_Extra_167 B b bs c w h hlen hBw
open Go.RowKit in
theorem Tryz.Builder_WriteString (B b : Nat) (bs : List Value) (s : ByteArray) (w : World) (h : Lib.IsBuilder 39 5 B b bs w) (hlen : bs.length + s.size ≤ 140737488355328) (hBw : B ≤ w.heap.size) :
    Calls Tryz.prog 112 #[.pointer (some ⟨b,0,none⟩),.string s] w fun e w' => e = .returned (.tuple #[.int .i64 s.size,.nilIface]) ∧ (Lib.BuilderAt 39 5 B b (.pointer (some ⟨b,0,none⟩)) (bs ++ Lib.strCells s) w' ∧ Below B w w'):=Any.Builder_WriteString Tryz.lays166 Tryz.Builder_Extra_166 B b bs s w h hlen hBw
end Go.Proofs.YtffnaknidofobaaGreatDoor
