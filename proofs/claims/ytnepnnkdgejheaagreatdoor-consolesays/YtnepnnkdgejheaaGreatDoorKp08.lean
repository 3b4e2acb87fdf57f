import Derived.Lib.Atoi
import Derived.Lib.SlTrimSet
import Derived.Lib.Strings
import Derived.Lib.SmallJoins
import Derived.Shelf.Bits.Mul64
import Derived.Shelf.LaysM
import Derived.Shelf.Strconv.Atoi
import Derived.Shelf.Strconv.Itoa3
import Derived.Shelf.Strings.OnBuilder
import Derived.Shelf.Strings.Prefix
import Derived.Shelf.Strings.SlTrimAscii
import Derived.Shelf.Strings.Split
import Derived.Shelf.Strings.Trim
import Derived.Test.YtnepnnkdgejheaaGreatDoorKp00
set_option maxRecDepth 100000
set_option maxHeartbeats 20000000
namespace Go.Proofs.YtnepnnkdgejheaaGreatDoor.Plain
def AB(l:List UInt8):List UInt8:=if l.head?=some 45 then l.tail else l
def Yq(b:UInt8):Bool:=decide (48<=b.toNat)&&decide (b.toNat<=57)
def BC(d:List UInt8):Nat->Int
 |0=>0
 |k+1=>10*BC d k+((d.getD k 48).toNat-48:Int)
def BD(l:List UInt8):Bool:=!(AB l).isEmpty&&decide ((AB l).length<=10)&&!((AB l).head?==some 48&&!(l==[48]))&&(AB l).all Yq
def LF(l:List UInt8):Int:=if l.head?=some 45 then-BC (AB l) (AB l).length else BC (AB l) (AB l).length
theorem Jq8(l:List UInt8):Lib.trimPrefix l [45]=AB l:=by
 unfold Lib.trimPrefix AB Lib.hasPrefix
 cases l with
 |nil=>rfl
 |cons b r=>
  by_cases h:b=45
  . subst h;simp
  . simp[List.isPrefixOf,h,Ne.symm h]
theorem NZ{p:UInt8->Bool}:∀{l:List UInt8},l.dropWhile p=[]↔l.all p=true
 |[]=>by simp
 |b::r=>by
  rw[List.dropWhile_cons]
  cases h:p b
  . simp[h]
  . simp[h,NZ (l:=r)]
theorem Jcu{l cs:List UInt8}:Lib.trimS l cs=[]↔l.all (cs.contains ·)=true:=by
 unfold Lib.trimS Lib.trimLeftS Lib.trimRightS
 rw[NZ]
 constructor
 . intro h
   rcases Classical.em (l.all (cs.contains ·)=true) with e|e
   . exact e
   . exfalso
     have ha:l.reverse.dropWhile (cs.contains ·)≠[]:=fun y=>e (by simpa using NZ.1 y);have:=List.head_dropWhile_not (cs.contains ·) ha;simp only[List.all_reverse] at h;have h2:=List.all_eq_true.1 h _ (List.head_mem ha)
     simp_all
 . intro h;have:l.reverse.dropWhile (cs.contains ·)=[]:=NZ.2 (by simpa using h);rw[this];rfl
theorem Jog(b:UInt8):([48,49,50,51,52,53,54,55,56,57]:List UInt8).contains b=Yq b:=by
 rw[Bool.eq_iff_iff];simp only[Yq,List.contains_iff_mem,List.mem_cons,List.not_mem_nil,or_false,Bool.and_eq_true,decide_eq_true_eq,<-UInt8.toNat_inj]
 change (b.toNat=48\/b.toNat=49\/b.toNat=50\/b.toNat=51\/b.toNat=52\/b.toNat=53\/b.toNat=54\/b.toNat=55\/b.toNat=56\/b.toNat=57)↔_
 omega
theorem QN{d:List UInt8}(h:d.all Yq=true):∀k,k<=d.length->∃n:Nat,Lib.decFrom 0 (d.take k)=some n/\(n:Int)=BC d k
 |0,_=>⟨0,rfl,rfl⟩
 |k+1,hk=>by
  obtain⟨n,h1,h2⟩:=QN h k (by omega);have y:=List.all_eq_true.1 h d[k] (List.getElem_mem (by omega));simp only[Yq,Bool.and_eq_true,decide_eq_true_eq] at y;refine⟨n*10+(d[k].toNat-48),Lib.decFrom_take d k 0 n d[k] _ h1 (List.getElem?_eq_getElem (by omega)) (by unfold Lib.digitVal;rw[if_pos y]),?_⟩;rw[BC,List.getD_eq_getElem?_getD,List.getElem?_eq_getElem (by omega),<-h2];simp only[Option.getD_some]
  omega
theorem I7{d:List UInt8}(h:d.all Yq=true):∀k,k<=d.length->0<=BC d k/\BC d k<10^k
 |0,_=>by simp[BC]
 |k+1,hk=>by
  have j:=I7 h k (by omega);have y:=List.all_eq_true.1 h d[k] (List.getElem_mem (by omega));simp only[Yq,Bool.and_eq_true,decide_eq_true_eq] at y;rw[BC,List.getD_eq_getElem?_getD,List.getElem?_eq_getElem (by omega)];simp only[Option.getD_some,Int.pow_succ]
  omega
theorem Jcv{l:List UInt8}(h:BD l=true):Lib.atoi l=some (LF l):=by
 simp only[BD,Bool.and_eq_true,decide_eq_true_eq] at h;obtain⟨⟨⟨h1,h2⟩,h3⟩,h4⟩:=h;obtain⟨n,j,m⟩:=QN h4 _ (Nat.le_refl _);rw[List.take_length] at j
 have hd:Lib.decNat (AB l)=some n:=by unfold Lib.decNat;rw[if_neg (by simpa using h1)];exact j
 unfold LF
 rw[<-m]
 cases l with
 |nil=>simp[AB] at h1
 |cons b r=>
  by_cases y:b=45
  . subst y;have:AB (45::r)=r:=rfl;rw[this] at hd
    simp[Lib.atoi,hd]
  . have e:AB (b::r)=b::r:=by simp[AB,y]
    rw[e] at hd h4
    have ha:¬b=43:=fun e43=>by subst e43;simp[Yq] at h4
    simp[Lib.atoi,hd,y,ha]
theorem Jkq{l:List UInt8}(h:BD l=true):-10000000000<LF l/\LF l<10000000000:=by
 simp only[BD,Bool.and_eq_true,decide_eq_true_eq] at h;obtain⟨⟨⟨h1,h2⟩,h3⟩,h4⟩:=h;have:=I7 h4 _ (Nat.le_refl _)
 have ha:(10:Int)^(AB l).length<=10^10:=by
  generalize (AB l).length=k at h2
  rcases(show k=0\/k=1\/k=2\/k=3\/k=4\/k=5\/k=6\/k=7\/k=8\/k=9\/k=10 by omega) with rfl|rfl|rfl|rfl|rfl|rfl|rfl|rfl|rfl|rfl|rfl<;>decide
 unfold LF
 split<;>omega
end Go.Proofs.YtnepnnkdgejheaaGreatDoor.Plain
namespace Go.Proofs.YtnepnnkdgejheaaGreatDoor
open Go.Shelf Tryz
theorem Fx{α:Type}{x:Option α}{f g:α}(h:x=some f)(e:f=g:=by kernel_rfl):x=some g:=e▸h
def FX:Go.Shelf.Ren:=⟨fun|156=>114|165=>172|166=>173|169=>174|240=>228|241=>229|276=>271|277=>272|n=>n,fun|31=>24|9=>9|3=>3|4=>4|0=>0|20=>20|72=>270|76=>137|70=>268|37=>248|75=>27|127=>340|164=>203|5=>5|80=>80|n=>n,fun|n=>n⟩
theorem Jkr:Go.Proofs.Lays.n156 prog FX:={
 mixed:=by kernel_rfl
 f156:=Fx func114
 f165:=Fx func172
 f166:=Fx func173
 f169:=Fx func174
 f240:=Fx func228
 f241:=Fx func229
 f276:=Fx func271
 f277:=Fx func272
 t0:=underlying0
 a0:=Tryz.isAgg0
 z0:=Tryz.sizeOf0
 v0:=Tryz.zeroValue0
 t3:=underlying3
 a3:=Tryz.isAgg3
 z3:=Tryz.sizeOf3
 v3:=Tryz.zeroValue3
 t4:=underlying4
 a4:=Tryz.isAgg4
 z4:=Tryz.sizeOf4
 v4:=Tryz.zeroValue4
 t9:=underlying9
 a9:=Tryz.isAgg9
 z9:=Tryz.sizeOf9
 v9:=Tryz.zeroValue9
 t20:=underlying20
 a20:=Tryz.isAgg20
 z20:=Tryz.sizeOf20
 v20:=Tryz.zeroValue20
 t31:=underlying24
 a31:=Tryz.isAgg24
 z31:=Tryz.sizeOf24
 v31:=Tryz.zeroValue24
 t37:=underlying248
 a37:=Tryz.isAgg248
 z37:=Tryz.sizeOf248
 v37:=Tryz.zeroValue248
 t70:=underlying268
 a70:=Tryz.isAgg268
 z70:=Tryz.sizeOf268
 v70:=Tryz.zeroValue268
 t72:=underlying270
 a72:=Tryz.isAgg270
 z72:=Tryz.sizeOf270
 v72:=Tryz.zeroValue270
 t75:=underlying27
 a75:=Tryz.isAgg27
 z75:=Tryz.sizeOf27
 v75:=Tryz.zeroValue27
 t76:=underlying137
 a76:=Tryz.isAgg137
 z76:=Tryz.sizeOf137
 v76:=Tryz.zeroValue137
 t127:=underlying340
 a127:=Tryz.isAgg340
 z127:=Tryz.sizeOf340
 v127:=Tryz.zeroValue340
 t164:=underlying203
 a164:=Tryz.isAgg203
 z164:=Tryz.sizeOf203
 v164:=Tryz.zeroValue203 }
def QQ:Go.Shelf.Ren:=⟨fun|160=>169|232=>217|231=>216|227=>218|234=>220|233=>219|236=>222|235=>221|228=>265|271=>267|151=>266|197=>67|120=>302|152=>301|260=>120|137=>339|119=>340|224=>123|225=>122|217=>121|266=>178|n=>n,fun|9=>9|4=>4|3=>3|5=>5|117=>330|116=>329|0=>0|124=>333|21=>21|105=>145|46=>190|119=>285|139=>288|138=>287|n=>n,fun|3=>3|4=>4|n=>n⟩
theorem Jks:Go.Proofs.Lays.n160 prog QQ:={
 mixed:=by kernel_rfl
 f119:=Fx func340
 f120:=Fx func302
 f137:=Fx func339
 f151:=Fx func266
 f152:=Fx func301
 f160:=Fx func169
 f197:=Fx func67
 f217:=Fx func121
 f224:=Fx func123
 f225:=Fx func122
 f227:=Fx func218
 f228:=Fx func265
 f231:=Fx func216
 f232:=Fx func217
 f233:=Fx func219
 f234:=Fx func220
 f235:=Fx func221
 f236:=Fx func222
 f260:=Fx func120
 f266:=Fx func178
 f271:=Fx func267
 t0:=underlying0
 a0:=Tryz.isAgg0
 z0:=Tryz.sizeOf0
 v0:=Tryz.zeroValue0
 t3:=underlying3
 a3:=Tryz.isAgg3
 z3:=Tryz.sizeOf3
 v3:=Tryz.zeroValue3
 t4:=underlying4
 a4:=Tryz.isAgg4
 z4:=Tryz.sizeOf4
 v4:=Tryz.zeroValue4
 t5:=underlying5
 a5:=Tryz.isAgg5
 z5:=Tryz.sizeOf5
 v5:=Tryz.zeroValue5
 t9:=underlying9
 a9:=Tryz.isAgg9
 z9:=Tryz.sizeOf9
 v9:=Tryz.zeroValue9
 t21:=underlying21
 a21:=Tryz.isAgg21
 z21:=Tryz.sizeOf21
 v21:=Tryz.zeroValue21
 t46:=underlying190
 a46:=Tryz.isAgg190
 z46:=Tryz.sizeOf190
 v46:=Tryz.zeroValue190
 t105:=underlying145
 a105:=Tryz.isAgg145
 z105:=Tryz.sizeOf145
 v105:=Tryz.zeroValue145
 t116:=underlying329
 a116:=Tryz.isAgg329
 z116:=Tryz.sizeOf329
 t117:=underlying330
 a117:=Tryz.isAgg330
 z117:=Tryz.sizeOf330
 v117:=Tryz.zeroValue330
 t119:=underlying285
 a119:=Tryz.isAgg285
 z119:=Tryz.sizeOf285
 t124:=underlying333
 a124:=Tryz.isAgg333
 z124:=Tryz.sizeOf333
 v124:=Tryz.zeroValue333
 t138:=underlying287
 a138:=Tryz.isAgg287
 z138:=Tryz.sizeOf287
 v138:=Tryz.zeroValue287
 t139:=underlying288
 a139:=Tryz.isAgg288
 z139:=Tryz.sizeOf288
 v139:=Tryz.zeroValue288
 g3:=by kernel_rfl
 g4:=by kernel_rfl }
def QU:Go.Shelf.Ren:=⟨fun|172=>113|244=>170|245=>171|247=>223|279=>224|280=>225|281=>226|282=>227|287=>268|316=>269|171=>27|205=>270|321=>303|322=>304|243=>52|246=>84|283=>140|284=>141|285=>142|286=>143|129=>190|317=>189|318=>191|319=>192|320=>193|337=>236|338=>237|n=>n,fun|9=>9|3=>3|75=>27|76=>137|4=>4|5=>5|167=>334|37=>248|0=>0|85=>335|2=>2|168=>337|53=>245|175=>372|46=>190|210=>376|127=>340|145=>413|143=>411|21=>21|171=>244|173=>249|212=>298|51=>115|20=>20|213=>299|232=>380|233=>381|80=>80|n=>n,fun|15=>6|16=>7|17=>5|18=>8|19=>9|n=>n⟩
theorem Jkt:Go.Proofs.Lays.n172 prog QU:={
 mixed:=by kernel_rfl
 f129:=Fx func190
 f171:=Fx func27
 f172:=Fx func113
 f205:=Fx func270
 f243:=Fx func52
 f244:=Fx func170
 f245:=Fx func171
 f246:=Fx func84
 f247:=Fx func223
 f279:=Fx func224
 f280:=Fx func225
 f281:=Fx func226
 f282:=Fx func227
 f283:=Fx func140
 f284:=Fx func141
 f285:=Fx func142
 f286:=Fx func143
 f287:=Fx func268
 f316:=Fx func269
 f317:=Fx func189
 f318:=Fx func191
 f319:=Fx func192
 f320:=Fx func193
 f321:=Fx func303
 f322:=Fx func304
 f337:=Fx func236
 f338:=Fx func237
 t0:=underlying0
 a0:=Tryz.isAgg0
 z0:=Tryz.sizeOf0
 v0:=Tryz.zeroValue0
 t2:=underlying2
 a2:=Tryz.isAgg2
 z2:=Tryz.sizeOf2
 v2:=Tryz.zeroValue2
 t3:=underlying3
 a3:=Tryz.isAgg3
 z3:=Tryz.sizeOf3
 v3:=Tryz.zeroValue3
 t4:=underlying4
 a4:=Tryz.isAgg4
 z4:=Tryz.sizeOf4
 v4:=Tryz.zeroValue4
 t5:=underlying5
 a5:=Tryz.isAgg5
 z5:=Tryz.sizeOf5
 v5:=Tryz.zeroValue5
 t9:=underlying9
 a9:=Tryz.isAgg9
 z9:=Tryz.sizeOf9
 v9:=Tryz.zeroValue9
 t20:=underlying20
 a20:=Tryz.isAgg20
 z20:=Tryz.sizeOf20
 v20:=Tryz.zeroValue20
 t21:=underlying21
 a21:=Tryz.isAgg21
 z21:=Tryz.sizeOf21
 v21:=Tryz.zeroValue21
 t37:=underlying248
 a37:=Tryz.isAgg248
 z37:=Tryz.sizeOf248
 v37:=Tryz.zeroValue248
 t46:=underlying190
 a46:=Tryz.isAgg190
 z46:=Tryz.sizeOf190
 v46:=Tryz.zeroValue190
 t51:=underlying115
 a51:=Tryz.isAgg115
 z51:=Tryz.sizeOf115
 v51:=Tryz.zeroValue115
 t53:=underlying245
 a53:=Tryz.isAgg245
 z53:=Tryz.sizeOf245
 v53:=Tryz.zeroValue245
 t75:=underlying27
 a75:=Tryz.isAgg27
 z75:=Tryz.sizeOf27
 v75:=Tryz.zeroValue27
 t76:=underlying137
 a76:=Tryz.isAgg137
 z76:=Tryz.sizeOf137
 v76:=Tryz.zeroValue137
 t85:=underlying335
 a85:=Tryz.isAgg335
 z85:=Tryz.sizeOf335
 v85:=Tryz.zeroValue335
 t127:=underlying340
 a127:=Tryz.isAgg340
 z127:=Tryz.sizeOf340
 v127:=Tryz.zeroValue340
 t143:=underlying411
 a143:=Tryz.isAgg411
 z143:=Tryz.sizeOf411
 v143:=Tryz.zeroValue411
 t145:=underlying413
 a145:=Tryz.isAgg413
 z145:=Tryz.sizeOf413
 v145:=Tryz.zeroValue413
 t167:=underlying334
 a167:=Tryz.isAgg334
 z167:=Tryz.sizeOf334
 v167:=Tryz.zeroValue334
 t168:=underlying337
 a168:=Tryz.isAgg337
 z168:=Tryz.sizeOf337
 v168:=Tryz.zeroValue337
 t171:=underlying244
 a171:=Tryz.isAgg244
 z171:=Tryz.sizeOf244
 v171:=Tryz.zeroValue244
 t173:=underlying249
 a173:=Tryz.isAgg249
 z173:=Tryz.sizeOf249
 v173:=Tryz.zeroValue249
 t175:=underlying372
 a175:=Tryz.isAgg372
 z175:=Tryz.sizeOf372
 v175:=Tryz.zeroValue372
 t210:=underlying376
 a210:=Tryz.isAgg376
 z210:=Tryz.sizeOf376
 v210:=Tryz.zeroValue376
 t212:=underlying298
 a212:=Tryz.isAgg298
 z212:=Tryz.sizeOf298
 v212:=Tryz.zeroValue298
 t213:=underlying299
 a213:=Tryz.isAgg299
 z213:=Tryz.sizeOf299
 t232:=underlying380
 a232:=Tryz.isAgg380
 z232:=Tryz.sizeOf380
 v232:=Tryz.zeroValue380
 t233:=underlying381
 a233:=Tryz.isAgg381
 z233:=Tryz.sizeOf381
 v233:=Tryz.zeroValue381
 g15:=by kernel_rfl
 g16:=by kernel_rfl
 g17:=by kernel_rfl
 g18:=by kernel_rfl
 g19:=by kernel_rfl }
def O0:Go.Shelf.Ren:=⟨fun|171=>27|243=>52|246=>84|283=>140|284=>141|285=>142|286=>143|129=>190|317=>189|318=>191|319=>192|320=>193|337=>236|338=>237|n=>n,fun|3=>3|9=>9|2=>2|4=>4|171=>244|0=>0|53=>245|37=>248|5=>5|173=>249|212=>298|51=>115|20=>20|213=>299|46=>190|232=>380|233=>381|n=>n,fun|17=>5|18=>8|19=>9|n=>n⟩
theorem Jfh:Go.Proofs.LaysM.n171 prog O0:={
 mixed:=by kernel_rfl
 f129:=Fx func190
 f171:=Fx func27
 f243:=Fx func52
 f246:=Fx func84
 f283:=Fx func140
 f284:=Fx func141
 f285:=Fx func142
 f286:=Fx func143
 f317:=Fx func189
 f318:=Fx func191
 f319:=Fx func192
 f320:=Fx func193
 f337:=Fx func236
 f338:=Fx func237
 t0:=underlying0
 a0:=Tryz.isAgg0
 z0:=Tryz.sizeOf0
 v0:=Tryz.zeroValue0
 t2:=underlying2
 a2:=Tryz.isAgg2
 z2:=Tryz.sizeOf2
 v2:=Tryz.zeroValue2
 t3:=underlying3
 a3:=Tryz.isAgg3
 z3:=Tryz.sizeOf3
 v3:=Tryz.zeroValue3
 t4:=underlying4
 a4:=Tryz.isAgg4
 z4:=Tryz.sizeOf4
 v4:=Tryz.zeroValue4
 t5:=underlying5
 a5:=Tryz.isAgg5
 z5:=Tryz.sizeOf5
 v5:=Tryz.zeroValue5
 t9:=underlying9
 a9:=Tryz.isAgg9
 z9:=Tryz.sizeOf9
 v9:=Tryz.zeroValue9
 t20:=underlying20
 a20:=Tryz.isAgg20
 z20:=Tryz.sizeOf20
 v20:=Tryz.zeroValue20
 t37:=underlying248
 a37:=Tryz.isAgg248
 z37:=Tryz.sizeOf248
 v37:=Tryz.zeroValue248
 t46:=underlying190
 a46:=Tryz.isAgg190
 z46:=Tryz.sizeOf190
 v46:=Tryz.zeroValue190
 t51:=underlying115
 a51:=Tryz.isAgg115
 z51:=Tryz.sizeOf115
 v51:=Tryz.zeroValue115
 t53:=underlying245
 a53:=Tryz.isAgg245
 z53:=Tryz.sizeOf245
 v53:=Tryz.zeroValue245
 t171:=underlying244
 a171:=Tryz.isAgg244
 z171:=Tryz.sizeOf244
 v171:=Tryz.zeroValue244
 t173:=underlying249
 a173:=Tryz.isAgg249
 z173:=Tryz.sizeOf249
 v173:=Tryz.zeroValue249
 t212:=underlying298
 a212:=Tryz.isAgg298
 z212:=Tryz.sizeOf298
 v212:=Tryz.zeroValue298
 t213:=underlying299
 a213:=Tryz.isAgg299
 z213:=Tryz.sizeOf299
 t232:=underlying380
 a232:=Tryz.isAgg380
 z232:=Tryz.sizeOf380
 v232:=Tryz.zeroValue380
 t233:=underlying381
 a233:=Tryz.isAgg381
 z233:=Tryz.sizeOf381
 v233:=Tryz.zeroValue381
 g17:=by kernel_rfl
 g18:=by kernel_rfl
 g19:=by kernel_rfl
 i0:=by kernel_rfl
 i2:=by kernel_rfl
 i3:=by kernel_rfl
 i4:=by kernel_rfl
 i5:=by kernel_rfl
 i9:=by kernel_rfl
 i20:=by kernel_rfl
 i37:=by kernel_rfl
 i46:=by kernel_rfl
 i51:=by kernel_rfl
 i53:=by kernel_rfl
 i171:=by kernel_rfl
 i173:=by kernel_rfl
 i212:=by kernel_rfl
 i232:=by kernel_rfl
 i233:=by kernel_rfl
 m17:=by kernel_rfl
 m18:=by kernel_rfl
 m19:=by kernel_rfl }
def QW:Go.Shelf.Ren:=⟨fun|101=>111|208=>168|206=>215|n=>n,fun|9=>9|4=>4|3=>3|n=>n,fun|n=>n⟩
theorem Jku:Go.Proofs.Lays.n101 prog QW:={
 mixed:=by kernel_rfl
 f101:=Fx func111
 f206:=Fx func215
 f208:=Fx func168
 t3:=underlying3
 a3:=Tryz.isAgg3
 z3:=Tryz.sizeOf3
 v3:=Tryz.zeroValue3
 t4:=underlying4
 a4:=Tryz.isAgg4
 z4:=Tryz.sizeOf4
 v4:=Tryz.zeroValue4
 t9:=underlying9
 a9:=Tryz.isAgg9
 z9:=Tryz.sizeOf9
 v9:=Tryz.zeroValue9 }
def R0:Go.Shelf.Ren:=⟨fun|102=>37|209=>64|207=>115|n=>n,fun|9=>9|4=>4|3=>3|n=>n,fun|n=>n⟩
theorem Jkv:Go.Proofs.Lays.n102 prog R0:={
 mixed:=by kernel_rfl
 f102:=Fx func37
 f207:=Fx func115
 f209:=Fx func64
 t3:=underlying3
 a3:=Tryz.isAgg3
 z3:=Tryz.sizeOf3
 v3:=Tryz.zeroValue3
 t4:=underlying4
 a4:=Tryz.isAgg4
 z4:=Tryz.sizeOf4
 v4:=Tryz.zeroValue4
 t9:=underlying9
 a9:=Tryz.isAgg9
 z9:=Tryz.sizeOf9
 v9:=Tryz.zeroValue9 }
def R1:Go.Shelf.Ren:=⟨fun|146=>10|221=>17|268=>39|138=>40|143=>41|195=>66|197=>67|218=>68|219=>69|260=>120|217=>121|225=>122|224=>123|267=>124|266=>178|314=>179|n=>n,fun|9=>9|31=>24|3=>3|4=>4|0=>0|105=>145|21=>21|5=>5|46=>190|119=>285|139=>288|138=>287|146=>255|51=>115|n=>n,fun|1=>2|3=>3|4=>4|n=>n⟩
theorem Jkw:Go.Proofs.Lays.n146 prog R1:={
 mixed:=by kernel_rfl
 f138:=Fx func40
 f143:=Fx func41
 f146:=Fx func10
 f195:=Fx func66
 f197:=Fx func67
 f217:=Fx func121
 f218:=Fx func68
 f219:=Fx func69
 f221:=Fx func17
 f224:=Fx func123
 f225:=Fx func122
 f260:=Fx func120
 f266:=Fx func178
 f267:=Fx func124
 f268:=Fx func39
 f314:=Fx func179
 t0:=underlying0
 a0:=Tryz.isAgg0
 z0:=Tryz.sizeOf0
 v0:=Tryz.zeroValue0
 t3:=underlying3
 a3:=Tryz.isAgg3
 z3:=Tryz.sizeOf3
 v3:=Tryz.zeroValue3
 t4:=underlying4
 a4:=Tryz.isAgg4
 z4:=Tryz.sizeOf4
 v4:=Tryz.zeroValue4
 t5:=underlying5
 a5:=Tryz.isAgg5
 z5:=Tryz.sizeOf5
 v5:=Tryz.zeroValue5
 t9:=underlying9
 a9:=Tryz.isAgg9
 z9:=Tryz.sizeOf9
 v9:=Tryz.zeroValue9
 t21:=underlying21
 a21:=Tryz.isAgg21
 z21:=Tryz.sizeOf21
 v21:=Tryz.zeroValue21
 t31:=underlying24
 a31:=Tryz.isAgg24
 z31:=Tryz.sizeOf24
 v31:=Tryz.zeroValue24
 t46:=underlying190
 a46:=Tryz.isAgg190
 z46:=Tryz.sizeOf190
 v46:=Tryz.zeroValue190
 t51:=underlying115
 a51:=Tryz.isAgg115
 z51:=Tryz.sizeOf115
 v51:=Tryz.zeroValue115
 t105:=underlying145
 a105:=Tryz.isAgg145
 z105:=Tryz.sizeOf145
 v105:=Tryz.zeroValue145
 t119:=underlying285
 a119:=Tryz.isAgg285
 z119:=Tryz.sizeOf285
 t138:=underlying287
 a138:=Tryz.isAgg287
 z138:=Tryz.sizeOf287
 v138:=Tryz.zeroValue287
 t139:=underlying288
 a139:=Tryz.isAgg288
 z139:=Tryz.sizeOf288
 v139:=Tryz.zeroValue288
 t146:=underlying255
 a146:=Tryz.isAgg255
 z146:=Tryz.sizeOf255
 v146:=Tryz.zeroValue255
 g1:=by kernel_rfl
 g3:=by kernel_rfl
 g4:=by kernel_rfl }
def R3:Go.Shelf.Ren:=⟨fun|212=>106|263=>159|264=>160|n=>n,fun|46=>190|51=>115|146=>255|53=>245|148=>257|n=>n,fun|n=>n⟩
theorem Jkx:Go.Proofs.Lays.n212 prog R3:={
 mixed:=by kernel_rfl
 f212:=Fx func106
 f263:=Fx func159
 f264:=Fx func160
 t46:=underlying190
 a46:=Tryz.isAgg190
 z46:=Tryz.sizeOf190
 v46:=Tryz.zeroValue190
 t51:=underlying115
 a51:=Tryz.isAgg115
 z51:=Tryz.sizeOf115
 v51:=Tryz.zeroValue115
 t53:=underlying245
 a53:=Tryz.isAgg245
 z53:=Tryz.sizeOf245
 v53:=Tryz.zeroValue245
 t146:=underlying255
 a146:=Tryz.isAgg255
 z146:=Tryz.sizeOf255
 v146:=Tryz.zeroValue255
 t148:=underlying257
 a148:=Tryz.isAgg257
 z148:=Tryz.sizeOf257
 v148:=Tryz.zeroValue257 }
theorem Joh:Builder.Extra prog FX:={
 sizeBuilder:=by kernel_rfl
 liesBuilder:=by kernel_rfl
 t5:=underlying5
 a5:=Tryz.isAgg5
 z5:=Tryz.sizeOf5
 v5:=Tryz.zeroValue5
 infoByte:=by kernel_rfl
 cellsByte:=by kernel_rfl
 sizeByte:=by kernel_rfl
 neB5:=by decide }
open Go.RowKit Tryz
theorem Jq9(bk o c:Nat)(xs:List V7)(sep:V7)(w:V6)(hc:∀(j:Nat) x,xs[j]?=some x->Kc w bk (o+j) (.string x))(h:bk<w.heap.size)(hN:xs.length<=140737488355328)(ha:xs.length<=c)(hl:(Lib.join (xs.map (·.data.toList)) sep.data.toList).length<=140737488355328):
 Va 114 #[Vf bk o xs.length c,.string sep] w (Rt w (.string ⟨(Lib.join (xs.map (·.data.toList)) sep.data.toList).toArray⟩)):=Any.strings_Join Jkr Joh bk o c xs sep w hc h hN ha hl
theorem Jra(s c:V7)(w:V6)(hs:s.size<=9223372036854775807)(hc:c.size<4294967281)(ha:∀(j:Nat) b,c.data.toList[j]?=some b->b.toNat<128):
 Va 169 #[.string s,.string c] w (Rt w (.string ⟨(Lib.trimS s.data.toList c.data.toList).toArray⟩)):=Any.strings_Trim_laid Jks (by kernel_rfl) s c w hs hc ha
theorem Jrb(s:V7)(n:Int)(hl:s.size<=18)(h:Lib.atoi s.data.toList=some n)(w:V6):
 Va 113 #[.string s] w (Rt w (.tuple #[Vi n,.nilIface])):=(Any.strconv_Atoi Jkt s n hl h w).mono fun _ _ ⟨y,_,hw⟩=>⟨y,hw▸Go.Joins.below_bytesWorld _ _ _ _ (Nat.le_refl _)⟩
theorem Jrc(n:Int)(h0:-9223372036854775808<=n)(h1:n<=9223372036854775807)(w:V6)(h:Lib.TabIs prog w "internal/strconv.uint64pow10" .u64 Lib.pow10Tab):
 Va 27 #[Vi n] w (Rt w (.string ⟨(Lib.itoa n).toArray⟩)):=(Any.strconv_Itoa Jfh n h0 h1 w h).mono fun _ _ ⟨y,_,_,hw⟩=>⟨y,hw▸⟨rfl,rfl,rfl,by simp[Go.Sort.grow],fun j m=>Array.getElem?_append_left m⟩⟩
theorem Joi(s p:V7)(w:V6):Va 111 #[.string s,.string p] w (Re w (.string ⟨(Lib.trimPrefix s.data.toList p.data.toList).toArray⟩)):=Any.strings_TrimPrefix Jku s p w
theorem Joj(s p:V7)(w:V6)(hs:s.size<=9223372036854775807):Va 37 #[.string s,.string p] w (Re w (.string ⟨(Lib.trimSuffix s.data.toList p.data.toList).toArray⟩)):=Any.strings_TrimSuffix Jkv s p w hs
theorem O1(s sep:V7)(m:Int)(w:V6)(h:V2 w 2 0 m)(hs:s.size<4294967281:=by omega)(h1:1<=sep.size:=by decide):
 Va 10 #[.string s,.string sep] w fun e w'=>e=.returned (Vf w.heap.size 0 (Lib.countB s sep+1) (Lib.countB s sep+1))/\w'=w.alloc (.cells ((Lib.splitB sep 0 (Lib.countB s sep) s).map Value.string).toArray 9):=Any.strings_Split Jkw (by kernel_rfl) s sep m w hs h h1
theorem Jsk(x y:Nat)(hx:x<18446744073709551616)(hy:y<18446744073709551616)(w:V6):
 Va 106 #[.int .u64 x,.int .u64 y] w (Re w (.tuple #[.int .u64 ((x*y/18446744073709551616:Nat):Int),.int .u64 ((x*y%18446744073709551616:Nat):Int)])):=Any.bits_Mul Jkx x y hx hy w
end Go.Proofs.YtnepnnkdgejheaaGreatDoor
