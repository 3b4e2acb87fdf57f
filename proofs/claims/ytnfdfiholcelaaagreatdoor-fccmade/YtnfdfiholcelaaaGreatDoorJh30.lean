
import Derived.Test.YtnfdfiholcelaaaGreatDoorJh00
import Derived.Test.YtnfdfiholcelaaaGreatDoorJh17
import Derived.Test.YtnfdfiholcelaaaGreatDoorJh18
import Derived.Test.YtnfdfiholcelaaaGreatDoorJh21
import Derived.Test.YtnfdfiholcelaaaGreatDoorJh22
import Derived.Test.YtnfdfiholcelaaaGreatDoorJh24
import Derived.Test.YtnfdfiholcelaaaGreatDoorJh25
import Derived.Test.YtnfdfiholcelaaaGreatDoorJh27
set_option maxRecDepth 100000
set_option maxHeartbeats 20000000
namespace Go.Proofs.YtnfdfiholcelaaaGreatDoor
open Go.RowKit Plain Tryz
theorem diceMost8(O:Nat)(a:Option Addr)(l:List Int)(cap n:Nat)(x0 x1 x2 x3 x4 x5 x6 x7 lo hi:Int)(hn:n≤1000000)(hl:l.length≤100)(hb:(lo≤x0∧x0≤hi)∧(lo≤x1∧x1≤hi)∧(lo≤x2∧x2≤hi)∧(lo≤x3∧x3≤hi)∧(lo≤x4∧x4≤hi)∧(lo≤x5∧x5≤hi)∧(lo≤x6∧x6≤hi)∧lo≤x7∧x7≤hi)(w:World)(hd:Dc w O a l cap n):
 Calls prog 70 #[.pointer (some (Ad O 0)),.slice (some (Ad w.heap.size 0)) 8 8] (w.alloc (.cells #[Vi x0,Vi x1,Vi x2,Vi x3,Vi x4,Vi x5,Vi x6,Vi x7] 3)) fun e w'=>(∃q,e=.returned (Vi q)∧lo≤q∧q≤hi)∧Dc w' O a l cap (n+1)∧DK O w w':=by
 have hO:=hd.lt;refine(Zcx O w.heap.size a l cap n 8 [x0,x1,x2,x3,x4,x5,x6,x7] lo hi hn hl (by simp) (by simp) ?_ (by omega) _ (hd.later (Zaa _ _)) ?_).mono fun e w' h=>⟨h.1,h.2.1,(DK.of_below (Zaa _ _)).trans h.2.2.1⟩
 · obtain⟨h0,h1,h2,h3,h4,h5,h6,h7⟩:=hb;intro k hk
   match k,hk with
   |0,_=>exact h0
   |1,_=>exact h1
   |2,_=>exact h2
   |3,_=>exact h3
   |4,_=>exact h4
   |5,_=>exact h5
   |6,_=>exact h6
   |7,_=>exact h7
 · intro k hk;simp only[List.length_cons,List.length_nil] at hk
   rcases(show k=0∨k=1∨k=2∨k=3∨k=4∨k=5∨k=6∨k=7 by omega) with rfl|rfl|rfl|rfl|rfl|rfl|rfl|rfl<;>simp[go_sem]
def wdL(x:Int):List Value:=[.int .u32 x]
theorem Zix:(prog.info? 161).map (·.size)=some 4:=by kernel_rfl
theorem wds_under:prog.underlying 42=some (.slice 136):=by kernel_rfl
abbrev WdO:=RwO wdL 1 136
theorem wdL_one(x:Int):∀v∈wdL x,v.oneCell'=true:=by
 intro v hv;have:(wdL x).all (·.oneCell')=true:=rfl;exact List.all_eq_true.1 this v hv
theorem WdO.wds{K:Nat}{u:World}{a:Option Addr}{n c:Nat}{l:List Int}(h:WdO K u (.slice a n c) l)(hl:∀x∈l,0≤x∧x<4294967296):Wds u a l:=by
 refine⟨?_,hl⟩
 by_cases h0:l=[]
 · exact .inl h0
 · obtain⟨g,e,hc⟩:=RwO.at (f:=wdL) (m:=1) 0 (fun _=>rfl) h h0;refine .inr ⟨g,0,e,fun k hk=>?_⟩;have:=hc k hk 0 _ rfl;rw[Nat.mul_one,Nat.add_zero] at this;rw[Nat.zero_add];exact this
theorem Zcu{ops:Array Oper}{rest:List Oper}{o:Oper}{a:Act}{K:Nat}{u:World}{Q:Exit→Act→World→Prop}{s:Value}{rs:List Int}{r:Int}{p:Option Addr}{c:Nat}(sO xO:Operand)
 (ho:o.op=.call { callee:=.builtin .append,args:=#[sO,xO],argTypes:=#[42,42] }) (hx:a.eval xO=.slice p 1 c) (hown:WdO K u s rs) (hK:K≤u.heap.size) (hy:Lay u p (wdL r)) (hm:rs.length≤1000)
 (h:∀s' u',WdO K u' s' (rs++[r])→u.grownBy u' s.ownBlock→wpList prog ops Q rest (a.put o.dst s') u') (hgd:o.guard=none:=by rfl) (hs:a.eval sO=s:=by rfl):wpList prog ops Q (o::rest) a u:=by
 obtain⟨i0,hi4,hz0,hz1,hz2⟩:=info_parts infoU32;refine wpList_ap sO xO ho wds_under hi4 hz0 hz1 hz2 hx hown hy rfl (wdL_one r) (by unfold maxLen;omega) (by omega) hK (fun s' u' h1 h2=>h s' u' ?_ h2) (by decide) rfl hgd hs
 unfold WdO RwO
 rw[List.length_append,encG_snoc];exact h1
theorem lay_wd(w:World)(r:Int):Lay (w.alloc (.cells #[.int .u32 r] 136)) (some (Ad w.heap.size 0)) (wdL r):=.inr ⟨_,0,rfl,(Blk.new w 136 (wdL r)).range⟩
def MW(w u:World)(O:Nat)(a:Option Addr)(l:List Int)(cap q:Nat)(s:Value)(ws:List Int):Prop:=
 Dc u O a l cap q∧WdO (O+1) u s ws∧Below w.heap.size w u∧(w.heap.size≤O∧O<u.heap.size)∧Zhe a l w.heap.size
section
variable {w u u' : World} {O : Nat} {a : Option Addr} {l : List Int} {cap q : Nat} {s : Value} {ws : List Int}
theorem MW.later(h:MW w u O a l cap q s ws)(hb:Below u.heap.size u u'):MW w u' O a l cap q s ws:=
 ⟨h.1.later hb,h.2.1.later hb,Zac h.2.2.1 hb,⟨h.2.2.2.1.1,Nat.lt_of_lt_of_le h.2.2.2.1.2 hb.size⟩,h.2.2.2.2⟩
theorem MW.dk{q':Nat}(h:MW w u O a l cap q s ws)(hd:Dc u' O a l cap q')(hk:DK O u u'):MW w u' O a l cap q' s ws:=
 ⟨hd,h.2.1.dk (Nat.lt_succ_self O) hk,DK.below h.2.2.1 hk h.2.2.2.1.1 h.2.2.1.size,⟨h.2.2.2.1.1,Nat.lt_of_lt_of_le h.2.2.2.1.2 hk.size⟩,h.2.2.2.2⟩
theorem MW.room(h:MW w u O a l cap q s ws):O+1≤u.heap.size:=h.2.2.2.1.2
theorem MW.grew{s':Value}{ws':List Int}(h:MW w u O a l cap q s ws)(hg:u.grownBy u' s.ownBlock)(hr:WdO (O+1) u' s' ws'):MW w u' O a l cap q s' ws':=by
 have hb:=h.2.1.below h.room hg;obtain⟨h1,h2,h3,⟨h4,h5⟩,h6⟩:=h;refine⟨h1.up hb (Nat.lt_succ_self O) (fun b off e hl=>by have:=h6 b off e hl;omega),hr,?_,⟨h4,Nat.lt_of_lt_of_le h5 hb.size⟩,h6⟩;exact⟨hb.os.trans h3.os,hb.tape.trans h3.tape,hb.output.trans h3.output,Nat.le_trans h3.size hb.size,fun k hk=>(hb.block k (by omega)).trans (h3.block k hk)⟩
end
def WsOK(ws:List Int):Prop:=∀x∈ws,0≤x∧x<4294967296
theorem WsOK.app{ws:List Int}{x:Int}(h:WsOK ws)(h0:0≤x)(h1:x<4294967296):WsOK (ws++[x]):=fun y hy=>by
 rcases List.mem_append.1 hy with h'|h'
 · exact h y h'
 · rw[List.mem_singleton] at h';subst h';exact⟨h0,h1⟩
theorem may_w{a b c d:Int}(h0:0≤a)(h1:a≤255)(h2:0≤b)(h3:b<4)(h4:0≤c)(h5:c≤3)(h6:-262144≤d)(h7:d<262144):mayR a b c d=true:=by
 simp only[mayR,Bool.and_eq_true,decide_eq_true_eq];omega
theorem MW.oth{w u u':World}{O B:Nat}{a:Option Addr}{l:List Int}{cap q:Nat}{s:Value}{ws:List Int}(h:MW w u O a l cap q s ws)(ho:Oth u u' B)(hB:B≠O)(hw:w.heap.size≤B∧∀g,s.ownBlock=some g→g≠B):MW w u' O a l cap q s ws:=by
 obtain⟨h1,h2,h3,⟨h4,h5⟩,h6⟩:=h;refine⟨h1.oth ho (Ne.symm hB) (fun b off e hl=>by have:=h6 b off e hl;omega),h2.far ho hw.2,?_,⟨h4,Nat.lt_of_lt_of_le h5 ho.1⟩,h6⟩;exact⟨ho.2.1.trans h3.os,ho.2.2.1.trans h3.tape,ho.2.2.2.1.trans h3.output,Nat.le_trans h3.size ho.1,fun k hk=>(ho.2.2.2.2 k (Nat.lt_of_lt_of_le hk h3.size) (by omega)).trans (h3.block k hk)⟩
def flipW(x:Int):Int:=IntKind.u32.wrap (x+2147483648)
theorem Zer(x:Int):0≤flipW x∧flipW x<4294967296:=by
 have e:flipW x=(x+2147483648)%4294967296:=rfl;rw[e];omega
theorem wordsFrom_any(C:CR)(a:Option Addr)(l:List Int)(cap many:Nat)(hm:many≤300)(hl:l.length≤100)(w:World)(hil:ILs w a l):
 Calls prog 23 #[.agg (crL C).toArray,.slice a l.length cap,Vi many] w fun e w'=>(∃p c ws,e=.returned (.slice p ws.length c)∧ws.length≤many∧Wds w' p ws)∧Below w.heap.size w w':=by
 have hraw:=raw_of hil;have HB:Hid (Below w.heap.size w ((w.alloc (.cells (crL C).toArray 29)).alloc (.cells #[.slice a l.length cap,Vi 0] 154))):=Zab (Zac (Zaa _ _) (Zaa _ _))
 have HM:Hid (MW w ((w.alloc (.cells (crL C).toArray 29)).alloc (.cells #[.slice a l.length cap,Vi 0] 154)) (w.heap.size+1) a l cap 0 (.slice none 0 0) []):=by
  refine Zab ⟨⟨⟨by simp[go_sem],by simp[go_sem]⟩,by simp[go_sem],hil.later HB.out,fun b off e hne=>?_⟩,RwO.nil _ _ _ _ _,HB.out,by simp[World.size_alloc],hraw⟩;have:=hraw b off e hne
  omega
 clear hil hraw HB
 go_enter func23,ntmps23
 go_upto_region 3 with fail;generalize ((w.alloc (.cells (crL C).toArray 29)).alloc (.cells #[.slice a l.length cap,Vi 0] 154))=v0 at *;generalize w.heap.size+1=O at*
 go_upto_region 4 with fail
 go_loopw [8,9] (fun s ix wr=>∃(k q:Nat) (ws:List Int),k≤many∧ix=Vi k∧MW w wr O a l cap q s ws∧ws.length=k∧WsOK ws∧q≤20*k) (fun _ ix _=>many-(intOf ix).toNat)
 case atStart=>exact⟨0,0,[],by omega,rfl,HM.out,rfl,fun x hx=>by simp at hx,by omega⟩
 case round=>
  clear HM;obtain⟨k,q,ws,hk,rfl,hM,hn,hok,hq⟩:=hrel;have HM:=Zab hM;have HOK:=Zab hok;clear hM hok
  by_cases hlt:k<many
  · have k0:(0:Int)≤(k:Int):=by omega
    have k1:(k:Int)<(many:Int):=by omega
    have HLL:Hid (ws.length≤1000):=Zab (by omega);have T1:Hid True:=trivial;have T2:Hid True:=trivial;have T3:Hid True:=trivial;have T4:Hid True:=trivial;have T5:Hid True:=trivial;have T6:Hid True:=trivial;have T7:Hid True:=trivial;have T8:Hid True:=trivial
    go_upto_region 7 with(first
     |(go_at_call 67;clear T1;refine(dN 8 hl HM.out.1).mono ?_;rintro e v1 ⟨⟨x1,rfl,x10,x11⟩,hD,hK,hsz⟩;replace HM:=Zab (HM.out.dk hD hK);have vx:=Wr (16+x1);clear hsz hD hK)
     |(go_at_call 67;clear T2;refine(dN 256 hl HM.out.1).mono ?_;rintro e v2 ⟨⟨x2,rfl,x20,x21⟩,hD,hK,hsz⟩;replace HM:=Zab (HM.out.dk hD hK);clear hsz hD hK)
     |(go_at_call 70;clear T3;refine(diceMost8 O a l cap _ 1 2 8 (16+x1) 32 33 40 x2 0 255 (by omega) hl (by omega) _ HM.out.1).mono ?_;rintro e v3 ⟨⟨lb,rfl,lb0,lb1⟩,hD,hK⟩;replace HM:=Zab (HM.out.dk hD hK);clear hD hK)
     |(go_at_call 67;clear T4;refine(dN 4 hl HM.out.1).mono ?_;rintro e v4 ⟨⟨sr,rfl,sr0,sr1⟩,hD,hK,hsz⟩;replace HM:=Zab (HM.out.dk hD hK);clear hsz hD hK)
     |(go_at_call 70;clear T5;refine(diceMost4 O a l cap _ 3 3 3 0 0 3 (by omega) hl (by omega) _ HM.out.1).mono ?_;rintro e v5 ⟨⟨sa,rfl,sa0,sa1⟩,hD,hK⟩;replace HM:=Zab (HM.out.dk hD hK);clear hD hK)
     |(go_at_call 70;clear T6;refine(Zgy O a l cap _ 3 300 262144 3 262144 (by omega) hl (by omega) _ HM.out.1).mono ?_;rintro e v6 ⟨⟨mm,rfl,mm0,mm1⟩,hD,hK⟩;replace HM:=Zab (HM.out.dk hD hK);clear hD hK)
     |(go_at_call 67;clear T7;refine(dN _ hl HM.out.1).mono ?_;rintro e v7 ⟨⟨da,rfl,da0,da1⟩,hD,hK,hsz⟩;replace HM:=Zab (HM.out.dk hD hK);clear hsz hD hK)
     |(go_at_call 70;clear T8;refine(diceMost2 O a l cap _ 0 100 0 100 (by omega) hl (by omega) _ HM.out.1).mono ?_;rintro e v8 ⟨⟨db,rfl,db0,db1⟩,hD,hK⟩;replace HM:=Zab (HM.out.dk hD hK);have vd:=Wr (da-db);clear hD hK)
     |(refine isStoreT 161 _ _ rfl ?_;refine Zff (c':=#[Vi lb,Vi sr,Vi sa,Vi (da-db)]) 161 4 Zix (.tmp 10) (.tmp 42) rfl rfl rfl rfl rfl rfl rfl ?_))
    clear vx x10 x11 x20 x21;have HR:Hid (Blk 161 (v8.alloc (.cells #[Vi lb,Vi sr,Vi sa,Vi (da-db)] 161)) v8.heap.size [Vi lb,Vi sr,Vi sa,Vi (da-db)]):=Zab (Blk.new v8 _ _);have HQW:Hid (w.heap.size≤v8.heap.size∧∀g,u8.ownBlock=some g→g≠v8.heap.size):=Zab ⟨HM.out.2.2.1.size,fun g e=>by have:=(World.ownsRow.lt HM.out.2.1 g e).2;omega⟩;have HQ:Hid (v8.heap.size≠O):=Zab (by have:=HM.out.1.lt;omega);replace HM:=Zab (HM.out.later (Zaa v8 (.cells #[Vi lb,Vi sr,Vi sa,Vi (da-db)] 161)));generalize v8.alloc (.cells #[Vi lb,Vi sr,Vi sa,Vi (da-db)] 161)=v9 at *;generalize v8.heap.size=QR at *;have hR0:=(HR.out.cell (j:=0) rfl).1;have T1:Hid True:=trivial;have T2:Hid True:=trivial
    rcases(show(lb<16∨40<lb)∨(16≤lb∧lb≤40) by omega) with hh|⟨h16,h40⟩
    · have HR2:Hid (∃sx:Int,(0≤sx∧sx<4)∧Blk 161 v9 QR [Vi lb,Vi sx,Vi sa,Vi (da-db)]):=Zab ⟨sr,⟨sr0,sr1⟩,HR.out⟩;obtain⟨v10,hv⟩:∃v10,v9=v10:=⟨_,rfl⟩;rw[hv] at HR2 HM hR0⊢;clear hv HR
      rcases hh with h16|h40
      · have h16':¬16≤lb:=by omega
        go_upto_region 9 with fail;obtain⟨sx,⟨sx0,sx1⟩,hR⟩:=HR2.out;have HRR:=Zab hR.range;have hmay:=may_w lb0 lb1 sx0 sx1 sa0 sa1 (show -262144≤da-db by omega) (show da-db<262144 by omega);obtain⟨pb0,pb1⟩:=pack_bd hmay;clear hR HR2
        go_upto_region 10 with(first
         |(refine Lq 161 _ rfl ?_;refine wpList_load_mid rfl 161 (.tmp 10) rfl QR 0 rfl [Vi lb,Vi sx,Vi sa,Vi (da-db)] _ HRR.out underlying161 rfl Zix ?_)
         |(go_at_call 72;refine Sb (word_any lb sx sa (da-db) hmay _) fun v11 hb=>?_;replace HM:=Zab (HM.out.later hb);clear hb))
        generalize Zcy lb sx sa (da-db)=pw at pb0 pb1⊢;clear hmay HRR
        go_upto_if 61 with(go_at_call 67;clear T2;refine(dN 20 hl HM.out.1).mono ?_;rintro e v12 ⟨⟨z,rfl,z0,z1⟩,hD,hK,hsz⟩;replace HM:=Zab (HM.out.dk hD hK);clear hsz hD hK)
        by_cases hz:z=0
        · subst hz
          go_wp2_with (at_builtin;refine Zcu (r:=flipW pw) (.tmp 64) (.tmp 66) rfl rfl (HM.out.later (Zaa _ _)).2.1 (HM.out.later (Zaa _ _)).room (lay_wd _ _) HLL.out (fun s' v9 h1 h2=>?_);replace HM:=Zab ((HM.out.later (Zaa _ _)).grew h2 h1);clear h1 h2);exact⟨⟨k+1,_,_,by omega,by go_num,HM.out,by simp;omega,HOK.out.app (Zer pw).1 (Zer pw).2,by omega⟩,by simp[intOf];omega⟩
        · have hz':(z==0)=false:=by simpa using hz
          go_wp2_with (at_builtin;refine Zcu (r:=pw) (.tmp 64) (.tmp 66) rfl rfl (HM.out.later (Zaa _ _)).2.1 (HM.out.later (Zaa _ _)).room (lay_wd _ _) HLL.out (fun s' v9 h1 h2=>?_);replace HM:=Zab ((HM.out.later (Zaa _ _)).grew h2 h1);clear h1 h2);exact⟨⟨k+1,_,_,by omega,by go_num,HM.out,by simp;omega,HOK.out.app pb0 pb1,by omega⟩,by simp[intOf];omega⟩
      · have h16':16≤lb:=by omega
        have h40':¬lb≤40:=by omega
        go_upto_region 9 with fail;obtain⟨sx,⟨sx0,sx1⟩,hR⟩:=HR2.out;have HRR:=Zab hR.range;have hmay:=may_w lb0 lb1 sx0 sx1 sa0 sa1 (show -262144≤da-db by omega) (show da-db<262144 by omega);obtain⟨pb0,pb1⟩:=pack_bd hmay;clear hR HR2
        go_upto_region 10 with(first
         |(refine Lq 161 _ rfl ?_;refine wpList_load_mid rfl 161 (.tmp 10) rfl QR 0 rfl [Vi lb,Vi sx,Vi sa,Vi (da-db)] _ HRR.out underlying161 rfl Zix ?_)
         |(go_at_call 72;refine Sb (word_any lb sx sa (da-db) hmay _) fun v11 hb=>?_;replace HM:=Zab (HM.out.later hb);clear hb))
        generalize Zcy lb sx sa (da-db)=pw at pb0 pb1⊢;clear hmay HRR
        go_upto_if 61 with(go_at_call 67;clear T2;refine(dN 20 hl HM.out.1).mono ?_;rintro e v12 ⟨⟨z,rfl,z0,z1⟩,hD,hK,hsz⟩;replace HM:=Zab (HM.out.dk hD hK);clear hsz hD hK)
        by_cases hz:z=0
        · subst hz
          go_wp2_with (at_builtin;refine Zcu (r:=flipW pw) (.tmp 64) (.tmp 66) rfl rfl (HM.out.later (Zaa _ _)).2.1 (HM.out.later (Zaa _ _)).room (lay_wd _ _) HLL.out (fun s' v9 h1 h2=>?_);replace HM:=Zab ((HM.out.later (Zaa _ _)).grew h2 h1);clear h1 h2);exact⟨⟨k+1,_,_,by omega,by go_num,HM.out,by simp;omega,HOK.out.app (Zer pw).1 (Zer pw).2,by omega⟩,by simp[intOf];omega⟩
        · have hz':(z==0)=false:=by simpa using hz
          go_wp2_with (at_builtin;refine Zcu (r:=pw) (.tmp 64) (.tmp 66) rfl rfl (HM.out.later (Zaa _ _)).2.1 (HM.out.later (Zaa _ _)).room (lay_wd _ _) HLL.out (fun s' v9 h1 h2=>?_);replace HM:=Zab ((HM.out.later (Zaa _ _)).grew h2 h1);clear h1 h2);exact⟨⟨k+1,_,_,by omega,by go_num,HM.out,by simp;omega,HOK.out.app pb0 pb1,by omega⟩,by simp[intOf];omega⟩
    · go_upto_if 55 with(go_at_call 67;clear T1;refine(dN 4 hl HM.out.1).mono ?_;rintro e v9b ⟨⟨x3,rfl,x30,x31⟩,hD,hK,hsz⟩;replace HM:=Zab (HM.out.dk hD hK);replace HR:=Zab (hK.blk HQ.out HR.out);clear hsz hD hK);clear hR0
      by_cases hx:0<x3
      · have k1:=(HR.out.cell (j:=1) rfl).1;have k2:=(HR.out.cell (j:=1) rfl).2
        go_upto_region 9 with fail;have HR2:Hid (∃sx:Int,(0≤sx∧sx<4)∧Blk 161 (v9b.setCell (Ad QR 1) (Vi 3)) QR [Vi lb,Vi sx,Vi sa,Vi (da-db)]):=Zab ⟨3,⟨by omega,by omega⟩,HR.out.set 1 (Vi 3)⟩;replace HM:=Zab (HM.out.oth (B:=QR) ((Oth.refl v9b QR).set (j:=1) (v:=Vi 3)) HQ.out HQW.out);generalize v9b.setCell (Ad QR 1) (Vi 3)=v10 at HR2 HM⊢;clear k1 k2 HR;obtain⟨sx,⟨sx0,sx1⟩,hR⟩:=HR2.out;have HRR:=Zab hR.range;have hmay:=may_w lb0 lb1 sx0 sx1 sa0 sa1 (show -262144≤da-db by omega) (show da-db<262144 by omega);obtain⟨pb0,pb1⟩:=pack_bd hmay;clear hR HR2
        go_upto_region 10 with(first
         |(refine Lq 161 _ rfl ?_;refine wpList_load_mid rfl 161 (.tmp 10) rfl QR 0 rfl [Vi lb,Vi sx,Vi sa,Vi (da-db)] _ HRR.out underlying161 rfl Zix ?_)
         |(go_at_call 72;refine Sb (word_any lb sx sa (da-db) hmay _) fun v11 hb=>?_;replace HM:=Zab (HM.out.later hb);clear hb))
        generalize Zcy lb sx sa (da-db)=pw at pb0 pb1⊢;clear hmay HRR
        go_upto_if 61 with(go_at_call 67;clear T2;refine(dN 20 hl HM.out.1).mono ?_;rintro e v12 ⟨⟨z,rfl,z0,z1⟩,hD,hK,hsz⟩;replace HM:=Zab (HM.out.dk hD hK);clear hsz hD hK)
        by_cases hz:z=0
        · subst hz
          go_wp2_with (at_builtin;refine Zcu (r:=flipW pw) (.tmp 64) (.tmp 66) rfl rfl (HM.out.later (Zaa _ _)).2.1 (HM.out.later (Zaa _ _)).room (lay_wd _ _) HLL.out (fun s' v9 h1 h2=>?_);replace HM:=Zab ((HM.out.later (Zaa _ _)).grew h2 h1);clear h1 h2);exact⟨⟨k+1,_,_,by omega,by go_num,HM.out,by simp;omega,HOK.out.app (Zer pw).1 (Zer pw).2,by omega⟩,by simp[intOf];omega⟩
        · have hz':(z==0)=false:=by simpa using hz
          go_wp2_with (at_builtin;refine Zcu (r:=pw) (.tmp 64) (.tmp 66) rfl rfl (HM.out.later (Zaa _ _)).2.1 (HM.out.later (Zaa _ _)).room (lay_wd _ _) HLL.out (fun s' v9 h1 h2=>?_);replace HM:=Zab ((HM.out.later (Zaa _ _)).grew h2 h1);clear h1 h2);exact⟨⟨k+1,_,_,by omega,by go_num,HM.out,by simp;omega,HOK.out.app pb0 pb1,by omega⟩,by simp[intOf];omega⟩
      · have HR2:Hid (∃sx:Int,(0≤sx∧sx<4)∧Blk 161 v9b QR [Vi lb,Vi sx,Vi sa,Vi (da-db)]):=Zab ⟨sr,⟨sr0,sr1⟩,HR.out⟩;obtain⟨v10,hv⟩:∃v10,v9b=v10:=⟨_,rfl⟩;rw[hv] at HR2 HM⊢;clear hv HR
        go_upto_region 9 with fail;obtain⟨sx,⟨sx0,sx1⟩,hR⟩:=HR2.out;have HRR:=Zab hR.range;have hmay:=may_w lb0 lb1 sx0 sx1 sa0 sa1 (show -262144≤da-db by omega) (show da-db<262144 by omega);obtain⟨pb0,pb1⟩:=pack_bd hmay;clear hR HR2
        go_upto_region 10 with(first
         |(refine Lq 161 _ rfl ?_;refine wpList_load_mid rfl 161 (.tmp 10) rfl QR 0 rfl [Vi lb,Vi sx,Vi sa,Vi (da-db)] _ HRR.out underlying161 rfl Zix ?_)
         |(go_at_call 72;refine Sb (word_any lb sx sa (da-db) hmay _) fun v11 hb=>?_;replace HM:=Zab (HM.out.later hb);clear hb))
        generalize Zcy lb sx sa (da-db)=pw at pb0 pb1⊢;clear hmay HRR
        go_upto_if 61 with(go_at_call 67;clear T2;refine(dN 20 hl HM.out.1).mono ?_;rintro e v12 ⟨⟨z,rfl,z0,z1⟩,hD,hK,hsz⟩;replace HM:=Zab (HM.out.dk hD hK);clear hsz hD hK)
        by_cases hz:z=0
        · subst hz
          go_wp2_with (at_builtin;refine Zcu (r:=flipW pw) (.tmp 64) (.tmp 66) rfl rfl (HM.out.later (Zaa _ _)).2.1 (HM.out.later (Zaa _ _)).room (lay_wd _ _) HLL.out (fun s' v9 h1 h2=>?_);replace HM:=Zab ((HM.out.later (Zaa _ _)).grew h2 h1);clear h1 h2);exact⟨⟨k+1,_,_,by omega,by go_num,HM.out,by simp;omega,HOK.out.app (Zer pw).1 (Zer pw).2,by omega⟩,by simp[intOf];omega⟩
        · have hz':(z==0)=false:=by simpa using hz
          go_wp2_with (at_builtin;refine Zcu (r:=pw) (.tmp 64) (.tmp 66) rfl rfl (HM.out.later (Zaa _ _)).2.1 (HM.out.later (Zaa _ _)).room (lay_wd _ _) HLL.out (fun s' v9 h1 h2=>?_);replace HM:=Zab ((HM.out.later (Zaa _ _)).grew h2 h1);clear h1 h2);exact⟨⟨k+1,_,_,by omega,by go_num,HM.out,by simp;omega,HOK.out.app pb0 pb1,by omega⟩,by simp[intOf];omega⟩
  · obtain rfl:k=many:=by omega
    obtain⟨p,c,rfl⟩:=HM.out.2.1.slice;go_wp2_with fail;go_ret;exact⟨⟨p,c,ws,rfl,by omega,HM.out.2.1.wds HOK.out⟩,HM.out.2.2.1⟩
def z30:List Value:=[Vi 0,Vi 0,Vi 0,.bool false,.bool false,.bool false,Vi 0,Vi 0,Vi 0,Vi 0,.bool false,.bool false,.bool false,Vi 0,Vi 0,Vi 0,Vi 0,.bool false,.bool false,.bool false,Vi 0,.slice none 0 0,.slice none 0 0,Vi 0,Vi 0,Vi 0,Vi 0,Vi 0,Vi 0,Vi 0]
theorem keepR4{w u u':World}{T R S C:Int}(hb:Below u.heap.size u u')(h:(u.cell? (Ad w.heap.size 0)=some (Vi T)∧u.cell? (Ad w.heap.size 1)=some (Vi R)∧u.cell? (Ad w.heap.size 2)=some (Vi S)∧u.cell? (Ad w.heap.size 3)=some (Vi C))∧Below w.heap.size w u):(u'.cell? (Ad w.heap.size 0)=some (Vi T)∧u'.cell? (Ad w.heap.size 1)=some (Vi R)∧u'.cell? (Ad w.heap.size 2)=some (Vi S)∧u'.cell? (Ad w.heap.size 3)=some (Vi C))∧Below w.heap.size w u':=⟨B4.later h.1 hb,Zac h.2 hb⟩
theorem skeepK{w w3 u u':World}{bl ol k cv:Nat}{ao:Option Addr}{q:List Value}{T R S C i b:Int}{o:Bool}(hb:Below u.heap.size u u')(h:(u.cell? (Ad w.heap.size 0)=some (Vi T)∧u.cell? (Ad w.heap.size 1)=some (Vi R)∧u.cell? (Ad w.heap.size 2)=some (Vi S)∧u.cell? (Ad w.heap.size 3)=some (Vi C))∧(u.cell? (Ad bl (ol+k*3))=some (Vi i)∧u.cell? (Ad bl (ol+k*3+1))=some (Vi b)∧u.cell? (Ad bl (ol+k*3+2))=some (.bool o))∧Below w3.heap.size w3 u∧u.ownsRow w3.heap.size 3 1 (.slice ao k cv) k q):(u'.cell? (Ad w.heap.size 0)=some (Vi T)∧u'.cell? (Ad w.heap.size 1)=some (Vi R)∧u'.cell? (Ad w.heap.size 2)=some (Vi S)∧u'.cell? (Ad w.heap.size 3)=some (Vi C))∧(u'.cell? (Ad bl (ol+k*3))=some (Vi i)∧u'.cell? (Ad bl (ol+k*3+1))=some (Vi b)∧u'.cell? (Ad bl (ol+k*3+2))=some (.bool o))∧Below w3.heap.size w3 u'∧u'.ownsRow w3.heap.size 3 1 (.slice ao k cv) k q:=
 ⟨B4.later h.1 hb,⟨cell_later hb h.2.1.1,cell_later hb h.2.1.2.1,cell_later hb h.2.1.2.2⟩,Zac h.2.2.1 hb,Zaz h.2.2.2 hb⟩
theorem ils_of_owns{w:World}{B:Nat}{a:Option Addr}{cap n:Nat}{zs:List Int}(hn:n=zs.length)(h:w.ownsRow B 3 1 (.slice a n cap) n (zs.map (Value.int .i64))):ILs w a zs:=by
 subst hn
 by_cases h0:zs.length=0
 · exact .inl (List.length_eq_zero_iff.mp h0)
 · right
   obtain⟨g,c,hv,hb,hg⟩:=h.form (by omega);simp only[Value.slice.injEq] at hv;obtain⟨rfl,_,rfl⟩:=hv;refine⟨g,0,rfl,fun k hk=>?_⟩;rw[Nat.zero_add,h.cellAt k (by omega),List.getElem?_map,List.getElem?_eq_getElem hk,List.getD_eq_getElem?_getD,List.getElem?_eq_getElem hk]
   rfl
theorem refSpread_any(T R S C sum v:Int)(l:List Sv)(a:Option Addr)(ca:Nat)(hok:AllOk T R S C l)(h4:l.length≤4)(hv:IsLev T R l (Zal sum (tot T R l (-T)) (tot T R l T)) v)(w:World)(hw:VLs w a l):
 Calls prog 98 #[.agg #[Vi T,Vi R,Vi S,Vi C],.slice a l.length ca,Vi sum] w fun e w'=>(∃x cap,e=.returned (.slice x l.length cap)∧ILs w' x (dlU T R l v (Zal sum (tot T R l (-T)) (tot T R l T)-tot T R l v) l.length))∧Below w.heap.size w w':=by
 obtain⟨i0,hi,hz0,hz1,hz2⟩:=info_parts infoInt;have HR:=Zab (RB.new w T R S C);have HV:=Zab hw;have HOK:=Zab hok;have ⟨t0,t1⟩:=(Zat hok.1).1;have b1:=tot_bd hok (by omega) (-T);have b2:=tot_bd hok (by omega) T;have HM:=Zab (Zdy T R l (show -T≤T by omega));obtain⟨sm,HSE⟩:∃sm,Hid (Zal sum (tot T R l (-T)) (tot T R l T)=sm):=⟨_,rfl⟩;have hcl:=Zax sum (tot T R l (-T)) (tot T R l T) HM.out;have bs:=Zcd (v:=sum) HM.out;rw[HSE.out] at hv hcl bs;have HLV:=Zab hv;have bv:=And.intro hv.1 hv.2.1;have HBS:=Zab bs.1;have htl:=fun v u hu=>total_any T R S C l v a ca hok (by omega) u hu;have htA:∀u,((u.cell? (Ad w.heap.size 0)=some (Vi T)∧u.cell? (Ad w.heap.size 1)=some (Vi R)∧u.cell? (Ad w.heap.size 2)=some (Vi S)∧u.cell? (Ad w.heap.size 3)=some (Vi C))∧Below w.heap.size w u)→Calls prog 146 #[.agg #[Vi T,Vi R,Vi S,Vi C],.slice a l.length ca,Vi (-T)] u fun e w'=>e=.returned (Vi (tot T R l (-T)))∧Below u.heap.size u w':=fun u hu=>htl _ u (HV.out.later hu.2);have htB:∀u,((u.cell? (Ad w.heap.size 0)=some (Vi T)∧u.cell? (Ad w.heap.size 1)=some (Vi R)∧u.cell? (Ad w.heap.size 2)=some (Vi S)∧u.cell? (Ad w.heap.size 3)=some (Vi C))∧Below w.heap.size w u)→Calls prog 146 #[.agg #[Vi T,Vi R,Vi S,Vi C],.slice a l.length ca,Vi T] u fun e w'=>e=.returned (Vi (tot T R l T))∧Below u.heap.size u w':=fun u hu=>htl _ u (HV.out.later hu.2);have v1:=Wr (-T)
 have hlen:(l.length:Int)≤4:=by omega
 clear hw hok hv;obtain⟨s,HS0⟩:∃s,Hid (sm-tot T R l v=s):=⟨_,rfl⟩;rw[HSE.out,HS0.out]
 go_enter func98,ntmps98
 go_upto_region 1 with fail;have S0:((w.alloc (.cells #[Vi T,Vi R,Vi S,Vi C] 113)).cell? (Ad w.heap.size 0)=some (Vi T)∧(w.alloc (.cells #[Vi T,Vi R,Vi S,Vi C] 113)).cell? (Ad w.heap.size 1)=some (Vi R)∧(w.alloc (.cells #[Vi T,Vi R,Vi S,Vi C] 113)).cell? (Ad w.heap.size 2)=some (Vi S)∧(w.alloc (.cells #[Vi T,Vi R,Vi S,Vi C] 113)).cell? (Ad w.heap.size 3)=some (Vi C))∧Below w.heap.size w (w.alloc (.cells #[Vi T,Vi R,Vi S,Vi C] 113)):=⟨HR.out.1,HR.out.2⟩;generalize (w.alloc (.cells #[Vi T,Vi R,Vi S,Vi C] 113))=w0 at *;have Z:=Zab S0
 go_cut [2] (fun c u=>c=Vi sm∧((u.cell? (Ad w.heap.size 0)=some (Vi T)∧u.cell? (Ad w.heap.size 1)=some (Vi R)∧u.cell? (Ad w.heap.size 2)=some (Vi S)∧u.cell? (Ad w.heap.size 3)=some (Vi C))∧Below w.heap.size w u))
 case first=>
  generalize tot T R l (-T)=tA at *;generalize tot T R l T=tB at*
  go_region_held3 (fun u=>(u.cell? (Ad w.heap.size 0)=some (Vi T)∧u.cell? (Ad w.heap.size 1)=some (Vi R)∧u.cell? (Ad w.heap.size 2)=some (Vi S)∧u.cell? (Ad w.heap.size 3)=some (Vi C))∧Below w.heap.size w u)
   (first
    |(with_reducible assumption)
    |(with_reducible apply keepR4;with_reducible assumption;with_reducible assumption)
    |(refine keepR4 ?_ Z.out;exact(Below.refl _ _).drew))
   (first
    |((first|go_at_call_of 146 (Vi (-T))|go_at_call_of 146 (Value.int .i64 (-T)));refine Sb (htA _ (by with_reducible assumption)) fun w' hb=>?_)
    |(go_at_call 146;refine Sb (htB _ (by with_reducible assumption)) fun w' hb=>?_)
    |(go_at_call 94;refine(hcl _).mono ?_;rintro e w' ⟨rfl,rfl⟩))
  all_goals
   rename_i hH
   go_wp2_with fail
   go_meet
   (case rel=>exact⟨rfl,hH⟩)
 case rest=>
  obtain⟨rfl,hH⟩:=hcut;rename World=>wb;clear S0 Z HR htA htB;have HR:=Zab (show RB w wb T R S C from hH);obtain⟨q0,q1,q2,q3⟩:=hH.1;clear hH;go_wp2
  go_loopw [7] (fun x wr=>∃lv:Int,x=Vi lv∧-T≤lv∧lv≤T∧(lv<T→sm<tot T R l (lv+1))∧RB w wr T R S C) (fun x _=>(intOf x+T).toNat)
  case atStart=>exact⟨T,rfl,by omega,by omega,fun h=>by omega,HR.out⟩
  case round=>
   clear HR q0 q1 q2 q3;obtain⟨lv,rfl,l0,l1,hup,hR⟩:=hrel;have HU:=Zab hup;have HR:=Zab hR;obtain⟨q0,q1,q2,q3⟩:=hR.1;have htl':=htl lv;clear hup hR;obtain⟨tt,HTT⟩:∃tt,Hid (tot T R l lv=tt):=⟨_,rfl⟩;rw[HTT.out] at htl'
   by_cases hgo:-T<lv∧sm<tt
   · obtain⟨g1,g2⟩:=hgo
     go_wp2_with (go_at_call 146;refine Sb (htl' _ (HV.out.later HR.out.2)) fun w1 hb1=>?_;have HR:=Zab (HR.out.later hb1);clear hb1);go_roundw
     case rel=>exact⟨lv-1,rfl,by omega,by omega,fun _=>by rw[show lv-1+1=lv by omega,HTT.out];exact g2,HR.out⟩
     case measure=>simp[intOf];omega
   · have HL:Hid (IsLev T R l sm lv):=by
      refine⟨l0,l1,?_,HU.out⟩
      by_cases hh:-T<lv
      · have:¬sm<tt:=fun h=>hgo ⟨hh,h⟩;rw[HTT.out];omega
      · rw[show lv=-T by omega];exact HBS.out
     have ev:=HL.out.unique HLV.out;subst ev;have htb:=tot_bd HOK.out (by omega) lv;have htle:tot T R l lv≤sm:=HL.out.2.2.1
     have s0:0≤s∧s≤40000:=by have:=HS0.out;omega
     rw[HTT.out] at htb htle HS0
     have hg2:(-T<lv∧¬sm<tt)∨¬-T<lv:=by
      by_cases hh:-T<lv
      · exact .inl ⟨hh,fun h=>hgo ⟨hh,h⟩⟩
      · exact .inr hh
     clear hgo HLV HL HU
     rcases hg2 with⟨g1,g2⟩|g1
     all_goals
      go_wp2_with (go_at_call 146;refine Sb (htl' _ (HV.out.later HR.out.2)) fun w1 hb1=>?_;have HR:=Zab (HR.out.later hb1);obtain⟨q0,q1,q2,q3⟩:=HR.out.1;clear hb1);rename World=>w3;clear g1;clear q0 q1 q2 q3 htl' htl;rw[HS0.out]
      go_loopw [8,9,10] (fun x vv ix wr=>∃(k:Nat) (ao:Option Addr) (cv:Nat),k≤l.length∧ix=Vi k∧x=Vi (lfU T R l lv s k)∧vv=.slice ao k cv∧wr.ownsRow w3.heap.size 3 1 vv k ((dlU T R l lv s k).map (Value.int .i64))∧Below w3.heap.size w3 wr) (fun _ _ ix _=>l.length-(intOf ix).toNat)
      case atStart=>exact⟨0,none,0,Nat.zero_le _,rfl,rfl,rfl,World.ownsRow_nil _ _ _ _,Below.refl _ _⟩
      case round=>
       obtain⟨k,ao,cv,hk,rfl,rfl,rfl,hown,hnx⟩:=hrel;have HN:=Zab hnx
       by_cases hlt:k<l.length
       · obtain⟨bl,ol,rfl,d0,d1,d2⟩:=(HV.out.later (RB.later HR.out hnx).2).at hlt;have HQ:=(RB.later HR.out hnx).1;have hlb:=lfU_bd T R l lv s k;have htb1:=tk_bd HOK.out hlt lv;have htb2:=tk_bd HOK.out hlt (lv+1);have HS:=Zab (show lfU T R l lv s (k+1)=if 0<lfU T R l lv s k∧tk T R (svAt l k) lv<tk T R (svAt l k) (lv+1) then lfU T R l lv s k-1 else lfU T R l lv s k from rfl);have HI:=Zab (show dlI T R l lv s k=if 0<lfU T R l lv s k∧tk T R (svAt l k) lv<tk T R (svAt l k) (lv+1) then tk T R (svAt l k) lv+1 else tk T R (svAt l k) lv from rfl);have HDU:=Zab (show dlU T R l lv s (k+1)=dlU T R l lv s k++[dlI T R l lv s k] from rfl);have h1:=taken_any T R S C (svAt l k).1 (svAt l k).2.1 (svAt l k).2.2 lv HOK.out.1 (HOK.out.2 k hlt);have h2:=taken_any T R S C (svAt l k).1 (svAt l k).2.1 (svAt l k).2.2 (lv+1) HOK.out.1 (HOK.out.2 k hlt);rw[show tk T R ((svAt l k).1,(svAt l k).2.1,(svAt l k).2.2) lv=tk T R (svAt l k) lv from rfl] at h1;rw[show tk T R ((svAt l k).1,(svAt l k).2.1,(svAt l k).2.2) (lv+1)=tk T R (svAt l k) (lv+1) from rfl] at h2
         have j0:(0:Int)≤(k:Int):=by omega
         have j1:(k:Int)<(l.length:Int):=by omega
         have w1':IntKind.i64.wrap (lv+1)=lv+1:=Zio (by omega) (by omega);generalize lfU T R l lv s k=x at *;generalize tk T R (svAt l k) lv=t at *;generalize tk T R (svAt l k) (lv+1)=t2 at *;generalize (svAt l k).1=i at *;generalize (svAt l k).2.1=b at *;generalize (svAt l k).2.2=o at *;obtain⟨q,HQE⟩:∃q,Hid ((dlU T R l lv s k).map (Value.int .i64)=q):=⟨_,rfl⟩;rw[HQE.out] at hown;have S0:(wr.cell? (Ad w.heap.size 0)=some (Vi T)∧wr.cell? (Ad w.heap.size 1)=some (Vi R)∧wr.cell? (Ad w.heap.size 2)=some (Vi S)∧wr.cell? (Ad w.heap.size 3)=some (Vi C))∧(wr.cell? (Ad bl (ol+k*3))=some (Vi i)∧wr.cell? (Ad bl (ol+k*3+1))=some (Vi b)∧wr.cell? (Ad bl (ol+k*3+2))=some (.bool o))∧Below w3.heap.size w3 wr∧wr.ownsRow w3.heap.size 3 1 (.slice ao k cv) k q:=⟨HQ,⟨d0,d1,d2⟩,hnx,hown⟩;have Z:=Zab S0;clear hnx hown d0 d1 d2 HQ HN
         go_upto_region 10 with fail
         go_cut [11] (fun y u=>y=Vi t∧((u.cell? (Ad w.heap.size 0)=some (Vi T)∧u.cell? (Ad w.heap.size 1)=some (Vi R)∧u.cell? (Ad w.heap.size 2)=some (Vi S)∧u.cell? (Ad w.heap.size 3)=some (Vi C))∧(u.cell? (Ad bl (ol+k*3))=some (Vi i)∧u.cell? (Ad bl (ol+k*3+1))=some (Vi b)∧u.cell? (Ad bl (ol+k*3+2))=some (.bool o))∧Below w3.heap.size w3 u∧u.ownsRow w3.heap.size 3 1 (.slice ao k cv) k q))
         case first=>
          go_region_held3 (fun u=>(u.cell? (Ad w.heap.size 0)=some (Vi T)∧u.cell? (Ad w.heap.size 1)=some (Vi R)∧u.cell? (Ad w.heap.size 2)=some (Vi S)∧u.cell? (Ad w.heap.size 3)=some (Vi C))∧(u.cell? (Ad bl (ol+k*3))=some (Vi i)∧u.cell? (Ad bl (ol+k*3+1))=some (Vi b)∧u.cell? (Ad bl (ol+k*3+2))=some (.bool o))∧Below w3.heap.size w3 u∧u.ownsRow w3.heap.size 3 1 (.slice ao k cv) k q)
           (first
            |(with_reducible assumption)
            |(with_reducible apply skeepK;with_reducible assumption;with_reducible assumption)
            |(refine skeepK ?_ Z.out;exact(Below.refl _ _).drew))
           (first
            |(go_at_call 147;refine Sb (h1 _) fun w' hb=>?_))
          all_goals
           rename_i hH
           go_wp2_with fail
           go_meet
           (case rel=>exact⟨rfl,hH⟩)
         case rest=>
          obtain⟨rfl,hH⟩:=hcut;rename World=>we;clear Z S0;have S0:=hH;have Z:=Zab hH;clear hH
          go_upto_region 11 with fail
          go_cut [74] (fun c u=>c=.bool (decide (0<x)&&decide (t<t2))∧((u.cell? (Ad w.heap.size 0)=some (Vi T)∧u.cell? (Ad w.heap.size 1)=some (Vi R)∧u.cell? (Ad w.heap.size 2)=some (Vi S)∧u.cell? (Ad w.heap.size 3)=some (Vi C))∧(u.cell? (Ad bl (ol+k*3))=some (Vi i)∧u.cell? (Ad bl (ol+k*3+1))=some (Vi b)∧u.cell? (Ad bl (ol+k*3+2))=some (.bool o))∧Below w3.heap.size w3 u∧u.ownsRow w3.heap.size 3 1 (.slice ao k cv) k q))
          case first=>
           by_cases hp:0<x
           · skip
             go_region_held3 (fun u=>(u.cell? (Ad w.heap.size 0)=some (Vi T)∧u.cell? (Ad w.heap.size 1)=some (Vi R)∧u.cell? (Ad w.heap.size 2)=some (Vi S)∧u.cell? (Ad w.heap.size 3)=some (Vi C))∧(u.cell? (Ad bl (ol+k*3))=some (Vi i)∧u.cell? (Ad bl (ol+k*3+1))=some (Vi b)∧u.cell? (Ad bl (ol+k*3+2))=some (.bool o))∧Below w3.heap.size w3 u∧u.ownsRow w3.heap.size 3 1 (.slice ao k cv) k q)
              (first
               |(with_reducible assumption)
               |(with_reducible apply skeepK;with_reducible assumption;with_reducible assumption)
               |(refine skeepK ?_ Z.out;exact(Below.refl _ _).drew))
              (first
               |(go_at_call 147;refine Sb (h2 _) fun w' hb=>?_))
             all_goals
              rename_i hH
              go_wp2_with fail
              go_meet
              (case rel=>exact⟨by rw[decide_eq_true hp];simp,hH⟩)
           · skip
             have hp':decide (0<x)=false:=by simpa using hp
             have HPD:=Zab hp';go_quiet (fail);go_wp2
             go_meet
             (case rel=>exact⟨by rw[HPD.out];rfl,skeepK (below_drewN (Below.refl _ _) _) Z.out⟩)
          case rest=>
           obtain⟨rfl,hH⟩:=hcut;rename World=>wf;clear Z S0;have Z:=Zab hH;clear hH
           go_upto_if 74 with fail
           go_cut [8,11] (fun x' y' u=>x'=Vi (lfU T R l lv s (k+1))∧y'=Vi (dlI T R l lv s k)∧((u.cell? (Ad w.heap.size 0)=some (Vi T)∧u.cell? (Ad w.heap.size 1)=some (Vi R)∧u.cell? (Ad w.heap.size 2)=some (Vi S)∧u.cell? (Ad w.heap.size 3)=some (Vi C))∧(u.cell? (Ad bl (ol+k*3))=some (Vi i)∧u.cell? (Ad bl (ol+k*3+1))=some (Vi b)∧u.cell? (Ad bl (ol+k*3+2))=some (.bool o))∧Below w3.heap.size w3 u∧u.ownsRow w3.heap.size 3 1 (.slice ao k cv) k q))
           case first=>
            by_cases hp:0<x∧t<t2
            · rw[if_pos hp] at HS HI;rw[decide_eq_true hp.1,decide_eq_true hp.2];go_wp2
              go_meet
              (case rel=>exact⟨by rw[HS.out],by rw[HI.out],Z.out⟩)
            · rw[if_neg hp] at HS HI;rw[show(decide (0<x)&&decide (t<t2))=false by simpa using hp];go_wp2
              go_meet
              (case rel=>exact⟨by rw[HS.out],by rw[HI.out],Z.out⟩)
           case rest=>
            obtain⟨rfl,rfl,hH⟩:=hcut;rename World=>wd;clear Z HS HI;have HO:=Zab hH.2.2.2;have HN:=Zab hH.2.2.1;have LS:=hH.2.2.1.size;clear hH;obtain⟨y,HYE⟩:∃y,Hid (dlI T R l lv s k=y):=⟨_,rfl⟩;rw[HYE.out] at HDU⊢
            go_wp2_with (at_builtin;refine wpList_append_lies _ rfl _ _ 22 rfl w3.heap.size 3 i0 (Vi 0) 1 8 underlying22 hi hz0 hz1 hz2 rfl (by decide) _ _ _ rfl (HO.out.alloc _) ⟨wd.heap.size,0,none⟩ 1 1 [Vi y] rfl rfl (f1new wd _ _) (fun x hx=>by simp at hx;subst hx;rfl) (by omega) (by unfold maxLen;omega) (by omega) (by simp;omega) _ rfl ?_;intro g cap w4 hown' hgrow hat hlt3);go_roundw
            case rel=>
             refine⟨k+1,some (Ad g 0),cap,by omega,by go_num,rfl,rfl,?_,?_⟩
             · rw[HDU.out,List.map_append,HQE.out];exact hown'
             · exact(HN.out.alloc LS _).grown hgrow (by simp;omega) (fun q hq=>(HO.out.lt q hq).1)
            case measure=>simp[intOf];omega
       · have e:k=l.length:=by omega
         have HL:=Zab (ils_of_owns (by rw[Zcn]) hown);subst e;clear hown hnx;go_wp2;go_ret;exact⟨⟨_,_,rfl,HL.out⟩,Zac HR.out.2 HN.out⟩
end Go.Proofs.YtnfdfiholcelaaaGreatDoor
namespace Go.Proofs.YtnfdfiholcelaaaGreatDoor
open Go.RowKit Go.Sort Plain Tryz
theorem keepGBs{w u:World}{j:Nat}{v:Value}{L H N P M R:Int}(h:(u.cell? (Ad w.heap.size 0)=some (Vi L)∧u.cell? (Ad w.heap.size 1)=some (Vi H)∧u.cell? (Ad w.heap.size 2)=some (Vi N)∧u.cell? (Ad w.heap.size 3)=some (Vi P)∧u.cell? (Ad w.heap.size 4)=some (Vi M)∧u.cell? (Ad w.heap.size 5)=some (Vi R))∧Below w.heap.size w u):((u.setCell (Ad (w.heap.size+1) j) v).cell? (Ad w.heap.size 0)=some (Vi L)∧(u.setCell (Ad (w.heap.size+1) j) v).cell? (Ad w.heap.size 1)=some (Vi H)∧(u.setCell (Ad (w.heap.size+1) j) v).cell? (Ad w.heap.size 2)=some (Vi N)∧(u.setCell (Ad (w.heap.size+1) j) v).cell? (Ad w.heap.size 3)=some (Vi P)∧(u.setCell (Ad (w.heap.size+1) j) v).cell? (Ad w.heap.size 4)=some (Vi M)∧(u.setCell (Ad (w.heap.size+1) j) v).cell? (Ad w.heap.size 5)=some (Vi R))∧Below w.heap.size w (u.setCell (Ad (w.heap.size+1) j) v):=by
 have hQ:w.heap.size+1≠w.heap.size:=by omega
 exact⟨⟨Zbn hQ h.1.1,Zbn hQ h.1.2.1,Zbn hQ h.1.2.2.1,Zbn hQ h.1.2.2.2.1,Zbn hQ h.1.2.2.2.2.1,Zbn hQ h.1.2.2.2.2.2⟩,h.2.setCell (by simp) _⟩
theorem refBounds_any(L H N P M R x q:Int)(g:GOK L H N P M R)(k0:-M≤q)(k1:q≤M)(w:World):
 Calls prog 97 #[.agg #[Vi L,Vi H,Vi N,Vi P,Vi M,Vi R],Vi x,Vi q] w fun e w'=>(∃a b,e=.returned (.agg #[Vi (-a),Vi b])∧IsHi R P (-Zcp M R q) (-Zco M R q) (Zal x (-2000000) 2000000-N-L) a∧IsHi R P (Zco M R q) (Zcp M R q) (H-N-Zal x (-2000000) 2000000) b)∧Below w.heap.size w w':=by
 have HX:=Zab (GS.new w L H N P M R);obtain⟨⟨l0,l1,h0,h1,n0,n1,p0,p1,m0,m1,r0,r1⟩,pm,pr,room⟩:=g;have hcl:=Zax x (-2000000) 2000000 (by omega)
 have x0:-2000000≤Zal x (-2000000) 2000000:=by unfold Zal;split<;>(try split)<;>(try split)<;>omega
 have x1:Zal x (-2000000) 2000000≤2000000:=by unfold Zal;split<;>(try split)<;>(try split)<;>omega
 have cn:=can_le r0 m0 k0 k1
 have mx:∀ts t w,(Builtin.max_ ts t #[Vi (-M),Vi (q-R)]).run prog w=.ok (Vi (Zco M R q)) w:=fun ts t w=>by rw[run_maxG];congr 2;unfold Zco;split<;>split<;>congr 1<;>omega
 have mn:∀ts t w,(Builtin.min_ ts t #[Vi M,Vi (q+R)]).run prog w=.ok (Vi (Zcp M R q)) w:=fun ts t w=>by rw[run_minG];congr 2;unfold Zcp;split<;>split<;>congr 1<;>omega
 generalize Zal x (-2000000) 2000000=y at *;generalize Zco M R q=lo at *;generalize Zcp M R q=hi at *;obtain⟨cn0,cn1,cn2,cn3,cn4⟩:=cn;have v1:=Wr (q-R);have v2:=Wr (q+R);have v3:=Wr (-M);have v4:=Wr (-hi);have v5:=Wr (-lo);have v6:=Wr (y-N);have v7:=Wr (y-N-L);have v8:=Wr (H-N);have v9:=Wr (H-N-y);have hA:=Zht L H N P M R (-hi) (-lo) (y-N-L) p0 p1 r0 (by omega) (by omega) (by omega) (by omega);have hB:=Zht L H N P M R lo hi (H-N-y) p0 p1 r0 (by omega) (by omega) (by omega) (by omega);clear room
 go_enter func97,ntmps97
 go_upto_region 2 with(go_at_call 94;refine Sm (hcl _) ?_);generalize (w.alloc (.cells #[Vi L,Vi H,Vi N,Vi P,Vi M,Vi R] 99)).alloc (.cells #[Vi 0,Vi 0] 105)=w1 at *;obtain⟨⟨q0,q1,q2,q3,q4,q5⟩,_⟩:=HX.out;have S0:(w1.cell? (Ad w.heap.size 0)=some (Vi L)∧w1.cell? (Ad w.heap.size 1)=some (Vi H)∧w1.cell? (Ad w.heap.size 2)=some (Vi N)∧w1.cell? (Ad w.heap.size 3)=some (Vi P)∧w1.cell? (Ad w.heap.size 4)=some (Vi M)∧w1.cell? (Ad w.heap.size 5)=some (Vi R))∧Below w.heap.size w w1:=⟨HX.out.1,HX.out.2.2⟩;have Z:=Zab S0
 go_region_held3 (fun u=>(u.cell? (Ad w.heap.size 0)=some (Vi L)∧u.cell? (Ad w.heap.size 1)=some (Vi H)∧u.cell? (Ad w.heap.size 2)=some (Vi N)∧u.cell? (Ad w.heap.size 3)=some (Vi P)∧u.cell? (Ad w.heap.size 4)=some (Vi M)∧u.cell? (Ad w.heap.size 5)=some (Vi R))∧Below w.heap.size w u)
  (first
   |(with_reducible assumption)
   |(with_reducible apply Zgk;with_reducible assumption;with_reducible assumption)
   |(refine Zgk ?_ Z.out;exact(Below.refl _ _).drew))
  (fail)
 all_goals
  rename_i hH
  clear hH S0 Z q0 q1 q2 q3 q4 q5;have S1:=Zab (HX.out.later (Below.refl _ _).drew);generalize w1.drew=w3 at *;clear HX
  go_upto_region 3 with fail;obtain⟨⟨q0,q1,q2,q3,q4,q5⟩,⟨z0,z1,f0,f1⟩,_⟩:=S1.out;have S0:(w3.cell? (Ad w.heap.size 0)=some (Vi L)∧w3.cell? (Ad w.heap.size 1)=some (Vi H)∧w3.cell? (Ad w.heap.size 2)=some (Vi N)∧w3.cell? (Ad w.heap.size 3)=some (Vi P)∧w3.cell? (Ad w.heap.size 4)=some (Vi M)∧w3.cell? (Ad w.heap.size 5)=some (Vi R))∧Below w.heap.size w w3:=⟨S1.out.1,S1.out.2.2⟩
  go_region_held3 (fun u=>(u.cell? (Ad w.heap.size 0)=some (Vi L)∧u.cell? (Ad w.heap.size 1)=some (Vi H)∧u.cell? (Ad w.heap.size 2)=some (Vi N)∧u.cell? (Ad w.heap.size 3)=some (Vi P)∧u.cell? (Ad w.heap.size 4)=some (Vi M)∧u.cell? (Ad w.heap.size 5)=some (Vi R))∧Below w.heap.size w u)
   (first
    |(with_reducible assumption)
    |(with_reducible apply Zgk;with_reducible assumption;with_reducible assumption)
    |(refine keepGBs (keepGBs ?_);with_reducible assumption)
    |(refine Zgk ?_ ⟨S1.out.1,S1.out.2.2⟩;exact(Below.refl _ _).drew))
   (first
    |((first|go_at_call_of 145 (Vi (-hi))|go_at_call_of 145 (Value.int .i64 (-hi)));refine(hA _).mono ?_;rintro e w' ⟨⟨a,rfl,ha⟩,hb⟩;have HHA:=Zab ha;have va:IntKind.i64.wrap (-a)=-a:=Zio (by have:=ha.2.1;omega) (by have:=ha.1;omega);have ya0:w'.cell? (Ad (w.heap.size+1) 0)=some (Vi 0):=Zak hb (by first|with_reducible assumption|exact z0);have yaf0:w'.frozen? (Ad (w.heap.size+1) 0)=false:=Zcq hb (by first|with_reducible assumption|exact z0) (by first|with_reducible assumption|exact f0);have ya1:w'.cell? (Ad (w.heap.size+1) 1)=some (Vi 0):=Zak hb (by first|with_reducible assumption|exact z1);have yaf1:w'.frozen? (Ad (w.heap.size+1) 1)=false:=Zcq hb (by first|with_reducible assumption|exact z1) (by first|with_reducible assumption|exact f1);clear ha)
    |((first|go_at_call_of 145 (Vi lo)|go_at_call_of 145 (Value.int .i64 lo));refine(hB _).mono ?_;rintro e w' ⟨⟨b,rfl,hhb⟩,hb⟩;have HHB:=Zab hhb;have yb0:w'.cell? (Ad (w.heap.size+1) 0)=some (Vi 0):=Zak hb (by first|with_reducible assumption|exact z0);have ybf0:w'.frozen? (Ad (w.heap.size+1) 0)=false:=Zcq hb (by first|with_reducible assumption|exact z0) (by first|with_reducible assumption|exact f0);have yb1:w'.cell? (Ad (w.heap.size+1) 1)=some (Vi 0):=Zak hb (by first|with_reducible assumption|exact z1);have ybf1:w'.frozen? (Ad (w.heap.size+1) 1)=false:=Zcq hb (by first|with_reducible assumption|exact z1) (by first|with_reducible assumption|exact f1);clear hhb))
  all_goals
   rename_i hH
   have HB:=Zab hH.2;clear hH;go_wp2_with fail;refine bodyPost_ret (v:=.agg #[Vi (-a),Vi b]) ?_ rfl ⟨⟨a,b,rfl,HHA.out,HHB.out⟩,HB.out⟩
   simp[results,results97,go_sem,yb0,yb1]
theorem GB.set2{w w1:World}{L H N P M R:Int}(h:GB w w1 L H N P M R)(a b:Int):GB w (w1.alloc (.cells #[Vi a,Vi b] 105)) L H N P M R:=h.later (Zaa _ _)
end Go.Proofs.YtnfdfiholcelaaaGreatDoor
