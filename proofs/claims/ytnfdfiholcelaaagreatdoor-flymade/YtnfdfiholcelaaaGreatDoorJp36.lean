
import Derived.Test.YtnfdfiholcelaaaGreatDoorJp35
set_option maxRecDepth 100000
set_option maxHeartbeats 20000000
namespace Go.Proofs.YtnfdfiholcelaaaGreatDoor
open Go.RowKit Plain Tryz
variable {B K O c m n:Nat}{C:CR}{Q:Exit→Act→World→Prop}{a p:Option Addr}{cs:List Value}{l:List Ft}{o:Oper}{ops:Array Oper}{rest:List Oper}{s:Value}{t:TypeId}{u u' w w':World}
theorem DK.oth(h:DK O w w'):Oth w w' O:=⟨h.size,h.os,h.tape,h.output,h.block⟩
section
variable {α : Type} {f : α → List Value} {m : Nat}
theorem encG_snoc(f:α→List Value)(l:List α)(r:α):(l++[r]).flatMap f=l.flatMap f++f r:=by simp
theorem encG_get(d:α)(hf:∀a,(f a).length=m):∀(rs:List α) (j i:Nat),j<rs.length→i<m→(rs.flatMap f)[j*m+i]?=(f (rs.getD j d))[i]?
 |[],j,_,hj,_=>by simp at hj
 |r::t,0,i,_,hi=>by
  have e:(r::t).flatMap f=f r++t.flatMap f:=by simp
  rw[e,Nat.zero_mul,Nat.zero_add,List.getElem?_append_left (by rw[hf];exact hi)]
  rfl
 |r::t,j+1,i,hj,hi=>by
  have e:(r::t).flatMap f=f r++t.flatMap f:=by simp
  have e2:(j+1)*m+i-m=j*m+i:=by rw[Nat.succ_mul];omega
  rw[e,List.getElem?_append_right (by rw[hf,Nat.succ_mul];omega),hf,e2,encG_get d hf t j i (by simpa using hj) hi]
  rfl
def RwO(f:α→List Value)(m:Nat)(t:TypeId)(K:Nat)(u:World)(s:Value)(rs:List α):Prop:=u.ownsRow K t m s rs.length (rs.flatMap f)
theorem RwO.nil(f:α→List Value)(m:Nat)(t:TypeId)(K:Nat)(u:World):RwO f m t K u (.slice none 0 0) []:=World.ownsRow_nil _ _ _ _
theorem RwO.later{rs:List α}(h:RwO f m t K u s rs)(hb:Bw u u'):RwO f m t K u' s rs:=Y3 h hb
theorem RwO.oth{rs:List α}(h:RwO f m t K u s rs)(hB:B<K)(ho:Oth u u' B):RwO f m t K u' s rs:=
 World.ownsRow.kept h ho.grown (by
  cases e:s.ownBlock with
  |none=>exact .inl rfl
  |some k=>exact .inr (fun e2=>by have:=(World.ownsRow.lt h k e).1;cases e2;omega))
theorem RwO.dk{rs:List α}(h:RwO f m t K u s rs)(hB:B<K)(ho:DK B u u'):RwO f m t K u' s rs:=h.oth hB ho.oth
theorem RwO.slice{rs:List α}(h:RwO f m t K u s rs):∃a c,s=.slice a rs.length c:=by
 rcases h.2 with⟨rfl,e⟩|⟨g,cap,cur,rfl,_⟩
 · exact⟨none,0,by rw[e]⟩
 · exact⟨_,cap,rfl⟩
theorem RwO.at(d:α)(hf:∀a,(f a).length=m){rs:List α}(h:RwO f m t K u (.slice a n c) rs)(h0:rs≠[]):∃g,a=some (Ad g 0)∧∀j,j<rs.length→u.rangeAt g (j*m) (f (rs.getD j d)):=by
 rcases h.2 with⟨_,e⟩|⟨g,cap,cur,e,_,hb,h1,h2,h3,h4⟩
 · exact absurd (List.eq_nil_of_length_eq_zero e) h0
 · simp only[Value.slice.injEq] at e;refine⟨g,e.1,fun j hj i v hv=>?_⟩
   have hi:i<m:=by
    have:=(List.getElem?_eq_some_iff.1 hv).1;rw[hf] at this;exact this
   have hlt:j*m+i<rs.length*m:=by
    have:(j+1)*m≤rs.length*m:=Nat.mul_le_mul_right m hj;rw[Nat.succ_mul] at this
    omega
   have hg:=encG_get d hf rs j i hj hi;rw[←h4,List.getElem?_take_of_lt hlt,Array.getElem?_toList,hv] at hg;simp only[World.cell?,hb];simp only[Option.isSome_none,Bool.false_eq_true,if_false];exact hg
end
theorem ftL_len(r:Ft):(ftL r).length=5:=rfl
theorem ftL_one(r:Ft):∀v∈ftL r,v.oneCell'=true:=by
 intro v hv;have:(ftL r).all (·.oneCell')=true:=rfl;exact List.all_eq_true.1 this v hv
theorem stpL_len(r:Stp):(stpL r).length=8:=rfl
theorem stpL_one(r:Stp):∀v∈stpL r,v.oneCell'=true:=by
 intro v hv;have:(stpL r).all (·.oneCell')=true:=rfl;exact List.all_eq_true.1 this v hv
theorem infoFt3:(prog.info? 73).map (fun i=>(i.zero,i.size,i.bytes))=some (some (.agg #[Vi 0,Vi 0,Vi 0,Vi 0,Vi 0]),5,40):=by kernel_rfl
theorem infoStp3:(prog.info? 78).map (fun i=>(i.zero,i.size,i.bytes))=some (some (.agg #[Vi 0,Vi 0,Vi 0,Vi 0,Vi 0,Vi 0,Vi 0,.bool false]),8,64):=by kernel_rfl
theorem fts_under:prog.underlying 64=some (.slice 73):=by kernel_rfl
theorem stps_under:prog.underlying 65=some (.slice 78):=by kernel_rfl
abbrev FtO:=RwO ftL 5 73
abbrev StO:=RwO stpL 8 78
theorem FtO.fts(h:FtO K u (.slice a n c) l):Fts u a l:=by
 by_cases h0:l=[]
 · exact .inl h0
 · obtain⟨g,e,hc⟩:=RwO.at ftD ftL_len h h0;exact .inr ⟨g,0,e,fun k hk=>by rw[Nat.zero_add];exact hc k hk⟩
theorem StO.sts{l:List Stp}(h:StO K u (.slice a n c) l):Sts u a l:=by
 by_cases h0:l=[]
 · exact .inl h0
 · obtain⟨g,e,hc⟩:=RwO.at stD stpL_len h h0;exact .inr ⟨g,0,e,fun k hk=>by rw[Nat.zero_add];exact hc k hk⟩
theorem wpList_apF{a:Act}{rs:List Ft}{r:Ft}(sO xO:Operand)(ho:o.op=.call { callee:=.builtin .append,args:=#[sO,xO],argTypes:=#[64,64] })(hx:a.eval xO=.slice p 1 c)(hown:FtO K u s rs)(hK:K≤u.heap.size)(hy:Lay u p (ftL r))(hm:rs.length≤1000)(h:∀s' u',FtO K u' s' (rs++[r])→u.grownBy u' s.ownBlock→wpList prog ops Q rest (a.put o.dst s') u')(hgd:o.guard=none:=by rfl)(hs:a.eval sO=s:=by rfl):wpList prog ops Q (o::rest) a u:=by
 obtain⟨i0,hi4,hz0,hz1,hz2⟩:=info_parts infoFt3;refine Na sO xO ho fts_under hi4 hz0 hz1 hz2 hx hown hy (ftL_len r) (ftL_one r) (by unfold maxLen;omega) (by omega) hK (fun s' u' h1 h2=>h s' u' ?_ h2) (by decide) rfl hgd hs
 unfold FtO RwO
 rw[List.length_append,encG_snoc];exact h1
theorem wpList_apS{a:Act}{rs:List Stp}{r:Stp}(sO xO:Operand)(ho:o.op=.call { callee:=.builtin .append,args:=#[sO,xO],argTypes:=#[65,65] })(hx:a.eval xO=.slice p 1 c)(hown:StO K u s rs)(hK:K≤u.heap.size)(hy:Lay u p (stpL r))(hm:rs.length≤1000)(h:∀s' u',StO K u' s' (rs++[r])→u.grownBy u' s.ownBlock→wpList prog ops Q rest (a.put o.dst s') u')(hgd:o.guard=none:=by rfl)(hs:a.eval sO=s:=by rfl):wpList prog ops Q (o::rest) a u:=by
 obtain⟨i0,hi4,hz0,hz1,hz2⟩:=info_parts infoStp3;refine Na sO xO ho stps_under hi4 hz0 hz1 hz2 hx hown hy (stpL_len r) (stpL_one r) (by unfold maxLen;omega) (by omega) hK (fun s' u' h1 h2=>h s' u' ?_ h2) (by decide) rfl hgd hs
 unfold StO RwO
 rw[List.length_append,encG_snoc];exact h1
theorem lay_ft(w:World)(r:Ft):Lay (w.alloc (.cells (ftL r).toArray 73)) (some (Ad w.heap.size 0)) (ftL r):=.inr ⟨_,0,rfl,(Blk.new w 73 (ftL r)).range⟩
theorem lay_stp(w:World)(r:Stp):Lay (w.alloc (.cells (stpL r).toArray 78)) (some (Ad w.heap.size 0)) (stpL r):=.inr ⟨_,0,rfl,(Blk.new w 78 (stpL r)).range⟩
def FtsOK(C:CR)(l:List Ft):Prop:=∀k,k<l.length→FtOK C (ftAt l k)
theorem FtsOK.nil(C:CR):FtsOK C []:=fun k hk=>by simp at hk
theorem FtsOK.app{f:Ft}(h:FtsOK C l)(hf:FtOK C f):FtsOK C (l++[f]):=fun k hk=>by
 by_cases e:k<l.length
 · have:ftAt (l++[f]) k=ftAt l k:=by unfold ftAt;rw[List.getD_eq_getElem?_getD,List.getD_eq_getElem?_getD,List.getElem?_append_left e]
   rw[this];exact h k e
 · have:ftAt (l++[f]) k=f:=by
    unfold ftAt
    have hk':k=l.length:=by simp at hk;omega
    subst hk';rw[List.getD_eq_getElem?_getD,List.getElem?_append_right (Nat.le_refl _)];simp
   rw[this];exact hf
def StsOK(C:CR)(l:List Stp):Prop:=∀k,k<l.length→SA C (stAt l k)
theorem StsOK.nil(C:CR):StsOK C []:=fun k hk=>by simp at hk
theorem StsOK.app{l:List Stp}{f:Stp}(h:StsOK C l)(hf:SA C f):StsOK C (l++[f]):=fun k hk=>by
 by_cases e:k<l.length
 · have:stAt (l++[f]) k=stAt l k:=by unfold stAt;rw[List.getD_eq_getElem?_getD,List.getD_eq_getElem?_getD,List.getElem?_append_left e]
   rw[this];exact h k e
 · have:stAt (l++[f]) k=f:=by
    unfold stAt
    have hk':k=l.length:=by simp at hk;omega
    subst hk';rw[List.getD_eq_getElem?_getD,List.getElem?_append_right (Nat.le_refl _)];simp
   rw[this];exact hf
theorem DK.blk(h:DK O u u')(hB:B≠O)(k:Blk t u B cs):Blk t u' B cs:=(h.block B k.lt hB).trans k
theorem mcell_up{p:Addr}{v:Value}(hb:Below K w w')(hp:p.block<K)(h:w.cell? p=some v):w'.cell? p=some v:=(World.cell?_of_block (w:=w) (hb.block p.block hp)).trans h
theorem Dc.up{l:List Int}{cap:Nat}(h:Dc u O a l cap n)(hb:Below K u u')(hO:O<K)(hr:RawAt a l K):Dc u' O a l cap n:=by
 obtain⟨⟨h1,h2⟩,h3,h4,h5⟩:=h;refine⟨⟨mcell_up hb hO h1,mcell_up hb hO h2⟩,(World.frozen?_of_block (w:=u) (a:=⟨O,1,none⟩) (hb.block O hO)).trans h3,?_,h5⟩
 rcases h4 with h4|⟨b,off,h4,hc⟩
 · exact .inl h4
 · by_cases hl:l=[]
   · exact .inl hl
   · exact .inr ⟨b,off,h4,fun k hk=>mcell_up hb (by have:=hr b off h4 hl;simp;omega) (hc k hk)⟩
theorem RwO.below{α:Type}{f:α→List Value}{rs:List α}(h:RwO f m t K u s rs)(hK:K≤u.heap.size)(hg:u.grownBy u' s.ownBlock):Below K u u':=
 ⟨hg.os,hg.tape,hg.output,hg.size,fun k hk=>hg.block k (by omega) (fun e=>by have:=(World.ownsRow.lt h k e.symm).1;omega)⟩
def MF(w u:World)(C:CR)(O:Nat)(a:Option Addr)(l:List Int)(cap q:Nat)(s:Value)(ls:List Ft):Prop:=
 Dc u O a l cap q∧FtO (w.heap.size+1) u s ls∧Blk 29 u w.heap.size (crL C)∧DK O w u∧O<w.heap.size∧RawAt a l w.heap.size
section
variable {w u u' : World} {C : CR} {O : Nat} {a : Option Addr} {l : List Int} {cap q : Nat} {s : Value} {ls : List Ft}
theorem MF.later(h:MF w u C O a l cap q s ls)(hb:Bw u u'):MF w u' C O a l cap q s ls:=
 ⟨h.1.later hb,h.2.1.later hb,h.2.2.1.later hb,h.2.2.2.1.trans (DK.of_below hb),h.2.2.2.2⟩
theorem MF.dk{q':Nat}(h:MF w u C O a l cap q s ls)(hd:Dc u' O a l cap q')(hk:DK O u u'):MF w u' C O a l cap q' s ls:=
 ⟨hd,h.2.1.dk (by have:=h.2.2.2.2.1;omega) hk,hk.blk (by have:=h.2.2.2.2.1;omega) h.2.2.1,h.2.2.2.1.trans hk,h.2.2.2.2⟩
theorem MF.room(h:MF w u C O a l cap q s ls):w.heap.size+1≤u.heap.size:=h.2.2.1.lt
theorem MF.grew{s':Value}{ls':List Ft}(h:MF w u C O a l cap q s ls)(hg:u.grownBy u' s.ownBlock)(hr:FtO (w.heap.size+1) u' s' ls'):MF w u' C O a l cap q s' ls':=by
 have hb:=h.2.1.below h.room hg;have hO:=h.2.2.2.2.1;refine⟨h.1.up hb (by omega) (fun b off e hl=>by have:=h.2.2.2.2.2 b off e hl;omega),hr,(hb.block _ (by omega)).trans h.2.2.1,?_,h.2.2.2.2⟩;have hk:=h.2.2.2.1;exact⟨hb.os.trans hk.os,hb.tape.trans hk.tape,hb.output.trans hk.output,Nat.le_trans hk.size hb.size,fun k h1 h2=>(hb.block k (by omega)).trans (hk.block k h1 h2)⟩
end
theorem diceMost4(O:Nat)(a:Option Addr)(l:List Int)(cap n:Nat)(x y z t lo hi:Int)(hn:n≤1000000)(hl:l.length≤100)(hb:(lo≤x∧x≤hi)∧(lo≤y∧y≤hi)∧(lo≤z∧z≤hi)∧lo≤t∧t≤hi)(w:World)(hd:Dc w O a l cap n):
 Calls prog 70 #[.pointer (some (Ad O 0)),.slice (some (Ad w.heap.size 0)) 4 4] (w.alloc (.cells #[Vi x,Vi y,Vi z,Vi t] 3)) fun e w'=>(∃q,e=.returned (Vi q)∧lo≤q∧q≤hi)∧Dc w' O a l cap (n+1)∧DK O w w':=by
 have hO:=hd.lt;refine(Nc O w.heap.size a l cap n 4 [x,y,z,t] lo hi hn hl (by simp) (by simp) ?_ (by omega) _ (hd.later (Zb _ _)) ?_).mono fun e w' h=>⟨h.1,h.2.1,(DK.of_below (Zb _ _)).trans h.2.2.1⟩
 · intro k hk;simp only[List.length_cons,List.length_nil] at hk
   rcases(show k=0∨k=1∨k=2∨k=3 by omega) with rfl|rfl|rfl|rfl
   · exact hb.1
   · exact hb.2.1
   · exact hb.2.2.1
   · exact hb.2.2.2
 · intro k hk;simp only[List.length_cons,List.length_nil] at hk
   rcases(show k=0∨k=1∨k=2∨k=3 by omega) with rfl|rfl|rfl|rfl<;>simp[go_sem]
theorem RwO.ne{α:Type}{f:α→List Value}{t':TypeId}{rs:List α}(h:RwO f m t K u s rs)(k:Blk t' u B cs)(hne:t'≠t):some B≠s.ownBlock:=by
 rcases ownsRow_ne_a h k (fun cur e=>absurd (Obj.cells.inj e).2.1 hne) with e|e
 · rw[e];simp
 · exact fun e'=>e e'.symm
theorem faultsFrom_any(C:CR)(lo:Bool)(O:Nat)(a:Option Addr)(l:List Int)(cap n:Nat)(hcr:crE C=0)(hn:n≤1000)(hl:l.length≤100)(w:World)(hd:Dc w O a l cap n)(hraw:RawAt a l w.heap.size):
 Calls prog 83 #[.pointer (some (Ad O 0)),.agg (crL C).toArray,.bool lo] w fun e w'=>(∃(q:Nat) (s:Value) (ls:List Ft),e=.returned s∧MF w w' C O a l cap q s ls∧ls.length≤12∧FtsOK C ls∧q≤n+100):=by
 have HM:Hid (MF w (w.alloc (.cells (crL C).toArray 29)) C O a l cap n (.slice none 0 0) []):=Za ⟨hd.later (Zb _ _),RwO.nil _ _ _ _ _,Blk.new w 29 (crL C),DK.of_below (Zb _ _),hd.lt,hraw⟩;obtain⟨i0',hi4,hz0,hz1,hz2⟩:=info_parts infoFt3;clear hd hraw
 go_enter func83,ntmps83
 go_upto_region 2 with fail;generalize w.alloc (.cells (crL C).toArray 29)=v0 at*
 go_upto_region 3 with fail
 go_loopw [7,8] (fun s ix wr=>∃(i q:Nat) (ls:List Ft),i≤3∧ix=Vi i∧MF w wr C O a l cap q s ls∧ls.length≤3*i∧FtsOK C ls∧q≤n+20*i) (fun _ ix _=>3-(intOf ix).toNat)
 case atStart=>exact⟨0,n,[],by omega,rfl,HM.out,by simp,FtsOK.nil C,by omega⟩
 case round=>
  clear HM;obtain⟨i,q,ls,hi,rfl,hM,hls,hok,hq⟩:=hrel;have HM:=Za hM;have Hc:=Za hok;clear hM hok
  by_cases hlt:i<3
  · have i0:(0:Int)≤(i:Int):=by omega
    have i1:(i:Int)<3:=by omega
    go_upto_region 6 with(go_at_call 67;refine(dN 3 hl HM.out.1).mono ?_;rintro e v1 ⟨⟨x,rfl,x0,x1⟩,hD,hK,hsz⟩;replace HM:=Za (HM.out.dk hD hK);clear hsz hD hK)
    go_upto_region 7 with(go_at_call 67;refine(dN 4 hl HM.out.1).mono ?_;rintro e v2 ⟨⟨y,rfl,y0,y1⟩,hD,hK,hsz⟩;replace HM:=Za (HM.out.dk hD hK);clear hsz hD hK);obtain⟨k,rfl⟩:∃k:Nat,y=(k:Int):=⟨y.toNat,by omega⟩
    go_loopw [7,10] (fun s ix wr=>∃(k q:Nat) (ls:List Ft),k≤3∧ix=Vi k∧MF w wr C O a l cap q s ls∧ls.length+k≤3*(i+1)∧FtsOK C ls∧q+6*k≤n+20*(i+1)) (fun _ ix _=>(intOf ix).toNat)
    case atStart=>exact⟨k,_,ls,by omega,rfl,HM.out,by omega,Hc.out,by omega⟩
    case round=>
     clear HM Hc;obtain⟨k,q,ls,hk,rfl,hM,hls,hok,hq⟩:=hrel;have HM:=Za hM;have Hc:=Za hok;clear hM hok
     by_cases hz:0<k
     · have k0:(0:Int)<(k:Int):=by omega
       have Hd:Hid (ls.length≤1000):=Za (by omega);obtain⟨j,rfl⟩:∃j:Nat,k=j+1:=⟨k-1,by omega⟩
       have vk:IntKind.i64.wrap (((j+1:Nat):Int)-1)=(j:Int):=by rw[show(((j+1:Nat):Int)-1)=(j:Int) by omega];exact Xo (by omega) (by omega)
       have T1:Hid True:=trivial;have T2:Hid True:=trivial;have T3:Hid True:=trivial;have T4:Hid True:=trivial;have T5:Hid True:=trivial;have T6:Hid True:=trivial
       go_wp2_with (first
        |(go_at_call 70;clear T1;refine(Nd O a l cap _ 4 100 4 100 (by omega) hl (by omega) _ HM.out.1).mono ?_;rintro e v3 ⟨⟨m,rfl,m0,m1⟩,hD,hK⟩;replace HM:=Za (HM.out.dk hD hK);clear hD hK)
        |(go_at_call 67;clear T2;refine(dN _ hl HM.out.1).mono ?_;rintro e v4 ⟨⟨p,rfl,p0,p1⟩,hD,hK,hsz⟩;replace HM:=Za (HM.out.dk hD hK);clear hsz hD hK)
        |(go_at_call 67;clear T3;refine(dN _ hl HM.out.1).mono ?_;rintro e v5 ⟨⟨kd,rfl,kd0,kd1⟩,hD,hK,hsz⟩;replace HM:=Za (HM.out.dk hD hK);clear hsz hD hK)
        |(go_at_call 70;clear T4;refine(Uc O a l cap _ 7 200 20001 7 20001 (by omega) hl (by omega) _ HM.out.1).mono ?_;rintro e v6 ⟨⟨mm,rfl,mm0,mm1⟩,hD,hK⟩;replace HM:=Za (HM.out.dk hD hK);clear hD hK)
        |(go_at_call 67;clear T5;refine(dN _ hl HM.out.1).mono ?_;rintro e v7 ⟨⟨zz,rfl,zz0,zz1⟩,hD,hK,hsz⟩;replace HM:=Za (HM.out.dk hD hK);clear hsz hD hK)
        |(go_at_call 70;clear T6;refine(Uc O a l cap _ 0 3 10000 0 10000 (by omega) hl (by omega) _ HM.out.1).mono ?_;rintro e v8 ⟨⟨tt,rfl,tt0,tt1⟩,hD,hK⟩;replace HM:=Za (HM.out.dk hD hK);clear hD hK;have vz:=Wr (zz-tt))
        |(at_builtin;refine wpList_apF (r:=((p,kd,(i:Int),x,zz-tt):Ft)) (.tmp 27) (.tmp 47) rfl rfl (HM.out.later (Zb _ _)).2.1 (HM.out.later (Zb _ _)).room (lay_ft _ _) Hd.out (fun s' v9 h1 h2=>?_);replace HM:=Za ((HM.out.later (Zb _ _)).grew h2 h1);clear h1 h2))
       exact⟨⟨j,_,_,by omega,by go_num,HM.out,by simp;omega,Hc.out.app ⟨⟨p0,by dsimp only;omega⟩,⟨kd0,by dsimp only;omega⟩,⟨i0,by dsimp only;omega⟩,x0,fun _=>by dsimp only;omega,fun h=>by dsimp only at h;omega⟩,by omega⟩,by simp[intOf]⟩
     · obtain rfl:k=0:=by omega
       go_wp2_with fail;exact⟨⟨i+1,_,_,by omega,by go_num,HM.out,by omega,Hc.out,by omega⟩,by simp[intOf];omega⟩
  · obtain rfl:i=3:=by omega
    cases lo
    · go_wp2_with fail;go_ret;exact⟨_,_,_,rfl,HM.out,by omega,Hc.out,by omega⟩
    · go_upto_region 13 with(go_at_call 67;refine(dN 2 hl HM.out.1).mono ?_;rintro e v1 ⟨⟨x,rfl,x0,x1⟩,hD,hK,hsz⟩;replace HM:=Za (HM.out.dk hD hK);clear hsz hD hK);obtain⟨c,rfl⟩:∃c:Nat,x=(c:Int):=⟨x.toNat,by omega⟩
      have hc:c<2:=by omega
      obtain⟨⟨r40,r41⟩,-⟩:=Z9 hcr hc
      have h5:1≤C.a c 5∧C.a c 5≤1000:=by have:=cr_ar hcr hc;simp only[arB,betw,Bool.and_eq_true,decide_eq_true_eq] at this;omega
      have Hi:=Za (HM.out.2.2.1.sub (c*15) 15);rw[cr_axi C hc] at Hi;have HA:=Zb v1 (.cells (axL C c).toArray 26);have Ha:Hid (Blk 26 (v1.alloc (.cells (axL C c).toArray 26)) v1.heap.size (axL C c)):=Za (Blk.new v1 _ _);have HQ:Hid (v1.heap.size≠O):=Za (by have:=HM.out.1.lt;omega);replace HM:=Za (HM.out.later HA);clear HA
      go_upto_region 14 with(first
       |(refine Lm 26 (.tmp 56) rfl w.heap.size (c*15) (axL C c) Hi.out underlying26 Zs ?_)
       |(refine Sq 26 _ _ rfl ?_;refine Xy (c':=(axL C c).toArray) (.tmp 12) (.tmp 57) rfl rfl rfl rfl rfl rfl (Zn _ rfl) ?_))
      clear Hi;generalize v1.alloc (.cells (axL C c).toArray 26)=v2 at *;generalize v1.heap.size=QA at Ha HQ⊢;have x4:=(Ha.out.cell (j:=4) rfl).1
      go_upto_region 15 with(go_at_call 67;refine(dN _ hl HM.out.1).mono ?_;rintro e v3 ⟨⟨un,rfl,un0,un1⟩,hD,hK,hsz⟩;replace HM:=Za (HM.out.dk hD hK);replace Ha:=Za (hK.blk HQ.out Ha.out);clear hsz hD hK);clear x4
      go_upto_region 16 with(go_at_call 67;refine(dN _ hl HM.out.1).mono ?_;rintro e v4 ⟨⟨y,rfl,y0,y1⟩,hD,hK,hsz⟩;replace HM:=Za (HM.out.dk hD hK);replace Ha:=Za (hK.blk HQ.out Ha.out);clear hsz hD hK;have vy:=Wr (1+y));obtain⟨k,hk⟩:∃k:Nat,1+y=(k:Int):=⟨(1+y).toNat,by omega⟩;rw[hk]
      go_loopw [7,14] (fun s ix wr=>∃(k q:Nat) (ls:List Ft),k≤3∧ix=Vi k∧MF w wr C O a l cap q s ls∧Blk 26 wr QA (axL C c)∧ls.length+k≤12∧FtsOK C ls∧q+4*k≤n+100) (fun _ ix _=>(intOf ix).toNat)
      case atStart=>exact⟨k,_,ls,by omega,rfl,HM.out,Ha.out,by omega,Hc.out,by omega⟩
      case round=>
       clear HM Hc Ha hk y0 y1 vy;obtain⟨k,q,ls,hk,rfl,hM,hAX,hls,hok,hq⟩:=hrel;have HM:=Za hM;have Hc:=Za hok;have Ha:=Za hAX;clear hM hok hAX
       by_cases hz:0<k
       · have k0:(0:Int)<(k:Int):=by omega
         have Hd:Hid (ls.length≤1000):=Za (by omega);obtain⟨j,rfl⟩:∃j:Nat,k=j+1:=⟨k-1,by omega⟩
         have vk:IntKind.i64.wrap (((j+1:Nat):Int)-1)=(j:Int):=by rw[show(((j+1:Nat):Int)-1)=(j:Int) by omega];exact Xo (by omega) (by omega)
         have vn:=Wr (-C.a c 5);have v2t:=Wr (2*C.a c 5);have v2u:=Wr (2*C.a c 5+1)
         go_upto_region 18 with fail;replace HM:=Za (HM.out.later (Below.refl _ wr).drew);replace Ha:=Za (Ha.out.later (Below.refl _ wr).drew);refine wp_region_held_drew (S:=fun u=>(Kc u QA 5 (Vi (C.a c 5)))) (by kernel_rfl) ((Ha.out.cell (j:=5) rfl).1) (fun _=>?_);have Hb:Hid ((wr.drew.cell? (Ad QA 5)=some (Vi (C.a c 5)))):=Za ((Ha.out.cell (j:=5) rfl).1);generalize wr.drew=u0 at Hb HM Ha⊢;refine Tq 0 Hb.out ?_;simp only[Act.put,Ly];refine Tq 1 Hb.out ?_;simp only[Act.put,Ly];refine Tq 2 Hb.out ?_;simp only[Act.put,Ly];refine Tq 6 Hb.out ?_;simp only[Act.put,Ly];refine Tq 7 Hb.out ?_;simp only[Act.put,Ly];refine Tq 8 Hb.out ?_;simp only[Act.put,Ly];refine Tq 9 Hb.out ?_;simp only[Act.put,Ly];refine Th 10 rfl (by intro w hSw;(try dsimp only at hSw);have xt:=hSw;clear hSw;go_simp;(try with_reducible rfl)) Hb.out ?_;simp only[Act.put,Ly];refine Tq 11 Hb.out ?_;simp only[Act.put,Ly];refine Th 12 rfl (by intro w hSw;(try dsimp only at hSw);have xt:=hSw;clear hSw;go_simp;(try with_reducible rfl)) Hb.out ?_;simp only[Act.put,Ly];refine Tq 13 Hb.out ?_;simp only[Act.put,Ly];refine Tq 14 Hb.out ?_;simp only[Act.put,Ly];refine Tq 15 Hb.out ?_;simp only[Act.put,Ly];refine Th 16 rfl (by intro w hSw;(try dsimp only at hSw);have xt:=hSw;clear hSw;go_simp;(try with_reducible rfl)) Hb.out ?_;simp only[Act.put,Ly];refine Tq 17 Hb.out ?_;simp only[Act.put,Ly];refine Tq 18 Hb.out ?_;simp only[Act.put,Ly];refine Tq 20 Hb.out ?_;simp only[Act.put,Ly];refine Th 21 rfl (by intro w hSw;(try dsimp only at hSw);have xt:=hSw;clear hSw;go_simp;(try with_reducible rfl)) Hb.out ?_;simp only[Act.put,Ly];refine Ra 3 (fun K hK=>?_);go_simp;have Hl:=Za (keepC (Zb u0 (.cells #[Vi 4,Vi 100] 3)) Hb.out);refine hK.out _ _ Hl.out (fun _=>?_);clear hK K;refine Ra 4 (fun K hK=>?_);go_simp;refine(Nd O a l cap _ 4 100 4 100 (by omega) hl (by omega) _ HM.out.1).mono ?_;rintro e u2 ⟨⟨m,rfl,m0,m1⟩,hD,hK2⟩;replace HM:=Za (HM.out.dk hD hK2);replace Ha:=Za (hK2.blk HQ.out Ha.out);have Hm:Hid (Kc u2 QA 5 (Vi (C.a c 5))):=Za (Ha.out.cell (j:=5) rfl).1;clear hD hK2;refine hK.out _ _ Hm.out (fun _=>?_);clear hK K;clear Hl;refine Ra 5 (fun K hK=>?_);go_simp
         refine(dN m hl HM.out.1).mono ?_;rintro e u3 ⟨⟨p,rfl,p0,p1⟩,hD,hK2,hsz⟩;replace HM:=Za (HM.out.dk hD hK2);replace Ha:=Za (hK2.blk HQ.out Ha.out);have Hn:Hid (Kc u3 QA 5 (Vi (C.a c 5))):=Za (Ha.out.cell (j:=5) rfl).1;clear hD hK2 hsz;refine hK.out _ _ Hn.out (fun _=>?_);clear hK K;clear Hm;refine Ra 19 (fun K hK=>?_);go_simp;refine(dN (2*C.a c 5+1) hl HM.out.1).mono ?_;rintro e u4 ⟨⟨zz,rfl,zz0,zz1⟩,hD,hK2,hsz⟩;replace HM:=Za (HM.out.dk hD hK2);replace Ha:=Za (hK2.blk HQ.out Ha.out);have Hf:Hid (Kc u4 QA 5 (Vi (C.a c 5))):=Za (Ha.out.cell (j:=5) rfl).1;clear hD hK2 hsz;have vz:=Wr (zz-C.a c 5);refine hK.out _ _ Hf.out (fun _=>?_);clear hK K;clear Hn;refine Tq 22 Hf.out ?_;simp only[Act.put,Ly];refine Ra 23 (fun K hK=>?_);go_simp;have Ho:=Za (keepC (Zb u4 (.cells #[Vi (C.a c 5),Vi (-C.a c 5),Vi 0,Vi (zz-C.a c 5)] 3)) Hf.out);refine hK.out _ _ Ho.out (fun _=>?_);clear hK K;clear Hf;refine Ra 24 (fun K hK=>?_);go_simp;refine(diceMost4 O a l cap _ (C.a c 5) (-C.a c 5) 0 (zz-C.a c 5) (-C.a c 5) (C.a c 5) (by omega) hl (by omega) _ HM.out.1).mono ?_;rintro e u6 ⟨⟨is,rfl,is0,is1⟩,hD,hK2⟩;replace HM:=Za (HM.out.dk hD hK2);replace Ha:=Za (hK2.blk HQ.out Ha.out);have Hg:Hid (Kc u6 QA 5 (Vi (C.a c 5))):=Za (Ha.out.cell (j:=5) rfl).1;clear hD hK2;refine hK.out _ _ Hg.out (fun _=>?_);clear hK K;clear Ho;refine Tq 25 Hg.out ?_;simp only[Act.put,Ly];refine Ra 26 (fun K hK=>?_);go_simp;have Hj:=Za (keepC (Zb u6 (.cells (ftL (((p,4,(c:Int),un,is)):Ft)).toArray 73)) Hg.out);replace HM:=Za (HM.out.later (Zb u6 (.cells (ftL (((p,4,(c:Int),un,is)):Ft)).toArray 73)));replace Ha:=Za (Ha.out.later (Zb u6 (.cells (ftL (((p,4,(c:Int),un,is)):Ft)).toArray 73)));have Hh:Hid (World.rangeAt (u6.alloc (.cells (ftL (((p,4,(c:Int),un,is)):Ft)).toArray 73)) u6.heap.size 0 (ftL (((p,4,(c:Int),un,is)):Ft))):=Za (Blk.new u6 73 (ftL (((p,4,(c:Int),un,is)):Ft))).range
         skip
         generalize hU:u6.alloc (.cells (ftL (((p,4,(c:Int),un,is)):Ft)).toArray 73)=u7 at Hj HM Ha Hh;rw[show u6.alloc (.cells #[Vi p,Vi 4,Vi (c:Int),Vi un,Vi is] 73)=u7 from hU];clear hU;generalize u6.heap.size=X6 at Hh⊢;refine hK.out _ _ Hj.out (fun _=>?_);clear hK K;clear Hg;refine Ra 27 (fun K hK=>?_);simp only[Ly];rw[if_pos (by rfl)];refine wp_append_lies _ (.tmp 69) (.tmp 95) 64 rfl (w.heap.size+1) 73 i0' (.agg #[Vi 0,Vi 0,Vi 0,Vi 0,Vi 0]) 5 40 underlying64 hi4 hz0 hz1 hz2 rfl (by decide) _ _ _ rfl HM.out.2.1 ⟨X6,0,none⟩ 1 1 (ftL (((p,4,(c:Int),un,is)):Ft)) rfl rfl (fun j v hj=>by rw[Addr.add_lit];exact Hh.out j v hj) (ftL_one _) (by omega) (by have:=Hd.out;unfold maxLen;omega) (by have:=Hd.out;omega) HM.out.room _ rfl ?_;intro g9 c9 u8 hown hgrow hat hlt9;have Hp:Hid (FtO (w.heap.size+1) u8 (.slice (some (Ad g9 0)) (ls.length+1) c9) (ls++[(((p,4,(c:Int),un,is)):Ft)])):=Za (by unfold FtO RwO;rw[List.length_append,encG_snoc];exact hown);replace Ha:=Za (Ha.out.grew' hgrow (HM.out.2.1.ne Ha.out (by decide)));replace HM:=Za (HM.out.grew hgrow Hp.out);have Hk:Hid (Kc u8 QA 5 (Vi (C.a c 5))):=Za (Ha.out.cell (j:=5) rfl).1;clear hown hgrow hat hlt9 Hh Hp;refine hK.out _ _ Hk.out (fun _=>?_);clear hK K;clear Hj;refine Tq 28 Hk.out ?_;simp only[Act.put,Ly];refine Dn ?_;go_simp;clear Hk;generalize u8=v18 at HM Ha⊢;refine Ek ?_;go_wp2_with fail;exact⟨⟨j,_,_,by omega,by go_num,HM.out,Ha.out,by simp;omega,Hc.out.app ⟨⟨p0,by dsimp only;omega⟩,⟨by dsimp only;omega,by dsimp only;omega⟩,⟨by dsimp only;omega,by dsimp only;omega⟩,un0,fun h=>absurd rfl h,fun _=>⟨by dsimp only;omega,un1⟩⟩,by omega⟩,by simp[intOf]⟩
       · obtain rfl:k=0:=by omega
         go_wp2_with fail;go_ret;exact⟨_,_,_,rfl,HM.out,by omega,Hc.out,by omega⟩
theorem sameReports_s(l:List Rp)(a a':Option Addr)(c c':Nat)(hl:l.length≤1000)(w:World)(K K':Nat)(hv:RpO K w (.slice a l.length c) l)(hv':RpO K' w (.slice a' l.length c') l):
 Calls prog 32 #[.slice a l.length c,.slice a' l.length c'] w (Rt w (.bool true)):=by
 have HV:=Za hv;have HW:=Za hv';clear hv hv'
 go_enter func32,ntmps32
 go_upto_region 4 with fail
 go_loopw [5] (fun i wr=>∃k:Nat,k≤l.length∧i=Vi k∧Bw w wr) (fun i _=>l.length-(intOf i).toNat)
 case atStart=>exact⟨0,Nat.zero_le _,rfl,Below.refl _ _⟩
 case round=>
  obtain⟨k,hk,rfl,hb⟩:=hrel
  by_cases hlt:k<l.length
  · obtain⟨g,rfl,hr⟩:=(HV.out.later hb).at hlt;obtain⟨g',rfl,hr'⟩:=(HW.out.later hb).at hlt;have HB:=Za hb;have HR:=Za hr;have Hb:=Za hr'
    have j0:(0:Int)≤(k:Int):=by omega
    have j1:(k:Int)<(l.length:Int):=by omega
    clear hb hr hr';generalize rpAt l k=R at *;have hq:=fun d=>eqRp d R
    go_upto_region 6 with fail;refine Cs [17,18,19,20,21,22,23,24,25] ?_;refine Cp 0 17 [] ?_;refine Cp 1 18 [] ?_;refine Cp 2 19 [0,1] ?_;refine Cl (x:=.tmp 19) 3 20 [2] (fun y w hF u hSw=>⟨Zg HR.out hSw,hF.1⟩) underlying95 Xu ?_;refine Cp 4 21 [] ?_;refine Cp 5 22 [] ?_;refine Cp 6 23 [4,5] ?_;refine Cl (x:=.tmp 23) 7 24 [6] (fun y w hF u hSw=>⟨Zg Hb.out hSw,hF.1⟩) underlying95 Xu ?_;refine Cp 8 25 [3,7] ?_;refine Ce (fun y u1 hB hf=>?_);have Ha:=Za hB;clear hB hf;go_simp;have hB:=Ha.out;clear Ha;generalize u1=v6 at hB⊢;refine Ek ?_;replace HB:=Za (Zc HB.out hB);clear hB hq;go_wp2_with fail;go_roundw
    case rel=>exact⟨k+1,by omega,by go_num,HB.out⟩
    case measure=>simp[intOf];omega
  · obtain rfl:k=l.length:=by omega
    go_wp2_with fail;go_ret;exact⟨rfl,hb⟩
end Go.Proofs.YtnfdfiholcelaaaGreatDoor
