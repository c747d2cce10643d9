import PyProof.Rows.All
import Wide.All
import OpenK.AllK
import Wide.FinOn
import PyProof.EqAt
import PyProof.EqKinds
import PyProof.TupleCall
import KE.KTryMore
import PyProof.ExcArgsOwn
import KE.KRevIter
import KE.KDictList
import KE.KIntText
import KE.KxMul
import PyProof.ExcAttrAll.ValueError
import KE.IntTextLaws
import PyProof.StrLawsRepr
import PyProof.Rows.MinMaxN
import KE.KDictLaws
import PyProof.WalksEnum
import PyProof.EnumMake
import PyProof.Rows.EnumRows
import PyProof.Rows.StrJoin2
import PyProof.Rows.StrNews
import PyProof.StrLawsTight
import Open.Row
import PyProof.ExcStrAll.ValueError
import PyProof.FString2
import PyProof.Draws
import PyProof.TupleIter
import PyProof.CallStr
import PySem.Challenge.RW_surejoin_k11_expressions_refused
set_option Elab.async false
set_option linter.all false
set_option maxRecDepth 100000
set_option compiler.extract_closed false
noncomputable section
open Nat (le_of_lt le_of_not_lt le_refl le_succ le_trans lt_irrefl lt_of_lt_of_le lt_succ_self mul_le_mul ne_of_lt not_lt not_lt_zero one_le_two_pow pow_succ succ_mul zero_add zero_le)
open PySem.W (InK WalkX callWith_K callWith_K0 cellsFrom_some codeRec_of emptyDict excIn exmOne handedIn hasDictIn hideAll hideAll_get hideAll_none instObj isFn kIn_of keepIn kitOne lookIn makesIn methodObj mg_none_of mg_of of_hideAll plainGet plainGet_of plainOver takerIn typeIn)
open List (all_cons all_eq_true all_map any_cons any_eq_false any_eq_true append_nil cons_ne_nil drop_drop drop_length filterMap_cons find?_cons flatten_cons foldl_cons getElem?_eq_getElem getElem?_map getElem?_replicate getElem?_set_ne getElem?_set_self getElem_mem length_append length_cons length_drop length_map length_reverse length_set length_take map_append map_cons map_drop map_map map_nil map_replicate map_take mem_append mem_append_left mem_append_right mem_cons mem_cons_of_mem mem_cons_self mem_filterMap mem_map mem_of_getElem? mem_of_mem_drop mem_range mem_singleton nodup_cons of_mem_zip replicate_succ reverse_cons set_comm size_toArray sum_cons take_of_length_le)
open Int (emod_lt_of_pos emod_nonneg eq_ofNat_of_zero_le)
open Bool (and_eq_true false_xor true_xor)
open Array (append_assoc getElem?_toList length_toList toList_append toList_inj)
open Option (bind_some isSome_map map_some)
namespace L2
open PySem PySem.Spec PyProof.Rows
abbrev Key:=Sum Int Str
def wR:Key->Value->Bool
 |.inl k,v=>Value.isInt k v
 |.inr x,v=>Value.isStrOf x v
def OB(w:World):Key->Int
 |.inl k=>hashInt k
 |.inr x=>hashStr w x
theorem dR:∀{k:Key}{v:Value},wR k v=true->(∃i t,k=Sum.inl i/\v=Value.int i t)\/(∃x t,k=Sum.inr x/\v=Value.str x t)
 |.inl i,v,h=>by
  obtain⟨t,e⟩:=Value.isInt_shape (k:=i) (v:=v) h;exact .inl ⟨i,t,rfl,e⟩
 |.inr x,v,h=>by
  obtain⟨t,e⟩:=Value.isStrOf_shape (x:=x) (v:=v) h;exact .inr ⟨x,t,rfl,e⟩
theorem DR(i:Int)(t:Tok):wR (.inl i) (.int i t)=true:=by simp [wR,Value.isInt]
theorem DS(x:Str)(t:Tok):wR (.inr x) (.str x t)=true:=by simp [wR,Value.isStrOf]
theorem Mb(a b:Int):decide ((Sum.inl a:Key)=Sum.inl b)=(a==b):=by
 by_cases e:a=b
 ·subst e;simp
 ·have h:¬(Sum.inl a:Key)=Sum.inl b:=fun q=>e (Sum.inl.inj q);rw [decide_eq_false h];exact(beq_eq_false_iff_ne.mpr e).symm
theorem Mc(a b:Str):decide ((Sum.inr a:Key)=Sum.inr b)=decide (a=b):=by
 by_cases e:a=b
 ·subst e;simp
 ·have h:¬(Sum.inr a:Key)=Sum.inr b:=fun q=>e (Sum.inr.inj q);rw [decide_eq_false h,decide_eq_false e]
theorem Md(a:Int)(b:Str):decide ((Sum.inl a:Key)=Sum.inr b)=false:=decide_eq_false (fun q=>nomatch q)
theorem Me(a:Str)(b:Int):decide ((Sum.inr a:Key)=Sum.inl b)=false:=decide_eq_false (fun q=>nomatch q)
def gm(prog:Program)(w:World):PySem.KeyKind prog w Key where
 is:=wR
 hash:=OB w
 inj:=fun v a b ha hb=>by
  rcases dR ha with⟨i,t,rfl,rfl⟩|⟨x,t,rfl,rfl⟩
  ·rcases dR hb with⟨j,u,rfl,e⟩|⟨y,u,rfl,e⟩
   ·injection e with e1 _;rw [e1]
   ·exact nomatch e
  ·rcases dR hb with⟨j,u,rfl,e⟩|⟨y,u,rfl,e⟩
   ·exact nomatch e
   ·injection e with e1 _;rw [e1]
 byValue:=fun k v h=>by
  rcases dR h with⟨i,t,rfl,rfl⟩|⟨x,t,rfl,rfl⟩<;>rfl
 pyHash:=fun hv h=>by
  rcases dR hv with⟨i,t,rfl,rfl⟩|⟨x,t,rfl,rfl⟩
  ·exact wpAny_pyHash_int h
  ·exact wpAny_pyHash_str h
 eqBool:=fun hu hv h=>by
  rcases dR hu with⟨i,t,rfl,rfl⟩|⟨x,t,rfl,rfl⟩
  ·rcases dR hv with⟨j,u,rfl,rfl⟩|⟨y,u,rfl,rfl⟩
   ·rw [Mb]at h;exact wpAny_eqBool_int h
   ·rw [Md]at h;exact SeqAt.EqAt.int_str i t y u _ _ _ _ h
  ·rcases dR hv with⟨j,u,rfl,rfl⟩|⟨y,u,rfl,rfl⟩
   ·rw [Me]at h;exact SeqAt.EqAt.str_int x t j u _ _ _ _ h
   ·rw [Mc]at h;exact wpAny_eqBool_str h
 «strs»:=fun k x t v h=>by
  rcases dR h with⟨i,u,rfl,e⟩|⟨y,u,rfl,e⟩
  ·exact nomatch e
  ·injection e with e1 _;subst e1
   cases v<;>rfl
theorem zk(prog:Program)(w:World)(i:Int)(t:Tok):(gm prog w).is (.inl i) (.int i t)=true:=DR i t
theorem sv(prog:Program)(w:World)(x:Str)(t:Tok):(gm prog w).is (.inr x) (.str x t)=true:=DS x t
inductive V where
 |cQ|bl (b:Bool)|int (i:Int)|str (x:Str)|Fe (b:Array UInt8)|Q8 (b:UInt64)|ref (a:Addr)|ty (n:String)
 deriving DecidableEq
def RelV:V->Value->Prop
 |.cQ,u=>u=Value.none
 |.bl b,u=>u=Value.bool b
 |.int i,u=>∃t,u=Value.int i t
 |.str x,u=>∃t,u=Value.str x t
 |.Fe b,u=>∃t,u=Value.bytes b t
 |.Q8 b,u=>∃t,u=Value.float b t
 |.ref a,u=>u=Value.ref a
 |.ty n,u=>u=Value.type n
abbrev Vals:List V->List Value->Prop:=Paired RelV
theorem Vals.length{xs:List V}{us:List Value}(r:Vals xs us):xs.length=us.length:=Paired.length r
theorem Vals.get:∀{xs:List V}{us:List Value}{i:Nat}{x:V},Vals xs us->xs[i]?=some x->∃u,us[i]?=some u/\RelV x u
 |_,_,_,_,.nil,e=>by simp at e
 |_,_,0,_,.cons r _,e=>by simp at e;subst e;exact⟨_,rfl,r⟩
 |_,_,i+1,x,.cons _ t,e=>by
  obtain⟨u,h1,h2⟩:=Vals.get (i:=i) (x:=x) t (by simpa using e);exact⟨u,by simpa using h1,h2⟩
theorem Vals.set{x:V}{u:Value}(r:RelV x u):∀{xs:List V}{us:List Value}(i:Nat),Vals xs us->Vals (xs.set i x) (us.set i u)
 |_,_,_,.nil=>.nil
 |_,_,0,.cons _ t=>.cons r t
 |_,_,i+1,.cons q t=>.cons q (Vals.set r i t)
theorem Vals.append:∀{xs ys:List V}{us ws:List Value},Vals xs us->Vals ys ws->Vals (xs++ys) (us++ws)
 |_,_,_,_,.nil,s=>s
 |_,_,_,_,.cons r t,s=>.cons r (Vals.append t s)
theorem Vals.take:∀{xs:List V}{us:List Value}(n:Nat),Vals xs us->Vals (xs.take n) (us.take n)
 |_,_,0,_=>.nil
 |_,_,_+1,.nil=>.nil
 |_,_,n+1,.cons r t=>.cons r (Vals.take n t)
theorem Vals.drop:∀{xs:List V}{us:List Value}(n:Nat),Vals xs us->Vals (xs.drop n) (us.drop n)
 |_,_,0,r=>r
 |_,_,_+1,.nil=>.nil
 |_,_,n+1,.cons _ t=>Vals.drop n t
theorem Vals.none_of:∀{xs:List V}{us:List Value}{i:Nat},Vals xs us->xs[i]?=none->us[i]?=none:=fun{xs us i} r e=>by
 have h1:=r.length;have h2:xs.length<=i:=List.getElem?_eq_none_iff.mp e;exact List.getElem?_eq_none_iff.mpr (by omega)
def mn:Option V->Option Value->Prop
 |some v,some u=>RelV v u
 |none,none=>True
 |_,_=>False
def KV{κ:Type}:List (κ×V)->List (κ×Value)->Prop:=Paired fun(p:κ×V)(q:κ×Value)=>p.1=q.1/\RelV p.2 q.2
def kV:Key->V
 |.inl i=>.int i
 |.inr x=>.str x
inductive HO where
 |lst (xs:List V)
 |tup (xs:List V)
 |dK (bp:List (Key×V))|dT (bp:List (List Key×V))
 |set (S:Int->Bool) (n:Nat)
 |ins (C dx:Addr) (fs:List (Str×V))
 |own (x:Addr)
 |xd (fs:List (Str×V))
 |met (f x:Addr)
 |Q9 (lo hi:Int)
 |Fp (o:Obj) (u:HO)
 |Ln (ps:Array Value)
 |ext (φ:Heap->Prop)
abbrev Hp:=Addr->Option HO
def upd(H:Hp)(a:Addr)(o:HO):Hp:=fun b=>if b=a then some o else H b
theorem aE{H:Hp}{a:Addr}{o:HO}:upd H a o a=some o:=by unfold upd;rw [if_pos rfl]
theorem aw{H:Hp}{a b:Addr}{o:HO}(h:b≠a):upd H a o b=H b:=by unfold upd;rw [if_neg h]
theorem bM{H:Hp}{a b:Addr}{o:HO}(h:H a=some o)(h':H b=none):a≠b:=by
 intro e;subst e;rw [h]at h';cases h'
section
variable (P:Program)(w:World)
def gp(H:Hp)(h:Heap)(a:Addr):HO->Prop
 |.lst xs=>xs.length<=sizeLine/\∃(bh:List Value) (n:Nat),Vals xs bh/\h.get? a=some {cls:=.type "list", data:=.seq bh.toArray n}
 |.tup xs=>xs.length<=sizeLine/\∃bh:List Value,Vals xs bh/\IsTup h a bh.toArray
 |.dK bp=>bp.length<=sizeLine/\(a==sysModules)=false/\∃vs,KV bp vs/\h.DictOf (gm P w) a vs
 |.dT bp=>bp.length<=sizeLine/\(a==sysModules)=false/\∃xs:List (List Key×Addr×Value),
   Paired (fun(p:List Key×V)(q:List Key×Addr×Value)=>p.1=q.1/\H q.2.1=some (.tup (p.1.map kV))/\RelV p.2 q.2.2) bp xs /\
   ∃o es ep,h.get? a=some o/\o.ExactDict/\o.data=.dict es ep/\es.toList=xs.map (entryOfKey (tupleKind (gm P w)))/\(xs.map (·.1)).Nodup
 |.set S n=>h.SetOf (intKind P w) a S n
 |.ins C dx fs=>H dx=some (.own a)/\fs.length<=1000/\dx≠a/\h.get? a=some (instObj C dx) /\
   ∃mA,h.Ns1 dx mA/\(∀f,mn (fs.lookup f) (mA f))/\PySem.Within mA (fs.map (·.1))
 |.own _=>∃o,h.get? a=some o
 |.xd fs=>∃mA,h.Ns1 a mA/\∀f,mn (fs.lookup f) (mA f)
 |.Q9 lo hi=>∃t u v,h.get? a=some {cls:=.type "range", data:=.fields #[.int lo t,.int hi u,.int 1 v]}
 |.Fp o u=>h.get? a=some o/\gp H h a u
 |.Ln ps=>h.get? a=some {cls:=.none,data:=.fields ps}
 |.met f x=>h.get? a=some (methodObj (.ref f) (.ref x))
 |.ext φ=>φ h/\(∃o,h.get? a=some o)/\∀h1 h2:Heap,φ h1->(∀o,h1.get? a=some o->h2.get? a=some o)->φ h2
def mm(H:Hp)(h:Heap):Prop:=∀a o,H a=some o->gp P w H h a o
end
section
variable {P:Program}{w:World}{H H':Hp}{h h':Heap}{a:Addr}{o:HO}
theorem gp.lt(x:gp P w H h a o):a<h.objs.size:=by
 cases o with
 |lst xs=>obtain⟨_,_,_,_,e⟩:=x;exact Heap.lt_size e
 |tup xs=>obtain⟨_,_,_,p⟩:=x;exact p.lt
 |dK bp=>obtain⟨_,_,_,_,o,_,_,e,_⟩:=x;exact Heap.lt_size e
 |dT bp=>obtain⟨_,_,_,_,o,_,_,e,_⟩:=x;exact Heap.lt_size e
 |set S n=>obtain⟨o,_,_,_,e,_⟩:=x;exact Heap.lt_size e
 |ins C dx fs=>obtain⟨_,_,_,e,_⟩:=x;exact Heap.lt_size e
 |own y=>obtain⟨_,e⟩:=x;exact Heap.lt_size e
 |xd fs=>obtain⟨_,⟨_,_,_,e,_⟩,_⟩:=x;exact Heap.lt_size e
 |Q9 lo hi=>obtain⟨_,_,_,e⟩:=x;exact Heap.lt_size e
 |Fp ob u=>obtain⟨e,_⟩:=x;exact Heap.lt_size e
 |Ln ps=>exact Heap.lt_size (show h.get? a=some _ from x)
 |met f y=>exact Heap.lt_size (show h.get? a=some _ from x)
 |ext φ=>obtain⟨_,⟨_,e⟩,_⟩:=x;exact Heap.lt_size e
theorem Paired.Mf{α β:Type}{F G:α->β->Prop}:∀{l₁:List α}{l₂:List β},Paired F l₁ l₂->(∀a b,F a b->G a b)->Paired G l₁ l₂
 |_,_,.nil,_=>.nil
 |_,_,.cons r t,f=>.cons (f _ _ r) (Paired.Mf t f)
theorem gp.wu(x:gp P w H h a o)(k:∀b u,(b=a\/H b=some (.own a))->h.get? b=some u->h'.get? b=some u)
  (ho:∀b,H b=some (.own a)->H' b=some (.own a)) (ht:∀b xs,H b=some (.tup xs)->H' b=some (.tup xs)):gp P w H' h' a o:=by
 induction o with
 |lst xs=>obtain⟨z,bh,n,r,e⟩:=x;exact⟨z,bh,n,r,k _ _ (.inl rfl) e⟩
 |tup xs=>obtain⟨z,bh,r,ob,e,c⟩:=x;exact⟨z,bh,r,ob,k _ _ (.inl rfl) e,c⟩
 |dK bp=>obtain⟨z,y,vs,r,ob,es,ep,e,c⟩:=x;exact⟨z,y,vs,r,ob,es,ep,k _ _ (.inl rfl) e,c⟩
 |dT bp =>
  obtain⟨z,y,xs,r,ob,es,ep,e,c⟩:=x;exact⟨z,y,xs,Paired.Mf r fun p q z=>⟨z.1,ht _ _ z.2.1,z.2.2⟩,ob,es,ep,k _ _ (.inl rfl) e,c⟩
 |set S n=>obtain⟨ob,es,ep,t,e,c⟩:=x;exact⟨ob,es,ep,t,k _ _ (.inl rfl) e,c⟩
 |ins C dx fs =>
  obtain⟨d,z,ne,e,mA,⟨od,es,ep,e2,c⟩,r⟩:=x;exact⟨ho _ d,z,ne,k _ _ (.inl rfl) e,mA,⟨od,es,ep,k _ _ (.inr d) e2,c⟩,r⟩
 |own y=>obtain⟨ob,e⟩:=x;exact⟨ob,k _ _ (.inl rfl) e⟩
 |xd fs=>obtain⟨mA,⟨od,es,ep,e,c⟩,r⟩:=x;exact⟨mA,⟨od,es,ep,k _ _ (.inl rfl) e,c⟩,r⟩
 |Q9 lo hi=>obtain⟨t,u,v,e⟩:=x;exact⟨t,u,v,k _ _ (.inl rfl) e⟩
 |Fp ob u ih=>obtain⟨e,q⟩:=x;exact⟨k _ _ (.inl rfl) e,ih q⟩
 |Ln ps =>
  have e:h.get? a=some {cls:=.none,data:=.fields ps}:=x;show h'.get? a=some {cls:=.none,data:=.fields ps};exact k a _ (.inl rfl) e
 |met f y =>
  have e:h.get? a=some (methodObj (.ref f) (.ref y)):=x;show h'.get? a=some (methodObj (.ref f) (.ref y));exact k a _ (.inl rfl) e
 |ext φ=>obtain⟨p,⟨o,e⟩,st⟩:=x;exact⟨st _ _ p fun o q=>k _ _ (.inl rfl) q,⟨o,k _ _ (.inl rfl) e⟩,st⟩
theorem mm.lt(x:mm P w H h)(e:H a=some o):a<h.objs.size:=(x a o e).lt
theorem mm.fresh(x:mm P w H h)(e:h.objs.size<=a):H a=none:=by
 cases q:H a with
 |none=>rfl
 |some u=>exact absurd (lt_of_lt_of_le (x.lt q) e) (lt_irrefl _)
theorem mm.kept(x:mm P w H h)(k:∀b u,h.get? b=some u->h'.get? b=some u):mm P w H h':=fun a o e =>
 (x a o e).wu (fun b u _ q=>k b u q) (fun _ q=>q) fun _ _ q=>q
theorem mm.laid(x:mm P w H h)(k:∀b u,h.get? b=some u->h'.get? b=some u)(hp:h.objs.size<=a)(new:gp P w (upd H a o) h' a o):mm P w (upd H a o) h':=fun b u e=>by
 have hn:=x.fresh hp;by_cases hb:b=a
 ·subst hb;rw [aE]at e;cases e;exact new
 ·rw [aw hb]at e;exact(x b u e).wu (fun c v _ q=>k c v q) (fun c q=>by rw [aw (bM q hn)];exact q) fun c xs q=>by rw [aw (bM q hn)];exact q
end
def Rd(H:Hp)(a:Addr)(u:HO):Prop:=H a=some u\/∃o,H a=some (.Fp o u)
theorem Rd.of{H:Hp}{a:Addr}{u:HO}(h:H a=some u):Rd H a u:=.inl h
theorem Rd.ok{P:Program}{w:World}{H:Hp}{h:Heap}{a:Addr}{u:HO}(r:Rd H a u)(x:mm P w H h):gp P w H h a u:=by
 rcases r with r|⟨o,r⟩
 ·exact x a u r
 ·obtain⟨_,q⟩:=x a _ r;exact q
def Ra:Option HO->Prop
 |some (.lst _)=>True
 |some (.dK _)=>True
 |some (.dT _)=>True
 |some (.set _ _)=>True
 |some (.ins _ _ _)=>True
 |some (.ext _)=>True
 |_=>False
section
variable {P:Program}{w:World}{H:Hp}{h h':Heap}{x e:Addr}{o':HO}
theorem mm.write(ok:mm P w H h)(mu:Ra (H x))(he:e=x\/H e=some (.own x))(k:∀b u,b≠e->h.get? b=some u->h'.get? b=some u)(Om:∃u,h'.get? e=some u)
  (new:gp P w (upd H x o') h' x o'):mm P w (upd H x o') h':=fun b u q=>by
 have xS:∀c y,H c=some (.own y)->c≠x:=fun c y r z=>by subst z;rw [r]at mu;exact mu
 have Sa:∀c xs,H c=some (.tup xs)->c≠x:=fun c xs r z=>by subst z;rw [r]at mu;exact mu
 by_cases hb:b=x
 ·subst hb;rw [aE]at q;cases q;exact new
 ·rw [aw hb]at q;by_cases Mg:b=e
  ·have q':H b=some (.own x):=by
    rcases he with z|z
    ·exact absurd (Mg.trans z) hb
    ·rw [Mg];exact z
   rw [q]at q';cases q'
   obtain⟨v,hv⟩:=Om;exact⟨v,by rw [Mg];exact hv⟩
  ·refine(ok b u q).wu (fun c v hc r=>k c v ?_ r) (fun c r=>by rw [aw (xS c b r)];exact r) fun c xs r=>by rw [aw (Sa c xs r)];exact r
   rcases hc with rfl|hc
   ·exact Mg
   ·rintro rfl;rcases he with z|z
    ·exact xS c b hc z
    ·rw [hc]at z;cases z;exact hb rfl
end
structure Un(fs ex:List Addr)(H H':Hp)(h h':Heap):Prop where
 keep:∀b o,h.get? b=some o->H b=none->b∉fs->b∉ex->h'.get? b=some o
 slot:∀b o,h.get? b=some o->H b=none->b∈fs->b∉ex->∃sl,h'.get? b=some {o with slots:=sl}
 free:∀b o,h.get? b=some o->H b=none->b∉ex->H' b=none
 there:∀b o,h.get? b=some o->b∉ex->∃o',h'.get? b=some o'
 jR:∀b xs,H b=some (.tup xs)->H' b=some (.tup xs)
 jE:∀b o u,H b=some (.Fp o u)->H' b=some (.Fp o u)
 jS:∀b ps,H b=some (.Ln ps)->∃more,H' b=some (.Ln (ps++more))
section
variable {fs Lo ex Yg:List Addr}{H H1 H2:Hp}{h h1 h2 h':Heap}{a x e:Addr}{o:HO}
theorem Un.any(u:Un fs ex H H1 h h1){b:Addr}{ob:Obj}(q:h.get? b=some ob)(n:H b=none)(hx:b∉ex):∃sl,h1.get? b=some {ob with slots:=sl}:=by
 by_cases hb:b∈fs
 ·exact u.slot b ob q n hb hx
 ·exact⟨ob.slots,u.keep b ob q n hb hx⟩
theorem Un.trans(a:Un fs ex H H1 h h1)(b:Un fs ex H1 H2 h1 h2):Un fs ex H H2 h h2 where
 keep:=fun c ob q n hc hx=>b.keep c ob (a.keep c ob q n hc hx) (a.free c ob q n hx) hc hx
 slot:=fun c ob q n hc hx=>by
  obtain⟨sl,e1⟩:=a.slot c ob q n hc hx;obtain⟨Bj,e2⟩:=b.slot c _ e1 (a.free c ob q n hx) hc hx;exact⟨Bj,e2⟩
 free:=fun c ob q n hx=>by
  obtain⟨o',e1⟩:=a.there c ob q hx;exact b.free c o' e1 (a.free c ob q n hx) hx
 there:=fun c ob q hx=>by
  obtain⟨o',e1⟩:=a.there c ob q hx;exact b.there c o' e1 hx
 jR:=fun c xs q=>b.jR c xs (a.jR c xs q)
 jE:=fun c ob xs q=>b.jE c ob xs (a.jE c ob xs q)
 jS:=fun c ps q=>by
  obtain⟨m1,e1⟩:=a.jS c ps q;obtain⟨m2,e2⟩:=b.jS c _ e1;exact⟨m1++m2,by rw [e2,append_assoc]⟩
theorem Un.kept(k:∀b u,h.get? b=some u->h'.get? b=some u):Un fs ex H H h h' :=
 ⟨fun b ob q _ _ _=>k b ob q,fun b ob q _ _ _=>⟨ob.slots,k b ob q⟩,fun _ _ _ n _=>n,fun b ob q _=>⟨ob,k b ob q⟩,fun _ _ q=>q,fun _ _ _ q=>q,fun _ ps q=>⟨#[],by rw [q];simp⟩⟩
theorem Un.refl:Un fs ex H H h h:=Un.kept fun _ _ q=>q
theorem Un.laid(k:∀b u,h.get? b=some u->h'.get? b=some u)(hp:h.objs.size<=a)(hn:H a=none):Un fs ex H (upd H a o) h h' where
 keep:=fun b u q _ _ _=>k b u q
 slot:=fun b u q _ _ _=>⟨u.slots,k b u q⟩
 free:=fun b u q n _=>by rw [aw (ne_of_lt (lt_of_lt_of_le (Heap.lt_size q) hp))];exact n
 there:=fun b u q _=>⟨u,k b u q⟩
 jR:=fun b xs q=>by rw [aw (bM q hn)];exact q
 jE:=fun b u xs q=>by rw [aw (bM q hn)];exact q
 jS:=fun b ps q=>⟨#[],by rw [aw (bM q hn),q];simp⟩
theorem Un.write(mu:Ra (H x))(he:e=x\/H e=some (.own x))(k:∀b u,b≠e->h.get? b=some u->h'.get? b=some u)(Om:∃u,h'.get? e=some u):Un fs ex H (upd H x o) h h':=by
 have hx:∀b,H b=none->b≠x:=fun b n z=>by subst z;rw [n]at mu;exact mu
 have hb:∀b,H b=none->b≠e:=fun b n z=>by
  subst z;rcases he with r|r
  ·exact hx b n r
  ·rw [n]at r;cases r
 have hm:∀b u,H b=some u->¬Ra (some u)->b≠x:=fun b u q nm z=>by subst z;rw [q]at mu;exact nm mu
 refine⟨fun b u q n _ _=>k b u (hb b n) q,fun b u q n _ _=>⟨u.slots,k b u (hb b n) q⟩,fun b u q n _=>by rw [aw (hx b n)];exact n,fun b u q _=>?_,
  fun b xs q=>by rw [aw (hm b _ q fun z=>z)];exact q,fun b u xs q=>by rw [aw (hm b _ q fun z=>z)];exact q,fun b ps q=>⟨#[],by rw [aw (hm b _ q fun z=>z),q];simp⟩⟩
 by_cases Mg:b=e
 ·subst Mg;exact Om
 ·exact⟨u,k b u Mg q⟩
theorem Un.mono(u:Un fs ex H H1 h h1)(hs:∀b∈fs,b∈Lo)(hx:∀b∈ex,b∈Yg):Un Lo Yg H H1 h h1 :=
 ⟨fun b ob q n hb he=>u.keep b ob q n (fun z=>hb (hs b z)) fun z=>he (hx b z),fun _ _ q n _ he=>u.any q n fun z=>he (hx _ z),fun b ob q n he=>u.free b ob q n fun z=>he (hx b z),fun b ob q he=>u.there b ob q fun z=>he (hx b z),u.jR,u.jE,u.jS⟩
end
def Rb(h:Heap)(H:Hp):List Addr:=(List.range h.objs.size).filter fun a=>(H a).isSome
def xT(h:Heap)(H:Hp):Heap:=hideAll h (Rb h H)
theorem DT(h:Heap)(H:Hp):(xT h H).objs.size=h.objs.size:=PySem.W.hideAll_size _ _
theorem Fq{h:Heap}{H:Hp}{b:Addr}{o:Obj}(e:h.get? b=some o)(n:H b=none):(xT h H).get? b=some o :=
 hideAll_get _ e fun hm=>by
  have q:(H b).isSome=true:=(List.mem_filter.mp hm).2;rw [n]at q;simp at q
theorem Jc{h:Heap}{H:Hp}{b:Addr}{o:Obj}(e:(xT h H).get? b=some o):h.get? b=some o/\H b=none:=by
 have e':h.get? b=some o:=of_hideAll (Rb h H) e;refine⟨e',?_⟩
 cases q:H b with
 |none=>rfl
 |some x =>
  have hm:b∈Rb h H:=List.mem_filter.mpr ⟨mem_range.mpr (Heap.lt_size e'),by simp [q]⟩;have z:(xT h H).get? b=none:=hideAll_none (Rb h H) hm;rw [z]at e;cases e
def Jd(g h:Heap)(L:Addr):List (Addr×Obj):=(List.range h.objs.size).filterMap fun a=>if a=L\/(g.get? a).isSome=true then none else(h.get? a).map fun o=>(a,o)
def rest(g h:Heap)(L d:Addr):List (Addr×Obj):=(Jd g h L).filter fun p=>decide (p.1≠d)
structure Mod(K:PySem.W.Frag)(mg:Str->Option Value)(base:Heap):Prop where
 Lp:K.In base
 glob:base.Ns mainGlobals mg
 blt:∃mb,base.Ns builtinsNs mb/\∀x:Str,x ≠ "__name__" -> mb x=bootBuiltins x
 nolimit:base.NoLimit
set_option genInjectivity false in
set_option genSizeOf false in
structure Cx where
 prog:Program
 w:World
 K:PySem.W.Frag
 mg:Str->Option Value
 base:Heap
 A:Around
 N:List Str
 s₀:Shared
 H₀:Hp
 env:Env
 outer:List Env
 stack:List Env
 ex:List Addr
 fn:Str->Bool
 calm:Bool
 pn:List (Addr×Obj)
 xe:Value->Shared->Prop
def pU(l:List Env):List Addr:=l.filterMap (·.frame)
abbrev Cx.fs(X:Cx):List Addr:=pU X.outer
def Sb(sc:Scope)(x:Str):Prop:=sc.names.lookup x=some .local\/sc.names.lookup x=some .cell\/sc.names.lookup x=some .free
def Loc(sc:Scope)(x:Str):Prop:=sc.names.lookup x=some .local\/sc.names.lookup x=some .cell
def Look(env:Env)(h:Heap)(m:Str->Option Value)(x:Str)(u:Value):Prop :=
 (env.kindOf x=some .local/\m x=some u)\/((env.kindOf x=some .cell\/env.kindOf x=some .free)/\∃c,env.cells.lookup x=some c/\h.IsCell c (some u))
structure Cx.Ok(X:Cx):Prop where
 mod:Mod X.K X.mg X.base
 kind:X.env.scope.kind=.function
 glob:X.env.globals=mainGlobals
 blt:X.env.builtins=builtinsNs
 above:X.s₀.heap.objs.size<=X.env.locals
 inj:∀x y c,X.env.cells.lookup x=some c->X.env.cells.lookup y=some c->x=y
 has:∀x,(X.env.kindOf x=some .cell\/X.env.kindOf x=some .free)->∃c,X.env.cells.lookup x=some c
 IL:∀x c,X.fn x=true->X.env.cells.lookup x=some c->X.s₀.heap.objs.size<=c
 hd:X.calm=true->X.A.handled=none
 frames:X.A.frames=some X.stack
 Je:X.stack=X.outer\/(X.stack=X.env::X.outer/\X.env.frame=some X.env.locals)
 Mh:∀b∈X.ex,b≠X.env.locals/\∀x c,X.env.cells.lookup x=some c->c≠b
 bs:∀b o,X.base.get? b=some o->X.s₀.heap.get? b=some o/\X.H₀ b=none
 zl:X.base.objs.size<=X.s₀.heap.objs.size
 wx:∀b o,X.base.get? b=some o->b∉X.ex
 xU:∀b∈X.ex,b∉X.fs
 iC:X.s₀.heap.FunFrames X.base X.outer
 zm:∀b∈X.fs,X.H₀ b=none
structure Inv(X:Cx)(pins:List (Addr×Obj))(σ:List (Option V))(H:Hp)(s:Shared):Prop where
 ok:X.Ok
 os:s.os=X.s₀.os
 bare:AllBare s.gens
 base:Un X.fs X.ex X.H₀ H X.s₀.heap s.heap
 loc:∃m,s.heap.Ns X.env.locals m/\∀(i:Nat)(x:Str)(v:V),X.N[i]?=some x->σ[i]?=some (some v)->Sb X.env.scope x->∃u,RelV v u/\Look X.env s.heap m x u
 cell:∀x c,X.env.cells.lookup x=some c->∃v,s.heap.IsCell c v
 free:H X.env.locals=none
 iK:∀x c,X.env.cells.lookup x=some c->H c=none
 pin:∀p∈X.pn++pins,s.heap.get? p.1=some p.2/\H p.1=none/\p.1≠X.env.locals/\p.1∉X.fs/\∀v,p.2.data ≠ .cell v
 cR:mm X.prog X.w H s.heap
 len:σ.length=X.N.length
section
variable {X:Cx}{pins:List (Addr×Obj)}{σ:List (Option V)}{H H':Hp}{s:Shared}{h':Heap}
theorem Cx.Ok.Sd(ok:X.Ok){b:Addr}{o:Obj}(e:X.base.get? b=some o):b∉X.fs:=fun hb=>by
 have:=(ok.iC.mem hb).1;rw [e]at this;cases this
theorem Inv.bs(I:Inv X pins σ H s):∀b o,X.base.get? b=some o->s.heap.get? b=some o/\H b=none:=fun b o e =>
 ⟨I.base.keep b o (I.ok.bs b o e).1 (I.ok.bs b o e).2 (I.ok.Sd e) (I.ok.wx b o e),I.base.free b o (I.ok.bs b o e).1 (I.ok.bs b o e).2 (I.ok.wx b o e)⟩
theorem Inv.bk(I:Inv X pins σ H s):∀b o,X.base.get? b=some o->s.heap.get? b=some o:=fun b o e=>(I.bs b o e).1
theorem Inv.mod(I:Inv X pins σ H s):Mod X.K X.mg X.base:=I.ok.mod
theorem Inv.wo(I:Inv X pins σ H s):X.K.In s.heap:=I.ok.mod.Lp.keeps I.bk
theorem Inv.nolimit(I:Inv X pins σ H s):s.heap.NoLimit:=I.ok.mod.nolimit.keeps I.bk
theorem Inv.fr(I:Inv X pins σ H s):∃m,Fr X.base X.env.locals s.heap m :=
 let⟨m,hn,_⟩:=I.loc
 ⟨m,hn,I.bk,le_trans I.ok.zl I.ok.above⟩
theorem Inv.lt(I:Inv X pins σ H s):X.env.locals<s.heap.objs.size:=let⟨_,hn,_⟩:=I.loc;hn.lt
theorem Inv.sz(I:Inv X pins σ H s):X.s₀.heap.objs.size<=s.heap.objs.size:=le_trans I.ok.above (le_of_lt I.lt)
theorem Inv.Se(I:Inv X pins σ H s){a:Addr}(h:s.heap.objs.size<=a):a∉X.fs:=fun hb=>by
 obtain⟨_,o,ho,_⟩:=I.ok.iC.mem hb;exact absurd (lt_of_lt_of_le (Heap.lt_size ho) (le_trans I.sz h)) (lt_irrefl _)
theorem Inv.Fs(I:Inv X pins σ H s):∀x c,X.env.cells.lookup x=some c->c≠X.env.locals:=fun x c e z=>by
 obtain⟨v,o,ho,hd⟩:=I.cell x c e;obtain⟨m,⟨o',es,ep,nK,OC,_⟩,_⟩:=I.loc;rw [z,nK]at ho;cases ho;rw [OC]at hd;cases hd
theorem Inv.iC(I:Inv X pins σ H s):s.heap.FunFrames X.base X.outer:=by
 have all:∀(l:List Env),(∀b∈pU l,b∈X.fs)->X.s₀.heap.FunFrames X.base l->s.heap.FunFrames X.base l:=by
  intro l
  induction l with
  |nil=>intro _ _;trivial
  |cons env r ih =>
   intro hs hl;obtain⟨hk,⟨L,o,hf,hn,ho,hd⟩,hr⟩:=hl;have hL:L∈X.fs:=hs L (by unfold pU;rw [filterMap_cons,hf];exact mem_cons_self);obtain⟨sl,e⟩:=I.base.slot L o ho (I.ok.zm L hL) hL fun z=>I.ok.xU L z hL;exact⟨hk,⟨L,_,hf,hn,e,hd⟩,ih (fun b hb=>hs b (by unfold pU;rw [filterMap_cons,hf];exact mem_cons_of_mem _ hb)) hr⟩
 exact all X.outer (fun _ hb=>hb) I.ok.iC
theorem Inv.stack(I:Inv X pins σ H s):s.heap.FunFrames X.base X.stack:=by
 rcases I.ok.Je with e|⟨e,hf⟩
 ·rw [e];exact I.iC
 ·rw [e];obtain⟨m,hn,_⟩:=I.loc;refine .cons (by rw [I.ok.kind];decide) hf hn ?_ I.iC;exact Heap.get?_none_of_le (le_trans I.ok.zl I.ok.above)
theorem Inv.mq(I:Inv X pins σ H s):∀b∈pU X.stack,b∈X.env.locals::X.fs:=fun b hb=>by
 rcases I.ok.Je with e|⟨e,hf⟩
 ·rw [e]at hb;exact mem_cons_of_mem _ hb
 ·rw [e]at hb;unfold pU at hb;rw [filterMap_cons,hf]at hb;exact hb
theorem Inv.tY(I:Inv X pins σ H s):∀b∈pU X.stack,H b=none:=fun b hb=>by
 rcases mem_cons.mp (I.mq b hb)with e|hb
 ·rw [e];exact I.free
 ·obtain⟨_,o,ho,_⟩:=I.ok.iC.mem hb;exact I.base.free b o ho (I.ok.zm b hb) fun z=>I.ok.xU b z hb
theorem Inv.step{g':Array GenState}{t':Nat}{d':Drawn}{ch:List Addr}(I:Inv X pins σ H s)
  (IM:∀b∈ch,(b∈X.ex\/X.s₀.heap.objs.size<=b)/\b≠X.env.locals/\(∀x c,X.env.cells.lookup x=some c->c≠b)/\∀p∈X.pn++pins,p.1≠b)
  (keep:∀b o,b≠X.env.locals->b∉X.fs->b∉ch->s.heap.get? b=some o->H b=none->h'.get? b=some o)
  (slot:∀b o,b≠X.env.locals->b∈X.fs->b∉ch->s.heap.get? b=some o->H b=none->∃sl,h'.get? b=some {o with slots:=sl}) (free:∀b o,b∉ch->s.heap.get? b=some o->H b=none->H' b=none)
  (there:∀b o,b∉ch->s.heap.get? b=some o->∃o',h'.get? b=some o')
  (jR:∀b xs,H b=some (.tup xs)->H' b=some (.tup xs)) (jE:∀b o u,H b=some (.Fp o u)->H' b=some (.Fp o u)) (jS:∀b ps,H b=some (.Ln ps)->∃more,H' b=some (.Ln (ps++more)))
  (ns:∀m,s.heap.Ns X.env.locals m->h'.Ns X.env.locals m) (cR:mm X.prog X.w H' h') (hg:AllBare g') :
  Inv X pins σ H' {s with heap:=h',gens:=g',drawn:=d',toks:=t'}:=by
 have Yh:∀b o,X.s₀.heap.get? b=some o->b≠X.env.locals:=fun b o e=>ne_of_lt (lt_of_lt_of_le (Heap.lt_size e) I.ok.above);have Rc:∀b o,X.s₀.heap.get? b=some o->b∉X.ex->b∉ch:=fun b o e hx hb=>by
  rcases(IM b hb).1 with z|z
  ·exact hx z
  ·exact absurd (lt_of_lt_of_le (Heap.lt_size e) z) (lt_irrefl _)
 have cellK:∀x c,X.env.cells.lookup x=some c->∀v,s.heap.IsCell c v->h'.IsCell c v:=fun x c e v ⟨o,ho,hd⟩=>by
  have OD:c∉ch:=fun z=>(IM c z).2.2.1 x c e rfl;by_cases hc:c∈X.fs
  ·obtain⟨sl,q⟩:=slot c o (I.Fs x c e) hc OD ho (I.iK x c e);exact⟨_,q,hd⟩
  ·exact⟨o,keep c o (I.Fs x c e) hc OD ho (I.iK x c e),hd⟩
 refine⟨I.ok,I.os,hg,⟨fun b o e n hb hx=>?_,fun b o e n hb hx=>?_,fun b o e n hx=>?_,fun b o e hx=>?_,fun b xs e=>jR b xs (I.base.jR b xs e),fun b o xs e=>jE b o xs (I.base.jE b o xs e),fun b ps e=>?_⟩,?_,fun x c e=>?_,?_,fun x c e=>?_,fun p hp=>?_,cR,I.len⟩
 ·exact keep b o (Yh b o e) hb (Rc b o e hx) (I.base.keep b o e n hb hx) (I.base.free b o e n hx)
 ·obtain⟨sl,e1⟩:=I.base.slot b o e n hb hx;obtain⟨Bj,e2⟩:=slot b _ (Yh b o e) hb (Rc b o e hx) e1 (I.base.free b o e n hx);exact⟨Bj,e2⟩
 ·obtain⟨o',e1⟩:=I.base.there b o e hx;exact free b o' (Rc b o e hx) e1 (I.base.free b o e n hx)
 ·obtain⟨o',e1⟩:=I.base.there b o e hx;exact there b o' (Rc b o e hx) e1
 ·obtain⟨m1,e1⟩:=I.base.jS b ps e;obtain⟨m2,e2⟩:=jS b _ e1;exact⟨m1++m2,by rw [e2,append_assoc]⟩
 ·obtain⟨m,hn,hl⟩:=I.loc;refine⟨m,ns m hn,fun i x v e1 e2 e3=>?_⟩;obtain⟨u,r,l⟩:=hl i x v e1 e2 e3;refine⟨u,r,?_⟩;rcases l with l|⟨k,c,e,z⟩
  ·exact .inl l
  ·exact .inr ⟨k,c,e,cellK x c e _ z⟩
 ·obtain⟨v,z⟩:=I.cell x c e;exact⟨v,cellK x c e v z⟩
 ·obtain⟨m,⟨o,_,_,ho,_⟩,_⟩:=I.loc;exact free _ o (fun z=>(IM _ z).2.1 rfl) ho I.free
 ·obtain⟨v,o,ho,hd⟩:=I.cell x c e;exact free c o (fun z=>(IM c z).2.2.1 x c e rfl) ho (I.iK x c e)
 ·obtain⟨e,n,ne,nf,d⟩:=I.pin p hp;have OD:p.1∉ch:=fun z=>(IM p.1 z).2.2.2 p hp rfl;exact⟨keep p.1 p.2 ne nf OD e n,free p.1 p.2 OD e n,ne,nf,d⟩
theorem Inv.un{t':Nat}(I:Inv X pins σ H s)(u:Un X.fs [] H H' s.heap h')(cR:mm X.prog X.w H' h'):Inv X pins σ H' {s with heap:=h',toks:=t'}:=by
 obtain⟨m,⟨o,es,ep,ho,r⟩,_⟩:=id I.loc;obtain⟨sl,hL⟩:=u.any ho I.free (by simp);exact I.step (g':=s.gens) (d':=s.drawn) (ch:=[]) (fun _ z=>nomatch z) (fun b o _ hb _ e n=>u.keep b o e n hb (by simp)) (fun b o _ hb _ e n=>u.slot b o e n hb (by simp)) (fun b o _ e n=>u.free b o e n (by simp)) (fun b o _ e=>u.there b o e (by simp)) u.jR u.jE u.jS (fun m' hm=>by
  obtain⟨o',Bk,Sf,nK,r'⟩:=hm;rw [ho]at nK;cases nK
  exact⟨_,Bk,Sf,hL,r'⟩) cR I.bare
theorem Inv.call{g':Array GenState}{t':Nat}{d':Drawn}{ch:List Addr}(I:Inv X pins σ H s)(u:Un (pU X.stack) ch H H' s.heap h')(cR:mm X.prog X.w H' h')(hg:AllBare g')
  (IM:∀b∈ch,(b∈X.ex\/X.s₀.heap.objs.size<=b)/\b≠X.env.locals/\(∀x c,X.env.cells.lookup x=some c->c≠b)/\∀p∈X.pn++pins,p.1≠b) :
  Inv X pins σ H' {s with heap:=h',gens:=g',drawn:=d',toks:=t'}:=by
 obtain⟨m,⟨o,es,ep,ho,r⟩,_⟩:=id I.loc;obtain⟨sl,hL⟩:=u.any ho I.free fun z=>(IM _ z).2.1 rfl;exact I.step (ch:=ch) IM (fun b o hL hb hc e n=>u.keep b o e n (fun z=>(mem_cons.mp (I.mq b z)).elim hL hb) hc) (fun b o _ _ hc e n=>u.any e n hc) (fun b o hc e n=>u.free b o e n hc) (fun b o hc e=>u.there b o e hc) u.jR u.jE u.jS (fun m' hm=>by
  obtain⟨o',Bk,Sf,nK,r'⟩:=hm;rw [ho]at nK;cases nK
  exact⟨_,Bk,Sf,hL,r'⟩) cR hg
theorem Inv.turned{t':Nat}{it:Addr}(I:Inv X pins σ H s)(k:∀b o,b≠it->s.heap.get? b=some o->h'.get? b=some o)(hn:H it=none)(hL:it≠X.env.locals)
  (h1:it∈X.ex\/X.s₀.heap.objs.size<=it) (h2:∀x c,X.env.cells.lookup x=some c->c≠it) (h3:∀p∈X.pn++pins,p.1≠it):Inv X pins σ H {s with heap:=h',toks:=t'}:=by
 have OE:∀b u,H b=some u->b≠it:=fun b u e z=>by rw [z,hn]at e;cases e
 refine I.step (g':=s.gens) (d':=s.drawn) (ch:=[it]) (fun b hb=>?_) (fun b o _ _ hc e _=>k b o (fun z=>hc (by simp [z])) e) (fun b o _ _ hc e _=>⟨o.slots,k b o (fun z=>hc (by simp [z])) e⟩) (fun _ _ _ _ n=>n)
  (fun b o hc e=>⟨o,k b o (fun z=>hc (by simp [z])) e⟩) (fun _ _ e=>e) (fun _ _ _ e=>e) (fun b ps e=>⟨#[],by rw [e];simp⟩) (fun m hm=>?_) (fun b u e=>?_) I.bare
 ·have e:b=it:=by simpa using hb
  subst e;exact⟨h1,hL,h2,h3⟩
 ·obtain⟨o,es,ep,ho,r⟩:=hm;exact⟨o,es,ep,k _ o (Ne.symm hL) ho,r⟩
 ·refine(I.cR b u e).wu (fun c v hc q=>k c v ?_ q) (fun _ q=>q) fun _ _ q=>q;rcases hc with z|z
  ·rw [z];exact OE b u e
  ·exact OE c _ z
theorem Inv.tok(I:Inv X pins σ H s)(t:Nat):Inv X pins σ H {s with toks:=t}:=I.un (h':=s.heap) (t':=t) Un.refl I.cR
theorem Inv.kept{t':Nat}(I:Inv X pins σ H s)(k:∀b u,s.heap.get? b=some u->h'.get? b=some u):Inv X pins σ H {s with heap:=h',toks:=t'}:=I.un (Un.kept k) (I.cR.kept k)
theorem Inv.laid{a:Addr}{o:HO}{t':Nat}(I:Inv X pins σ H s)(k:∀b u,s.heap.get? b=some u->h'.get? b=some u)(hp:s.heap.objs.size<=a)(new:gp X.prog X.w (upd H a o) h' a o):
  Inv X pins σ (upd H a o) {s with heap:=h',toks:=t'}:=I.un (Un.laid k hp (I.cR.fresh hp)) (I.cR.laid k hp new)
theorem Inv.write{x e:Addr}{o:HO}{t':Nat}(I:Inv X pins σ H s)(mu:Ra (H x))(he:e=x\/H e=some (.own x))(k:∀b u,b≠e->s.heap.get? b=some u->h'.get? b=some u)(Om:∃u,h'.get? e=some u)
  (new:gp X.prog X.w (upd H x o) h' x o):Inv X pins σ (upd H x o) {s with heap:=h',toks:=t'}:=I.un (Un.write mu he k Om) (I.cR.write mu he k Om new)
theorem Inv.CK{ur:List (Addr×Obj)}(I:Inv X pins σ H s)(h:∀p∈ur,s.heap.get? p.1=some p.2/\H p.1=none/\p.1≠X.env.locals/\p.1∉X.fs/\∀v,p.2.data ≠ .cell v):Inv X ur σ H s :=
 ⟨I.ok,I.os,I.bare,I.base,I.loc,I.cell,I.free,I.iK,fun p hp=>(mem_append.mp hp).elim (fun z=>I.pin p (mem_append_left _ z)) (h p),I.cR,I.len⟩
theorem uu{N:List Str}(hN:N.Nodup){i j:Nat}{x:Str}(a:N[i]?=some x)(b:N[j]?=some x):i=j:=by
 obtain⟨h1,e1⟩:=List.getElem?_eq_some_iff.mp a;obtain⟨h2,e2⟩:=List.getElem?_eq_some_iff.mp b;exact(List.getElem_inj hN).mp (e1.trans e2.symm)
theorem DU{M:Model}{A:Around}{E:Value->Shared->Prop}{i:Nat}{x:Str}{v:V}{u:Value}{Q:Unit->Shared->Prop}(I:Inv X pins σ H s)(hN:X.N.Nodup)(hi:X.N[i]?=some x)(hx:Loc X.env.scope x)(r:RelV v u)
  (h:∀s',Inv X pins (σ.set i (some v)) H s'->(∃a,Heap.SameBut a s.heap s'.heap/\(a=X.env.locals\/X.env.cells.lookup x=some a))->Q () s') (hf:X.fn x=true\/X.env.scope.names.lookup x=some .local):wpAny M A (storeName X.env x u) Q E s:=by
 obtain⟨m,hn,hl⟩:=id I.loc;have qZ:(X.env.scope.kind == .class||(X.env.scope.kind == .module&&X.env.locals != X.env.globals))=false:=by rw [I.ok.kind];rfl
 have Rf:i<σ.length:=by rw [I.len];exact(List.getElem?_eq_some_iff.mp hi).1
 have Fs:=I.Fs;have tracked:∀{a:Addr}{h':Heap},(∃o,s.heap.get? a=some o/\H a=none)->Heap.SameBut a s.heap h'->mm X.prog X.w H h':=fun{a h'} ha hs b ob e=>by
  obtain⟨_,_,Lq⟩:=ha;refine(I.cR b ob e).wu (fun c w' hc q=>(hs.2 c ?_).trans q) (fun _ q=>q) fun _ _ q=>q;rintro rfl;rcases hc with rfl|hc
  ·rw [Lq]at e;cases e
  ·rw [Lq]at hc;cases hc
 rcases hx with hk|hk
 ·refine wpAny_storeName_local hk hn (fun h' Sg hs=>?_) qZ;obtain⟨oL,_,_,Yi,_⟩:=id hn;refine h _ ⟨I.ok,I.os,I.bare,⟨fun b o e n hb hx=>?_,fun b o e n hb hx=>?_,I.base.free,fun b o e hx=>?_,I.base.jR,I.base.jE,I.base.jS⟩,⟨_,Sg,fun j y v' e1 e2 e3=>?_⟩,fun y c e=>?_,I.free,I.iK,fun p hp=>?_,tracked ⟨oL,Yi,I.free⟩ hs,by simpa using I.len⟩ ⟨_,hs,.inl rfl⟩
  ·exact(hs.2 b (ne_of_lt (lt_of_lt_of_le (Heap.lt_size e) I.ok.above))).trans (I.base.keep b o e n hb hx)
  ·obtain⟨sl,e1⟩:=I.base.slot b o e n hb hx;exact⟨sl,(hs.2 b (ne_of_lt (lt_of_lt_of_le (Heap.lt_size e) I.ok.above))).trans e1⟩
  ·obtain⟨o',e1⟩:=I.base.there b o e hx;exact⟨o',(hs.2 b (ne_of_lt (lt_of_lt_of_le (Heap.lt_size e) I.ok.above))).trans e1⟩
  ·by_cases hj:j=i
   ·subst hj;rw [hi]at e1;cases e1
    rw [getElem?_set_self Rf]at e2
    cases e2
    exact⟨u,r,.inl ⟨hk,by simp⟩⟩
   ·rw [getElem?_set_ne (Ne.symm hj)]at e2;obtain⟨u',r',q⟩:=hl j y v' e1 e2 e3;refine⟨u',r',?_⟩;rcases q with⟨k,e⟩|⟨k,c,e,z⟩
    ·refine .inl ⟨k,?_⟩;have:y≠x:=fun e=>hj (uu hN e1 (e▸hi));simp [this,e]
    ·exact .inr ⟨k,c,e,z.sameBut hs (Fs y c e)⟩
  ·obtain⟨w',z⟩:=I.cell y c e;exact⟨w',z.sameBut hs (Fs y c e)⟩
  ·obtain⟨e,n,ne,nf,d⟩:=I.pin p hp;exact⟨(hs.2 p.1 ne).trans e,n,ne,nf,d⟩
 ·have Si:X.fn x=true:=by
   rcases hf with z|z
   ·exact z
   ·rw [z]at hk;cases hk
  obtain⟨c,hc⟩:=I.ok.has x (.inl hk);obtain⟨w',z⟩:=I.cell x c hc;refine wpAny_storeName_cell I.ok.kind hk hc z (fun h' Jf hs=>?_);obtain⟨oc,Yj,Sj⟩:=id z;refine h {s with heap:=h'} ⟨I.ok,I.os,I.bare,⟨fun b o e n hb hx=>?_,fun b o e n hb hx=>?_,I.base.free,fun b o e hx=>?_,I.base.jR,I.base.jE,I.base.jS⟩,⟨m,hn.sameBut hs (Ne.symm (Fs x c hc)),fun j y v' e1 e2 e3=>?_⟩,fun y c' e=>?_,I.free,I.iK,fun p hp=>?_,tracked ⟨oc,Yj,I.iK x c hc⟩ hs,by simpa using I.len⟩ ⟨c,hs,.inr hc⟩
  ·exact(hs.2 b (ne_of_lt (lt_of_lt_of_le (Heap.lt_size e) (I.ok.IL x c Si hc)))).trans (I.base.keep b o e n hb hx)
  ·obtain⟨sl,e1⟩:=I.base.slot b o e n hb hx;exact⟨sl,(hs.2 b (ne_of_lt (lt_of_lt_of_le (Heap.lt_size e) (I.ok.IL x c Si hc)))).trans e1⟩
  ·obtain⟨o',e1⟩:=I.base.there b o e hx;exact⟨o',(hs.2 b (ne_of_lt (lt_of_lt_of_le (Heap.lt_size e) (I.ok.IL x c Si hc)))).trans e1⟩
  ·by_cases hj:j=i
   ·subst hj;rw [hi]at e1;cases e1
    rw [getElem?_set_self Rf]at e2
    cases e2
    exact⟨u,r,.inr ⟨.inl hk,c,hc,Jf⟩⟩
   ·rw [getElem?_set_ne (Ne.symm hj)]at e2;obtain⟨u',r',q⟩:=hl j y v' e1 e2 e3;refine⟨u',r',?_⟩;rcases q with q|⟨k,c',e,z'⟩
    ·exact .inl q
    ·refine .inr ⟨k,c',e,z'.sameBut hs ?_⟩;rintro rfl;exact hj (uu hN e1 (I.ok.inj _ _ _ e hc▸hi))
  ·by_cases Yk:c'=c
   ·subst Yk;exact⟨_,Jf⟩
   ·obtain⟨w2,z2⟩:=I.cell y c' e;exact⟨w2,z2.sameBut hs Yk⟩
  ·obtain⟨e,n,ne,nf,d⟩:=I.pin p hp;refine⟨(hs.2 p.1 ?_).trans e,n,ne,nf,d⟩;intro q;rw [q,Yj]at e;have q':oc=p.2:=Option.some.inj e;exact d w' (by rw [<-q'];exact Sj)
theorem uv{M:Model}{A:Around}{E:Value->Shared->Prop}{i:Nat}{x:Str}{v:V}{u:Value}{Q:Unit->Shared->Prop}(I:Inv X pins σ H s)(hN:X.N.Nodup)(hi:X.N[i]?=some x)(hx:Loc X.env.scope x)(r:RelV v u)
  (h:∀s',Inv X pins (σ.set i (some v)) H s'->Q () s') (hf:X.fn x=true\/X.env.scope.names.lookup x=some .local:=by first|exact .inl rfl|exact .inr rfl|assumption):wpAny M A (storeName X.env x u) Q E s :=
 DU I hN hi hx r (fun s' I' _=>h s' I') hf
theorem Inv.uw{s':Shared}{ch:List Addr}(I:Inv X pins σ H s)(ho:s'.os=s.os)(u:Un (pU X.stack) ch H H' s.heap s'.heap)(cR:mm X.prog X.w H' s'.heap)(hg:AllBare s'.gens)
  (IM:∀b∈ch,(b∈X.ex\/X.s₀.heap.objs.size<=b)/\b≠X.env.locals/\(∀x c,X.env.cells.lookup x=some c->c≠b)/\∀p∈X.pn++pins,p.1≠b):Inv X pins σ H' s':=by
 obtain⟨h',g',d',t',o'⟩:=s';have e:o'=s.os:=ho;subst e;exact I.call (g':=g') (t':=t') (d':=d') u cR hg IM
end
abbrev XK:=Value->Option Addr->Hp->Prop
abbrev St:=List (Option V)
abbrev VK:=V->Hp->Prop
abbrev TE:=St->Hp->VK->Prop
abbrev TT:=St->Hp->(Bool->Hp->Prop)->Prop
abbrev TA:=St->Hp->(List V->Hp->Prop)->Prop
structure Ends where
 nx:St->Hp->Prop
 rt:VK
 bk:St->Hp->Prop:=fun _ _=>False
 ct:St->Hp->Prop:=fun _ _=>False
abbrev TS:=Ends->St->Hp->Prop
def EP(X:Cx)(pins:List (Addr×Obj))(σ:St)(Q:VK)(u:Value)(s':Shared):Prop:=∃v H',Inv X pins σ H' s'/\RelV v u/\Q v H'
def TP(X:Cx)(pins:List (Addr×Obj))(σ:St)(Q:Bool->Hp->Prop)(b:Bool)(s':Shared):Prop:=∃H',Inv X pins σ H' s'/\Q b H'
def AP(X:Cx)(pins:List (Addr×Obj))(σ:St)(Q:List V->Hp->Prop)(us:List Value)(s':Shared):Prop:=∃vs H',Inv X pins σ H' s'/\Vals vs us/\Q vs H'
def SP(X:Cx)(pins:List (Addr×Obj))(D:Ends)(f:Flow)(s':Shared):Prop :=
 match f with
 |.next=>∃σ' H',Inv X pins σ' H' s'/\D.nx σ' H'
 |.brk=>∃σ' H',Inv X pins σ' H' s'/\D.bk σ' H'
 |.cont=>∃σ' H',Inv X pins σ' H' s'/\D.ct σ' H'
 |.ret u=>∃v σ' H',Inv X pins σ' H' s'/\RelV v u/\D.rt v H'
def PE(X:Cx)(e:Expr)(t:TE):Prop :=
 ∀(pins:List (Addr×Obj))(s:Shared)(σ:St)(H:Hp)(Q:VK),Inv X pins σ H s->t σ H Q->wpAny (model X.prog X.w) X.A (eval e X.env) (EP X pins σ Q) X.xe s
def PT(X:Cx)(e:Expr)(t:TT):Prop :=
 ∀(pins:List (Addr×Obj))(s:Shared)(σ:St)(H:Hp)(Q:Bool->Hp->Prop),Inv X pins σ H s->t σ H Q->wpAny (model X.prog X.w) X.A (isTrue e X.env (eval e X.env)) (TP X pins σ Q) X.xe s
def PW(X:Cx)(e:Expr)(t:TT):Prop :=
 ∀(whole:Sem Value)(pins:List (Addr×Obj))(s:Shared)(σ:St)(H:Hp)(Q:Bool->Hp->Prop),Inv X pins σ H s->t σ H Q->wpAny (model X.prog X.w) X.A (isTrue e X.env whole) (TP X pins σ Q) X.xe s
theorem PW.pt{X:Cx}{e:Expr}{t:TT}(h:PW X e t):PT X e t:=h _
def PA(X:Cx)(es:List Expr)(t:TA):Prop :=
 ∀(pos:Pos)(pins:List (Addr×Obj))(s:Shared)(σ:St)(H:Hp)(Q:List V->Hp->Prop),Inv X pins σ H s->t σ H Q->wpAny (model X.prog X.w) X.A (spliced (backTo pos (starEach es X.env))) (AP X pins σ Q) X.xe s
def PS(X:Cx)(st:Stmt)(t:TS):Prop :=
 ∀(pins:List (Addr×Obj))(s:Shared)(σ:St)(H:Hp)(D:Ends),Inv X pins σ H s->t D σ H->wpAny (model X.prog X.w) X.A (exec st X.env) (SP X pins D) X.xe s
def pV(X:Cx)(st:List Stmt)(t:TS):Prop :=
 ∀(pins:List (Addr×Obj))(s:Shared)(σ:St)(H:Hp)(D:Ends),Inv X pins σ H s->t D σ H->wpAny (model X.prog X.w) X.A (execs st X.env) (SP X pins D) X.xe s
theorem da{α:Type}{t:Sem α}{Q Q':α->Shared->Prop}{M:Model}{A:Around}{E:Value->Shared->Prop}{s:Shared}(h:wpAny M A t Q E s)(hQ:∀a s,Q a s->Q' a s):wpAny M A t Q' E s:=wpAny_mono h hQ fun _ _ x=>x
section
variable {X:Cx}
def gq(i:Nat):TE:=fun σ H Q=>∃v,σ[i]?=some (some v)/\Q v H
def tC(v:V):TE:=fun _ H Q=>Q v H
theorem Bl{i:Nat}{x:Str}{pos:Pos}(hN:X.N[i]?=some x)(hv:Sb X.env.scope x)(hd:(x==("__debug__" : Str))=false:=by decide)(zo:(x==("__classdict__" : Str))=false:=by decide):PE X (.Name x pos) (gq i):=by
 intro pins s σ H Q I h;obtain⟨v,e,h⟩:=h;obtain⟨m,hn,hl⟩:=I.loc;obtain⟨u,r,l⟩:=hl i x v hN e hv;have fin:EP X pins σ Q u s:=⟨v,H,I,r,h⟩;rcases l with⟨hk,hm⟩|⟨hk,c,hc,CL⟩
 ·exact wpAny_Name (wpAny_loadName_local I.ok.kind hk hn hm fin) hd
 ·rcases hk with hk|hk
  ·exact wpAny_Name (wpAny_loadName_cell I.ok.kind hk hc CL fin) hd
  ·exact wpAny_Name (wpAny_loadName_free I.ok.kind hk hc CL fin zo) hd
theorem Bm{i j pos}:PE X (.Constant (.int i) j pos) (tC (.int i)):=fun _ _ _ H _ I h=>wpAny_Constant_int ⟨.int i,H,I.tok _,⟨_,rfl⟩,h⟩
theorem OF{b j pos}:PE X (.Constant (.bool b) j pos) (tC (.bl b)):=fun _ _ _ H _ I h=>Constant_bool ⟨.bl b,H,I,rfl,h⟩
theorem Mi{j pos}:PE X (.Constant .none j pos) (tC .cQ):=fun _ _ _ H _ I h=>Constant_none ⟨.cQ,H,I,rfl,h⟩
theorem xV{x j pos}:PE X (.Constant (.str x) j pos) (tC (.str x)):=fun _ _ _ H _ I h=>Calls.Constant_str ⟨.str x,H,I.tok _,⟨_,rfl⟩,h⟩
def Gl(X:Cx)(x:Str):Prop:=X.env.kindOf x=some .globalImplicit
theorem h7{E:Value->Shared->Prop}{pins:List (Addr×Obj)}{s:Shared}{σ:St}{H:Hp}{x:Str}{u:Value}{pos:Pos}{Q:Value->Shared->Prop}(I:Inv X pins σ H s)(hg:Gl X x)(hm:X.mg x=some u)(h:Q u s)
  (hd:(x==("__debug__" : Str))=false:=by decide):wpAny (model X.prog X.w) X.A (eval (.Name x pos) X.env) Q E s :=
 Calls.Name_function_global I.ok.kind hg (Calls.loadGlobal_global (by rw [I.ok.glob];exact I.mod.glob.keeps I.bk) hm h) hd
theorem ux{E:Value->Shared->Prop}{pins:List (Addr×Obj)}{s:Shared}{σ:St}{H:Hp}{x:Str}{u:Value}{pos:Pos}{Q:Value->Shared->Prop}(I:Inv X pins σ H s)(hg:Gl X x)(hm:X.mg x=none)(hv:bootBuiltins x=some u)(h:Q u s)
  (hn:x ≠ "__name__" := by decide) (hd:(x==("__debug__" : Str))=false:=by decide):wpAny (model X.prog X.w) X.A (eval (.Name x pos) X.env) Q E s:=by
 obtain⟨mb,h1,h2⟩:=I.mod.blt;exact Calls.Name_function_global I.ok.kind hg (Calls.loadGlobal_builtin (by rw [I.ok.glob];exact I.mod.glob.keeps I.bk) hm (by rw [I.ok.blt];exact h1.keeps I.bk) ((h2 x hn).trans hv) h) hd
theorem xW{x:Str}{v:V}{u:Value}{pos:Pos}(hg:Gl X x)(hm:X.mg x=some u)(r:RelV v u)(hd:(x==("__debug__" : Str))=false:=by decide):PE X (.Name x pos) (tC v) :=
 fun _ _ _ H _ I h=>h7 I hg hm ⟨v,H,I,r,h⟩ hd
theorem Jg{x:Str}{v:V}{u:Value}{pos:Pos}(hg:Gl X x)(hm:X.mg x=none)(hv:bootBuiltins x=some u)(r:RelV v u)(hn:x ≠ "__name__" := by decide)(hd:(x==("__debug__" : Str))=false:=by decide):PE X (.Name x pos) (tC v) :=
 fun _ _ _ H _ I h=>ux I hg hm hv ⟨v,H,I,r,h⟩ hn hd
variable {a b:Expr}{ta tb:TE}{pos:Pos}
def PC(X:Cx)(op:CmpOp)(a b:Expr)(t:TE):Prop :=
 ∀(pins:List (Addr×Obj))(s:Shared)(σ:St)(H:Hp)(Q:VK),Inv X pins σ H s->t σ H Q ->
  wpAny (model X.prog X.w) X.A (eval a X.env) (fun v s₁=>wpAny (model X.prog X.w) X.A (eval b X.env) (fun u s₂=>wpAny (model X.prog X.w) X.A (compareOp op v u) (EP X pins σ Q) X.xe s₂) X.xe s₁) X.xe s
theorem Ft(b:Expr){op:CmpOp}(h:op ≠ .In)(h2:op ≠ .NotIn):behindInMarks op b=false:=by
 have e1:(op==CmpOp.In)=false:=by cases op<;>first|rfl|exact absurd rfl h
 have e2:(op==CmpOp.NotIn)=false:=by cases op<;>first|rfl|exact absurd rfl h2
 cases b<;>simp [behindInMarks,e1,e2]
def tB(t:TE):TT:=fun σ H Q=>t σ H fun x H1=>∃c,x=.bl c/\Q c H1
theorem Mj{op:CmpOp}{t:TE}(h:PC X op a b t)(h1:behindInMarks op b=false:=by first|exact Ft _ (by decide) (by decide)|rfl):PT X (.Compare a [op] [b] pos) (tB t):=by
 intro pins s σ H Q I hw;refine wpAny_isTrue_Compare1 (da (h pins s σ H _ I hw) fun v s1 h1=>da h1 fun u s2 h2=>da h2 fun c s3 ⟨x,H1,I1,r1,q1⟩=>?_) h1;obtain⟨d,rfl,q⟩:=q1
 cases r1
 exact wpAny_truthy_bool ⟨H1,I1,q⟩
theorem Fu{e:Expr}{t:TE}(h:PE X e t)(he:∀whole,isTrue e X.env whole=(do let v<-whole;standAt e.pos;holding [v] (truthy v)):=by intro _;rfl):PT X e (tB t):=by
 intro pins s σ H Q I hw;refine isTrue_plain (da (h pins s σ H _ I hw) fun v s1 ⟨x,H1,I1,r1,q1⟩=>?_) (he _);obtain⟨d,rfl,q⟩:=q1
 cases r1
 exact wpAny_truthy_bool ⟨H1,I1,q⟩
variable {tA Rg:TT}{rest:List Expr}
def Sk(t u:TT):TT:=fun σ H Q=>t σ H fun c H1=>if c=true then u σ H1 Q else Q false H1
def tOr(t u:TT):TT:=fun σ H Q=>t σ H fun c H1=>if c=true then Q true H1 else u σ H1 Q
def Sl(t:TT):TT:=fun σ H Q=>t σ H fun c H1=>Q (!c) H1
theorem Jh(ha:PT X a tA):PW X (.BoolOp .And [a] pos) tA:=by
 intro wh pins s σ H Q I h;refine isTrue_and (da (ha pins s σ H Q I h) fun c s1 e=>?_)
 cases c with
 |true=>exact isTrue_and_nil e
 |false=>exact e
theorem Ml(ha:PT X a tA):PW X (.BoolOp .Or [a] pos) tA:=by
 intro wh pins s σ H Q I h;refine isTrue_or (da (ha pins s σ H Q I h) fun c s1 e=>?_)
 cases c with
 |false=>exact isTrue_or_nil e
 |true=>exact e
theorem Fv(ha:PT X a tA)(hb:PW X (.BoolOp .And (b::rest) pos) Rg):PW X (.BoolOp .And (a::b::rest) pos) (Sk tA Rg):=by
 intro wh pins s σ H Q I h;refine isTrue_and (da (ha pins s σ H _ I h) fun c s1 ⟨H1,I1,q1⟩=>?_)
 cases c with
 |true=>exact hb wh pins s1 σ H1 Q I1 q1
 |false=>exact⟨H1,I1,q1⟩
theorem Lr(ha:PT X a tA)(hb:PW X (.BoolOp .Or (b::rest) pos) Rg):PW X (.BoolOp .Or (a::b::rest) pos) (tOr tA Rg):=by
 intro wh pins s σ H Q I h;refine isTrue_or (da (ha pins s σ H _ I h) fun c s1 ⟨H1,I1,q1⟩=>?_)
 cases c with
 |true=>exact⟨H1,I1,q1⟩
 |false=>exact hb wh pins s1 σ H1 Q I1 q1
theorem Fw(ha:PT X a tA):PT X (.UnaryOp .Not a pos) (Sl tA):=by
 intro pins s σ H Q I h;exact isTrue_not (ha pins s σ H (fun c H1=>Q (!c) H1) I h)
def OG(ta tb:TE):TE:=fun σ H Q=>ta σ H fun x H1=>∃c,x=.bl c/\if c=true then tb σ H1 Q else Q (.bl false) H1
def Sm(ta tb:TE):TE:=fun σ H Q=>ta σ H fun x H1=>∃c,x=.bl c/\if c=true then Q (.bl true) H1 else tb σ H1 Q
theorem Mm{op}{t:TE}(h:PE X a t):PE X (.BoolOp op [a] pos) t:=fun pins s σ H Q I hw=>BoolOp_one (h pins s σ H Q I hw)
theorem Fy(ha:PE X a ta)(hb:PE X (.BoolOp .And (b::rest) pos) tb):PE X (.BoolOp .And (a::b::rest) pos) (OG ta tb):=by
 intro pins s σ H Q I h;refine BoolOp_and (da (ha pins s σ H _ I h) fun v s1 ⟨x,H1,I1,r1,q1⟩=>?_);obtain⟨c,rfl,q1⟩:=q1
 cases r1
 refine wpAny_truthy_bool ?_
 cases c with
 |true=>exact hb pins s1 σ H1 Q I1 q1
 |false=>exact⟨.bl false,H1,I1,rfl,q1⟩
theorem Ls(ha:PE X a ta)(hb:PE X (.BoolOp .Or (b::rest) pos) tb):PE X (.BoolOp .Or (a::b::rest) pos) (Sm ta tb):=by
 intro pins s σ H Q I h;refine BoolOp_or (da (ha pins s σ H _ I h) fun v s1 ⟨x,H1,I1,r1,q1⟩=>?_);obtain⟨c,rfl,q1⟩:=q1
 cases r1
 refine wpAny_truthy_bool ?_
 cases c with
 |false=>exact hb pins s1 σ H1 Q I1 q1
 |true=>exact⟨.bl true,H1,I1,rfl,q1⟩
def tIf(t:TT)(ta tb:TE):TE:=fun σ H Q=>t σ H fun c H1=>if c=true then ta σ H1 Q else tb σ H1 Q
theorem mr{c:Expr}(hc:PT X c tA)(ha:PE X a ta)(hb:PE X b tb):PE X (.IfExp c a b pos) (tIf tA ta tb):=by
 intro pins s σ H Q I h;refine wpAny_IfExp (da (hc pins s σ H _ I h) fun d s1 ⟨H1,I1,q1⟩=>?_)
 cases d with
 |true=>exact ha pins s1 σ H1 Q I1 q1
 |false=>exact hb pins s1 σ H1 Q I1 q1
end
def lM(K:PySem.W.Frag)(H:Hp)(a:Addr)(xs:List V):Prop :=
 Rd H a (.lst xs) \/
  ∃(o:Obj) (bh:Array Value) (n:Nat),K.lookup a=some o/\o.cls=.type "list" /\ o.dict=none/\o.data=.seq bh n/\bh.size<=sizeLine/\Vals xs bh.toList
def uy(K:PySem.W.Frag)(H:Hp)(a:Addr)(xs:List V):Prop :=
 Rd H a (.tup xs) \/
  ∃(o:Obj) (bh:Array Value) (n:Nat),K.lookup a=some o/\o.cls=.type "tuple" /\ o.data=.seq bh n/\bh.size<=sizeLine/\Vals xs bh.toList
def Sn:Value->Option V
 |.none=>some .cQ
 |.bool b=>some (.bl b)
 |.int i _=>some (.int i)
 |.str x _=>some (.str x)
 |.bytes b _=>some (.Fe b)
 |.float b _=>some (.Q8 b)
 |.ref a=>some (.ref a)
 |.type n=>some (.ty n)
 |_=>none
theorem RelV.abs{x:V}{u:Value}(r:RelV x u):Sn u=some x:=by
 cases x with
 |cQ=>cases r;rfl
 |bl _=>cases r;rfl
 |int _=>obtain⟨t,rfl⟩:=r;rfl
 |str _=>obtain⟨t,rfl⟩:=r;rfl
 |Fe _=>obtain⟨t,rfl⟩:=r;rfl
 |Q8 _=>obtain⟨t,rfl⟩:=r;rfl
 |ref _=>cases r;rfl
 |ty _=>cases r;rfl
theorem RelV.inj{x y:V}{u:Value}(r:RelV x u)(q:RelV y u):x=y:=Option.some.inj (r.abs.symm.trans q.abs)
theorem Vals.inj{xs ys:List V}{us:List Value}(h:Vals xs us):Vals ys us->xs=ys:=by
 induction h generalizing ys with
 |nil=>intro q;cases q;rfl
 |cons r t ih=>intro q;cases q with|cons r' t'=>rw [r.inj r',ih t']
section
variable {X:Cx}{pins:List (Addr×Obj)}{σ:St}{H:Hp}{s:Shared}{a:Addr}{xs ys:List V}
theorem lM.of{K:PySem.W.Frag}(h:H a=some (.lst xs)):lM K H a xs:=.inl (.inl h)
theorem uy.of{K:PySem.W.Frag}(h:H a=some (.tup xs)):uy K H a xs:=.inl (.inl h)
theorem Inv.list(I:Inv X pins σ H s)(h:lM X.K H a xs):∃bh:List Value,Vals xs bh/\PlainL s.heap a bh.toArray/\xs.length<=sizeLine:=by
 rcases h with h|⟨o,bh,n,hk,hc,hd,hs,hz,r⟩
 ·obtain⟨z,bh,n,r,e⟩:=h.ok I.cR;exact⟨bh,r,⟨_,n,e,rfl,rfl,rfl⟩,z⟩
 ·refine⟨bh.toList,r,⟨o,n,I.wo a o hk,hc,hd,by simpa using hs⟩,?_⟩;have e:=r.length;simp only [length_toList]at e;omega
theorem Inv.tuple(I:Inv X pins σ H s)(h:uy X.K H a xs):∃bh:List Value,Vals xs bh/\IsTup s.heap a bh.toArray/\xs.length<=sizeLine:=by
 rcases h with h|⟨o,bh,n,hk,hc,hs,hz,r⟩
 ·obtain⟨z,bh,r,p⟩:=h.ok I.cR;exact⟨bh,r,p,z⟩
 ·refine⟨bh.toList,r,⟨o,I.wo a o hk,hc,n,by simpa using hs⟩,?_⟩;have e:=r.length;simp only [length_toList]at e;omega
theorem Inv.zp(I:Inv X pins σ H s)(h:lM X.K H a xs)(h':lM X.K H a ys):xs=ys:=by
 obtain⟨bh,r,⟨o,n,e,_,_,d⟩,_⟩:=I.list h;obtain⟨its',r',⟨o',n',e',_,_,d'⟩,_⟩:=I.list h';rw [e]at e';cases e'
 rw [d]at d';injection d' with d1 _;have:bh=its':=by simpa using congrArg Array.toList d1
 subst this;exact r.inj r'
theorem Inv.DV(I:Inv X pins σ H s)(h:uy X.K H a xs)(h':uy X.K H a ys):xs=ys:=by
 obtain⟨bh,r,⟨o,e,_,n,d⟩,_⟩:=I.tuple h;obtain⟨its',r',⟨o',e',_,n',d'⟩,_⟩:=I.tuple h';rw [e]at e';cases e'
 rw [d]at d';injection d' with d1 _;have:bh=its':=by simpa using congrArg Array.toList d1
 subst this;exact r.inj r'
end
abbrev Cx.tG(X:Cx)(E:Value->Shared->Prop):Cx:={X with xe:=E}
abbrev Cx.Ff(X:Cx):Cx:=X.tG fun _ _=>False
theorem Cx.Ok.tG{X:Cx}(ok:X.Ok)(E:Value->Shared->Prop):(X.tG E).Ok :=
 ⟨ok.mod,ok.kind,ok.glob,ok.blt,ok.above,ok.inj,ok.has,ok.IL,ok.hd,ok.frames,ok.Je,ok.Mh,ok.bs,ok.zl,ok.wx,ok.xU,ok.iC,ok.zm⟩
theorem Cx.Ok.jT{X:Cx}{E:Value->Shared->Prop}(ok:(X.tG E).Ok):X.Ok :=
 ⟨ok.mod,ok.kind,ok.glob,ok.blt,ok.above,ok.inj,ok.has,ok.IL,ok.hd,ok.frames,ok.Je,ok.Mh,ok.bs,ok.zl,ok.wx,ok.xU,ok.iC,ok.zm⟩
section
variable {X:Cx}{pins:List (Addr×Obj)}{σ:St}{H:Hp}{s:Shared}{E:Value->Shared->Prop}
theorem Inv.tG(I:Inv X pins σ H s)(E:Value->Shared->Prop):Inv (X.tG E) pins σ H s:=⟨I.ok.tG E,I.os,I.bare,I.base,I.loc,I.cell,I.free,I.iK,I.pin,I.cR,I.len⟩
theorem Inv.jT(I:Inv (X.tG E) pins σ H s):Inv X pins σ H s:=⟨I.ok.jT,I.os,I.bare,I.base,I.loc,I.cell,I.free,I.iK,I.pin,I.cR,I.len⟩
theorem SP.jT{D:Ends}{f:Flow}{s':Shared}(h:SP (X.tG E) pins D f s'):SP X pins D f s':=by
 cases f with
 |next=>obtain⟨σ',H',I,q⟩:=h;exact⟨σ',H',I.jT,q⟩
 |brk=>obtain⟨σ',H',I,q⟩:=h;exact⟨σ',H',I.jT,q⟩
 |cont=>obtain⟨σ',H',I,q⟩:=h;exact⟨σ',H',I.jT,q⟩
 |ret u=>obtain⟨v,σ',H',I,r,q⟩:=h;exact⟨v,σ',H',I.jT,r,q⟩
theorem PE.Ff{e:Expr}{t:TE}(h:PE X.Ff e t):PE X e t:=fun pins s σ H Q I hw =>
 wpAny_mono (h pins s σ H Q (I.tG _) hw) (fun _ _ ⟨v,H',I',r,q⟩=>⟨v,H',I'.jT,r,q⟩) fun _ _ z=>False.elim z
theorem PT.Ff{e:Expr}{t:TT}(h:PT X.Ff e t):PT X e t:=fun pins s σ H Q I hw =>
 wpAny_mono (h pins s σ H Q (I.tG _) hw) (fun _ _ ⟨H',I',q⟩=>⟨H',I'.jT,q⟩) fun _ _ z=>False.elim z
theorem pV.Ff{st:List Stmt}{t:TS}(h:pV X.Ff st t):pV X st t:=fun pins s σ H D I hw =>
 wpAny_mono (h pins s σ H D (I.tG _) hw) (fun _ _ q=>q.jT) fun _ _ z=>False.elim z
end
section
variable {X:Cx}{st:Stmt}{rest:List Stmt}{t u:TS}{e:Expr}{te:TE}{pos:Pos}
def OH:TS:=fun D σ H=>D.nx σ H
def So(t u:TS):TS:=fun D σ H=>t {D with nx:=u D} σ H
theorem xX:pV X [] OH:=fun _ _ σ H _ I h=>wpAny_execs_nil ⟨σ,H,I,h⟩
theorem ed(h1:PS X st t)(h2:pV X rest u):pV X (st::rest) (So t u):=by
 intro pins s σ H D I h;refine wpAny_execs_cons (da (h1 pins s σ H {D with nx:=u D} I h) fun f s1 q=>?_)
 cases f with
 |next =>
  obtain⟨σ',H',I',q⟩:=q;exact h2 pins s1 σ' H' D I' q
 |ret v=>exact q
 |brk=>exact q
 |cont=>exact q
theorem kI(h1:PS X st t):pV X [st] t:=by
 intro pins s σ H D I h;refine wpAny_execs_cons (da (h1 pins s σ H D I h) fun f s1 q=>?_)
 cases f with
 |next=>exact wpAny_execs_nil q
 |ret v=>exact q
 |brk=>exact q
 |cont=>exact q
theorem Inv.quiet{pins:List (Addr×Obj)}{σ:St}{H:Hp}{s:Shared}(I:Inv X pins σ H s):interactive X.env=false:=by simp [interactive,I.ok.kind]
def OI(te:TE):TS:=fun D σ H=>te σ H fun _ H1=>D.nx σ H1
theorem nM(he:PE X e te)(hs:swapsWith e none pos.line X.env=pure false:=by rfl):PS X (.Expr e pos) (OI te):=by
 intro pins s σ H D I h;exact wpAny_Expr_any (da (he pins s σ H _ I h) fun v s1 ⟨x,H1,I1,r1,q1⟩=>⟨σ,H1,I1,q1⟩) I.quiet hs
def Sq(te:TE):TS:=fun D σ H=>te σ H D.rt
theorem xY(he:PE X e te):PS X (.Return (some e) pos) (Sq te):=by
 intro pins s σ H D I h;exact wpAny_Return_some (da (he pins s σ H _ I h) fun v s1 ⟨x,H1,I1,r1,q1⟩=>⟨x,σ,H1,I1,r1,q1⟩)
def Sr(c:TT)(t u:TS):TS:=fun D σ H=>c σ H fun b H1=>if b=true then t D σ H1 else u D σ H1
theorem wU{c:Expr}{a b:List Stmt}{tc:TT}(hc:PT X c tc)(ha:pV X a t)(hb:pV X b u):PS X (.If c a b pos) (Sr tc t u):=by
 intro pins s σ H D I h;refine wpAny_If (da (hc pins s σ H _ I h) fun d s1 ⟨H1,I1,q1⟩=>?_)
 cases d with
 |true=>exact ha pins s1 σ H1 D I1 q1
 |false=>exact hb pins s1 σ H1 D I1 q1
def Mn:TS:=fun _ _ _=>False
theorem eK{sts:List Stmt}:pV X sts Mn:=fun _ _ _ _ _ _ h=>h.elim
end
abbrev TG:=V->St->Hp->(St->Hp->Prop)->Prop
abbrev Ji:=List V->St->Hp->(St->Hp->Prop)->Prop
def PG(X:Cx)(target:Expr)(t:TG):Prop :=
 ∀(pins:List (Addr×Obj))(s:Shared)(σ:St)(H:Hp)(v:V)(u:Value)(Q:St->Hp->Prop),Inv X pins σ H s->RelV v u->t v σ H Q ->
  wpAny (model X.prog X.w) X.A (assign target X.env u) (fun _ s'=>∃σ' H',Inv X pins σ' H' s'/\Q σ' H') X.xe s
def Jj(X:Cx)(ts:List Expr)(t:Ji):Prop :=
 ∀(pins:List (Addr×Obj))(s:Shared)(σ:St)(H:Hp)(vs:List V)(us:List Value)(Q:St->Hp->Prop),Inv X pins σ H s->Vals vs us->t vs σ H Q ->
  wpAny (model X.prog X.w) X.A (assignInOrder ((assignEach ts X.env).map (·.2)) us) (fun _ s'=>∃σ' H',Inv X pins σ' H' s'/\Q σ' H') X.xe s
abbrev Mo:=V->V->V->Hp->(Hp->Prop)->Prop
def OJ(X:Cx)(t:Mo):Prop :=
 ∀(pins:List (Addr×Obj))(s:Shared)(σ:St)(H:Hp)(o i v:V)(ov iv u:Value)(Q:Hp->Prop),Inv X pins σ H s->RelV o ov->RelV i iv->RelV v u->t o i v H Q ->
  wpAny (model X.prog X.w) X.A (setItem ov iv u) (fun _ s'=>∃H',Inv X pins σ H' s'/\Q H') X.xe s
section
variable {X:Cx}{pos:Pos}
def Lu(i:Nat):TG:=fun v σ H Q=>Q (σ.set i (some v)) H
theorem Jk{i:Nat}{x:Str}(hN:X.N.Nodup)(hi:X.N[i]?=some x)(hx:Loc X.env.scope x)(hf:X.fn x=true\/X.env.scope.names.lookup x=some .local:=by first|exact .inl rfl|exact .inr rfl|assumption):PG X (.Name x pos) (Lu i):=by
 intro pins s σ H v u Q I r h;exact wpAny_assign_Name (uv I hN hi hx r (fun s' I'=>⟨_,H,I',h⟩) hf)
def Ss:Ji:=fun vs σ H Q=>vs=[]/\Q σ H
def OK(t:TG)(u:Ji):Ji:=fun vs σ H Q=>∃v r,vs=v::r/\t v σ H fun σ' H'=>u r σ' H' Q
theorem Jl:Jj X [] Ss:=by
 intro pins s σ H vs us Q I r h;obtain⟨e,h⟩:=h;subst e
 cases r
 exact assignInOrder_nil ⟨σ,H,I,h⟩
theorem FA{e:Expr}{es:List Expr}{t:TG}{u:Ji}(h1:PG X e t)(h2:Jj X es u)
  (hs:(assignEach (e::es) X.env).map (·.2)=assign e X.env::(assignEach es X.env).map (·.2):=by rfl):Jj X (e::es) (OK t u):=by
 intro pins s σ H vs us Q I r h;obtain⟨v,vr,e1,h⟩:=h;subst e1
 cases r with
 |cons r rr =>
  rw [hs];refine assignInOrder_cons (da (h1 pins s σ H _ _ _ I r h) fun _ s1 ⟨σ1,H1,I1,q1⟩=>?_);exact h2 pins s1 σ1 H1 _ _ Q I1 rr q1
def Su(K:PySem.W.Frag)(n:Nat)(t:Ji):TG:=fun v σ H Q=>∃a xs,v=.ref a/\uy K H a xs/\xs.length=n/\t xs σ H Q
theorem Mp{es:List Expr}{k:Nat}{t:Ji}{n:Nat}(hc:X.calm=true)(h:Jj X es t)
  (hn:(assignEach es X.env).length=n:=by rfl) (wV:(assignEach es X.env).findIdx? (·.1)=none:=by rfl):PG X (.Tuple es k pos) (Su X.K n t):=by
 intro pins s σ H v u Q I r hw;obtain⟨a,xs,e1,hq,hl,hw⟩:=hw;subst e1
 cases r
 obtain⟨bh,rv,ht,hz⟩:=I.tuple hq;refine assign_Tuple_tuple (I.ok.hd hc) ht (by simp [hn,<-hl,rv.length]) wV fun h' hx=>?_;have I1:Inv X pins σ H {s with heap:=h'}:=I.kept (t':=s.toks) fun b o e=>hx b o (ne_of_lt (Heap.lt_size e)) e;exact h pins _ σ H xs _ Q I1 (by simpa using rv) hw
def jF(to ti:TE)(t:Mo):TG:=fun v σ H Q=>to σ H fun o H1=>ti σ H1 fun i H2=>t o i v H2 fun H3=>Q σ H3
theorem Mq{o i:Expr}{to ti:TE}{t:Mo}(ho:PE X o to)(hi:PE X i ti)(hs:OJ X t)
  (ha:∀v,assign (.Subscript o i pos) X.env v=(do
   let ov<-holding [v] (eval o X.env)
   let iv<-holding [v,ov] (eval i X.env)
   standAt pos
   holding [v,ov,iv] (setItem ov iv v)
   release [v,ov,iv] []):=by intro _;rfl):PG X (.Subscript o i pos) (jF to ti t):=by
 intro pins s σ H v u Q I r h;rw [ha];refine wpAny_bind (wpAny_holding (da (ho pins s σ H _ I h) fun ov s1 ⟨x,H1,I1,r1,q1⟩=>?_));refine wpAny_bind (wpAny_holding (da (hi pins s1 σ H1 _ I1 q1) fun iv s2 ⟨y,H2,I2,r2,q2⟩=>?_));refine wpAny_bind (wpAny_standAt (wpAny_bind (wpAny_holding (da (hs pins s2 σ H2 x y v ov iv u _ I2 r1 r2 r q2) fun _ s3 ⟨H3,I3,q3⟩=>?_))));exact wpAny_release ⟨σ,H3,I3,q3⟩
def OL(te:TE)(g:TG):TS:=fun D σ H=>te σ H fun x H1=>g x σ H1 D.nx
theorem FC{tg e:Expr}{te:TE}{g:TG}(he:PE X e te)(hg:PG X tg g)(hs:swapsWithSole [tg] e pos.line X.env=pure false:=by rfl)(hw:swappedStores [tg] e X.env=pure none:=by rfl)
  (h1:(assignEach [tg] X.env).map (·.2)=[assign tg X.env]:=by rfl):PS X (.Assign [tg] e pos) (OL te g):=by
 intro pins s σ H D I h;refine wpAny_Assign_stores (da (he pins s σ H _ I h) fun v s1 ⟨x,H1,I1,r1,q1⟩=>?_) hs hw;rw [h1];exact da (hg pins s1 σ H1 x v _ I1 r1 q1) fun _ s2 q=>q
theorem mv{i:Nat}{x:Str}{e:Expr}{te:TE}{pos':Pos}(hN:X.N.Nodup)(hi:X.N[i]?=some x)(hx:Loc X.env.scope x)(he:PE X e te)(hs:swapsWith e (some (.Name x pos')) pos.line X.env=pure false:=by rfl)(hf:X.fn x=true\/X.env.scope.names.lookup x=some .local:=by first|exact .inl rfl|exact .inr rfl|assumption):
  PS X (.Assign [.Name x pos'] e pos) (OL te (Lu i)):=by
 intro pins s σ H D I h;refine wpAny_Assign_Name (da (he pins s σ H _ I h) fun v s1 ⟨y,H1,I1,r1,q1⟩=>?_) hs;exact uv I1 hN hi hx r1 (fun s2 I2=>⟨_,H1,I2,q1⟩) hf
end
structure It where
 go:Nat->Hp->Prop
 Sv:Nat->Hp->V->Hp->Prop
 stop:Nat->Hp->Prop
def oM(X:Cx)(pins:List (Addr×Obj))(H:Hp)(b:Addr):Prop :=
 H b=none/\b≠X.env.locals/\b∉X.fs/\(b∈X.ex\/X.s₀.heap.objs.size<=b)/\(∀x c,X.env.cells.lookup x=some c->c≠b)/\∀p∈X.pn++pins,p.1≠b
theorem Inv.zq{X:Cx}{pins:List (Addr×Obj)}{σ:St}{H H':Hp}{s:Shared}{b:Addr}(I:Inv X pins σ H s)(hb:s.heap.objs.size<=b)(hn:H' b=none):oM X pins H' b:=by
 refine⟨hn,Nat.ne_of_gt (lt_of_lt_of_le I.lt hb),I.Se hb,.inr (le_trans I.sz hb),fun x c e z=>?_,fun p hp z=>?_⟩
 ·obtain⟨v,q⟩:=I.cell x c e;exact absurd (lt_of_lt_of_le q.lt (by rw [z];exact hb)) (lt_irrefl _)
 ·exact absurd (lt_of_lt_of_le (Heap.lt_size (I.pin p hp).1) (by rw [z];exact hb)) (lt_irrefl _)
structure Turn(P:Program)(w:World)(K:PySem.W.Frag)(tg:Expr)(J:It)(fp:List Addr)(it:Addr)(tn:Nat->Heap->Prop):Prop where
 mem:it∈fp
 obj:∀i h,tn i h->∀b∈fp,∃o,h.get? b=some o/\∀v,o.data ≠ .cell v
 keep:∀i h h',tn i h->(∀b∈fp,∀o,h.get? b=some o->h'.get? b=some o)->tn i h'
 item:∀(X:Cx),X.prog=P->X.w=w->X.K=K->X.calm=true->∀(i:Nat)(pins:List (Addr×Obj))(s:Shared)(σ:St)(H:Hp)(E:Value->Shared->Prop),Inv X pins σ H s->(∀b∈fp,oM X pins H b)->tn i s.heap->J.go i H ->
  wpAny (model P w) X.A (pyNext (.ref it)) (fun r s1=>∃u,r=some u /\
   wpAny (model P w) X.A (letOwnedTupleGo tg (.ref it) u) (fun _ s2=>∃x H',Inv X pins σ H' s2/\RelV x u/\J.Sv i H x H'/\tn (i+1) s2.heap/\∀b∈fp,H' b=none) E s1) E s
 done:∀(X:Cx),X.prog=P->X.w=w->X.K=K->X.calm=true->∀(i:Nat)(pins:List (Addr×Obj))(s:Shared)(σ:St)(H:Hp)(E:Value->Shared->Prop),Inv X pins σ H s->(∀b∈fp,oM X pins H b)->tn i s.heap->J.stop i H ->
  wpAny (model P w) X.A (pyNext (.ref it)) (fun r s1=>r=none/\Inv X pins σ H s1) E s
 self:∀(A:Around)(i:Nat)(s:Shared)(Q:Value->Shared->Prop)(E:Value->Shared->Prop),tn i s.heap->Q (.ref it) s->wpAny (model P w) A (pyIter (.ref it)) Q E s
abbrev TI:=St->Hp->(It->Hp->Prop)->Prop
def Yl(X:Cx)(pins:List (Addr×Obj))(σ:St)(tg:Expr)(R:It->Hp->Prop)(OM:Value)(s2:Shared):Prop :=
 ∃(it:Addr) (fp:List Addr) (tn:Nat->Heap->Prop) (J:It) (H':Hp),OM=.ref it/\Inv X pins σ H' s2/\Turn X.prog X.w X.K tg J fp it tn/\tn 0 s2.heap/\(∀b∈fp,oM X pins H' b)/\R J H'
def PI(X:Cx)(tg iter:Expr)(wi:TI):Prop :=
 ∀(pins:List (Addr×Obj))(s:Shared)(σ:St)(H:Hp)(R:It->Hp->Prop),Inv X pins σ H s->wi σ H R ->
  wpAny (model X.prog X.w) X.A (eval iter X.env) (fun v s1=>wpAny (model X.prog X.w) X.A (pyIter v) (Yl X pins σ tg R) X.xe s1) X.xe s
theorem zt{M:Model}{A:Around}{E:Value->Shared->Prop}{s:Shared}{tg:Expr}{it:Addr}{u:Value}{o:Obj}{n:String}{vs:Array Value}{Q:Unit->Shared->Prop}(ho:s.heap.get? it=some o)(hc:o.cls=.type n)(hd:o.data=.fields vs)
  (hn:["enumerate", "zip", "dict_itemiterator", "dict_reverseitemiterator", "odict_iterator", "itertools.zip_longest", "itertools.pairwise"].contains n=false) (hQ:Q () s):wpAny M A (letOwnedTupleGo tg (.ref it) u) Q E s:=by
 unfold letOwnedTupleGo
 cases tg<;>first
  |exact wpAny_pure hQ
  |(cases u<;>first
    |exact wpAny_pure hQ
    |(refine wpAny_bind (wpAny_load ho ?_)
      rw [hc,hd];show wpAny M A (if(["enumerate", "zip", "dict_itemiterator", "dict_reverseitemiterator", "odict_iterator", "itertools.zip_longest", "itertools.pairwise"].contains n&&vs[0]?==some (rawInt _))=true then _ else _) Q E s;rw [if_neg (by intro h;rw [hn,Bool.false_and]at h;cases h)];exact wpAny_pure hQ))
def Ym(K:PySem.W.Frag)(a:Addr):It :=
 ⟨fun i H=>∃xs x,lM K H a xs/\xs[i]?=some x,fun i H x H'=>H'=H/\∀xs,lM K H a xs->xs[i]?=some x,fun i H=>∃xs,lM K H a xs/\xs.length<=i⟩
def Yn(K:PySem.W.Frag)(a:Addr):It :=
 ⟨fun i H=>∃xs x,uy K H a xs/\xs[i]?=some x,fun i H x H'=>H'=H/\∀xs,uy K H a xs->xs[i]?=some x,fun i H=>∃xs,uy K H a xs/\xs.length<=i⟩
def Sw(lo:Int)(n:Nat):It:=⟨fun i _=>i<n,fun i H x H'=>H'=H/\x=.int (lo+i),fun i _=>n<=i⟩
theorem DW{P:Program}{w:World}{K:PySem.W.Frag}{tg:Expr}(a it:Addr):Turn P w K tg (Ym K a) [it] it (fun i h=>h.IsListIter it a i)where
 mem:=by simp
 obj:=fun i h st b hb=>by
  have e:b=it:=by simpa using hb
  subst e;obtain⟨o,e,c,d⟩:=st;exact⟨o,e,fun v z=>by rw [d]at z;cases z⟩
 keep:=fun i h h' st k=>st.at fun o e=>k it (by simp) o e
 item:=by
  intro X hP hw hK hc i pins s σ H E I hf st hg;subst hP hw hK;obtain⟨xs,x,hq,hx⟩:=hg;obtain⟨bh,rv,p,hz⟩:=I.list hq;obtain⟨u,hu,ru⟩:=rv.get hx;obtain⟨f0,f1,f2,f3,f4,f5⟩:=hf it (by simp);refine wpAny_pyNext_list_item st p.isList (x:=u) (by simpa using hu) fun h' wy sb=>?_;have I1:Inv X pins σ H {s with heap:=h'}:=I.turned (t':=s.toks) (fun b o hb e=>(sb.2 b hb).trans e) f0 f1 f3 f4 f5;obtain⟨o,e,c,d⟩:=id wy;exact⟨u,rfl,zt (s:={s with heap:=h'}) e c d (by decide) ⟨x,H,I1,ru,⟨rfl,fun ys hy=>by rw [I.zp hy hq];exact hx⟩,wy,fun b hb=>(hf b hb).1⟩⟩
 done:=by
  intro X hP hw hK hc i pins s σ H E I hf st hg;subst hP hw hK;obtain⟨xs,hq,hx⟩:=hg;obtain⟨bh,rv,p,hz⟩:=I.list hq;obtain⟨f0,f1,f2,f3,f4,f5⟩:=hf it (by simp);have hl:=rv.length;exact wpAny_pyNext_list_end (I.ok.hd hc) st p.isList (by simp;omega) fun h' eb=>⟨rfl,I.turned (t':=s.toks) (fun b o hb e=>eb b o hb e) f0 f1 f3 f4 f5⟩
 self:=fun _ _ _ _ _ st h=>wpAny_pyIter_listiter st h
theorem Bn{P:Program}{w:World}{K:PySem.W.Frag}{tg:Expr}(a it:Addr):Turn P w K tg (Yn K a) [it] it (fun i h=>h.IsTupleIter it a i)where
 mem:=by simp
 obj:=fun i h st b hb=>by
  have e:b=it:=by simpa using hb
  subst e;obtain⟨o,e,c,d⟩:=st;exact⟨o,e,fun v z=>by rw [d]at z;cases z⟩
 keep:=fun i h h' st k=>st.at fun o e=>k it (by simp) o e
 item:=by
  intro X hP hw hK hc i pins s σ H E I hf st hg;subst hP hw hK;obtain⟨xs,x,hq,hx⟩:=hg;obtain⟨bh,rv,p,hz⟩:=I.tuple hq;obtain⟨u,hu,ru⟩:=rv.get hx;obtain⟨f0,f1,f2,f3,f4,f5⟩:=hf it (by simp);refine wpAny_pyNext_tuple_item st (show s.heap.IsTuple a bh.toArray from p) (x:=u) (by simpa using hu) fun h' wy sb=>?_;have I1:Inv X pins σ H {s with heap:=h'}:=I.turned (t':=s.toks) (fun b o hb e=>(sb.2 b hb).trans e) f0 f1 f3 f4 f5;obtain⟨o,e,c,d⟩:=id wy;exact⟨u,rfl,zt (s:={s with heap:=h'}) e c d (by decide) ⟨x,H,I1,ru,⟨rfl,fun ys hy=>by rw [I.DV hy hq];exact hx⟩,wy,fun b hb=>(hf b hb).1⟩⟩
 done:=by
  intro X hP hw hK hc i pins s σ H E I hf st hg;subst hP hw hK;obtain⟨xs,hq,hx⟩:=hg;obtain⟨bh,rv,p,hz⟩:=I.tuple hq;obtain⟨f0,f1,f2,f3,f4,f5⟩:=hf it (by simp);have hl:=rv.length;exact wpAny_pyNext_tuple_end (I.ok.hd hc) st (show s.heap.IsTuple a bh.toArray from p) (by simp;omega) fun h' eb=>⟨rfl,I.turned (t':=s.toks) (fun b o hb e=>eb b o hb e) f0 f1 f3 f4 f5⟩
 self:=fun _ _ _ _ _ st h=>wpAny_pyIter_tupleiter st h
theorem Bo{P:Program}{w:World}{K:PySem.W.Frag}{tg:Expr}(it:Addr)(lo:Int)(n:Nat):Turn P w K tg (Sw lo n) [it] it (fun i h=>IsRangeIter h it (lo+(i:Nat)*1) ((n:Int)-(i:Nat)) 1)where
 mem:=by simp
 obj:=fun i h st b hb=>by
  have e:b=it:=by simpa using hb
  subst e;exact⟨_,st,fun v z=>by
   have z':Data.fields _=Data.cell v:=z
   cases z'⟩
 keep:=fun i h h' st k=>k it (by simp) _ st
 item:=by
  intro X hP hw hK hc i pins s σ H E I hf st hg;subst hP hw hK;obtain⟨f0,f1,f2,f3,f4,f5⟩:=hf it (by simp);have W:=Walks.range (prog:=X.prog) (w:=X.w) (I.ok.hd hc) it lo 1 n;refine W.item i s _ _ hg st fun v h' tk hv wy kk=>?_;obtain⟨t,rfl⟩:=hv;have I1:Inv X pins σ H {s with heap:=h',toks:=tk}:=I.turned (fun b o hb e=>kk b o (by simpa using hb) e) f0 f1 f3 f4 f5;refine⟨_,rfl,zt (s:={s with heap:=h',toks:=tk}) (n := "range_iterator") wy rfl rfl (by decide) ⟨.int (lo+i),H,I1,⟨t,?_⟩,⟨rfl,rfl⟩,wy,fun b hb=>(hf b hb).1⟩⟩;rw [Int.mul_one]
 done:=by
  intro X hP hw hK hc i pins s σ H E I hf st hg;subst hP hw hK;obtain⟨f0,f1,f2,f3,f4,f5⟩:=hf it (by simp);exact wpAny_pyNext_range_end (I.ok.hd hc) st (by have:n<=i:=hg;omega) fun h' eb=>⟨rfl,I.turned (t':=s.toks) (fun b o hb e=>eb b o hb e) f0 f1 f3 f4 f5⟩
 self:=fun _ _ _ _ _ st h=>wpAny_pyIter_rangeiter st h
section
variable {X:Cx}{tg:Expr}
def ON(K:PySem.W.Frag)(tl:TE):TI:=fun σ H R=>tl σ H fun x H1=>∃a,x=.ref a/\(∃xs,lM K H1 a xs)/\R (Ym K a) H1
def Sx(K:PySem.W.Frag)(tl:TE):TI:=fun σ H R=>tl σ H fun x H1=>∃a,x=.ref a/\(∃xs,uy K H1 a xs)/\R (Yn K a) H1
theorem Jm{l:Expr}{tl:TE}(hl:PE X l tl):PI X tg l (ON X.K tl):=by
 intro pins s σ H R I h;refine da (hl pins s σ H _ I h) fun v s1 ⟨x,H1,I1,r1,q1⟩=>?_;obtain⟨a,e,⟨xs,hq⟩,q⟩:=q1;subst e
 cases r1
 obtain⟨bh,rv,p,hz⟩:=I1.list hq;refine wpAny_pyIter_list p.isList ?_;refine⟨s1.heap.objs.size,[s1.heap.objs.size],_,_,H1,rfl,I1.kept (t':=s1.toks) fun b o e=>Heap.get?_push_of_some _ e,DW a _,⟨_,Heap.get?_push_size _ rfl,rfl,rfl⟩,fun b hb=>?_,q⟩;have e:b=s1.heap.objs.size:=by simpa using hb
 subst e;exact I1.zq (le_refl _) (I1.cR.fresh (le_refl _))
theorem Mr{l:Expr}{tl:TE}(hl:PE X l tl):PI X tg l (Sx X.K tl):=by
 intro pins s σ H R I h;refine da (hl pins s σ H _ I h) fun v s1 ⟨x,H1,I1,r1,q1⟩=>?_;obtain⟨a,e,⟨xs,hq⟩,q⟩:=q1;subst e
 cases r1
 obtain⟨bh,rv,p,hz⟩:=I1.tuple hq;refine wpAny_pyIter_tuple (show s1.heap.IsTuple a bh.toArray from p) ?_;refine⟨s1.heap.objs.size,[s1.heap.objs.size],_,_,H1,rfl,I1.kept (t':=s1.toks) fun b o e=>Heap.get?_push_of_some _ e,Bn a _,⟨_,Heap.get?_push_size _ rfl,rfl,rfl⟩,fun b hb=>?_,q⟩;have e:b=s1.heap.objs.size:=by simpa using hb
 subst e;exact I1.zq (le_refl _) (I1.cR.fresh (le_refl _))
theorem FD{pins:List (Addr×Obj)}{σ:St}{H:Hp}{s:Shared}{R:It->Hp->Prop}{E:Value->Shared->Prop}{lo hi:Int}{t u v:Tok}{tk:Nat}(I:Inv X pins σ H s)(h1:-(2 ^ 62)<=lo)(h2:lo<2 ^ 62)(h3:-(2 ^ 62)<=hi)(h4:hi<2 ^ 62)
  (q:R (Sw lo (hi-lo).toNat) H):wpAny (model X.prog X.w) X.A (pyIter (.ref s.heap.objs.size)) (Yl X pins σ tg R) E {s with heap:=s.heap.push {cls:=.type "range", data:=.fields #[.int lo t,.int hi u,.int 1 v]},toks:=tk}:=by
 refine wpAny_pyIter_range (IsRange.new ..) (small_one h1 h2 h3 h4) ?_;have I1:Inv X pins σ H {s with heap:=s.heap.push {cls:=.type "range", data:=.fields #[.int lo t,.int hi u,.int 1 v]},toks:=tk}:=I.kept fun b o e=>Heap.get?_push_of_some _ e;refine⟨(s.heap.push {cls:=.type "range", data:=.fields #[.int lo t,.int hi u,.int 1 v]}).objs.size,[(s.heap.push {cls:=.type "range", data:=.fields #[.int lo t,.int hi u,.int 1 v]}).objs.size],_,_,H,rfl,
  I1.kept (t':=tk) fun b o e=>Heap.get?_push_of_some _ e,Bo _ lo (hi-lo).toNat,?_,fun b hb=>?_,q⟩
 ·have e1:lo+((0:Nat):Int)*1=lo:=by simp
  have e2:(((hi-lo).toNat:Nat):Int)-((0:Nat):Int)=Builtin.Range.rangeSize lo hi 1:=by rw [rangeSize_one];split<;>omega
  show IsRangeIter _ _ (lo+((0:Nat):Int)*1) ((((hi-lo).toNat:Nat):Int)-((0:Nat):Int)) 1;rw [e1,e2];exact Heap.get?_push_size _ rfl
 ·have e:b=(s.heap.push {cls:=.type "range", data:=.fields #[.int lo t,.int hi u,.int 1 v]}).objs.size:=by simpa using hb
  subst e;exact I1.zq (le_refl _) (I1.cR.fresh (le_refl _))
def OO(ta:TA):TI:=fun σ H R=>ta σ H fun vs H1=>∃j:Int,vs=[.int j]/\-(2 ^ 62)<=j/\j<2 ^ 62/\R (Sw 0 j.toNat) H1
theorem DX{a:Expr}{ta:TA}{p pos:Pos}(hg:Gl X "range")(hm:X.mg "range" = none)(ha:PA X [a] ta)(hs:starEach [a] X.env=[(false,eval a X.env)]:=by rfl):PI X tg (.Call (.Name "range" p) [a] [] pos) (OO ta):=by
 intro pins s σ H R I h;refine Call_ (ux I hg hm boot_range (PyProof.Rows.callWith_type1 (da (ha pos pins s σ H _ I h) fun us s1 ⟨vs,H1,I1,r1,q1⟩=>?_) hs rfl));obtain⟨j,e,q1,q2,q⟩:=q1;subst e
 cases r1 with
 |cons r rr =>
  cases rr
  obtain⟨t,rfl⟩:=r;exact call_range_1 (FD I1 (by omega) (by omega) q1 q2 (by simpa using q))
def Sy(wi:TI)(g:TG)(tb:TS):TS:=fun D σ H=>wi σ H fun J H1=>∃W:Nat->Nat->St->Hp->Prop,(∃m,W 0 m σ H1)/\∀i m σ H,W i m σ H ->
 (J.stop i H/\D.nx σ H)\/(J.go i H/\∃N:St->Hp->Prop,(∀σ' H',N σ' H'->∃m',m'<m/\W (i+1) m' σ' H')/\∀x H',J.Sv i H x H'->g x σ H' fun σ2 H2=>tb {D with nx:=N,ct:=N,bk:=D.nx} σ2 H2)
def uz(fp:List Addr)(h:Heap):List (Addr×Obj):=fp.filterMap fun b=>(h.get? b).map fun o=>(b,o)
theorem fc{fp:List Addr}{h:Heap}{b:Addr}{o:Obj}(hb:b∈fp)(e:h.get? b=some o):(b,o)∈uz fp h:=mem_filterMap.mpr ⟨b,hb,by rw [e];rfl⟩
theorem DY{fp:List Addr}{h:Heap}{p:Addr×Obj}(hp:p∈uz fp h):p.1∈fp/\h.get? p.1=some p.2:=by
 obtain⟨b,hb,e⟩:=mem_filterMap.mp hp
 cases q:h.get? b with
 |none=>rw [q]at e;cases e
 |some o =>
  rw [q]at e;have e':(b,o)=p:=Option.some.inj e;subst e';exact⟨hb,q⟩
theorem Inv.pinned{pins:List (Addr×Obj)}{σ:St}{H:Hp}{s:Shared}{fp:List Addr}(I:Inv X pins σ H s)(hf:∀b∈fp,oM X pins H b)(ho:∀b∈fp,∃o,s.heap.get? b=some o/\∀v,o.data ≠ .cell v):Inv X (pins++uz fp s.heap) σ H s :=
 I.CK fun p hp=>(mem_append.mp hp).elim (fun z=>I.pin p (mem_append_right _ z)) fun z=>by
  obtain⟨hb,e⟩:=DY z;obtain⟨f0,f1,f2,_⟩:=hf p.1 hb;obtain⟨o,e',d⟩:=ho p.1 hb;rw [e]at e';cases e'
  exact⟨e,f0,f1,f2,d⟩
theorem Inv.kf{pins pl:List (Addr×Obj)}{σ:St}{H:Hp}{s:Shared}(I:Inv X (pins++pl) σ H s):Inv X pins σ H s:=I.CK fun p hp=>I.pin p (mem_append_right _ (mem_append_left _ hp))
theorem Ms{iter:Expr}{body:List Stmt}{wi:TI}{g:TG}{tb:TS}{pos:Pos}(hp:PassesOwn (model X.prog X.w) X.A X.env X.xe)(hc:X.calm=true)(hi:PI X tg iter wi)(hg:PG X tg g)(hb:pV X body tb)
  (hs:∀x,foldedSetIterable iter X.env x=pure x:=by intro _;rfl):PS X (.For tg iter body [] pos) (Sy wi g tb):=by
 intro pins s σ H D I h;refine wpAny_For (da (hi pins s σ H _ I h) fun v s1 h1=>da h1 fun OM s2 h2=>?_) hs;obtain⟨it,fp,tn,J,H2,e,I2,T,tH,f2,W,⟨m0,w0⟩,turn⟩:=h2;subst e
 -- Jn stays true of Fg Mt objects through Fg loop
 have Mu:∀{H':Hp},(∀b∈fp,H' b=none)->∀b∈fp,oM X pins H' b:=fun hn b hb=>⟨hn b hb,(f2 b hb).2⟩;refine codeAny_forLoop_any (fun n s'=>∃i σ' H',Inv X pins σ' H' s'/\tn i s'.heap/\(∀b∈fp,H' b=none)/\W i n σ' H') ?_ m0 ⟨0,σ,H2,I2,tH,fun b hb=>(f2 b hb).1,w0⟩;rintro n s3 ⟨i,σ3,H3,I3,Jo,Yo,w3⟩;rcases turn i n σ3 H3 w3 with⟨stop,qn⟩|⟨go,N,hN,step⟩
 ·refine wpAny_passesOwn hp (da (T.done X rfl rfl rfl hc i pins s3 σ3 H3 X.xe I3 (Mu Yo) Jo stop) fun r s4 ⟨hr,I4⟩=>?_);subst hr;exact wpAny_execs_nil ⟨σ3,H3,I4,qn⟩
 ·refine wpAny_passesOwn hp (da (T.item X rfl rfl rfl hc i pins s3 σ3 H3 X.xe I3 (Mu Yo) Jo go) fun r s4 ⟨u,hr,h4⟩=>?_);subst hr;refine wpAny_passesOwn hp (da h4 fun _ s5 ⟨x,H5,I5,r5,y5,Mv,fr5⟩=>?_);have I5':=I5.pinned (Mu fr5) (T.obj _ _ Mv);refine wpAny_passesOwn hp (da (hg _ s5 σ3 H5 x u _ I5' r5 (step x H5 y5)) fun _ s6 ⟨σ6,H6,I6,q6⟩=>?_);refine wpAny_passesOwn hp (da (hb _ s6 σ6 H6 _ I6 q6) fun f s7 q7=>?_);have again:∀{σ7:St}{H7:Hp},Inv X (pins++uz fp s5.heap) σ7 H7 s7->N σ7 H7->∃m,m<n/\∃i σ' H',Inv X pins σ' H' s7/\tn i s7.heap/\(∀b∈fp,H' b=none)/\W i m σ' H':=fun{σ7 H7} I7 n7=>by
   obtain⟨m',hm,w7⟩:=hN σ7 H7 n7;refine⟨m',hm,i+1,σ7,H7,I7.kf,T.keep _ _ _ Mv fun b hb o e=>(I7.pin (b,o) (mem_append_right _ (mem_append_right _ (fc hb e)))).1,fun b hb=>?_,w7⟩;obtain⟨o,e,d⟩:=T.obj _ _ Mv b hb;exact(I7.pin (b,o) (mem_append_right _ (mem_append_right _ (fc hb e)))).2.1
  cases f with
  |next=>obtain⟨σ7,H7,I7,n7⟩:=q7;exact again I7 n7
  |cont=>obtain⟨σ7,H7,I7,n7⟩:=q7;exact again I7 n7
  |brk=>obtain⟨σ7,H7,I7,q7⟩:=q7;exact⟨σ7,H7,I7.kf,q7⟩
  |ret v=>obtain⟨x7,σ7,H7,I7,r7,q7⟩:=q7;exact⟨x7,σ7,H7,I7.kf,r7,q7⟩
end
abbrev R2:=V->V->Hp->VK->Prop
def iU(X:Cx)(f:Value->Value->Sem Value)(r:R2):Prop :=
 ∀(pins:List (Addr×Obj))(s:Shared)(σ:St)(H:Hp)(x y:V)(v u:Value)(Q:VK),Inv X pins σ H s->RelV x v->RelV y u->r x y H Q ->
  wpAny (model X.prog X.w) X.A (f v u) (EP X pins σ Q) X.xe s
def SA(X:Cx)(f:Value->Sem Value)(r:V->Hp->VK->Prop):Prop :=
 ∀(pins:List (Addr×Obj))(s:Shared)(σ:St)(H:Hp)(x:V)(v:Value)(Q:VK),Inv X pins σ H s->RelV x v->r x H Q ->
  wpAny (model X.prog X.w) X.A (f v) (EP X pins σ Q) X.xe s
def fF(X:Cx)(f:Value)(r:List V->Hp->VK->Prop):Prop :=
 ∀(pins:List (Addr×Obj))(s:Shared)(σ:St)(H:Hp)(xs:List V)(us:List Value)(Q:VK),Inv X pins σ H s->Vals xs us->r xs H Q ->
  wpAny (model X.prog X.w) X.A (call f us) (EP X pins σ Q) X.xe s
def OP(r:R2)(ta tb:TE):TE:=fun σ H Q=>ta σ H fun x H1=>tb σ H1 fun y H2=>r x y H2 Q
def tUn(r:V->Hp->VK->Prop)(ta:TE):TE:=fun σ H Q=>ta σ H fun x H1=>r x H1 Q
def rI(C:Int->Int->Prop)(g:Int->Int->V):R2:=fun x y H Q=>∃i j,x=.int i/\y=.int j/\C i j/\Q (g i j) H
def IP(g:Int->Int->V):R2:=fun x y H Q=>∃i j,x=.int i/\y=.int j/\Q (g i j) H
def rU(g:Int->V):V->Hp->VK->Prop:=fun x H Q=>∃i,x=.int i/\Q (g i) H
section
variable {X:Cx}{a b c:Expr}{ta tb tc:TE}{pos:Pos}
theorem Mw(ha:PE X a ta)(hb:PE X b tb){pins:List (Addr×Obj)}{s:Shared}{σ:St}{H:Hp}{R:V->V->Hp->Prop}(I:Inv X pins σ H s)
  (h:ta σ H fun x H1=>tb σ H1 fun y H2=>R x y H2) {Q:Value->Shared->Prop} {f:Value->Value->Sem Value}
  (hf:∀v u s2 x y H2,Inv X pins σ H2 s2->RelV x v->RelV y u->R x y H2->wpAny (model X.prog X.w) X.A (f v u) Q X.xe s2) :
  wpAny (model X.prog X.w) X.A (eval a X.env) (fun v s₁=>wpAny (model X.prog X.w) X.A (eval b X.env) (fun u s₂=>wpAny (model X.prog X.w) X.A (f v u) Q X.xe s₂) X.xe s₁) X.xe s:=by
 refine da (ha pins s σ H _ I h) fun v s1 ⟨x,H1,I1,r1,q1⟩=>?_;refine da (hb pins s1 σ H1 _ I1 q1) fun u s2 ⟨y,H2,I2,r2,q2⟩=>?_;exact hf v u s2 x y H2 I2 r1 r2 q2
theorem CM{op:Operator}{r:R2}(ho:iU X (binaryOp op) r)(ha:PE X a ta)(hb:PE X b tb):PE X (.BinOp a op b pos) (OP r ta tb):=by
 intro pins s σ H Q I h;exact wpAny_BinOp (Mw ha hb I h fun v u s2 x y H2 I2 rx ry q=>ho pins s2 σ H2 x y v u Q I2 rx ry q)
theorem OQ{op:UnaryOp}{r:V->Hp->VK->Prop}(ho:SA X (unaryOp op) r)(ha:PE X a ta):PE X (.UnaryOp op a pos) (tUn r ta):=by
 intro pins s σ H Q I h;exact UnaryOp_ (da (ha pins s σ H _ I h) fun v s1 ⟨x,H1,I1,r1,q1⟩=>ho pins s1 σ H1 x v Q I1 r1 q1)
theorem Rh{f:Value->Value->Sem Value}{C:Int->Int->Prop}{g:Int->Int->Int}
  (rule:∀(i j:Int)(t u:Tok)(s:Shared)(Q:Value->Shared->Prop)(E:Value->Shared->Prop),C i j->Q (.int (g i j) s.toks) {s with toks:=s.toks+1}->wpAny (model X.prog X.w) X.A (f (.int i t) (.int j u)) Q E s) :
  iU X f (rI C fun i j=>.int (g i j)):=by
 intro pins s σ H x y v u Q I rx ry h;obtain⟨i,j,rfl,rfl,hc,q⟩:=h;obtain⟨t,rfl⟩:=rx;obtain⟨t',rfl⟩:=ry;exact rule i j t t' s _ _ hc ⟨.int (g i j),H,I.tok _,⟨_,rfl⟩,q⟩
theorem OR{f:Value->Value->Sem Value}{g:Int->Int->Int}
  (rule:∀(i j:Int)(t u:Tok)(s:Shared)(Q:Value->Shared->Prop)(E:Value->Shared->Prop),Q (.int (g i j) s.toks) {s with toks:=s.toks+1}->wpAny (model X.prog X.w) X.A (f (.int i t) (.int j u)) Q E s) :
  iU X f (IP fun i j=>.int (g i j)):=by
 intro pins s σ H x y v u Q I rx ry h;obtain⟨i,j,rfl,rfl,q⟩:=h;obtain⟨t,rfl⟩:=rx;obtain⟨t',rfl⟩:=ry;exact rule i j t t' s _ _ ⟨.int (g i j),H,I.tok _,⟨_,rfl⟩,q⟩
theorem Jp{f:Value->Value->Sem Value}{g:Int->Int->Bool}
  (rule:∀(i j:Int)(t u:Tok)(s:Shared)(Q:Value->Shared->Prop)(E:Value->Shared->Prop),Q (.bool (g i j)) s->wpAny (model X.prog X.w) X.A (f (.int i t) (.int j u)) Q E s) :
  iU X f (IP fun i j=>.bl (g i j)):=by
 intro pins s σ H x y v u Q I rx ry h;obtain⟨i,j,rfl,rfl,q⟩:=h;obtain⟨t,rfl⟩:=rx;obtain⟨t',rfl⟩:=ry;exact rule i j t t' s _ _ ⟨.bl (g i j),H,I,rfl,q⟩
def SD(i j:Int):Prop:=0<j/\j<1073741824
def SE(i j:Int):Prop:=0<=j/\j<=1000000/\i.natAbs<2 ^ 64
def Mx(i j:Int):Prop:=(-(2 ^ 64)<i/\i<2 ^ 64)\/(-(2 ^ 64)<j/\j<2 ^ 64)
theorem Mx.ok{i j:Int}(h:Mx i j):IntMulOk i j:=by
 rcases h with⟨h1,h2⟩|⟨h1,h2⟩
 ·exact .of_left (intBits_le_64 h1 h2)
 ·exact .of_right (intBits_le_64 h1 h2)
theorem Mz:iU X (binaryOp .Add) (IP fun i j=>.int (i+j)):=OR fun _ _ _ _ _ _ _ q=>add_int q
theorem MB:iU X (binaryOp .Sub) (IP fun i j=>.int (i-j)):=OR fun _ _ _ _ _ _ _ q=>sub_int q
theorem MC:iU X (binaryOp .Mult) (rI Mx fun i j=>.int (i*j)):=Rh fun _ _ _ _ _ _ _ hc q=>mul_int q hc.ok
theorem Jq:iU X (binaryOp .FloorDiv) (rI SD fun i j=>.int (i / j)):=Rh fun i j _ _ _ _ _ hc q=>by
 have h1:(0:Int)<j:=hc.1;have h2:j<1073741824:=hc.2;exact floordiv_int (by omega) (by rw [Int.fdiv_eq_ediv_of_nonneg i (by omega)];exact q) (.inl (PyProof.noPylong_small (by omega)))
theorem MD:iU X (binaryOp .Mod) (rI (fun _ j=>0<j) fun i j=>.int (i % j)):=Rh fun i j _ _ _ _ _ hc q=>by
 have h1:(0:Int)<j:=hc;exact mod_int' (by omega) (by rw [Int.fmod_eq_emod_of_nonneg i (by omega)];exact q)
theorem ME:iU X (binaryOp .Pow) (rI SE fun i j=>.int (i ^ j.toNat)):=Rh fun _ _ _ _ _ _ _ hc q=>pow_int_small hc.1 hc.2.1 hc.2.2 q
theorem unI{f:Value->Sem Value}{g:Int->Int}
  (rule:∀(i:Int)(t:Tok)(s:Shared)(Q:Value->Shared->Prop)(E:Value->Shared->Prop),Q (.int (g i) s.toks) {s with toks:=s.toks+1}->wpAny (model X.prog X.w) X.A (f (.int i t)) Q E s) :
  SA X f (rU fun i=>.int (g i)):=by
 intro pins s σ H x v Q I rx h;obtain⟨i,rfl,q⟩:=h;obtain⟨t,rfl⟩:=rx;exact rule i t s _ _ ⟨.int (g i),H,I.tok _,⟨_,rfl⟩,q⟩
theorem MF:SA X (unaryOp .USub) (rU fun i=>.int (-i)):=unI fun _ _ _ _ _ q=>neg_int q
end
def OS:V->V->Bool
 |.cQ,.cQ=>true | .cQ,.int _=>true | .int _,.cQ=>true | .cQ,.bl _=>true | .bl _,.cQ=>true | .cQ,.str _=>true | .str _,.cQ=>true
 |.int _,.int _=>true | .bl _,.bl _=>true | .str _,.str _=>true | .Fe _,.Fe _=>true
 |.int _,.str _=>true | .str _,.int _=>true | .bl _,.str _=>true | .str _,.bl _=>true
 |_,_=>false
def rEq:R2:=fun x y H Q=>OS x y=true/\Q (.bl (decide (x=y))) H
def rNe:R2:=fun x y H Q=>OS x y=true/\Q (.bl (!decide (x=y))) H
theorem CN{i j:Int}:decide (V.int i=V.int j)=(i==j):=by
 rw [Bool.eq_iff_iff];simp
theorem FE{i j:Bool}:decide (V.bl i=V.bl j)=(i==j):=by
 rw [Bool.eq_iff_iff];simp
theorem CO{i j:Str}:decide (V.str i=V.str j)=(i==j):=by
 rw [Bool.eq_iff_iff];simp
theorem CP{i j:Array UInt8}:decide (V.Fe i=V.Fe j)=(i.toList==j.toList):=by
 rw [Bool.eq_iff_iff]
 cases i
 cases j
 simp
section
variable {X:Cx}{a b c:Expr}{ta tb tc:TE}{pos:Pos}
theorem bN{pins:List (Addr×Obj)}{σ:St}{H:Hp}{s:Shared}{Q:VK}{k k':Bool}(I:Inv X pins σ H s)(q:Q (.bl k) H)(e:k=k'):EP X pins σ Q (.bool k') s:=by
 subst e;exact⟨.bl k,H,I,rfl,q⟩
theorem OT:iU X (compareOp .Eq) rEq:=by
 intro pins s σ H x y v u Q I rx ry h;obtain⟨hs,q⟩:=h
 cases x with
 |cQ =>
  cases rx
  cases y with
  |cQ=>cases ry;exact PySem.EqNone.eq_none_none (bN I q (by simp))
  |bl j=>cases ry;exact PySem.EqNone.eq_none_bool (bN I q (by simp))
  |int j=>obtain⟨t',rfl⟩:=ry;exact PySem.EqNone.eq_none_int (bN I q (by simp))
  |str j=>obtain⟨t',rfl⟩:=ry;exact PySem.EqNone.eq_none_str (bN I q (by simp))
  |_=>exact absurd (show false=true from hs) Bool.false_ne_true
 |bl i =>
  cases rx
  cases y with
  |cQ=>cases ry;exact PySem.EqNone.eq_bool_none (bN I q (by simp))
  |bl j=>cases ry;exact eq_bool (bN I q FE)
  |str j=>obtain⟨t',rfl⟩:=ry;exact PySem.EqMixed.eq_bool_str (bN I q (by simp))
  |_=>exact absurd (show false=true from hs) Bool.false_ne_true
 |int i =>
  obtain⟨t,rfl⟩:=rx
  cases y with
  |cQ=>cases ry;exact PySem.EqNone.eq_int_none (bN I q (by simp))
  |int j=>obtain⟨t',rfl⟩:=ry;exact eq_int (bN I q CN)
  |str j=>obtain⟨t',rfl⟩:=ry;exact PySem.EqMixed.eq_int_str (bN I q (by simp))
  |_=>exact absurd (show false=true from hs) Bool.false_ne_true
 |str i =>
  obtain⟨t,rfl⟩:=rx
  cases y with
  |cQ=>cases ry;exact PySem.EqNone.eq_str_none (bN I q (by simp))
  |bl j=>cases ry;exact PySem.EqMixed.eq_str_bool (bN I q (by simp))
  |int j=>obtain⟨t',rfl⟩:=ry;exact PySem.EqMixed.eq_str_int (bN I q (by simp))
  |str j=>obtain⟨t',rfl⟩:=ry;exact eq_str (bN I q CO)
  |_=>exact absurd (show false=true from hs) Bool.false_ne_true
 |Fe i =>
  obtain⟨t,rfl⟩:=rx
  cases y with
  |Fe j=>obtain⟨t',rfl⟩:=ry;exact PySem.W.eq_bytes (bN I q CP)
  |_=>exact absurd (show false=true from hs) Bool.false_ne_true
 |_=>cases y<;>exact absurd (show false=true from hs) Bool.false_ne_true
theorem OU:iU X (compareOp .NotEq) rNe:=by
 intro pins s σ H x y v u Q I rx ry h;obtain⟨hs,q⟩:=h
 cases x with
 |cQ =>
  cases rx
  cases y with
  |cQ=>cases ry;exact PySem.EqNone.ne_none_none (bN I q (by simp))
  |bl j=>cases ry;exact PySem.EqNone.ne_none_bool (bN I q (by simp))
  |int j=>obtain⟨t',rfl⟩:=ry;exact PySem.EqNone.ne_none_int (bN I q (by simp))
  |str j=>obtain⟨t',rfl⟩:=ry;exact PySem.EqNone.ne_none_str (bN I q (by simp))
  |_=>exact absurd (show false=true from hs) Bool.false_ne_true
 |bl i =>
  cases rx
  cases y with
  |cQ=>cases ry;exact PySem.EqNone.ne_bool_none (bN I q (by simp))
  |bl j=>cases ry;exact ne_bool (bN I q (congrArg not FE))
  |str j=>obtain⟨t',rfl⟩:=ry;exact PySem.EqMixed.ne_bool_str (bN I q (by simp))
  |_=>exact absurd (show false=true from hs) Bool.false_ne_true
 |int i =>
  obtain⟨t,rfl⟩:=rx
  cases y with
  |cQ=>cases ry;exact PySem.EqNone.ne_int_none (bN I q (by simp))
  |int j=>obtain⟨t',rfl⟩:=ry;exact ne_int (bN I q (congrArg not CN))
  |str j=>obtain⟨t',rfl⟩:=ry;exact PySem.EqMixed.ne_int_str (bN I q (by simp))
  |_=>exact absurd (show false=true from hs) Bool.false_ne_true
 |str i =>
  obtain⟨t,rfl⟩:=rx
  cases y with
  |cQ=>cases ry;exact PySem.EqNone.ne_str_none (bN I q (by simp))
  |bl j=>cases ry;exact PySem.EqMixed.ne_str_bool (bN I q (by simp))
  |int j=>obtain⟨t',rfl⟩:=ry;exact PySem.EqMixed.ne_str_int (bN I q (by simp))
  |str j=>obtain⟨t',rfl⟩:=ry;exact ne_str (bN I q (congrArg not CO))
  |_=>exact absurd (show false=true from hs) Bool.false_ne_true
 |Fe i =>
  obtain⟨t,rfl⟩:=rx
  cases y with
  |Fe j=>obtain⟨t',rfl⟩:=ry;exact PySem.W.ne_bytes (bN I q (congrArg not CP))
  |_=>exact absurd (show false=true from hs) Bool.false_ne_true
 |_=>cases y<;>exact absurd (show false=true from hs) Bool.false_ne_true
theorem OV:iU X (compareOp .Lt) (IP fun i j=>.bl (decide (i<j))):=Jp fun _ _ _ _ _ _ _ q=>lt_int q
theorem OW:iU X (compareOp .LtE) (IP fun i j=>.bl (decide (i<=j))):=Jp fun _ _ _ _ _ _ _ q=>le_int q
theorem OX:iU X (compareOp .Gt) (IP fun i j=>.bl (decide (j<i))):=Jp fun _ _ _ _ _ _ _ q=>gt_int q
theorem OY:iU X (compareOp .GtE) (IP fun i j=>.bl (decide (j<=i))):=Jp fun _ _ _ _ _ _ _ q=>ge_int q
theorem DZ:iU X (compareOp .In) (fun x y H Q=>∃i j,x=.str i/\y=.str j/\Q (.bl (!(Builtin.Str.occurrences j i 0 j.length 1).isEmpty)) H):=by
 intro pins s σ H x y v u Q I rx ry h;obtain⟨i,j,rfl,rfl,q⟩:=h;obtain⟨t,rfl⟩:=rx;obtain⟨t',rfl⟩:=ry;exact in_str (bN I q rfl)
theorem Jr:iU X (compareOp .IsNot) (fun x y H Q=>y=.cQ/\Q (.bl (!decide (x=.cQ))) H):=by
 intro pins s σ H x y v u Q I rx ry h;obtain⟨rfl,q⟩:=h
 cases ry
 refine isnot_none_gen (bN I q ?_)
 cases x<;>first
  |(cases rx;rfl)
  |(obtain⟨t,rfl⟩:=rx;rfl)
theorem xZ:iU X (compareOp .NotIn) (fun x y H Q=>∃i j,x=.str i/\y=.str j/\Q (.bl (!(!(Builtin.Str.occurrences j i 0 j.length 1).isEmpty))) H):=by
 intro pins s σ H x y v u Q I rx ry h;obtain⟨i,j,rfl,rfl,q⟩:=h;obtain⟨t,rfl⟩:=rx;obtain⟨t',rfl⟩:=ry;exact notIn_str (bN I q rfl)
theorem iU.or{f:Value->Value->Sem Value}{r r':R2}(h:iU X f r)(h':iU X f r'):iU X f (fun x y H Q=>r x y H Q\/r' x y H Q):=by
 intro pins s σ H x y v u Q I rx ry q;rcases q with q|q
 ·exact h pins s σ H x y v u Q I rx ry q
 ·exact h' pins s σ H x y v u Q I rx ry q
theorem bj(b:Expr){op:CmpOp}(h:op ≠ .In:=by decide)(h2:op ≠ .NotIn:=by decide):behindInMarks op b=false:=by
 have e1:(op==CmpOp.In)=false:=by cases op<;>first|rfl|exact absurd rfl h
 have e2:(op==CmpOp.NotIn)=false:=by cases op<;>first|rfl|exact absurd rfl h2
 cases b<;>simp [behindInMarks,e1,e2]
theorem Js{op:CmpOp}{r:R2}(ho:iU X (compareOp op) r)(ha:PE X a ta)(hb:PE X b tb)(hm:behindInMarks op b=false):PE X (.Compare a [op] [b] pos) (OP r ta tb):=by
 intro pins s σ H Q I h;exact wpAny_Compare1 (Mw ha hb I h fun v u s2 x y H2 I2 rx ry q=>ho pins s2 σ H2 x y v u Q I2 rx ry q) hm
def Lv(t:TE):TT:=fun σ H Q=>t σ H fun x H'=>∃k,x=.bl k/\Q k H'
theorem Jt{op:CmpOp}{r:R2}(ho:iU X (compareOp op) r)(ha:PE X a ta)(hb:PE X b tb)(hm:behindInMarks op b=false):PT X (.Compare a [op] [b] pos) (Lv (OP r ta tb)):=by
 intro pins s σ H Q I h;refine wpAny_isTrue_Compare1 (da (ha pins s σ H _ I h) fun v s1 ⟨x,H1,I1,r1,q1⟩=>da (hb pins s1 σ H1 _ I1 q1) fun u s2 ⟨y,H2,I2,r2,q2⟩ =>
  da (ho pins s2 σ H2 x y v u _ I2 r1 r2 q2) fun c s3 ⟨z,H3,I3,r3,k,e,q3⟩=>?_) hm
 subst e
 cases r3
 exact wpAny_truthy_bool ⟨H3,I3,q3⟩
def x5(r r':R2)(ta tb tc:TE):TE:=fun σ H Q=>ta σ H fun x H1=>tb σ H1 fun y H2=>r x y H2 fun z H3=>∃k,z=.bl k /\
 (if k=true then tc σ H3 fun w' H4=>r' y w' H4 Q else Q (.bl false) H3)
theorem zu{op Bp:CmpOp}{r r':R2}(ho:iU X (compareOp op) r)(nK:iU X (compareOp Bp) r')(ha:PE X a ta)(hb:PE X b tb)(hc:PE X c tc)
  (hm:lastMarks [op,Bp] [b,c]=false:=by with_unfolding_all rfl):PE X (.Compare a [op,Bp] [b,c] pos) (x5 r r' ta tb tc):=by
 intro pins s σ H Q I h;refine Compare_chain (da (ha pins s σ H _ I h) fun v s1 ⟨x,H1,I1,r1,q1⟩=>chain_link (da (hb pins s1 σ H1 _ I1 q1) fun u s2 ⟨y,H2,I2,r2,q2⟩ =>
  da (ho pins s2 σ H2 x y v u _ I2 r1 r2 q2) fun d s3 ⟨z,H3,I3,r3,k,e,q3⟩=>?_)) hm
 subst e
 cases r3
 refine wpAny_truthy_bool ?_
 cases k with
 |false=>exact ite_ff ⟨.bl false,H3,I3,rfl,q3⟩
 |true=>exact ite_tt (chain_last (da (hc pins s3 σ H3 _ I3 q3) fun w' s4 ⟨z',H4,I4,r4,q4⟩=>nK pins s4 σ H4 y z' u w' Q I4 r2 r4 q4))
theorem zv{op Bp:CmpOp}{r r':R2}(ho:iU X (compareOp op) r)(nK:iU X (compareOp Bp) r')(ha:PE X a ta)(hb:PE X b tb)(hc:PE X c tc)
  (hm:lastMarks [op,Bp] [b,c]=false:=by with_unfolding_all rfl):PT X (.Compare a [op,Bp] [b,c] pos) (Lv (x5 r r' ta tb tc)):=by
 intro pins s σ H Q I h;refine isTrue_chain (da (ha pins s σ H _ I h) fun v s1 ⟨x,H1,I1,r1,q1⟩=>test_link (da (hb pins s1 σ H1 _ I1 q1) fun u s2 ⟨y,H2,I2,r2,q2⟩ =>
  da (ho pins s2 σ H2 x y v u _ I2 r1 r2 q2) fun d s3 ⟨z,H3,I3,r3,k,e,q3⟩=>?_)) hm
 subst e
 cases r3
 refine wpAny_truthy_bool ?_
 cases k with
 |false =>
  obtain⟨k',e',q'⟩:=q3
  cases e'
  exact ite_ff ⟨H3,I3,q'⟩
 |true =>
  refine ite_tt (test_last (da (hc pins s3 σ H3 _ I3 q3) fun w' s4 ⟨z',H4,I4,r4,q4⟩=>da (nK pins s4 σ H4 y z' u w' _ I4 r2 r4 q4) fun d' s5 ⟨z2,H5,I5,r5,k2,e2,q5⟩=>?_));subst e2
  cases r5
  exact wpAny_truthy_bool ⟨H5,I5,q5⟩
theorem rh:(sizeLine:Nat)<2 ^ 63:=by rw [sizeLine_eq];decide
theorem Bq:iU X (binaryOp .Add) (fun x y H Q=>∃i j,x=.str i/\y=.str j/\i.length+j.length<=sizeLine/\Q (.str (i++j)) H):=by
 intro pins s σ H x y v u Q I rx ry h;obtain⟨i,j,rfl,rfl,hz,q⟩:=h;obtain⟨t,rfl⟩:=rx;obtain⟨t',rfl⟩:=ry;exact add_str (fun t' tk=>⟨.str (i++j),H,I.tok _,⟨_,rfl⟩,q⟩) hz
theorem vals1{x:V}{us:List Value}(r:Vals [x] us):∃u,us=[u]/\RelV x u:=by
 cases r with
 |cons r1 r2=>cases r2;exact⟨_,rfl,r1⟩
theorem vals2{x y:V}{us:List Value}(r:Vals [x,y] us):∃u w',us=[u,w']/\RelV x u/\RelV y w':=by
 cases r with
 |cons r1 r2 =>
  cases r2 with
  |cons r3 r4=>cases r4;exact⟨_,_,rfl,r1,r3⟩
theorem D0(hc:X.calm=true):fF X (.builtin "max") (fun xs H Q=>∃i j,xs=[.int i,.int j]/\Q (.int (if j>i then j else i)) H):=by
 intro pins s σ H xs us Q I r h;obtain⟨i,j,rfl,q⟩:=h;obtain⟨u,w',rfl,⟨t,rfl⟩,⟨t',rfl⟩⟩:=vals2 r;refine max_two_ints (I.ok.hd hc) fun h' tk k=>⟨_,H,I.kept k,?_,q⟩;by_cases hj:j>i
 ·rw [if_pos hj,if_pos hj];exact⟨_,rfl⟩
 ·rw [if_neg hj,if_neg hj];exact⟨_,rfl⟩
end
structure Br(h:Heap)(x dx C:Addr)(mA:Str->Option Value):Prop where
 obj:h.get? x=some (instObj C dx)
 ns:h.Ns1 dx mA
 ne:dx≠x
theorem D1{h:Heap}{dx:Addr}{mA:Str->Option Value}(n:h.Ns1 dx mA):∃od,h.get? dx=some od/\∀name,lookIn name od=some (mA name):=by
 obtain⟨o,es,ep,ho,hd,hk,_,hm⟩:=n;refine⟨o,ho,fun name=>?_⟩;have e:=hm name;unfold nsFind findBy at e;rw [<-Array.find?_toList]at e;unfold lookIn;rw [hd];dsimp only;split
 ·rename_i y q;rw [q]at e;exact congrArg some e
 ·rename_i q;rw [q]at e;have a:es.toList.any (·.refKey)=false:=by
   rw [any_eq_false];intro y hy;obtain⟨z,t,Ju⟩:=hk y (Array.mem_toList_iff.mp hy);simp [DictEntry.refKey,Ju]
  have a':¬es.toList.any (·.refKey)=true:=by rw [a];exact Bool.false_ne_true
  rw [if_neg a'];exact congrArg some e
theorem Br.look{h:Heap}{x dx C:Addr}{mA:Str->Option Value}(I:Br h x dx C mA):∃od,PySem.W.InstAt h x (instObj C dx) C (some od)/\∀name,lookIn name od=some (mA name) :=
 let⟨od,ho,hl⟩:=D1 I.ns
 ⟨od,⟨I.obj,rfl,rfl,ho⟩,hl⟩
section
variable {prog:Program}{w:World}{A:Around}{E:Value->Shared->Prop}{s:Shared}{K:PySem.W.Frag}{x dx C f:Addr}{mA:Str->Option Value}{name:Str}{v:Value}
theorem get_map{expr:Bool}{Q:Value->Shared->Prop}(X:K.In s.heap)(I:Br s.heap x dx C mA)(hg:plainGet K C name=true)(hh:hasDictIn K C=true)
  (ha:PySem.W.findIn K (.ref C) name=some none) (hv:mA name=some v) (SF:handedIn v=true) (h:Q v {s with toks:=s.toks+1}) :
  wpAny (model prog w) A (getAttr (.ref x) name expr) Q E s:=by
 obtain⟨od,J,hl⟩:=I.look;exact PySem.W.get_value X J (plainGet_of hg).1 (PySem.W.findObj_own hh ha rfl (by rw [hl,hv])) SF h
theorem FF{pl:Sem Bool}{Q:Value×List Value->Shared->Prop}(X:K.In s.heap)(I:Br s.heap x dx C mA)(hg:plainGet K C name=true)
  (hf:PySem.W.findIn K (.ref C) name=some (some (.ref f))) (ht:isFn K (.ref f)=true) (hv:mA name=none) (h:Q (.ref f,[.ref x]) s) :
  wpAny (model prog w) A (getMethod (.ref x) name pl) Q E s:=by
 obtain⟨od,J,hl⟩:=I.look;exact PySem.W.method_fn X J (plainGet_of hg).1 (plainGet_of hg).2 hf (beq_iff_eq.mp ht) (by show(lookIn name od).map (·.isSome)=some false;rw [hl,hv];rfl) h
theorem Jv{ns:List Str}{Q:Unit->Shared->Prop}(X:K.In s.heap)(I:Br s.heap x dx C mA)
  (hs:PySem.W.findIn K (.ref C) "__setattr__" = some (some (.builtin "object.__setattr__"))) (hp:plainOver K C=true) (ht:takerIn K C name=some none) (hh:hasDictIn K C=true)
  (hw:PySem.Within mA ns) (zh:ns.length<=sizeLine)
  (h:∀h',Br h' x dx C (fun y=>if y=name then some v else mA y)->Heap.SameBut dx s.heap h'->Q () {s with heap:=h',toks:=s.toks+2}) :
  wpAny (model prog w) A (setAttr (.ref x) name v) Q E s:=by
 obtain⟨od,J,hl⟩:=I.look;refine PySem.W.set_plain X J hs (PySem.W.osa_open (s:={s with toks:=s.toks+1}) (r:=none) X J hp ht fun b=>?_);obtain⟨cd,hc,OC⟩:=PySem.W.any_some hh;have hx:s.heap.get? x=some ⟨.ref C,some dx,.plain,#[]⟩:=I.obj;refine wpAny_bind (wpAny_pure (wpAny_bind (wpAny_bind (wpAny_loadPart hx (wpAny_bind (PySem.W.Looks.here (s:={s with toks:=s.toks+1}) (PySem.W.looks_clsIn X hc) ?_))))));rw [OC];refine wpAny_pure (a:=some dx) (wpAny_bind (wpAny_pure (wpAny_bind ?_)));refine wpAny_nsSet1 (s:={s with toks:=s.toks+1}) I.ns fun h' FG MG=>?_;obtain⟨oD,esD,epD,hoD,hdD,Jw⟩:=FG.count (PySem.Within.cons name v hw);refine wpAny_bind (wpAny_lookBehind hoD (by rw [hdD];exact pastItsLine_dict (le_trans Jw (by rw [length_cons];omega))) ?_);exact wpAny_pure (h _ ⟨(MG.2 _ (Ne.symm I.ne)).trans I.obj,FG,I.ne⟩ MG)
theorem FH{R:Result->Shared->Prop}{vs:List Value}{kw:List (Str×Value)}(X:K.In s.heap)(hm:makesIn K C=true)
  (hi:PySem.W.findIn K (.ref C) "__init__" = some (some (.ref f))) (hf:typeIn K (.ref f)=some (.type "function"))
  (h:codeAny (model prog w) (A.under (.builtin "type.__call__" ⟨.ref C::vs,kw⟩)) (.call (.ref f) ⟨.ref (s.heap.objs.size+1)::vs,kw⟩) (PySem.W.InitBack (s.heap.objs.size+1) R)
   {s with heap:=(s.heap.push emptyDict).push (instObj C s.heap.objs.size)}) :
  codeAny (model prog w) A (.call (.ref C) ⟨vs,kw⟩) R s:=by
 obtain⟨hh,g,d,t,os⟩:=s;exact PySem.W.make_core (PySem.W.makes_of X hm) (PySem.W.looks_findIn X hi) (fun self=>PySem.W.bind_fn X self hf) (.inl rfl) h
end
def mw(f:Str)(v:V):List (Str×V)->List (Str×V)
 |[]=>[(f,v)]
 |(g,x)::r=>if g=f then(g,v)::r else(g,x)::mw f v r
theorem sx(f g:Str)(v:V):∀fs:List (Str×V),(mw f v fs).lookup g=if g=f then some v else fs.lookup g
 |[]=>by
  show List.lookup g [(f,v)]=_;by_cases h:g=f
  ·have hb:(g==f)=true:=beq_iff_eq.mpr h;simp only [List.lookup,hb,if_pos h]
  ·have hb:(g==f)=false:=beq_eq_false_iff_ne.mpr h;simp only [List.lookup,hb,if_neg h]
 |(k,x)::r=>by
  have ih:=sx f g v r;rw [show mw f v ((k,x)::r)=(if k=f then(k,v)::r else(k,x)::mw f v r) from rfl];by_cases hk:k=f
  ·rw [if_pos hk];by_cases h:g=k
   ·have hb:(g==k)=true:=beq_iff_eq.mpr h;simp only [List.lookup,hb,if_pos (h.trans hk)]
   ·have hb:(g==k)=false:=beq_eq_false_iff_ne.mpr h;simp only [List.lookup,hb,if_neg (fun e:g=f=>h (e.trans hk.symm))]
  ·rw [if_neg hk];by_cases h:g=k
   ·have hb:(g==k)=true:=beq_iff_eq.mpr h;simp only [List.lookup,hb,if_neg (fun e:g=f=>hk (h.symm.trans e))]
   ·have hb:(g==k)=false:=beq_eq_false_iff_ne.mpr h;simp only [List.lookup,hb];exact ih
theorem rj(f:Str)(v:V):∀fs:List (Str×V),f∈(mw f v fs).map (·.1)/\∀g,g∈fs.map (·.1)->g∈(mw f v fs).map (·.1)
 |[]=>⟨by simp [mw],fun g h=>by simp at h⟩
 |(k,x)::r=>by
  obtain⟨i1,i2⟩:=rj f v r;rw [show mw f v ((k,x)::r)=(if k=f then(k,v)::r else(k,x)::mw f v r) from rfl];by_cases hk:k=f
  ·rw [if_pos hk];subst hk;exact⟨by simp,fun g h=>by simpa using h⟩
  ·rw [if_neg hk];refine⟨?_,fun g h=>?_⟩
   ·rw [map_cons];exact mem_cons_of_mem _ i1
   ·rw [map_cons]at h ⊢;rcases mem_cons.mp h with e|e
    ·exact mem_cons.mpr (.inl e)
    ·exact mem_cons_of_mem _ (i2 g e)
theorem sy(f:Str)(v:V):∀fs:List (Str×V),(mw f v fs).length<=fs.length+1
 |[]=>by simp [mw]
 |(k,x)::r=>by
  have ih:=sy f v r;rw [show mw f v ((k,x)::r)=(if k=f then(k,v)::r else(k,x)::mw f v r) from rfl];by_cases hk:k=f
  ·rw [if_pos hk,length_cons,length_cons];omega
  ·rw [if_neg hk,length_cons,length_cons];omega
theorem mn.some_of{v:V}{o:Option Value}(r:mn (some v) o):∃u,o=some u/\RelV v u:=by
 cases o with
 |none=>exact(show False from r).elim
 |some u=>exact⟨u,rfl,r⟩
theorem mn.none_of{o:Option Value}(r:mn none o):o=none:=by
 cases o with
 |none=>rfl
 |some u=>exact(show False from r).elim
theorem D2{v:V}{u:Value}(r:RelV v u):handedIn u=true:=by
 cases v with
 |cQ=>cases(show u=Value.none from r);rfl
 |bl b=>cases(show u=Value.bool b from r);rfl
 |int i=>obtain⟨t,e⟩:=(show ∃t,u=Value.int i t from r);cases e;rfl
 |str x=>obtain⟨t,e⟩:=(show ∃t,u=Value.str x t from r);cases e;rfl
 |Fe b=>obtain⟨t,e⟩:=(show ∃t,u=Value.bytes b t from r);cases e;rfl
 |Q8 b=>obtain⟨t,e⟩:=(show ∃t,u=Value.float b t from r);cases e;rfl
 |ref a=>cases(show u=Value.ref a from r);rfl
 |ty n=>cases(show u=Value.type n from r);rfl
section
variable {P:Program}{w:World}{H H':Hp}{h h':Heap}{a C dx:Addr}{fs Lo:List (Str×V)}
theorem x6(cR:mm P w H h)(e:H a=some (.ins C dx fs)):∃mA,Br h a dx C mA/\(∀f,mn (fs.lookup f) (mA f))/\PySem.Within mA (fs.map (·.1))/\fs.length<=1000/\H dx=some (.own a):=by
 obtain⟨d,z,ne,ob,mA,n,r,q⟩:=(show gp P w H h a (.ins C dx fs) from cR a _ e);exact⟨mA,⟨ob,n,ne⟩,r,q,z,d⟩
end
structure FI(K:PySem.W.Frag)(C:Addr):Prop where
 pg:plainGet K C Str.empty=true
 hd:hasDictIn K C=true
 po:plainOver K C=true
 sa:PySem.W.findIn K (.ref C) "__setattr__" = some (some (.builtin "object.__setattr__"))
theorem FI.get{K:PySem.W.Frag}{C:Addr}(c:FI K C)(f:Str):plainGet K C f=true:=c.pg
def jU(K:PySem.W.Frag)(C:Addr)(f:Str):Prop:=PySem.W.findIn K (.ref C) f=some none
theorem jU.OZ{K:PySem.W.Frag}{C:Addr}{f:Str}(n:jU K C f):takerIn K C f=some none:=by
 unfold takerIn;rw [show PySem.W.findIn K (.ref C) f=some none from n];rfl
structure Meth(K:PySem.W.Frag)(C:Addr)(m:Str)(f:Addr):Prop where
 at_:PySem.W.findIn K (.ref C) m=some (some (.ref f))
 fn:isFn K (.ref f)=true
 kp:keepIn K (.ref f)=true
section
variable {X:Cx}{pins:List (Addr×Obj)}{σ:St}{H:Hp}{s:Shared}{a C dx:Addr}{fs:List (Str×V)}{f:Str}{v:V}{A:Around}{E:Value->Shared->Prop}
theorem uA{b:Bool}{Q:Value->Shared->Prop}(I:Inv X pins σ H s)(e:H a=some (.ins C dx fs))(c:FI X.K C)(n:jU X.K C f)(l:fs.lookup f=some v)
  (h:∀u s',Inv X pins σ H s'->RelV v u->Q u s'):wpAny (model X.prog X.w) A (getAttr (.ref a) f b) Q E s:=by
 obtain⟨mA,O,r,_,_,_⟩:=x6 I.cR e;obtain⟨u,hu,ru⟩:=mn.some_of (v:=v) (o:=mA f) (by rw [<-l];exact r f);exact get_map I.wo O (c.get f) c.hd n hu (D2 ru) (h u _ (I.tok _) ru)
theorem Bs{m:Str}{g:Addr}{pl:Sem Bool}{Q:Value×List Value->Shared->Prop}(I:Inv X pins σ H s)(e:H a=some (.ins C dx fs))(c:FI X.K C)(k:Meth X.K C m g)(l:fs.lookup m=none)
  (h:Q (.ref g,[.ref a]) s):wpAny (model X.prog X.w) A (getMethod (.ref a) m pl) Q E s:=by
 obtain⟨mA,O,r,_,_,_⟩:=x6 I.cR e;have hn:mA m=none:=mn.none_of (by rw [<-l];exact r m);exact FF I.wo O (c.get m) k.at_ k.fn hn h
theorem uB{y:V}{u:Value}{Q:Unit->Shared->Prop}(I:Inv X pins σ H s)(e:H a=some (.ins C dx fs))(c:FI X.K C)(n:jU X.K C f)(hl:fs.length<1000)(ry:RelV y u)
  (h:∀s',Inv X pins σ (upd H a (.ins C dx (mw f y fs))) s'->Q () s'):wpAny (model X.prog X.w) A (setAttr (.ref a) f u) Q E s:=by
 obtain⟨mA,O,r,wi,_,ho⟩:=x6 I.cR e;have hz:(fs.map (·.1)).length<=sizeLine:=by rw [length_map,sizeLine_eq];omega
 refine Jv I.wo O c.sa c.po n.OZ c.hd wi hz fun h' O' sb=>h _ ?_;have hd:∃o,h'.get? dx=some o:=let⟨o,_,_,e',_⟩:=O'.ns;⟨o,e'⟩
 refine I.write (x:=a) (e:=dx) (by rw [e];exact True.intro) (.inr ho) (fun b q hb z=>(sb.2 b hb).trans z) hd ?_;refine⟨by rw [aw O.ne];exact ho,?_,O.ne,O'.obj,_,O'.ns,fun g=>?_,fun g hg=>?_⟩
 ·have:=sy f y fs;omega
 ·show mn ((mw f y fs).lookup g) (if g=f then some u else mA g);rw [sx];by_cases q:g=f
  ·rw [if_pos q,if_pos q];exact ry
  ·rw [if_neg q,if_neg q];exact r g
 ·by_cases q:g=f
  ·rw [q];exact(rj f y fs).1
  ·refine(rj f y fs).2 g (wi g fun z=>hg ?_);show(if g=f then some u else mA g)=none;rw [if_neg q];exact z
theorem Inv.made(I:Inv X pins σ H s):Inv X pins σ (upd (upd H s.heap.objs.size (.own (s.heap.objs.size+1))) (s.heap.objs.size+1) (.ins C s.heap.objs.size []))
  {s with heap:=(s.heap.push emptyDict).push (instObj C s.heap.objs.size)}:=by
 have e1:(s.heap.push emptyDict).get? s.heap.objs.size=some emptyDict:=Heap.get?_push_size s.heap rfl;have e2:((s.heap.push emptyDict).push (instObj C s.heap.objs.size)).get? (s.heap.objs.size+1)=some (instObj C s.heap.objs.size):=by
  have:=Heap.get?_push_size (s.heap.push emptyDict) (o:=instObj C s.heap.objs.size) rfl;rwa [Heap.size_push]at this
 have e3:(s.heap.push emptyDict).Ns s.heap.objs.size (fun _=>none):=⟨emptyDict,#[],_,e1,rfl,(fun e he=>absurd he (by simp)),fun _=>rfl⟩;have I1:=I.laid (a:=s.heap.objs.size) (o:=.own (s.heap.objs.size+1)) (h':=s.heap.push emptyDict) (t':=s.toks) (fun b u q=>Heap.get?_push_of_some _ q) (le_refl _) ⟨_,e1⟩;refine I1.laid (a:=s.heap.objs.size+1) (o:=.ins C s.heap.objs.size []) (t':=s.toks) (fun b u q=>Heap.get?_push_of_some _ q) (Nat.le_of_eq (Heap.size_push _ _)) ?_;have ne:s.heap.objs.size≠s.heap.objs.size+1:=ne_of_lt (lt_succ_self _);refine⟨by rw [aw ne,aE],zero_le _,ne,e2,fun _=>none,(Heap.Ns1.of_empty e3).at fun o q=>Heap.get?_push_of_some _ q,fun _=>True.intro,fun y hy=>absurd rfl hy⟩
theorem Jx{prog:Program}{w:World}{env:Env}{e:Expr}{f:Str}{pos:Pos}{s:Shared}{Q:Value->Shared->Prop}(hb:attributeBase e f env (eval e env)=eval e env)
  (h:wpAny (model prog w) A (eval e env) (fun o s₁=>wpAny (model prog w) A (getAttr o f true) Q E s₁) E s):wpAny (model prog w) A (eval (.Attribute e f pos) env) Q E s :=
 Attribute_any_ h (by rw [arm_eval_Attribute,hb])
end
def SG(K:PySem.W.Frag)(ta:TE)(f:Str):TE:=fun σ H Q=>ta σ H fun x H1=>∃a C dx fs v,x=.ref a/\H1 a=some (.ins C dx fs)/\FI K C/\jU K C f/\fs.lookup f=some v/\Q v H1
def SH(K:PySem.W.Frag)(ta tv:TE)(f:Str):TS:=fun D σ H=>tv σ H fun y H1=>ta σ H1 fun x H2=>∃a C dx fs,x=.ref a/\H2 a=some (.ins C dx fs)/\FI K C/\jU K C f/\fs.length<1000 /\
 D.nx σ (upd H2 a (.ins C dx (mw f y fs)))
def O0(X:Cx)(op:Operator)(rd:V->V->Hp->VK->Prop):Prop :=
 ∀(pins:List (Addr×Obj))(s:Shared)(σ:St)(H:Hp)(x y:V)(u v:Value)(Q:VK),Inv X pins σ H s->RelV x u->RelV y v->rd x y H Q->wpAny (model X.prog X.w) X.A (inplaceOp op u v) (EP X pins σ Q) X.xe s
def Jy(K:PySem.W.Frag)(ta tv:TE)(rd:V->V->Hp->VK->Prop)(f:Str):TS:=fun D σ H=>ta σ H fun x H1=>∃a C dx fs v,x=.ref a/\H1 a=some (.ins C dx fs)/\FI K C/\jU K C f/\fs.lookup f=some v /\
 tv σ H1 fun y H2=>rd v y H2 fun z H3=>∃SI Lo,H3 a=some (.ins C SI Lo)/\Lo.length<1000/\D.nx σ (upd H3 a (.ins C SI (mw f z Lo)))
section
variable {X:Cx}{o e value:Expr}{f:Str}{pos pos' Jz:Pos}{ta tv:TE}
theorem uC(he:PE X e ta)(hb:attributeBase e f X.env (eval e X.env)=eval e X.env):PE X (.Attribute e f pos) (SG X.K ta f):=by
 intro pins s σ H Q I h;refine Jx hb (da (he pins s σ H _ I h) fun u s1 ⟨x,H1,I1,rx,a,C,dx,fs,v,ex,ea,c,n,l,q⟩=>?_);subst ex;obtain rfl:u=Value.ref a:=rx;exact uA I1 ea c n l fun u' s2 I2 ru=>⟨v,H1,I2,ru,q⟩
theorem Bt(ha:PE X o ta)(hv:PE X value tv)(hs:swapsWith value (some (.Attribute o f pos')) pos.line X.env=pure false):PS X (.Assign [.Attribute o f pos'] value pos) (SH X.K ta tv f):=by
 intro pins s σ H D I h;refine plainObj_wpAny_Assign_Attribute (da (hv pins s σ H _ I h) fun u s1 ⟨y,H1,I1,ry,q⟩=>da (ha pins s1 σ H1 _ I1 q) fun ov s2 ⟨x,H2,I2,rx,a,C,dx,fs,ex,ea,c,n,l,q2⟩=>?_) hs;subst ex;obtain rfl:ov=Value.ref a:=rx;exact uB I2 ea c n l ry fun s3 I3=>⟨σ,_,I3,q2⟩
theorem D3{op:Operator}{rd:V->V->Hp->VK->Prop}(ha:PE X o ta)(hv:PE X value tv)(hop:O0 X op rd):PS X (.AugAssign (.Attribute o f Jz) op value pos) (Jy X.K ta tv rd f):=by
 intro pins s σ H D I h;refine wpAny_AugAssign_AttributeAny (da (ha pins s σ H _ I h) fun ov s1 ⟨x,H1,I1,rx,a,C,dx,fs,v,ex,ea,c,n,l,q⟩=>?_);subst ex;obtain rfl:ov=Value.ref a:=rx;refine uA I1 ea c n l fun u s2 I2 ru=>da (hv pins s2 σ H1 _ I2 q) fun w3 s3 ⟨y,H2,I3,ry,q3⟩=>da (hop pins s3 σ H2 v y u w3 _ I3 ru ry q3) fun w4 s4 ⟨z,H3,I4,rz,SI,Lo,ea',l',q4⟩=>?_;exact uB I4 ea' c n l' rz fun s5 I5=>⟨σ,_,I5,q4⟩
def SJ:V->V->Hp->VK->Prop:=fun x y H Q=>∃i j,x=.int i/\y=.int j/\Q (.int (i+j)) H
theorem MH:O0 X .Add SJ:=by
 rintro pins s σ H x y u v Q I rx ry ⟨i,j,rfl,rfl,q⟩;obtain⟨t,rfl⟩:=(show ∃t,u=Value.int i t from rx);obtain⟨t',rfl⟩:=(show ∃t',v=Value.int j t' from ry);exact PyProof.Rows.iadd_int ⟨.int (i+j),H,I.tok _,⟨_,rfl⟩,q⟩
end
section
variable {X:Cx}{pins:List (Addr×Obj)}{σ:St}{H:Hp}{s:Shared}{A:Around}{E:Value->Shared->Prop}{Q:Value->Shared->Prop}{c:Value}{b:Bool}
end
structure dP(k:Nat)(A:Around):Prop where
 hd:A.handled=none
 dp:A.depth+3*k+5<recursionLimit
 un:A.units+16*k+200<cLine
 gd:A.guards=some []
theorem dP.mono{j k:Nat}{A:Around}(r:dP k A)(h:j<=k):dP j A:=⟨r.hd,by have:=r.dp;omega,by have:=r.un;omega,r.gd⟩
theorem dP.deeper{k:Nat}{A:Around}(r:dP (k+1) A)(env:Env):dP k (A.deeper env) :=
 ⟨r.hd,by have:=r.dp;show A.depth+1+3*k+5<_;omega,by have:=r.un;show A.units+3+16*k+200<_;omega,r.gd⟩
theorem dP.in1{k:Nat}{A:Around}(r:dP (k+1) A):dP k A.in1 :=
 ⟨r.hd,by have:=r.dp;show A.depth+3*k+5<_;omega,by have:=r.un;show A.units+1+16*k+200<_;omega,r.gd⟩
theorem Bu{A:Around}{C:Addr}{us:List Value}{kw:List (Str×Value)}:(A.under (.builtin "type.__call__" ⟨.ref C::us,kw⟩)).depth=A.depth+1:=by
 first|rfl|simp [Around.under,Code.weight,Code.isCreation,Code.isGuard,Code.isCaller,Code.frames,Code.isFrame,guardIds]
theorem Bv{A:Around}{C:Addr}{us:List Value}{kw:List (Str×Value)}:(A.under (.builtin "type.__call__" ⟨.ref C::us,kw⟩)).units=A.units+1:=by
 first|rfl|simp [Around.under,Code.cUnits,Code.frames,Code.isFrame]
theorem zw{A:Around}{C:Addr}{us:List Value}{kw:List (Str×Value)}:(A.under (.builtin "type.__call__" ⟨.ref C::us,kw⟩)).guards=A.guards:=by
 first|rfl|simp [Around.under,Code.weight,Code.isCreation,Code.isGuard,Code.isCaller,Code.frames,Code.isFrame,guardIds]
theorem dP.make{k:Nat}{A:Around}(r:dP (k+1) A)(C:Addr)(us:List Value)(kw:List (Str×Value)):dP k (A.under (.builtin "type.__call__" ⟨.ref C::us,kw⟩)) :=
 ⟨r.hd,by have:=r.dp;rw [Bu];omega,by have:=r.un;rw [Bv];omega,by rw [zw];exact r.gd⟩
theorem dP.depth{k:Nat}{A:Around}(r:dP k A):A.depth<recursionLimit:=by have:=r.dp;omega
theorem dP.units{k:Nat}{A:Around}(r:dP k A):A.units+64<cLine:=by have:=r.un;omega
def MJ:TA:=fun _ H Q=>Q [] H
def O1(ta:TE)(tr:TA):TA:=fun σ H Q=>ta σ H fun x H1=>tr σ H1 fun xs H2=>Q (x::xs) H2
section
variable {X:Cx}{e:Expr}{es:List Expr}{te:TE}{t:TA}{pos:Pos}
theorem d0:PA X [] MJ:=fun _ _ _ _ H Q I h=>Calls.spliced_nil ⟨[],H,I,.nil,h⟩
theorem bE(ha:PE X e te)(hr:PA X es t)(hs:starEach (e::es) X.env=(false,eval e X.env)::starEach es X.env:=by rfl):PA X (e::es) (O1 te t):=by
 intro pos pins s σ H Q I h;rw [hs];show wpAny _ _ (spliced ((false,eval e X.env)::backTo pos (starEach es X.env))) _ _ s;refine Calls.spliced_cons (da (ha pins s σ H _ I h) fun u s1 ⟨x,H1,I1,r1,q1⟩=>?_);exact da (hr pos pins s1 σ H1 _ I1 q1) fun us s2 ⟨xs,H2,I2,r2,q2⟩=>⟨x::xs,H2,I2,.cons r1 r2,q2⟩
def SK(t:TA):TE:=fun σ H Q=>t σ H fun xs H1=>xs.length<=sizeLine/\∀p,H1 p=none->Q (.ref p) (upd H1 p (.tup xs))
def SN(t:TA):TE:=fun σ H Q=>t σ H fun xs H1=>xs.length<=sizeLine/\∀p,H1 p=none->Q (.ref p) (upd H1 p (.lst xs))
theorem Bw{x1}(h:PA X es t):PE X (.Tuple es x1 pos) (SK t):=by
 intro pins s σ H Q I hq;refine wpAny_Tuple_spliced (da (h pos pins s σ H _ I hq) fun us s1 ⟨xs,H1,I1,r,z,q⟩=>⟨by rw [<-r.length];exact z,?_⟩);have hf:H1 s1.heap.objs.size=none:=I1.cR.fresh (le_refl _);refine⟨.ref s1.heap.objs.size,upd H1 s1.heap.objs.size (.tup xs),I1.laid (t':=s1.toks) (fun b u e=>Heap.get?_push_of_some _ e) (le_refl _) ?_,rfl,q _ hf⟩;exact⟨z,us,r,⟨_,Heap.get?_push_size _ rfl,rfl,_,rfl⟩⟩
theorem MK(h:PA X es t):PE X (.List es pos) (SN t):=by
 intro pins s σ H Q I hq;refine wpAny_List_spliced (da (h pos pins s σ H _ I hq) fun us s1 ⟨xs,H1,I1,r,z,q⟩=>⟨by rw [<-r.length];exact z,?_⟩);have hf:H1 s1.heap.objs.size=none:=I1.cR.fresh (le_refl _);refine⟨.ref s1.heap.objs.size,upd H1 s1.heap.objs.size (.lst xs),I1.laid (t':=s1.toks) (fun b u e=>Heap.get?_push_of_some _ e) (le_refl _) ?_,rfl,q _ hf⟩;exact⟨z,us,0,r,Heap.get?_push_size _ rfl⟩
end
abbrev Sp:=List V->Hp->VK->XK->Prop
abbrev wq:=List Env->Hp->Shared->XK->Value->Shared->Prop
structure rk(P:Program)(w:World)(K:PySem.W.Frag)(mg:Str->Option Value)(base:Heap)(A:Around)(outer:List Env)(s:Shared)(H:Hp):Prop where
 frames:A.frames=some outer
 mod:Mod K mg base
 bs:∀b o,base.get? b=some o->s.heap.get? b=some o/\H b=none
 zl:base.objs.size<=s.heap.objs.size
 iC:s.heap.FunFrames base outer
 zm:∀b∈pU outer,H b=none
 cR:mm P w H s.heap
 bare:AllBare s.gens
def CE(outer:List Env)(P:Program)(w:World)(H:Hp)(s:Shared)(Q:VK)(u:Value)(s':Shared):Prop :=
 ∃v H',s'.os=s.os/\AllBare s'.gens/\Un (pU outer) [] H H' s.heap s'.heap/\mm P w H' s'.heap/\RelV v u/\Q v H'
def CR(CX:wq)(outer:List Env)(P:Program)(w:World)(H:Hp)(s:Shared)(Q:VK)(E:XK)(r:Result)(s':Shared):Prop :=
 match r with
 |.ok (.ret u)=>CE outer P w H s Q u s'
 |.ok _=>False
 |.error e=>CX outer H s E e s'
structure bc(P:Program)(w:World)(K:PySem.W.Frag)(mg:Str->Option Value)(base:Heap)(CX:wq)(k:Nat)(f:Addr)(fd:FuncData)(ps:List Str)(sp:Sp):Prop where
 len:∀vs H Q E,sp vs H Q E->vs.length=ps.length
 run:∀(A:Around)(outer:List Env)(s:Shared)(H:Hp)(args:Args)(us:List Value)(vs:List V)(Q:VK)(E:XK),dP k A->rk P w K mg base A outer s H->BindsTo s fd args (ps.zip us)->Vals vs us->sp vs H Q E ->
  codeAny (model P w) A (.call (.ref f) args) (CR CX outer P w H s Q E) s
theorem bc.mono{P:Program}{w:World}{K:PySem.W.Frag}{mg:Str->Option Value}{base:Heap}{CX:wq}{j k:Nat}{f:Addr}{fd:FuncData}{ps:List Str}{sp:Sp}(F:bc P w K mg base CX j f fd ps sp)(h:j<=k):
  bc P w K mg base CX k f fd ps sp:=⟨F.len,fun A outer s H args us vs Q E hr=>F.run A outer s H args us vs Q E (hr.mono h)⟩
theorem bc.imp{P:Program}{w:World}{K:PySem.W.Frag}{mg:Str->Option Value}{base:Heap}{CX:wq}{k:Nat}{f:Addr}{fd:FuncData}{ps:List Str}{sp O2:Sp}(F:bc P w K mg base CX k f fd ps sp)
  (h:∀vs H Q E,O2 vs H Q E->sp vs H Q E):bc P w K mg base CX k f fd ps O2 :=
 ⟨fun vs H Q E q=>F.len vs H Q E (h _ _ _ _ q),fun A outer s H args us vs Q E hr he hb hv hs=>F.run A outer s H args us vs Q E hr he hb hv (h _ _ _ _ hs)⟩
theorem rk.make{P:Program}{w:World}{K:PySem.W.Frag}{mg:Str->Option Value}{base:Heap}{A:Around}{outer:List Env}{s:Shared}{H:Hp}(e:rk P w K mg base A outer s H)(C:Addr)(us:List Value)(kw:List (Str×Value)):
  rk P w K mg base (A.under (.builtin "type.__call__" ⟨.ref C::us,kw⟩)) outer s H:=⟨by first|exact e.frames|(simpa [Around.under,Code.envs,Code.isFrame,pushEnvs]using e.frames),e.mod,e.bs,e.zl,e.iC,e.zm,e.cR,e.bare⟩
theorem rk.in1{P:Program}{w:World}{K:PySem.W.Frag}{mg:Str->Option Value}{base:Heap}{A:Around}{outer:List Env}{s:Shared}{H:Hp}(e:rk P w K mg base A outer s H):
  rk P w K mg base A.in1 outer s H:=⟨e.frames,e.mod,e.bs,e.zl,e.iC,e.zm,e.cR,e.bare⟩
section
variable {X:Cx}{pins:List (Addr×Obj)}{σ:St}{H:Hp}{s s':Shared}
theorem Inv.JA(I:Inv X pins σ H s):rk X.prog X.w X.K X.mg X.base X.A X.stack s H :=
 ⟨I.ok.frames,I.ok.mod,I.bs,le_trans I.ok.zl I.sz,I.stack,I.tY,I.cR,I.bare⟩
theorem Inv.after{Q:VK}{u:Value}(I:Inv X pins σ H s)(h:CE X.stack X.prog X.w H s Q u s'):EP X pins σ Q u s':=by
 obtain⟨v,H',os,bare,un,cR,r,q⟩:=h;obtain⟨hh,g,d,t,os'⟩:=s';obtain rfl:os'=s.os:=os;exact⟨v,H',I.call (h':=hh) (g':=g) (d':=d) (t':=t) (ch:=[]) un cR bare (fun b z=>absurd z (by simp)),r,q⟩
end
def Lw(sp:Sp)(dvs:List V)(E:XK)(t:TA):TE:=fun σ H Q=>t σ H fun vs H1=>sp (vs++dvs) H1 Q E
def O3(C:Addr)(m:Str)(sp:Sp)(dvs:List V)(E:XK)(ta:TE)(t:TA):TE:=fun σ H Q=>ta σ H fun x H1=>∃a dx fs,x=.ref a/\H1 a=some (.ins C dx fs)/\fs.lookup m=none /\
 t σ H1 fun vs H2=>sp (x::(vs++dvs)) H2 Q E
def O4(C:Addr)(sp:Sp)(dvs:List V)(E:XK)(t:TA):TE:=fun σ H Q=>t σ H fun vs H1=>∀x dx,H1 x=none->H1 dx=none->dx≠x ->
 sp (.ref x::(vs++dvs)) (upd (upd H1 dx (.own x)) x (.ins C dx [])) (fun v H2=>v=.cQ/\Q (.ref x) H2) E
def Binds(K:PySem.W.Frag)(fd:FuncData)(ps:List Str)(ds:List Value):Prop :=
 ∀(s:Shared)(us:List Value),K.In s.heap->(us++ds).length=ps.length->BindsTo s fd ⟨us,[]⟩ (ps.zip (us++ds))
theorem Binds.all{K:PySem.W.Frag}{fd:FuncData}{ps:List Str}(h:∀us:List Value,us.length=ps.length->bindArgs fd ⟨us,[]⟩=pure (ps.zip us)):Binds K fd ps []:=fun s us _ hl=>by
 rw [append_nil]at hl ⊢;exact .of_eq (h us hl)
def Passes(CX:wq)(X:Cx)(E:XK):Prop:=∀(pins:List (Addr×Obj))(σ:St)(H:Hp)(s:Shared)(e:Value)(s':Shared),Inv X pins σ H s->CX X.stack H s E e s'->X.xe e s'
section
variable {X:Cx}{CX:wq}{k:Nat}{f C:Addr}{fd:FuncData}{ps:List Str}{sp:Sp}{dvs:List V}{ds:List Value}{E:XK}{x m:Str}{p pos apos:Pos}{e o:Expr}{es:List Expr}{ta:TE}{t:TA}
theorem Bx{pins:List (Addr×Obj)}{σ:St}{H:Hp}{s:Shared}{Q:VK}{us:List Value}{vs:List V}(F:bc X.prog X.w X.K X.mg X.base CX k f fd ps sp)(hr:dP k X.A)(hb:Binds X.K fd ps ds)(hd:Vals dvs ds)(hx:Passes CX X E)
  (I:Inv X pins σ H s) (r:Vals vs us) (h:sp (vs++dvs) H Q E):wpAny (model X.prog X.w) X.A (call (.ref f) us) (EP X pins σ Q) X.xe s:=by
 have r2:Vals (vs++dvs) (us++ds):=r.append hd;have hl:(us++ds).length=ps.length:=by rw [<-r2.length];exact F.len _ _ _ _ h
 refine wpAny_call (codeAny_mono (F.run X.A X.stack s H ⟨us,[]⟩ (us++ds) (vs++dvs) Q E hr I.JA (hb s us I.wo hl) r2 h) fun r s' hq=>?_)
 cases r with
 |error e=>exact hx pins σ H s e s' I hq
 |ok fl =>
  cases fl with
  |ret u=>exact I.after hq
  |next=>exact False.elim hq
  |brk=>exact False.elim hq
  |cont=>exact False.elim hq
theorem nN(F:bc X.prog X.w X.K X.mg X.base CX k f fd ps sp)(hr:dP k X.A)(hg:Gl X x)(hm:X.mg x=some (.ref f))(hk:keepIn X.K (.ref f)=true)(hb:Binds X.K fd ps ds)(hd:Vals dvs ds)(hx:Passes CX X E)
  (ha:PA X (e::es) t) (kJ:(x==("__debug__" : Str))=false:=by decide) (he:starEach (e::es) X.env=(false,eval e X.env)::starEach es X.env:=by rfl) (jV:(backTo pos (starEach es X.env)).any (·.1)=false:=by rfl) :
  PE X (.Call (.Name x p) (e::es) [] pos) (Lw sp dvs E t):=by
 intro pins s σ H Q I h;refine wpAny_Call_Name_kw (h7 I hg hm ?_ kJ);refine callWith_K (h₀:=X.base) I.ok.mod.Lp hk (da (ha pos pins s σ H _ I h) fun us s1 ⟨vs,H1,I1,r,q⟩=>⟨I1.wo,?_⟩) he jV;exact Bx F hr hb hd hx I1 r q
theorem FJ(F:bc X.prog X.w X.K X.mg X.base CX k f fd ps sp)(hr:dP k X.A)(hg:Gl X x)(hm:X.mg x=some (.ref f))(hk:keepIn X.K (.ref f)=true)(hb:Binds X.K fd ps ds)(hd:Vals dvs ds)(hx:Passes CX X E)
  (kJ:(x==("__debug__" : Str))=false:=by decide):PE X (.Call (.Name x p) [] [] pos) (Lw sp dvs E MJ):=by
 intro pins s σ H Q I h;refine wpAny_Call_Name_kw (h7 I hg hm ?_ kJ);exact callWith_K0 I.wo hk (Bx (us:=[]) F hr hb hd hx I .nil h)
theorem FK{pl:Sem Bool}(he:PE X o ta)(c:FI X.K C)(hm:Meth X.K C m f)(F:bc X.prog X.w X.K X.mg X.base CX k f fd ps sp)(hr:dP k X.A)(hb:Binds X.K fd ps ds)(hd:Vals dvs ds)(hx:Passes CX X E)
  (ht:eval (.Call (.Attribute o m apos) [] [] pos) X.env=(do
   let ov<-eval o X.env
   standAt apos.atName
   let(f,first)<-holding [ov] (getMethod ov m pl)
   callWith pos f first (backTo pos (starEach [] X.env)) (backToKw pos (keywordEach [] X.env))):=by rfl) :
  PE X (.Call (.Attribute o m apos) [] [] pos) (O3 C m sp dvs E ta MJ):=by
 intro pins s σ H Q I h;refine PySem.W.methodCall_KW (pl:=pl) (da (he pins s σ H _ I h) fun u s1 ⟨x,H1,I1,rx,a,dx,fs,ex,ea,l,q⟩=>?_) ht;subst ex;obtain rfl:u=Value.ref a:=rx;refine Bs I1 ea c hm l ?_;exact callWith_K0 (first:=[.ref a]) I1.wo hm.kp (Bx (us:=[.ref a]) (vs:=[.ref a]) F hr hb hd hx I1 (.cons rfl .nil) q)
structure Mk(K:PySem.W.Frag)(C f:Addr):Prop where
 makes:makesIn K C=true
 init:PySem.W.findIn K (.ref C) "__init__" = some (some (.ref f))
 fn:isFn K (.ref f)=true
 kp:keepIn K (.ref C)=true
theorem FL{pins:List (Addr×Obj)}{σ:St}{H:Hp}{s:Shared}{Q:VK}{us:List Value}{vs:List V}(M:Mk X.K C f)(F:bc X.prog X.w X.K X.mg X.base CX k f fd ps sp)(hr:dP (k+1) X.A)(hb:Binds X.K fd ps ds)(hd:Vals dvs ds)
  (hx:Passes CX X E) (I:Inv X pins σ H s) (r:Vals vs us)
  (h:∀x dx,H x=none->H dx=none->dx≠x->sp (.ref x::(vs++dvs)) (upd (upd H dx (.own x)) x (.ins C dx [])) (fun v H2=>v=.cQ/\Q (.ref x) H2) E) :
  wpAny (model X.prog X.w) X.A (call (.ref C) us) (EP X pins σ Q) X.xe s:=by
 have hq:=h (s.heap.objs.size+1) s.heap.objs.size (I.cR.fresh (le_succ _)) (I.cR.fresh (le_refl _)) (ne_of_lt (lt_succ_self _));have I2:=Inv.made (C:=C) I;have r2:Vals (V.ref (s.heap.objs.size+1)::(vs++dvs)) (Value.ref (s.heap.objs.size+1)::(us++ds)):=.cons rfl (r.append hd);have hl:(Value.ref (s.heap.objs.size+1)::us++ds).length=ps.length:=by
  have e:=r2.length;rw [F.len _ _ _ _ hq]at e;exact e.symm
 refine wpAny_call (FH (f:=f) I.wo M.makes M.init (beq_iff_eq.mp M.fn) (codeAny_mono (F.run _ X.stack _ _ ⟨Value.ref (s.heap.objs.size+1)::us,[]⟩ (Value.ref (s.heap.objs.size+1)::(us++ds)) _ _ E (hr.make C us [])
  (I2.JA.make C us []) (hb _ (Value.ref (s.heap.objs.size+1)::us) I2.wo hl) r2 hq) fun r s' O5=>?_))
 cases r with
 |error e=>exact hx pins σ _ _ e s' I2 O5
 |ok fl =>
  cases fl with
  |ret u =>
   obtain⟨v,H',I3,rv,ev,q3⟩:=I2.after O5;subst ev;exact⟨rv,⟨V.ref (s.heap.objs.size+1),H',I3,rfl,q3⟩⟩
  |next=>exact False.elim O5
  |brk=>exact False.elim O5
  |cont=>exact False.elim O5
theorem JB(M:Mk X.K C f)(F:bc X.prog X.w X.K X.mg X.base CX k f fd ps sp)(hr:dP (k+1) X.A)(hg:Gl X x)(hm:X.mg x=some (.ref C))(hb:Binds X.K fd ps ds)(hd:Vals dvs ds)(hx:Passes CX X E)
  (ha:PA X (e::es) t) (kJ:(x==("__debug__" : Str))=false:=by decide) (he:starEach (e::es) X.env=(false,eval e X.env)::starEach es X.env:=by rfl) (jV:(backTo pos (starEach es X.env)).any (·.1)=false:=by rfl) :
  PE X (.Call (.Name x p) (e::es) [] pos) (O4 C sp dvs E t):=by
 intro pins s σ H Q I h;refine wpAny_Call_Name_kw (h7 I hg hm ?_ kJ);refine callWith_K (h₀:=X.base) I.ok.mod.Lp M.kp (da (ha pos pins s σ H _ I h) fun us s1 ⟨vs,H1,I1,r,q⟩=>⟨I1.wo,?_⟩) he jV;exact FL M F hr hb hd hx I1 r q
end
section
variable {X:Cx}{CX:wq}{k:Nat}{f C:Addr}{fd:FuncData}{ps ks:List Str}{sp:Sp}{E:XK}{x m:Str}{p pos apos ab7:Pos}{e o:Expr}{es:List Expr}{kws:List Keyword}{te ta:TE}{t tk:TA}{nm:Option Str}
variable {g:List Value->List Value->List Value}{gV:List V->List V->List V}
end
structure aN(N P:List Str)(sc:Scope):Prop where
 kind:sc.kind=.function
 co:sc.isCoroutine=false
 gen:sc.isGenerator=false
 nd:N.Nodup
 pre:N.take P.length=P
 par:∀x∈P,sc.names.lookup x=some .local\/sc.names.lookup x=some .cell
 ML:∀y∈sc.names,y.2 ≠ .free
theorem wW{kindOf:Str->Option NameKind}{x:Str}:∀{binds:List (Str×Value)}{m:Str->Option Value},(∀v,(x,v)∉binds)->bindL kindOf binds m x=m x
 |[],_,_=>rfl
 |(n,v)::r,m,h=>by
  unfold bindL;rw [wW fun w hw=>h w (mem_cons_of_mem _ hw)];split
  ·have:x≠n:=by rintro rfl;exact h v mem_cons_self
   simp [this]
  ·rfl
theorem wX{kindOf:Str->Option NameKind}{x:Str}:∀{binds:List (Str×Value)}{m:Str->Option Value},(∀v,(x,v)∉binds)->bindC kindOf binds m x=m x
 |[],_,_=>rfl
 |(n,v)::r,m,h=>by
  unfold bindC;rw [wX fun w hw=>h w (mem_cons_of_mem _ hw)];split
  ·rfl
  ·have:x≠n:=by rintro rfl;exact h v mem_cons_self
   simp [this]
theorem wY{kindOf:Str->Option NameKind}{x:Str}{v:Value}:∀{P:List Str}{vs:List Value}{i:Nat}{m:Str->Option Value},P.Nodup->P[i]?=some x->vs[i]?=some v->kindOf x=some .local ->
  bindL kindOf (P.zip vs) m x=some v
 |[],_,_,_,_,h,_,_=>by simp at h
 |_::_,[],_,_,_,_,h,_=>by simp at h
 |p::P,w::vs,0,m,nd,h1,h2,hk=>by
  simp at h1 h2;subst h1;subst h2;show bindL kindOf ((p,w)::P.zip vs) m p=_;unfold bindL;rw [wW fun v hv=>(nodup_cons.mp nd).1 (of_mem_zip hv).1,if_pos hk];simp
 |p::P,w::vs,i+1,m,nd,h1,h2,hk=>by
  show bindL kindOf ((p,w)::P.zip vs) m x=_;unfold bindL;exact wY (i:=i) (nodup_cons.mp nd).2 (by simpa using h1) (by simpa using h2) hk
theorem wZ{kindOf:Str->Option NameKind}{x:Str}{v:Value}:∀{P:List Str}{vs:List Value}{i:Nat}{m:Str->Option Value},P.Nodup->P[i]?=some x->vs[i]?=some v->kindOf x≠some .local ->
  bindC kindOf (P.zip vs) m x=some v
 |[],_,_,_,_,h,_,_=>by simp at h
 |_::_,[],_,_,_,_,h,_=>by simp at h
 |p::P,w::vs,0,m,nd,h1,h2,hk=>by
  simp at h1 h2;subst h1;subst h2;show bindC kindOf ((p,w)::P.zip vs) m p=_;unfold bindC;rw [wX fun v hv=>(nodup_cons.mp nd).1 (of_mem_zip hv).1,if_neg hk];simp
 |p::P,w::vs,i+1,m,nd,h1,h2,hk=>by
  show bindC kindOf ((p,w)::P.zip vs) m x=_;unfold bindC;exact wZ (i:=i) (nodup_cons.mp nd).2 (by simpa using h1) (by simpa using h2) hk
def start(N:List Str)(vs:List V):St:=vs.map some++List.replicate (N.length-vs.length) none
def lX(CX:wq)(P:Program)(w:World)(K:PySem.W.Frag)(mg:Str->Option Value)(base:Heap)(N:List Str)(qual:Str)(scope:Scope)(f:Addr)(cd:Value)(A:Around)(outer:List Env)(s:Shared)(H:Hp)(E:XK):Cx where
 prog:=P
 w:=w
 K:=K
 mg:=mg
 base:=base
 A:=A.deeper (envOfC qual scope s.heap.objs.size f cd)
 N:=N
 s₀:=s
 H₀:=H
 env:=envOfC qual scope s.heap.objs.size f cd
 outer:=outer
 stack:=envOfC qual scope s.heap.objs.size f cd::outer
 ex:=[]
 calm:=true
 fn:=fun _=>true
 pn:=[]
 xe:=fun e s'=>wpAny (model P w) (A.deeper (envOfC qual scope s.heap.objs.size f cd)) (leaving (envOfC qual scope s.heap.objs.size f cd) e) (fun _ qU=>CX outer H s E e qU) (fun e' qU=>CX outer H s E e' qU) s'
theorem zx{sc:Scope}{n:Nat}{x:Str}(h:sc.names.lookup x=some .cell):∃c,(cellsFrom n sc.names []).lookup x=some c:=by
 have q:=cellsFrom_some sc.names n [] (.inl h);exact Option.isSome_iff_exists.mp q
theorem w5{CX:wq}{P:Program}{w:World}{K:PySem.W.Frag}{mg:Str->Option Value}{base:Heap}{N ps:List Str}{qual:Str}{scope:Scope}{f:Addr}{cd:Value}{A:Around}{outer:List Env}{s s1:Shared}{H:Hp}{E:XK}{us:List Value}{vs:List V}
  (S:aN N ps scope) (hd:A.handled=none) (e0:rk P w K mg base A outer s H) (hl:vs.length=ps.length) (r:Vals vs us)
  (x:InCallC s s.heap.objs.size (bindL (envOfC qual scope s.heap.objs.size f cd).kindOf (ps.zip us) fun _=>none) (cellsFrom (s.heap.objs.size+1) scope.names []) (bindC (envOfC qual scope s.heap.objs.size f cd).kindOf (ps.zip us) fun _=>none) s1) :
  Inv (lX CX P w K mg base N qual scope f cd A outer s H E) [] (start N vs) H s1:=by
 have jV:ps.length<=N.length:=by have:=congrArg List.length S.pre;rw [length_take]at this;omega
 obtain⟨h1,tk,rfl,hk⟩:=x.done;have O6:∀b:Addr,b∉(lX CX P w K mg base N qual scope f cd A outer s H E).ex:=fun b z=>absurd (show b∈([]:List Addr) from z) (by simp);refine⟨⟨e0.mod,S.kind,rfl,rfl,le_refl _,fun y z c h1 h2=>?_,fun y hy=>?_,fun y c _ h=>?_,fun _=>hd,Around.frames_deeper e0.frames,.inr ⟨rfl,rfl⟩,fun b z=>absurd z (O6 b),e0.bs,e0.zl,fun b _ _=>O6 b,fun b z=>absurd z (O6 b),e0.iC,e0.zm⟩,
  rfl,e0.bare,Un.kept hk,⟨_,x.toInCall.ns,fun i y v h1 h2 h3=>?_⟩,fun y c h=>⟨_,x.cell y c h⟩,e0.cR.fresh (le_refl _),fun y c h=>?_,fun p hp=>absurd (show p∈([]:List (Addr×Obj)) from hp) (by simp),e0.cR.kept hk,?_⟩
 ·exact name_of_addr x.apart (PySem.mem_of_lookup h1) (PySem.mem_of_lookup h2)
 ·have hy:scope.names.lookup y=some .cell\/scope.names.lookup y=some .free:=hy;rcases hy with hy|hy
  ·exact zx hy
  ·exact absurd rfl (S.ML _ (PySem.mem_of_lookup hy))
 ·exact le_of_lt (x.above y c (PySem.mem_of_lookup h))
 ·have hi:i<vs.length:=by
   unfold start at h2;by_cases hi:i<vs.length
   ·exact hi
   ·rw [List.getElem?_append_right (by simpa using hi)]at h2;rw [getElem?_replicate]at h2;split at h2<;>cases h2
  have ha:vs[i]?=some v:=by
   unfold start at h2;rw [List.getElem?_append_left (by simpa using hi),getElem?_map]at h2
   cases e:vs[i]? with
   |none=>rw [e]at h2;cases h2
   |some a=>rw [e]at h2;cases h2;rfl
  obtain⟨u,hu,rv⟩:=r.get ha;have hp:ps[i]?=some y:=by
   rw [<-S.pre,List.getElem?_take_of_lt (by omega)];exact h1
  have Yp:ps.Nodup:=by rw [<-S.pre];exact S.nd.sublist (List.take_sublist _ _)
  refine⟨u,rv,?_⟩;rcases S.par y (mem_of_getElem? hp)with k|k
  ·exact .inl ⟨k,wY Yp hp hu k⟩
  ·obtain⟨c,e⟩:=zx (n:=s.heap.objs.size+1) k;refine .inr ⟨.inl k,c,e,?_⟩;have q:=x.cell y c e;rw [wZ Yp hp hu (by show scope.names.lookup y≠_;rw [k];decide)]at q;exact q
 ·exact e0.cR.fresh (le_of_lt (x.above y c (PySem.mem_of_lookup h)))
 ·unfold start;show _=N.length;rw [length_append,length_map,List.length_replicate];omega
theorem FN{CX:wq}{P:Program}{w:World}{K:PySem.W.Frag}{mg:Str->Option Value}{base:Heap}{k:Nat}{f:Addr}{name qual:Str}{params:Arguments}{body:List Stmt}{scope:Scope}{dV kV doc pm cW ct oc:Value}{an od:Option Addr}
  {FO:Array (Option Value)} {N ps:List Str} {sp:Sp} (lk:K.lookup f=some ⟨oc,od,.func (PySem.W.fnOf name qual params body scope dV kV doc pm an cW ct),FO⟩) (zo:PySem.W.codeIn K cW qual=true) (S:aN N ps scope)
  (len:∀vs H Q E,sp vs H Q E->vs.length=ps.length)
  (zy:∀(A:Around)(outer:List Env)(s:Shared)(H:Hp)(vs:List V)(Q:VK)(E:XK),dP k (A.deeper (envOfC qual scope s.heap.objs.size f cW))->sp vs H Q E ->
   ∃t,pV (lX CX P w K mg base N qual scope f cW A outer s H E) body t/\t {nx:=fun _ H'=>Q .cQ H',rt:=Q} (start N vs) H) :
  bc P w K mg base CX (k+1) f (PySem.W.fnOf name qual params body scope dV kV doc pm an cW ct) ps sp:=by
 refine⟨len,fun A outer s H args us vs Q E hr e0 hb r zz=>?_⟩;have hl:=len _ _ _ _ zz;have KX:K.In s.heap:=e0.mod.Lp.keeps fun b o e=>(e0.bs b o e).1;have lim:s.heap.NoLimit:=e0.mod.nolimit.keeps fun b o e=>(e0.bs b o e).1;have FP:∀y∈ps.zip us,scope.names.lookup y.1=some .local\/(scope.names.lookup y.1=some .cell/\((cellsFrom (s.heap.objs.size+1) scope.names []).lookup y.1).isSome=true):=fun⟨n,v⟩ hy=>by
  rcases S.par n (of_mem_zip hy).1 with q|q
  ·exact .inl q
  ·exact .inr ⟨q,cellsFrom_some _ _ _ (.inl q)⟩
 refine codeAny_call_function hr.depth (KX _ _ lk) rfl S.co S.gen rfl (codeRec_of KX zo) (hb _ _ _ _ ?_);refine wpAny_newFunctionEnv_cells S.kind FP fun env he s1 x=>?_;subst he;refine⟨lim.keeps x.toInCall.keep,codeAny_func ?_⟩;obtain⟨t,ht,hq⟩:=zy A outer s H vs Q E (hr.deeper _) zz;have I:Inv (lX CX P w K mg base N qual scope f cW A outer s H E) [] (start N vs) H s1:=w5 S hr.hd e0 hl r x;refine wpAny_mono (ht [] s1 (start N vs) H _ I hq) (fun fl s' hs=>?_) fun e s' hs=>hs;have fin:∀{σ':St}{H':Hp}{v:V}{u:Value},Inv (lX CX P w K mg base N qual scope f cW A outer s H E) [] σ' H' s'->RelV v u->Q v H'->CE outer P w H s Q u s' :=
  fun{σ' H' v u} J rv q=>⟨v,H',J.os,J.bare,J.base,J.cR,rv,q⟩
 cases fl with
 |ret u =>
  obtain⟨v,σ',H',J,rv,q⟩:=hs;exact fin J rv q
 |next =>
  obtain⟨σ',H',J,q⟩:=hs;exact fin (v:=V.cQ) (u:=Value.none) J rfl q
 |brk =>
  obtain⟨_,_,_,q⟩:=hs;exact False.elim q
 |cont =>
  obtain⟨_,_,_,q⟩:=hs;exact False.elim q
section
variable {X:Cx}{x:Str}{p pos:Pos}{e:Expr}{es:List Expr}{t:TA}{id T:String}{r:List V->Hp->VK->Prop}
def SO(r:List V->Hp->VK->Prop)(t:TA):TE:=fun σ H Q=>t σ H fun vs H1=>r vs H1 Q
theorem pW(hc:fF X (.builtin id) r)(hg:Gl X x)(hm:X.mg x=none)(hv:bootBuiltins x=some (.builtin id))(ha:PA X (e::es) t)(hn:x ≠ "__name__" := by decide)(kJ:(x==("__debug__" : Str))=false:=by decide)
  (he:starEach (e::es) X.env=(false,eval e X.env)::starEach es X.env:=by rfl) (jV:(backTo pos (starEach es X.env)).any (·.1)=false:=by rfl):PE X (.Call (.Name x p) (e::es) [] pos) (SO r t):=by
 intro pins s σ H Q I h;refine wpAny_Call_Name_kw (ux I hg hm hv ?_ hn kJ);exact PyProof.Rows.callWith_builtin1 (da (ha pos pins s σ H _ I h) fun us s1 ⟨vs,H1,I1,r1,q1⟩=>hc pins s1 σ H1 vs us Q I1 r1 q1) he jV
theorem nO(hc:fF X (.type T) r)(hg:Gl X x)(hm:X.mg x=none)(hv:bootBuiltins x=some (.type T))(ha:PA X (e::es) t)(hn:x ≠ "__name__" := by decide)(kJ:(x==("__debug__" : Str))=false:=by decide)
  (he:starEach (e::es) X.env=(false,eval e X.env)::starEach es X.env:=by rfl) (jV:(backTo pos (starEach es X.env)).any (·.1)=false:=by rfl):PE X (.Call (.Name x p) (e::es) [] pos) (SO r t):=by
 intro pins s σ H Q I h;refine wpAny_Call_Name_kw (ux I hg hm hv ?_ hn kJ);exact PyProof.Rows.callWith_type1 (da (ha pos pins s σ H _ I h) fun us s1 ⟨vs,H1,I1,r1,q1⟩=>hc pins s1 σ H1 vs us Q I1 r1 q1) he jV
end
end L2
namespace HT
open PySem PyProof.Rows
section
open PySem.SeqAt
open PySem.AutoSeq1 (wpAny_loadPart')
open PySem.MeetsSeq PySem.MeetsSeq2 PySem.MeetsSeq3
end
section
variable {prog:Program}{w:World}{A:Around}{E:Value->Shared->Prop}{s:Shared}
theorem JC{t b:Addr}{vs ws:List Value}{Q:Value->Shared->Prop}(ht:IsTup s.heap t vs.toArray)(hb:IsTup s.heap b ws.toArray)(hv:vs≠[])
  (h1:ws=[]->Q (.ref t) s) (h2:ws≠[]->Q (.ref s.heap.objs.size) {s with heap:=s.heap.push {cls:=.type "tuple", data:=.seq (vs++ws).toArray}})
  (zh:vs.length+ws.length<=sizeLine):wpAny (model prog w) A (binaryOp .Add (.ref t) (.ref b)) Q E s:=by
 obtain⟨⟨cls,dd,data,sl⟩,ho,hc,n,hd⟩:=id ht;obtain⟨⟨SQ,Ri,data2,Rj⟩,Rk,Yq,n2,hd2⟩:=id hb;simp only at hc hd Yq hd2;subst hc hd Yq hd2;have e:vs.toArray++ws.toArray=(vs++ws).toArray:=by simp
 by_cases hw:ws=[]
 ·exact concat_meets ⟨_,ho,rfl⟩ ⟨_,Rk,rfl⟩ noFill_tuple_add seq_tuple_add PySem.F.slot_tuple_add PySem.F.entry_tuple_add (PySem.F.args_tuple_add_2 _ _)
   (tuple_addW1 t b vs.toArray ws.toArray n n2 dd Ri sl Rj (by simpa using hv) (by simp [hw])) ⟨ho,Rk,h1 hw⟩
 ·refine concat_meets ⟨_,ho,rfl⟩ ⟨_,Rk,rfl⟩ noFill_tuple_add seq_tuple_add PySem.F.slot_tuple_add PySem.F.entry_tuple_add (PySem.F.args_tuple_add_2 _ _)
   (tuple_addW2 t b vs.toArray ws.toArray n n2 dd Ri sl Rj (by simpa using hv) (by simpa using hw) (by rw [size_toArray,size_toArray];exact zh)) ⟨ho,Rk,?_⟩
  rw [e];exact h2 hw
def fV(n d:Nat):Option Int->Nat
 |none=>d
 |some v=>if v<0 then(v+(n:Int)).toNat else min v.toNat n
theorem zA(n d:Nat):fV n d none=d:=rfl
theorem CQ(n d k:Nat):fV n d (some (k:Int))=min k n:=by
 show(if(k:Int)<0 then((k:Int)+(n:Int)).toNat else min (k:Int).toNat n)=min k n;rw [if_neg (by omega),Int.toNat_natCast]
theorem MM(n d:Nat)(hd:d<=n)(o:Option Int):fV n d o<=n:=by
 cases o with
 |none=>exact hd
 |some v =>
  show(if v<0 then(v+(n:Int)).toNat else min v.toNat n)<=n;by_cases hv:v<0
  ·rw [if_pos hv];omega
  ·rw [if_neg hv];exact Nat.min_le_right _ _
theorem CS(v:Int)(n d:Nat):(if v<0 then max (v+(n:Int)) 0 else min v (n:Int))=((fV n d (some v):Nat):Int):=by
 show(if v<0 then max (v+(n:Int)) 0 else min v (n:Int))=(((if v<0 then(v+(n:Int)).toNat else min v.toNat n):Nat):Int);by_cases hv:v<0
 ·simp only [if_pos hv];omega
 ·simp only [if_neg hv];omega
theorem By(lo hi:Option Int)(n:Nat):Builtin.Slice.sliceAdjust lo hi 1 (n:Int)=(((fV n 0 lo:Nat):Int),((fV n n hi:Nat):Int)):=by
 have h1:¬((1:Int)<0):=by omega
 unfold Builtin.Slice.sliceAdjust;simp only [h1,if_false];refine Prod.ext ?_ ?_
 ·cases lo with
  |none=>rfl
  |some v=>exact CS v n 0
 ·cases hi with
  |none=>rfl
  |some v=>exact CS v n n
theorem Bz(i j:Nat):Builtin.Slice.slicePlaces (i:Int) (j:Int) 1=j-i:=by
 unfold Builtin.Slice.slicePlaces;have h1:(1:Int)>0:=by omega
 simp only [h1,if_true,Int.ediv_one];split<;>omega
theorem uD{v:Value}{o:Option Int}{Q:Option Int->Shared->Prop}(p:IsPart v o)(h:Q o s):wpAny (model prog w) A (Builtin.Slice.slicePartIndex v) Q E s:=by
 cases p with
 |none=>exact slicePart_none h
 |int i t=>exact slicePart_int h
theorem rm{sl:Addr}{vl vu:Value}{lo hi:Option Int}{n:Nat}{Q:Int×Int×Nat->Shared->Prop}(hs:s.heap.IsSliceOf sl vl vu .none)(pl:IsPart vl lo)(pu:IsPart vu hi)
  (h:Q (((fV n 0 lo:Nat):Int),1,fV n n hi-fV n 0 lo) s):wpAny (model prog w) A (Builtin.Slice.sliceApplied (.ref sl) (pure (n:Int))) Q E s:=by
 obtain⟨os,A3,Yr,Rl⟩:=id hs;unfold Builtin.Slice.sliceApplied Builtin.Slice.sliceFields;refine wpAny_bind (wpAny_bind (wpAny_field A3 Rl (x:=vl) rfl (wpAny_bind (wpAny_field A3 Rl (x:=vu) rfl (wpAny_bind (wpAny_field A3 Rl (x:=.none) rfl (wpAny_pure ?_)))))));refine wpAny_bind (slicePart_none ?_);show wpAny _ _ (if((1:Int)==0)=true then _ else _) _ _ s;rw [if_neg (by decide)];refine wpAny_bind (uD pl (wpAny_bind (uD pu (wpAny_bind (wpAny_pure ?_)))));show wpAny _ _ (match Builtin.Slice.sliceAdjust lo hi 1 (n:Int)with|(lo,hi)=>pure (lo,(1:Int),Builtin.Slice.slicePlaces lo hi 1)) _ _ s;rw [By lo hi n];show wpAny _ _ (pure (((fV n 0 lo:Nat):Int),(1:Int),Builtin.Slice.slicePlaces ((fV n 0 lo:Nat):Int) ((fV n n hi:Nat):Int) 1)) _ _ s;rw [Bz];exact wpAny_pure h
theorem FQ(xs:Array Value)(i k:Nat):((List.range k).filterMap fun(m:Nat)=>xs[((i:Int)+(m:Int)*1).toNat]?).toArray=((xs.toList.drop i).take k).toArray:=by
 have e:(fun(m:Nat)=>xs[((i:Int)+(m:Int)*1).toNat]?)=fun m=>xs[i+m]?:=by
  funext m;have:((i:Int)+(m:Int)*1).toNat=i+m:=by omega
  rw [this]
 rw [e];have:=pick_run xs i k;rw [List.filterMap_map]at this;have e2:((fun x=>xs[x]?)∘fun x=>i+x)=fun m=>xs[i+m]?:=rfl;rw [e2]at this;rw [this]
theorem pX{t sl:Addr}{items:Array Value}{vl vu:Value}{lo hi:Option Int}{Q:Value->Shared->Prop}(ht:IsTup s.heap t items)(hs:s.heap.IsSliceOf sl vl vu .none)(pl:IsPart vl lo)(pu:IsPart vu hi)
  (hw:¬(fV items.size 0 lo=0/\fV items.size items.size hi=items.size))
  (h:Q (.ref s.heap.objs.size) {s with heap:=s.heap.push {cls:=.type "tuple", data:=.seq ((items.toList.drop (fV items.size 0 lo)).take (fV items.size items.size hi-fV items.size 0 lo)).toArray}})
  (zh:items.size<=sizeLine):wpAny (model prog w) A (getItem (.ref t) (.ref sl)) Q E s:=by
 have CT:sizeOk (.seq ((items.toList.drop (fV items.size 0 lo)).take (fV items.size items.size hi-fV items.size 0 lo)).toArray):=by
  show((items.toList.drop (fV items.size 0 lo)).take (fV items.size items.size hi-fV items.size 0 lo)).toArray.size<=sizeLine;rw [size_toArray,length_take,length_drop,length_toList];omega
 have hj:fV items.size items.size hi<=items.size:=MM _ _ (le_refl _) hi;obtain⟨os,A3,Yr,Rl⟩:=id hs;have hTs:s.TypeIs (.ref sl) "slice" := ⟨os,A3,Yr⟩;unfold getItem
 try with_reducible refine wpAny_holding ?_
 first|refine wpAny_bind (wpAny_pure ?_)|skip
 refine wpAny_bind (wpAny_sequenceKey ht.typeIs (by decide) ?_);refine wpAny_bind (wpAny_callSpecial?_slot (name:=Str.ofString "__getitem__") ht.typeIs PyProof.Rows.slot_tuple_getitem
  (wpAny_call_entry PyProof.Rows.slot_tuple_getitem ht.typeIs entry_tuple_getitem ?_ (args_tuple_getitem _ _)))
 show wpAny _ _ (Builtin.Tuple.tupleItemsOf (.ref t) >>= _) _ _ s;refine wpAny_bind (tupleItemsOf_ ht ?_);refine wpAny_bind (wpAny_typeOf hTs ?_);rw [if_pos (by decide)];refine wpAny_bind (rm hs pl pu ?_);have hno:¬((((fV items.size 0 lo:Nat):Int)==0&&(1:Int)==1&&(fV items.size items.size hi-fV items.size 0 lo)==items.size)=true):=by
  intro q;rw [and_eq_true,and_eq_true]at q;have q1:((fV items.size 0 lo:Nat):Int)=0:=eq_of_beq q.1.1;have q2:fV items.size items.size hi-fV items.size 0 lo=items.size:=eq_of_beq q.2;exact hw ⟨by omega,by omega⟩
 show wpAny _ _ (if(((fV items.size 0 lo:Nat):Int)==0&&(1:Int)==1&&(fV items.size items.size hi-fV items.size 0 lo)==items.size)=true then _ else _) _ _ s;rw [if_neg hno,FQ]
 first
  |exact wpAny_bind (m:=Builtin.Tuple.tupleExact _) (wpAny_newObj_type (wpAny_pure ⟨_,rfl,wpAny_pure h⟩) CT)
  |exact wpAny_bind (m:=Builtin.Tuple.tupleExact _) (wpAny_newObj_type (wpAny_bind (wpAny_pure (wpAny_pure ⟨_,rfl,wpAny_pure h⟩))) CT)
  |exact wpAny_bind (wpAny_bind (m:=Builtin.Tuple.tupleExact _) (wpAny_newObj_type (wpAny_pure (wpAny_pure ⟨_,rfl,wpAny_pure h⟩)) CT))
  |exact wpAny_bind (wpAny_bind (m:=Builtin.Tuple.tupleExact _) (wpAny_newObj_type (wpAny_pure ⟨_,rfl,wpAny_pure h⟩) CT))
end
end HT
namespace L2
open PySem PySem.Spec PyProof.Rows
abbrev TO:=St->Hp->(Option Int->Hp->Prop)->Prop
def PO(X:Cx)(e:Option Expr)(t:TO):Prop :=
 ∀(pins:List (Addr×Obj))(s:Shared)(σ:St)(H:Hp)(Q:Option Int->Hp->Prop),Inv X pins σ H s->t σ H Q ->
  wpAny (model X.prog X.w) X.A (evalPart e X.env) (fun u s'=>∃o H',Inv X pins σ H' s'/\IsPart u o/\Q o H') X.xe s
def JD:TO:=fun _ H Q=>Q none H
def O7(t:TE):TO:=fun σ H Q=>t σ H fun x H1=>∃i,x=.int i/\Q (some i) H1
section
variable {X:Cx}{e:Expr}{te:TE}{lo hi:Option Expr}{tl th:TO}{pos p2:Pos}
theorem JE:PO X none JD:=by
 intro pins s σ H Q I h;rw [evalPart_none];exact wpAny_pure ⟨none,H,I,.none,h⟩
theorem JF(h:PE X e te):PO X (some e) (O7 te):=by
 intro pins s σ H Q I hw;rw [evalPart_some];refine da (h pins s σ H _ I hw) fun u s1 ⟨x,H1,I1,r1,q1⟩=>?_;obtain⟨i,rfl,q⟩:=q1;obtain⟨t,rfl⟩:=r1;exact⟨some i,H1,I1,.int i t,q⟩
def Lx(X:Cx)(r:V->Option Int->Option Int->Hp->VK->Prop):Prop :=
 ∀(pins:List (Addr×Obj))(s:Shared)(σ:St)(H:Hp)(x:V)(v vl vu:Value)(lo hi:Option Int)(sl:Addr)(Q:VK),Inv X pins σ H s->RelV x v->s.heap.IsSliceOf sl vl vu .none->IsPart vl lo->IsPart vu hi->r x lo hi H Q ->
  ∃T id,typeLookup (.type T) "__getitem__" = pure (some (.builtin id))/\s.TypeIs v T/\wpAny (model X.prog X.w) X.A (getItem v (.ref sl)) (EP X pins σ Q) X.xe s
theorem Lx.or{r r':V->Option Int->Option Int->Hp->VK->Prop}(h:Lx X r)(h':Lx X r'):Lx X (fun x lo hi H Q=>r x lo hi H Q\/r' x lo hi H Q):=by
 intro pins s σ H x v vl vu lo hi sl Q I rx hs pl pu q;rcases q with q|q
 ·exact h pins s σ H x v vl vu lo hi sl Q I rx hs pl pu q
 ·exact h' pins s σ H x v vl vu lo hi sl Q I rx hs pl pu q
def tSl(r:V->Option Int->Option Int->Hp->VK->Prop)(te:TE)(tl th:TO):TE:=fun σ H Q=>te σ H fun x H1=>tl σ H1 fun l H2=>th σ H2 fun u H3=>r x l u H3 Q
theorem zB{r:V->Option Int->Option Int->Hp->VK->Prop}(hr:Lx X r)(he:PE X e te)(hl:PO X lo tl)(hu:PO X hi th):PE X (.Subscript e (.Slice lo hi none p2) pos) (tSl r te tl th):=by
 intro pins s σ H Q I h;refine Subscript_ (da (he pins s σ H _ I h) fun v s1 ⟨x,H1,I1,r1,q1⟩=>?_);refine wpAny_Slice (da (hl pins s1 σ H1 _ I1 q1) fun vl s2 ⟨l,H2,I2,pl,q2⟩=>da (hu pins s2 σ H2 _ I2 q2) fun vu s3 ⟨u,H3,I3,pu,q3⟩=>?_);rw [evalPart_none];refine wpAny_pure ?_;have I4:Inv X pins σ H3 {s3 with heap:=s3.heap.push {cls:=.type "slice", data:=.fields #[vl,vu,.none]}}:=I3.kept (t':=s3.toks) fun b ob q=>Heap.get?_push_of_some _ q;obtain⟨T,id,hT,ht,hg⟩:=hr pins {s3 with heap:=s3.heap.push {cls:=.type "slice", data:=.fields #[vl,vu,.none]}} σ H3 x v vl vu l u s3.heap.objs.size Q I4 r1 (Heap.IsSliceOf.new ..) pl pu q3;show wpAny (model X.prog X.w) X.A (subscriptTail e (.Slice lo hi none p2) v (.ref s3.heap.objs.size)) (EP X pins σ Q) X.xe {s3 with heap:=s3.heap.push {cls:=.type "slice", data:=.fields #[vl,vu,.none]}};exact tail_any (ops:=[.ref s3.heap.objs.size,v]) ht hT hg (by with_unfolding_all rfl)
def zC(xs:List V)(lo hi:Option Int):List V:=(xs.drop (HT.fV xs.length 0 lo)).take (HT.fV xs.length xs.length hi-HT.fV xs.length 0 lo)
theorem sA(xs:List V)(lo hi:Option Int):(zC xs lo hi).length<=xs.length:=by
 unfold zC;rw [length_take,length_drop];exact le_trans (Nat.min_le_right _ _) (Nat.sub_le _ _)
def SR(K:PySem.W.Frag):V->Option Int->Option Int->Hp->VK->Prop:=fun x lo hi H Q=>∃a xs,x=.ref a/\uy K H a xs /\
 ¬(HT.fV xs.length 0 lo=0/\HT.fV xs.length xs.length hi=xs.length)/\∀p,H p=none->Q (.ref p) (upd H p (.tup (zC xs lo hi)))
theorem MN:Lx X (SR X.K):=by
 intro pins s σ H x v vl vu lo hi sl Q I rx hs pl pu h;obtain⟨a,xs,rfl,hx,hw,q⟩:=h
 cases rx
 obtain⟨bh,r,ht,hz⟩:=I.tuple hx;have hlen:bh.toArray.size=xs.length:=by rw [size_toArray];exact r.length.symm
 refine⟨"tuple", _,PyProof.Rows.slot_tuple_getitem.lookup,ht.typeIs,?_⟩;refine HT.pX ht hs pl pu (by rw [hlen];exact hw) ?_ (by rw [hlen];exact hz);rw [hlen];refine⟨.ref s.heap.objs.size,_,I.laid (t':=s.toks) (o:=.tup (zC xs lo hi)) (fun b ob q=>Heap.get?_push_of_some _ q) (le_refl _) ?_,rfl,q _ (I.cR.fresh (le_refl _))⟩;exact⟨le_trans (sA xs lo hi) hz,_,(r.drop (HT.fV xs.length 0 lo)).take (HT.fV xs.length xs.length hi-HT.fV xs.length 0 lo),IsTup.new _ _⟩
def O8(K:PySem.W.Frag):R2:=fun x y H Q=>∃a b xs ys,x=.ref a/\y=.ref b/\uy K H a xs/\uy K H b ys/\xs≠[]/\xs.length+ys.length<=sizeLine /\
 (ys=[]->Q (.ref a) H)/\(ys≠[]->∀p,H p=none->Q (.ref p) (upd H p (.tup (xs++ys))))
theorem Vals.x8{xs:List V}{us:List Value}(r:Vals xs us):us=[]↔xs=[]:=by
 cases r with
 |nil=>simp
 |cons _ _=>simp
theorem JG:iU X (binaryOp .Add) (O8 X.K):=by
 intro pins s σ H x y v u Q I rx ry h;obtain⟨a,b,xs,ys,rfl,rfl,ha,hb,hx,hz,q1,q2⟩:=h
 cases rx
 cases ry
 obtain⟨bh,r1,p1,_⟩:=I.tuple ha;obtain⟨FR,r2,p2,_⟩:=I.tuple hb;refine HT.JC p1 p2 (fun z=>hx (r1.x8.mp z)) (fun z=>⟨.ref a,H,I,rfl,q1 (r2.x8.mp z)⟩) (fun z=>?_) (by rw [<-r1.length,<-r2.length];exact hz);refine⟨.ref s.heap.objs.size,_,I.laid (t':=s.toks) (o:=.tup (xs++ys)) (fun b ob q=>Heap.get?_push_of_some _ q) (le_refl _) ?_,rfl,q2 (fun w=>z (r2.x8.mpr w)) _ (I.cR.fresh (le_refl _))⟩;exact⟨by rw [length_append];exact hz,_,r1.append r2,IsTup.new _ _⟩
end
def BA(n:Nat)(i:Int):Option Nat:=if 0<=i then(if i<n then some i.toNat else none)else if -(n:Int)<=i then some (i+n).toNat else none
def lN{α:Type}(xs:List α)(i:Int):Option α:=(BA xs.length i).bind fun j=>xs[j]?
theorem CU{n:Nat}{i:Int}{j:Nat}(h:BA n i=some j):seqIndex? i n=some j/\j<n/\-(n:Int)<=i/\i<n:=by
 unfold BA at h;by_cases h0:0<=i
 ·rw [if_pos h0]at h;by_cases h1:i<n
  ·rw [if_pos h1]at h;have e:i.toNat=j:=Option.some.inj h;exact⟨by rw [seqIndex_of h0 h1,e],by omega,by omega,h1⟩
  ·rw [if_neg h1]at h;cases h
 ·rw [if_neg h0]at h;by_cases h1:-(n:Int)<=i
  ·rw [if_pos h1]at h;have e:(i+n).toNat=j:=Option.some.inj h;exact⟨by rw [seqIndex_neg (by omega) h1,e],by omega,h1,by omega⟩
  ·rw [if_neg h1]at h;cases h
theorem x9{α:Type}{xs:List α}{i:Int}{v:α}(h:lN xs i=some v):∃j,seqIndex? i xs.length=some j/\xs[j]?=some v/\j<xs.length/\-(xs.length:Int)<=i/\i<xs.length:=by
 unfold lN at h
 cases e:BA xs.length i with
 |none=>rw [e]at h;cases h
 |some j =>
  rw [e]at h;obtain⟨h1,h2,h3,h4⟩:=CU e;exact⟨j,h1,h,h2,h3,h4⟩
theorem kK{α:Type}{xs:List α}{j:Nat}{v:α}(h:xs[j]?=some v):lN xs (j:Int)=some v:=by
 have hj:j<xs.length:=(List.getElem?_eq_some_iff.mp h).1;have e:BA xs.length (j:Int)=some j:=by
  unfold BA;rw [if_pos (by omega),if_pos (by omega)];simp
 unfold lN;rw [e];exact h
def tZ(b:Expr):Prop:=∀o i,subscripted b false o i=operate [o,i] (getItem o i)
def A4(X:Cx)(r:R2):Prop :=
 ∀(value slice:Expr)(pins:List (Addr×Obj))(s:Shared)(σ:St)(H:Hp)(x y:V)(v u:Value)(Q:VK),Inv X pins σ H s->RelV x v->RelV y u->r x y H Q ->
  subscripted slice false v u=operate [v,u] (getItem v u)->wpAny (model X.prog X.w) X.A (subscriptTail value slice v u) (EP X pins σ Q) X.xe s
def Fh(X:Cx)(id:String)(r:V->List V->Hp->VK->Prop):Prop :=
 ∀(pins:List (Addr×Obj))(s:Shared)(σ:St)(H:Hp)(x:V)(xs:List V)(v:Value)(us:List Value)(Q:VK),Inv X pins σ H s->RelV x v->Vals xs us->r x xs H Q ->
  wpAny (model X.prog X.w) X.A (call (.builtin id) (v::us)) (EP X pins σ Q) X.xe s
section
variable {X:Cx}{a b:Expr}{ta tb:TE}{pos:Pos}
theorem A4.or{r r':R2}(h:A4 X r)(h':A4 X r'):A4 X (fun x y H Q=>r x y H Q\/r' x y H Q):=by
 intro value slice pins s σ H x y v u Q I rx ry q hs;rcases q with q|q
 ·exact h value slice pins s σ H x y v u Q I rx ry q hs
 ·exact h' value slice pins s σ H x y v u Q I rx ry q hs
theorem Fh.or{id:String}{r r':V->List V->Hp->VK->Prop}(h:Fh X id r)(h':Fh X id r'):Fh X id (fun x xs H Q=>r x xs H Q\/r' x xs H Q):=by
 intro pins s σ H x xs v us Q I rx rs q;rcases q with q|q
 ·exact h pins s σ H x xs v us Q I rx rs q
 ·exact h' pins s σ H x xs v us Q I rx rs q
theorem FT{r:R2}(hr:A4 X r)(ha:PE X a ta)(hb:PE X b tb)(hs:tZ b):PE X (.Subscript a b pos) (OP r ta tb):=by
 intro pins s σ H Q I h;exact Subscript_ (Mw ha hb I h fun v u s2 x y H2 I2 rx ry q=>hr a b pins s2 σ H2 x y v u Q I2 rx ry q (hs _ _))
def SS(K:PySem.W.Frag):R2:=fun x y H Q=>∃p xs i v,x=.ref p/\y=.int i/\lM K H p xs/\lN xs i=some v/\Q v H
def SU(K:PySem.W.Frag):R2:=fun x y H Q=>∃p xs i v,x=.ref p/\y=.int i/\uy K H p xs/\lN xs i=some v/\Q v H
def SV:R2:=fun x y H Q=>∃z i c,x=.str z/\y=.int i/\z.length<=sizeLine/\lN z.cps.toList i=some c/\Q (.str ⟨#[c]⟩) H
theorem JH:A4 X (SS X.K):=by
 intro value slice pins s σ H x y v u Q I rx ry h hs;obtain⟨p,xs,i,z,rfl,rfl,hq,he,q⟩:=h
 cases rx
 obtain⟨t,rfl⟩:=ry;obtain⟨bh,r,pl,hz⟩:=I.list hq;obtain⟨j,h1,h2,h3,h4,h5⟩:=x9 he;obtain⟨w,ew,SW⟩:=r.get h2;have hl:=r.length;have hn:=rh;have fin:EP X pins σ Q w s:=⟨z,H,I,SW,q⟩;by_cases h0:0<=i
 ·have hj:i.toNat=j:=by
   rw [seqIndex_of h0 h5]at h1;exact Option.some.inj h1
  exact item_listR pl.isList h0 (by omega) (by rw [hj];simpa using ew) fin hs
 ·have hj:(i+(bh.toArray.size:Int)).toNat=j:=by
   rw [seqIndex_neg (by omega) h4]at h1;rw [size_toArray,<-hl];exact Option.some.inj h1
  exact subscriptTail_builtinR (x:=w) pl.isList.typeIs slot_list_getitem.lookup
   (wpAny_getItem_list_neg (Q:=fun r s'=>r=w/\EP X pins σ Q r s') pl.isList (by omega) (by rw [size_toArray]<;>omega) (by omega) (by rw [hj];simpa using ew) ⟨rfl,fin⟩) hs
theorem MP:A4 X (SU X.K):=by
 intro value slice pins s σ H x y v u Q I rx ry h hs;obtain⟨p,xs,i,z,rfl,rfl,hq,he,q⟩:=h
 cases rx
 obtain⟨t,rfl⟩:=ry;obtain⟨bh,r,pl,hz⟩:=I.tuple hq;obtain⟨j,h1,h2,h3,h4,h5⟩:=x9 he;obtain⟨w,ew,SW⟩:=r.get h2;have hl:=r.length;have hn:=rh;have fin:EP X pins σ Q w s:=⟨z,H,I,SW,q⟩;exact subscriptTail_builtinR (x:=w) pl.typeIs slot_tuple_getitem.lookup
  (getItem_tuple (j:=j) (Q:=fun r s'=>r=w/\EP X pins σ Q r s') pl (by omega) (by omega) (by rw [size_toArray,<-hl];exact h1) (by simpa using ew) ⟨rfl,fin⟩) hs
theorem MQ:A4 X SV:=by
 intro value slice pins s σ H x y v u Q I rx ry h hs;obtain⟨z,i,c,rfl,rfl,hz,he,q⟩:=h;obtain⟨t,rfl⟩:=rx;obtain⟨t',rfl⟩:=ry;obtain⟨j,h1,h2,h3,h4,h5⟩:=x9 he;have hl:z.cps.toList.length=z.length:=by simp [Str.length]
 rw [hl]at h1 h4 h5;have hn:=rh;exact tail_any (typeIs_str s z t) slot_str_getitem.lookup (getItem_str (c:=c) (by
  have e1:decide (i < -(2 ^ 63:Int))=false:=decide_eq_false (by omega);have e2:decide (i≥2 ^ 63)=false:=decide_eq_false (by omega);rw [e1,e2,Bool.or_false]) (by rw [h1];simpa using h2) ⟨.str ⟨#[c]⟩,H,I.tok _,⟨_,rfl⟩,q⟩) hs
theorem BB(bh:List Value)(n j:Nat)(u:Value):Obj.mapSeq (·.setIfInBounds j u) {cls:=.type "list", data:=.seq bh.toArray n}={cls:=.type "list", data:=.seq (bh.set j u).toArray n}:=by
 simp [Obj.mapSeq]
theorem Inv.lst{pins:List (Addr×Obj)}{σ:St}{H:Hp}{s:Shared}{p:Addr}{xs:List V}(I:Inv X pins σ H s)(h:H p=some (.lst xs)):
  ∃(bh:List Value) (n:Nat),Vals xs bh/\s.heap.get? p=some {cls:=.type "list", data:=.seq bh.toArray n}/\xs.length<=sizeLine:=by
 obtain⟨z,bh,n,r,e⟩:=I.cR p _ h;exact⟨bh,n,r,e,z⟩
theorem Inv.MR{pins:List (Addr×Obj)}{σ:St}{H:Hp}{s:Shared}{p:Addr}{xs ys:List V}{bh its':List Value}{n n':Nat}{f:Obj->Obj}(I:Inv X pins σ H s)(h:H p=some (.lst xs))
  (ho:s.heap.get? p=some {cls:=.type "list", data:=.seq bh.toArray n}) (hf:f {cls:=.type "list", data:=.seq bh.toArray n}={cls:=.type "list", data:=.seq its'.toArray n'}) (r:Vals ys its') (hz:ys.length<=sizeLine) (t:Nat) :
  Inv X pins σ (upd H p (.lst ys)) {s with heap:=s.heap.update p f,toks:=t}:=by
 have e:(s.heap.update p f).get? p=some {cls:=.type "list", data:=.seq its'.toArray n'}:=by
  rw [Heap.get?_update_self f ho (by rw [hf]<;>rfl),hf]
 refine I.write (x:=p) (e:=p) (by rw [h];trivial) (.inl rfl) (fun b u hb q=>(Heap.get?_update_other _ _ (Ne.symm hb)).trans q) ⟨_,e⟩ ?_;exact⟨hz,its',n',r,e⟩
def O9:V->V->V->Hp->(Hp->Prop)->Prop:=fun o i v H Q=>∃p xs k j,o=.ref p/\i=.int k/\H p=some (.lst xs)/\BA xs.length k=some j/\Q (upd H p (.lst (xs.set j v)))
theorem set_list:OJ X O9:=by
 intro pins s σ H o i v ov iv u Q I ro ri rv h;obtain⟨p,xs,k,j,rfl,rfl,hp,hj,q⟩:=h
 cases ro
 obtain⟨t,rfl⟩:=ri;obtain⟨bh,n,r,ho,hz⟩:=I.lst hp;obtain⟨h1,h2,h3,h4⟩:=CU hj;have hl:=r.length;have hn:=rh;have I':Inv X pins σ (upd H p (.lst (xs.set j v))) {s with heap:=s.heap.update p (Obj.mapSeq (·.setIfInBounds j u))} :=
  I.MR hp ho (BB bh n j u) (r.set rv j) (by rw [length_set];exact hz) s.toks
 by_cases h0:0<=k
 ·have hk:k.toNat=j:=by
   rw [seqIndex_of h0 h4]at h1;exact Option.some.inj h1
  exact PySem.W.ki_setAt ho h0 (by omega) (by rw [size_toArray,<-hl];exact h4) (by rw [hk];exact⟨_,I',q⟩)
 ·have hk:(k+(bh.toArray.size:Int)).toNat=j:=by
   rw [seqIndex_neg (by omega) h3]at h1;rw [size_toArray,<-hl];exact Option.some.inj h1
  exact PySem.W.ki_setBack ho (by omega) (by rw [size_toArray,<-hl];exact h3) (by omega) (by rw [hk];exact⟨_,I',q⟩)
theorem uE(i:Int)(n d:Nat):(sliceBounds (some i) none none n).1=((HT.fV n d (some i):Nat):Int):=by
 simp only [sliceBounds,HT.fV,Option.getD_none,show(1:Int)>0 by decide,if_true];by_cases h:i<0
 ·simp only [h,if_true];rw [Int.min_eq_left (by have:=Int.add_le_add_right (Int.le_of_lt h) (n:Int);rwa [Int.zero_add]at this),Int.max_comm,Int.ofNat_toNat]
 ·simp only [h,if_false];obtain⟨k,rfl⟩:=eq_ofNat_of_zero_le (Int.not_lt.mp h);rw [Int.toNat_natCast];rcases Nat.le_total k n with e|e
  ·rw [Int.min_eq_left (Int.ofNat_le.mpr e),Nat.min_eq_left e,Int.max_eq_right (Int.natCast_nonneg _)]
  ·rw [Int.min_eq_right (Int.ofNat_le.mpr e),Nat.min_eq_right e,Int.max_eq_right (Int.natCast_nonneg _)]
theorem ya(lo hi:Option Int)(n:Nat):(sliceBounds lo hi none n).1=((HT.fV n 0 lo:Nat):Int)/\(sliceBounds lo hi none n).2.1=((HT.fV n n hi:Nat):Int)/\(sliceBounds lo hi none n).2.2=1:=by
 refine⟨?_,?_,rfl⟩
 ·cases lo with
  |none=>rfl
  |some i=>exact uE i n 0
 ·cases hi with
  |none=>rfl
  |some i=>exact uE i n n
theorem wz(bh:List Value)(lo hi:Option Int):slicePick bh.toArray lo hi none=((bh.drop (HT.fV bh.length 0 lo)).take (HT.fV bh.length bh.length hi-HT.fV bh.length 0 lo)).toArray:=by
 obtain⟨h1,h2,h3⟩:=ya lo hi bh.toArray.size;unfold slicePick;rw [h1,h2,h3];simp only [sliceRange_one,pick_run,size_toArray]<;>rfl
def SX(K:PySem.W.Frag):V->Option Int->Option Int->Hp->VK->Prop:=fun x lo hi H Q=>∃a xs,x=.ref a/\lM K H a xs/\∀p,H p=none->Q (.ref p) (upd H p (.lst (zC xs lo hi)))
theorem JI:Lx X (SX X.K):=by
 intro pins s σ H x v vl vu lo hi sl Q I rx hs pl pu h;obtain⟨a,xs,rfl,hx,q⟩:=h
 cases rx
 obtain⟨bh,r,ht,hz⟩:=I.list hx;have hlen:=r.length;refine⟨"list", _,slot_list_getitem.lookup,ht.isList.typeIs,?_⟩;refine wpAny_getItem_list_slice ht.isList hs pl pu .none (by simp) ?_ (by rw [size_toArray]<;>omega);rw [wz,<-hlen];refine⟨.ref s.heap.objs.size,_,I.laid (t':=s.toks) (o:=.lst (zC xs lo hi)) (fun b ob q=>Heap.get?_push_of_some _ q) (le_refl _) ?_,rfl,q _ (I.cR.fresh (le_refl _))⟩;exact⟨le_trans (sA xs lo hi) hz,_,0,(r.drop (HT.fV xs.length 0 lo)).take (HT.fV xs.length xs.length hi-HT.fV xs.length 0 lo),Heap.get?_push_size _ rfl⟩
def pY:V->Bool
 |.cQ=>true
 |.bl _=>true
 |.int _=>true
 |.str _=>true
 |_=>false
def Ly:V->V->Bool
 |.cQ,.cQ=>true
 |.bl a,.bl b=>a==b
 |.bl a,.int b=>(if a then 1 else 0)==b
 |.int a,.bl b=>a==(if b then 1 else 0)
 |.int a,.int b=>a==b
 |.str a,.str b=>a==b
 |_,_=>false
theorem MU{A:Around}{s:Shared}{y x:V}{u v:Value}(ry:RelV y u)(rx:RelV x v)(fy:pY y=true)(fx:pY x=true):SeqAt.EqAt A s u v (Ly y x):=by
 cases y with
 |cQ =>
  cases ry
  cases x with
  |cQ=>cases rx;exact SeqAt.EqAt.same _
  |bl b=>cases rx;exact SeqAt.EqAt.none_bool b
  |int b=>obtain⟨t,rfl⟩:=rx;exact SeqAt.EqAt.none_int b t
  |str b=>obtain⟨t,rfl⟩:=rx;exact SeqAt.EqAt.none_str b t
  |_=>exact absurd (show false=true from fx) Bool.false_ne_true
 |bl a =>
  cases ry
  cases x with
  |cQ=>cases rx;exact SeqAt.EqAt.bool_none a
  |bl b=>cases rx;exact SeqAt.EqAt.bool_bool a b
  |int b=>obtain⟨t,rfl⟩:=rx;exact SeqAt.EqAt.bool_int a b t
  |str b=>obtain⟨t,rfl⟩:=rx;exact SeqAt.EqAt.bool_str a b t
  |_=>exact absurd (show false=true from fx) Bool.false_ne_true
 |int a =>
  obtain⟨t',rfl⟩:=ry
  cases x with
  |cQ=>cases rx;exact SeqAt.EqAt.int_none a t'
  |bl b=>cases rx;exact SeqAt.EqAt.int_bool a t' b
  |int b=>obtain⟨t,rfl⟩:=rx;exact SeqAt.EqAt.int_int a t' b t
  |str b=>obtain⟨t,rfl⟩:=rx;exact SeqAt.EqAt.int_str a t' b t
  |_=>exact absurd (show false=true from fx) Bool.false_ne_true
 |str a =>
  obtain⟨t',rfl⟩:=ry
  cases x with
  |cQ=>cases rx;exact SeqAt.EqAt.str_none a t'
  |bl b=>cases rx;exact SeqAt.EqAt.str_bool a t' b
  |int b=>obtain⟨t,rfl⟩:=rx;exact SeqAt.EqAt.str_int a t' b t
  |str b=>obtain⟨t,rfl⟩:=rx;exact SeqAt.EqAt.str_str a t' b t
  |_=>exact absurd (show false=true from fx) Bool.false_ne_true
 |_=>exact absurd (show false=true from fy) Bool.false_ne_true
def BD(x:V)(u:Value):Bool:=match u with
 |.none=>Ly .cQ x
 |.bool b=>Ly (.bl b) x
 |.int i _=>Ly (.int i) x
 |.str z _=>Ly (.str z) x
 |_=>false
theorem FU{x y:V}{u:Value}(r:RelV y u)(f:pY y=true):BD x u=Ly y x:=by
 cases y with
 |cQ=>cases r;rfl
 |bl b=>cases r;rfl
 |int i=>obtain⟨t,rfl⟩:=r;rfl
 |str z=>obtain⟨t,rfl⟩:=r;rfl
 |_=>exact absurd (show false=true from f) Bool.false_ne_true
theorem pZ{x:V}:∀{xs:List V}{us:List Value},Vals xs us->xs.all pY=true->us.any (BD x)=xs.any fun y=>Ly y x
 |_,_,.nil,_=>rfl
 |y::xs,u::us,.cons r t,f=>by
  rw [all_cons,and_eq_true]at f;rw [any_cons,any_cons,FU r f.1,pZ t f.2]
theorem mx{A:Around}{s:Shared}{x:V}{v:Value}(rx:RelV x v)(fx:pY x=true):∀{xs:List V}{us:List Value},Vals xs us->xs.all pY=true->∀u∈us,SeqAt.EqAt A s u v (BD x u)
 |_,_,.nil,_=>fun u hu=>by cases hu
 |y::xs,u::us,.cons r t,f=>fun u' hu=>by
  rw [all_cons,and_eq_true]at f;rcases mem_cons.mp hu with rfl|hu
  ·rw [FU r f.1];exact MU r rx f.1 fx
  ·exact mx rx fx t f.2 u' hu
def Rm(x:V)(xs:List V):Bool:=xs.any fun y=>Ly y x
def SY(K:PySem.W.Frag)(neg:Bool):R2:=fun x y H Q=>∃p xs,y=.ref p/\(lM K H p xs\/uy K H p xs)/\pY x=true/\xs.all pY=true/\Q (.bl (if neg then !Rm x xs else Rm x xs)) H
theorem D4:iU X (compareOp .In) (SY X.K false):=by
 intro pins s σ H x y v u Q I rx ry h;obtain⟨p,xs,rfl,hq,fx,fs,q⟩:=h
 cases ry
 rcases hq with hq|hq
 ·obtain⟨bh,r,pl,hz⟩:=I.list hq;refine SeqAt.in_listAt (BD x) pl.isList (fun w hw=>mx rx fx r fs w (by simpa using hw)) ⟨.bl _,H,I,rfl,?_⟩;rw [show bh.toArray.any (BD x)=bh.any (BD x) by simp,pZ r fs];exact q
 ·obtain⟨bh,r,pl,hz⟩:=I.tuple hq;refine SeqAt.in_tupleAt (BD x) pl (fun w hw=>mx rx fx r fs w (by simpa using hw)) ⟨.bl _,H,I,rfl,?_⟩;rw [show bh.toArray.any (BD x)=bh.any (BD x) by simp,pZ r fs];exact q
theorem yb:iU X (compareOp .NotIn) (SY X.K true):=by
 intro pins s σ H x y v u Q I rx ry h;obtain⟨p,xs,rfl,hq,fx,fs,q⟩:=h
 cases ry
 rcases hq with hq|hq
 ·obtain⟨bh,r,pl,hz⟩:=I.list hq;refine SeqAt.notIn_listAt (BD x) pl.isList (fun w hw=>mx rx fx r fs w (by simpa using hw)) ⟨.bl _,H,I,rfl,?_⟩;rw [show bh.toArray.any (BD x)=bh.any (BD x) by simp,pZ r fs];exact q
 ·obtain⟨bh,r,pl,hz⟩:=I.tuple hq;refine SeqAt.notIn_tupleAt (BD x) pl (fun w hw=>mx rx fx r fs w (by simpa using hw)) ⟨.bl _,H,I,rfl,?_⟩;rw [show bh.toArray.any (BD x)=bh.any (BD x) by simp,pZ r fs];exact q
theorem yc:fF X (.builtin "len") (fun xs H Q=>∃p ys,xs=[.ref p]/\(lM X.K H p ys\/uy X.K H p ys)/\Q (.int ys.length) H):=by
 intro pins s σ H xs us Q I r h;obtain⟨p,ys,rfl,hq,q⟩:=h;obtain⟨u,rfl,rx⟩:=vals1 r
 cases rx
 have hn:=rh;rcases hq with hq|hq
 ·obtain⟨bh,r',pl,hz⟩:=I.list hq;have hlen:=r'.length;exact Calls.call_len_list pl.isList (by simp only [size_toArray]<;>omega) ⟨.int ys.length,H,I.tok _,⟨s.toks+1,by rw [size_toArray,hlen]⟩,q⟩
 ·obtain⟨bh,r',pl,hz⟩:=I.tuple hq;have hlen:=r'.length;exact len_tuple pl (by simp only [size_toArray]<;>omega) ⟨.int ys.length,H,I.tok _,⟨s.toks+1,by rw [size_toArray,hlen]⟩,q⟩
theorem yd:fF X (.builtin "len") (fun xs H Q=>∃z,xs=[.str z]/\z.length<=sizeLine/\Q (.int z.length) H):=by
 intro pins s σ H xs us Q I r h;obtain⟨z,rfl,hz,q⟩:=h;obtain⟨u,rfl,t,rfl⟩:=vals1 r;have hn:=rh;exact len_str (by omega) ⟨.int z.length,H,I.tok _,⟨_,rfl⟩,q⟩
theorem fF.or{f:Value}{r r':List V->Hp->VK->Prop}(h:fF X f r)(h':fF X f r'):fF X f (fun xs H Q=>r xs H Q\/r' xs H Q):=by
 intro pins s σ H xs us Q I rs q;rcases q with q|q
 ·exact h pins s σ H xs us Q I rs q
 ·exact h' pins s σ H xs us Q I rs q
theorem ye:fF X (.type "list") (fun xs H Q=>∃p ys,xs=[.ref p]/\(lM X.K H p ys\/uy X.K H p ys)/\∀l,H l=none->Q (.ref l) (upd H l (.lst ys))):=by
 intro pins s σ H xs us Q I r h;obtain⟨p,ys,rfl,hq,q⟩:=h;obtain⟨u,rfl,rx⟩:=vals1 r
 cases rx
 have fin:∀(bh:List Value),Vals ys bh->ys.length<=sizeLine->∀(h':Heap)(c':Nat),(∀b o',s.heap.get? b=some o'->h'.get? b=some o') ->
   h'.get? s.heap.objs.size=some {cls:=.type "list", dict:=none,data:=.seq bh.toArray c',slots:=#[]}->EP X pins σ Q (.ref s.heap.objs.size) {s with heap:=h'}:=fun bh r' hz h' c' kp e =>
  ⟨.ref s.heap.objs.size,_,I.laid (t':=s.toks) kp (le_refl _) (show gp X.prog X.w _ h' _ (.lst ys) from⟨hz,bh,c',r',e⟩),rfl,q _ (I.cR.fresh (le_refl _))⟩
 rcases hq with hq|hq
 ·obtain⟨bh,r',pl,hz⟩:=I.list hq;have hlen:=r'.length;obtain⟨o,ho,hc,n,hd⟩:=pl.isList;exact call_list_seq p (.inl rfl) ho hc hd (fun h' c' kp e=>fin bh r' hz h' c' kp e) (by simp only [size_toArray]<;>omega)
 ·obtain⟨bh,r',pl,hz⟩:=I.tuple hq;have hlen:=r'.length;obtain⟨o,ho,hc,n,hd⟩:=pl;exact call_list_seq p (.inr rfl) ho hc hd (fun h' c' kp e=>fin bh r' hz h' c' kp e) (by simp only [size_toArray]<;>omega)
theorem wA:fF X (.type "tuple") (fun xs H Q=>∃p ys,xs=[.ref p]/\((lM X.K H p ys/\∀l,H l=none->Q (.ref l) (upd H l (.tup ys)))\/(uy X.K H p ys/\Q (.ref p) H))):=by
 intro pins s σ H xs us Q I r h;obtain⟨p,ys,rfl,h⟩:=h;obtain⟨u,rfl,rx⟩:=vals1 r
 cases rx
 rcases h with⟨hq,q⟩|⟨hq,q⟩
 ·obtain⟨bh,r',pl,hz⟩:=I.list hq;have hlen:=r'.length;refine call_tuple_list pl.isList (fun h' kp=>?_) (by simp only [size_toArray]<;>omega);have I1:Inv X pins σ H {s with heap:=h'}:=I.kept (t':=s.toks) kp;have I2:Inv X pins σ (upd H h'.objs.size (.tup ys)) {s with heap:=h'.push {cls:=.type "tuple", data:=.seq bh.toArray}} :=
   I1.laid (t':=s.toks) (fun b o e=>Heap.get?_push_of_some _ e) (le_refl _) (show gp X.prog X.w _ _ _ (.tup ys) from⟨hz,bh,r',IsTup.new _ _⟩)
  exact⟨.ref h'.objs.size,_,I2,rfl,q _ (I1.cR.fresh (le_refl _))⟩
 ·obtain⟨bh,r',pl,hz⟩:=I.tuple hq;exact call_tuple_same pl ⟨.ref p,H,I,rfl,q⟩
def S9(K:PySem.W.Frag)(T:String)(x:V)(H:Hp):Prop:=match x with
 |.str _=>T = "str"
 |.int _=>T = "int"
 |.ref p=>(T = "list" /\ ∃xs,lM K H p xs)\/(T = "tuple" /\ ∃o,K.lookup p=some o/\o.cls=.type "tuple" /\ o.dict=none) \/
   (T = "dict" /\ ((∃bp,H p=some (.dK bp))\/∃bp,H p=some (.dT bp)))\/(T = "set" /\ ∃S n,H p=some (.set S n))
 |_=>False
theorem FV{pins:List (Addr×Obj)}{σ:St}{H:Hp}{s:Shared}{T:String}{x:V}{v:Value}(I:Inv X pins σ H s)(r:RelV x v)(ty:S9 X.K T x H):
  s.TypeIs v T/\∀a,v=.ref a->∃ob,s.heap.get? a=some ob/\ob.dict=none:=by
 cases x with
 |str z =>
  obtain⟨t,rfl⟩:=r
  cases(show T = "str" from ty)
  exact⟨typeIs_str s z t,fun _ e=>nomatch e⟩
 |int i =>
  obtain⟨t,rfl⟩:=r
  cases(show T = "int" from ty)
  exact⟨typeIs_int s i t,fun _ e=>nomatch e⟩
 |ref p =>
  cases r
  rcases ty with⟨rfl,xs,hq⟩|⟨rfl,o,hk,hc,hd⟩|⟨rfl,hk⟩|⟨rfl,S,n,hk⟩
  ·obtain⟨bh,_,pl,_⟩:=I.list hq;refine⟨pl.isList.typeIs,fun a e=>?_⟩
   cases e
   obtain⟨o,n,e,c,hd,_⟩:=pl;exact⟨o,e,hd⟩
  ·refine⟨⟨o,I.wo p o hk,hc⟩,fun a e=>?_⟩
   cases e
   exact⟨o,I.wo _ o hk,hd⟩
  ·have z:∃o,s.heap.get? p=some o/\o.ExactDict:=by
    rcases hk with⟨bp,hk⟩|⟨bp,hk⟩
    ·obtain⟨_,_,_,_,o,_,_,e,ex,_⟩:=I.cR p _ hk;exact⟨o,e,ex⟩
    ·obtain⟨_,_,_,_,o,_,_,e,ex,_⟩:=I.cR p _ hk;exact⟨o,e,ex⟩
   obtain⟨o,e,ex⟩:=z;refine⟨⟨o,e,ex.1⟩,fun a e2=>?_⟩
   cases e2
   exact⟨o,e,ex.2.1⟩
  ·obtain⟨o,_,_,_,e,ex,_⟩:=I.cR p _ hk;refine⟨⟨o,e,ex.1⟩,fun a e2=>?_⟩
   cases e2
   exact⟨o,e,ex.2.1⟩
 |_=>exact False.elim ty
def Ta(K:PySem.W.Frag)(T:String)(r:V->List V->Hp->VK->Prop)(to:TE):TE:=fun σ H Q=>to σ H fun x H1=>S9 K T x H1/\r x [] H1 Q
def tBM(K:PySem.W.Frag)(T:String)(r:V->List V->Hp->VK->Prop)(to:TE)(t:TA):TE:=fun σ H Q=>to σ H fun x H1=>S9 K T x H1/\t σ H1 fun xs H2=>r x xs H2 Q
variable {o e:Expr}{es:List Expr}{to:TE}{t:TA}{name:Str}{apos bQ:Pos}{T id:String}{r:V->List V->Hp->VK->Prop}
theorem MV(pa:PlainAttrs T)(slot:Slot T name id)(CV:typeOf (.builtin id)=pure (.type "method_descriptor"))(hm:Fh X id r)(ho:PE X o to)
  (gu:attributeBase o name X.env (eval o X.env)=eval o X.env:=by rfl) (ir:(apos.endLine==bQ.line)=true:=by rfl):PE X (.Call (.Attribute o name apos) [] [] bQ) (Ta X.K T r to):=by
 intro pins s σ H Q I h;refine wpAny_Call_method0_late gu ir (da (ho pins s σ H _ I h) fun v s1 ⟨x,H1,I1,r1,ty,q1⟩=>?_);obtain⟨h1,h2⟩:=FV I1 r1 ty;exact⟨T,id,pa,slot,CV,h1,h2,Calls.callWith_builtin rfl (PySem.evalArgs_none (hm pins s1 σ H1 x [] v [] Q I1 r1 .nil q1))⟩
theorem w6(pa:PlainAttrs T)(slot:Slot T name id)(CV:typeOf (.builtin id)=pure (.type "method_descriptor"))(hm:Fh X id r)(ho:PE X o to)(ha:PA X (e::es) t)
  (gu:attributeBase o name X.env (eval o X.env)=eval o X.env:=by rfl)
  (rq:((backTo bQ (starEach (e::es) X.env)).all (fun x=>!x.1)&&(backToKw bQ (keywordEach [] X.env)).all (fun x=>x.1.isSome)
   && decide ((e::es).length+([]:List Keyword).length+(if([]:List Keyword).isEmpty then 0 else 1)<30))=true:=by rfl)
  (ir:(apos.endLine==bQ.line)=true:=by rfl) (hs:starEach (e::es) X.env=(false,eval e X.env)::starEach es X.env:=by rfl) (gX:(backTo bQ (starEach es X.env)).any (·.1)=false:=by rfl) :
  PE X (.Call (.Attribute o name apos) (e::es) [] bQ) (tBM X.K T r to t):=by
 intro pins s σ H Q I h;refine wpAny_Call_method_late gu rq ir rfl (da (ho pins s σ H _ I h) fun v s1 ⟨x,H1,I1,r1,ty,q1⟩=>?_);obtain⟨h1,h2⟩:=FV I1 r1 ty;refine⟨T,id,pa,slot,CV,h1,h2,?_⟩;have hA:=ha bQ pins s1 σ H1 _ I1 q1;rw [hs]at hA ⊢;refine Calls.callWith_builtin (by show(false||(backTo bQ (starEach es X.env)).any (·.1))=false;rw [gX]<;>rfl) (Calls.evalArgs_plain ?_);exact da hA fun us s2 ⟨vs,H2,I2,r2,q2⟩=>hm pins s2 σ H2 x vs v us Q I2 r1 r2 q2
/- xs.append(e),list.index on a FW tuple .. are Fh facts of 06m -/
end
def Tb(X:Cx)(id:String)(r:V->List V->Hp->VK->Prop):Prop :=
 ∀(pins:List (Addr×Obj))(s:Shared)(σ:St)(H:Hp)(x:V)(xs:List V)(v:Value)(us:List Value)(Q:VK),Inv X pins σ H s->RelV x v->Vals xs us->r x xs H Q ->
  wpAny (model X.prog X.w) X.A (call (.builtin id) (v::us)) (EP X pins σ Q) X.xe s
theorem Paired.Tc{α β:Type}{F:α->β->Prop}{l:List β}(h:Paired F [] l):l=[]:=by cases h;rfl
theorem Paired.Pa{α β:Type}{F:α->β->Prop}{a:α}{m:List α}{l:List β}(h:Paired F (a::m) l):∃b n,l=b::n/\F a b/\Paired F m n:=by cases h with|cons r t=>exact⟨_,_,rfl,r,t⟩
theorem Vals.one{x:V}{us:List Value}(h:Vals [x] us):∃u,us=[u]/\RelV x u:=by
 obtain⟨b,n,rfl,r,t⟩:=Paired.Pa h;exact⟨b,by rw [Paired.Tc t],r⟩
theorem Vals.two:∀{x y:V}{us:List Value},Vals [x,y] us->∃u v,us=[u,v]/\RelV x u/\RelV y v
 |_,_,_,.cons r (.cons q .nil)=>⟨_,_,rfl,r,q⟩
theorem Vals.zero:∀{us:List Value},Vals [] us->us=[]
 |_,.nil=>rfl
theorem Vals.dropLast{xs:List V}{us:List Value}(h:Vals xs us):Vals xs.dropLast us.dropLast:=by
 induction h with
 |nil=>exact .nil
 |cons r t ih =>
  cases t with
  |nil=>exact .nil
  |cons q t'=>exact .cons r ih
theorem Vals.eraseIdx:∀{xs:List V}{us:List Value}(i:Nat),Vals xs us->Vals (xs.eraseIdx i) (us.eraseIdx i)
 |_,_,_,.nil=>.nil
 |_,_,0,.cons _ t=>t
 |_,_,i+1,.cons r t=>.cons r (Vals.eraseIdx i t)
theorem Vals.reverse{xs:List V}{us:List Value}(h:Vals xs us):Vals xs.reverse us.reverse:=by
 induction h with
 |nil=>exact .nil
 |cons r t ih=>rw [reverse_cons,reverse_cons];exact Vals.append ih (.cons r .nil)
theorem BE{α:Type}(l:List α):l.eraseIdx (l.length-1)=l.dropLast:=by
 induction l with
 |nil=>rfl
 |cons a r ih =>
  cases r with
  |nil=>rfl
  |cons b r =>
   have e:(a::b::r).length-1=((b::r).length-1)+1:=by
    have h1:(a::b::r).length=r.length+2:=rfl;have h2:(b::r).length=r.length+1:=rfl;omega
   rw [e,List.eraseIdx_cons_succ,ih]
   all_goals rfl
section
variable {X:Cx}{pins:List (Addr×Obj)}{σ:St}{H:Hp}{s:Shared}{l b:Addr}{xs ys zs:List V}
theorem Inv.MW{bh its':List Value}{n:Nat}{f:Array Value->Array Value}{t':Nat}(I:Inv X pins σ H s)(hH:H l=some (.lst xs))
  (e:s.heap.get? l=some {cls:=.type "list", data:=.seq bh.toArray n}) (hf:f bh.toArray=its'.toArray) (hv:Vals ys its') (hz:ys.length<=sizeLine) :
  Inv X pins σ (upd H l (.lst ys)) {s with heap:=s.heap.update l (Obj.mapSeq f),toks:=t'}:=by
 have q:=PySem.IsL.update e f;rw [hf]at q;refine I.write (x:=l) (e:=l) (by rw [hH];exact trivial) (.inl rfl) (fun b' u hb hu=>(Heap.get?_update_other s.heap (Obj.mapSeq f) (Ne.symm hb)).trans hu) ⟨_,q⟩ ?_;exact⟨hz,its',_,hv,q⟩
theorem Inv.Pb{bh:List Value}{t':Nat}(I:Inv X pins σ H s)(hv:Vals ys bh)(hz:ys.length<=sizeLine):
  Inv X pins σ (upd H s.heap.objs.size (.lst ys)) {s with heap:=s.heap.push {cls:=.type "list", data:=.seq bh.toArray},toks:=t'} :=
 I.laid (fun _ _ q=>Heap.get?_push_of_some _ q) (le_refl _) ⟨hz,bh,0,hv,Heap.get?_push_size _ rfl⟩
theorem Inv.fresh(I:Inv X pins σ H s):H s.heap.objs.size=none:=I.cR.fresh (le_refl _)
theorem Inv.JJ(I:Inv X pins σ H s)(hH:H l=some (.lst xs)):xs.length<=sizeLine/\∃(bh:List Value) (n:Nat),Vals xs bh/\xs.length=bh.length/\s.heap.get? l=some {cls:=.type "list", data:=.seq bh.toArray n}:=by
 obtain⟨z,bh,n,r,e⟩:=I.cR l _ hH;exact⟨z,bh,n,r,r.length,e⟩
theorem FX{n:Nat}(h:n<=sizeLine):Builtin.List.listTooLong n=false:=by
 unfold Builtin.List.listTooLong;exact decide_eq_false (by omega)
end
section
variable {X:Cx}
def JK:V->List V->Hp->VK->Prop:=fun x vs H Q=>∃l xs y,x=.ref l/\vs=[y]/\H l=some (.lst xs)/\xs.length<sizeLine/\Q .cQ (upd H l (.lst (xs++[y])))
theorem kg:Tb X "list.append" JK:=by
 intro pins s σ H x vs v us Q I rx rv h;obtain⟨l,xs,y,rfl,rfl,hH,hz,q⟩:=h
 cases rx
 obtain⟨u,rfl,ru⟩:=rv.one;obtain⟨z,bh,n,r,hl,e⟩:=I.JJ hH;refine call_meets F.slot_list_append ⟨_,e,rfl⟩ F.entry_list_append (F.args_list_append_2 _ _) (PySem.list_append l bh.toArray n u (by rw [size_toArray];omega)) ⟨e,?_⟩;refine⟨.cQ,_,I.MW (its':=bh++[u]) hH e (by simp) (r.append (.cons ru .nil)) ?_,rfl,q⟩;rw [length_append,List.length_singleton];omega
def JL:V->List V->Hp->VK->Prop:=fun x vs H Q=>∃l b xs zs,x=.ref l/\vs=[.ref b]/\H l=some (.lst xs)/\H b=some (.lst zs)/\xs.length+zs.length<=sizeLine/\Q .cQ (upd H l (.lst (xs++zs)))
theorem D5:Tb X "list.extend" JL:=by
 intro pins s σ H x vs v us Q I rx rv h;obtain⟨l,b,xs,zs,rfl,rfl,hH,hB,hz,q⟩:=h
 cases rx
 obtain⟨u,rfl,ru⟩:=rv.one
 cases ru
 obtain⟨z,bh,n,r,hl,e⟩:=I.JJ hH;obtain⟨z2,FR,n2,r2,D6,e2⟩:=I.JJ hB;have zh:bh.toArray.size+FR.toArray.size<=sizeLine:=by rw [size_toArray,size_toArray];omega
 have Pc:¬(!bh.toArray.isEmpty&&Builtin.List.listTooLong (bh.toArray.size+FR.toArray.size))=true:=by
  rw [FX zh,Bool.and_false];exact Bool.false_ne_true
 refine call_meets F.slot_list_extend ⟨_,e,rfl⟩ F.entry_list_extend (F.args_list_extend_2 _ _)
  (AutoSeq1.list_extend_list_list_0 l bh.toArray n b FR.toArray n2 Pc (by rw [size_toArray];omega) (by omega)) ⟨e,e2,?_⟩
 refine⟨.cQ,_,I.MW (its':=bh++FR) hH e (by simp) (r.append r2) ?_,rfl,q⟩;rw [length_append];omega
def Td:V->List V->Hp->VK->Prop:=fun x vs H Q=>∃l xs y,x=.ref l/\vs=[]/\H l=some (.lst xs)/\xs[xs.length-1]?=some y/\Q y (upd H l (.lst xs.dropLast))
theorem MY:Tb X "list.pop" Td:=by
 intro pins s σ H x vs v us Q I rx rv h;obtain⟨l,xs,y,rfl,rfl,hH,hy,q⟩:=h
 cases rx
 have hus:=rv.zero;subst hus;obtain⟨z,bh,n,r,hl,e⟩:=I.JJ hH;obtain⟨u,hu,ru⟩:=r.get hy;have hy':bh.toArray[bh.toArray.size-1]?=some u:=by
  show bh.toArray[bh.length-1]?=some u;rw [<-getElem?_toList,<-hl];exact hu
 refine call_meets F.slot_list_pop ⟨_,e,rfl⟩ F.entry_list_pop (F.args_list_pop_1 _) (MeetsSeq.list_pop_last l bh.toArray n u hy' (by rw [size_toArray];omega)) ⟨e,?_⟩;refine⟨y,_,I.MW (its':=bh.dropLast) hH e ?_ r.dropLast ?_,ru,q⟩
 ·show bh.toArray.eraseIdxIfInBounds (bh.toArray.size-1)=bh.dropLast.toArray;rw [size_toArray,List.eraseIdxIfInBounds_toArray,BE]
 ·rw [List.length_dropLast];omega
end
section
variable {prog:Program}{w:World}{A:Around}{E:Value->Shared->Prop}{s:Shared}
set_option maxRecDepth 100000 in
end
section
variable {X:Cx}
end
section
variable {κ:Type}[DecidableEq κ]
def p4(bp:List (κ×V))(k:κ):Option V:=(bp.find? fun kv=>decide (kv.1=k)).map (·.2)
def putK(bp:List (κ×V))(k:κ)(v:V):List (κ×V) :=
 if(bp.any fun kv=>decide (kv.1=k))=true then bp.map (fun kv=>if kv.1=k then(kv.1,v)else kv)else bp++[(k,v)]
def Lz(bp:List (κ×V))(k:κ):List (κ×V):=bp.filter fun kv=>decide (kv.1≠k)
theorem uF{p:κ×V}{r:List (κ×V)}{k:κ}(e:p.1=k):p4 (p::r) k=some p.2:=by simp [p4,find?_cons,e]
theorem uG{p:κ×V}{r:List (κ×V)}{k:κ}(e:¬p.1=k):p4 (p::r) k=p4 r k:=by simp [p4,find?_cons,e]
theorem zD(k:κ):∀bp:List (κ×V),(bp.any fun kv=>decide (kv.1=k))=(p4 bp k).isSome
 |[]=>rfl
 |p::r=>by
  rw [any_cons];by_cases e:p.1=k
  ·simp only [uF e,decide_eq_true e,Bool.true_or,Option.isSome_some]
  ·rw [uG e,decide_eq_false e,Bool.false_or];exact zD k r
theorem mn.w8{o:Option V}{u:Option Value}(r:mn o u):o.isSome=u.isSome:=by
 cases o with
 |none=>cases u with
  |none=>rfl
  |some _=>exact(show False from r).elim
 |some _=>cases u with
  |none=>exact(show False from r).elim
  |some _=>rfl
theorem mn.getD{o:Option V}{u:Option Value}{d:V}{d':Value}(r:mn o u)(rd:RelV d d'):RelV (o.getD d) (u.getD d'):=by
 cases o with
 |none=>cases u with
  |none=>exact rd
  |some _=>exact(show False from r).elim
 |some _=>cases u with
  |none=>exact(show False from r).elim
  |some _=>exact r
theorem KV.val{bp:List (κ×V)}{vs:List (κ×Value)}(r:KV bp vs)(k:κ):mn (p4 bp k) (valueAt vs k):=by
 unfold KV at r
 induction r with
 |nil=>exact True.intro
 |@cons p q ps qs h t ih =>
  obtain⟨h1,h2⟩:=h;by_cases e:p.1=k
  ·have e':q.1=k:=h1.symm.trans e;have b:valueAt (q::qs) k=some q.2:=by simp [valueAt,find?_cons,e']
   rw [uF e,b];exact h2
  ·have e':¬q.1=k:=fun z=>e (h1.trans z);have b:valueAt (q::qs) k=valueAt qs k:=by simp [valueAt,find?_cons,e']
   rw [uG e,b];exact ih
theorem KV.any{bp:List (κ×V)}{vs:List (κ×Value)}(r:KV bp vs)(k:κ):(bp.any fun kv=>decide (kv.1=k))=vs.any fun kv=>decide (kv.1=k):=by
 unfold KV at r
 induction r with
 |nil=>rfl
 |cons h t ih=>rw [any_cons,any_cons,ih,h.1]
theorem KV.MZ{bp:List (κ×V)}{vs:List (κ×Value)}(r:KV bp vs)(k:κ){y:V}{u:Value}(ry:RelV y u):
  KV (bp.map fun kv=>if kv.1=k then(kv.1,y)else kv) (vs.map fun kv=>if kv.1=k then(kv.1,u)else kv):=by
 unfold KV at r ⊢
 induction r with
 |nil=>exact .nil
 |@cons p q ps qs h t ih =>
  rw [map_cons,map_cons];refine .cons ?_ ih;obtain⟨h1,h2⟩:=h;by_cases e:p.1=k
  ·rw [if_pos e,if_pos (h1.symm.trans e)];exact⟨h1,ry⟩
  ·rw [if_neg e,if_neg (fun z=>e (h1.trans z))];exact⟨h1,h2⟩
theorem KV.put{bp:List (κ×V)}{vs:List (κ×Value)}(r:KV bp vs)(k:κ){y:V}{u:Value}(ry:RelV y u):KV (putK bp k y) (stored vs k u):=by
 unfold putK stored;rw [r.any k];by_cases e:(vs.any fun kv=>decide (kv.1=k))=true
 ·rw [if_pos e,if_pos e];exact r.MZ k ry
 ·rw [if_neg e,if_neg e];exact Paired.snoc r ⟨rfl,ry⟩
theorem KV.drop{bp:List (κ×V)}{vs:List (κ×Value)}(r:KV bp vs)(k:κ):KV (Lz bp k) (without vs k):=by
 unfold KV at r ⊢;unfold Lz without
 induction r with
 |nil=>exact .nil
 |@cons p q ps qs h t ih =>
  obtain⟨h1,h2⟩:=h;rw [List.filter_cons,List.filter_cons];by_cases e:p.1=k
  ·have a:¬decide (p.1≠k)=true:=by simp [e]
   have b:¬decide (q.1≠k)=true:=by simp [h1.symm.trans e]
   rw [if_neg a,if_neg b];exact ih
  ·have e':¬q.1=k:=fun z=>e (h1.trans z);have a:decide (p.1≠k)=true:=by simp [e]
   have b:decide (q.1≠k)=true:=by simp [e']
   rw [if_pos a,if_pos b];exact .cons ⟨h1,h2⟩ ih
theorem KV.keys{bp:List (κ×V)}{vs:List (κ×Value)}(r:KV bp vs):bp.map (·.1)=vs.map (·.1):=by
 unfold KV at r
 induction r with
 |nil=>rfl
 |cons h t ih=>rw [map_cons,map_cons,ih,h.1]
theorem KV.length{bp:List (κ×V)}{vs:List (κ×Value)}(r:KV bp vs):bp.length=vs.length:=Paired.length r
end
theorem LA{P:Program}{w:World}{k:Key}{u:Value}(r:RelV (kV k) u):(gm P w).is k u=true:=by
 cases k with
 |inl i=>obtain⟨t,e⟩:=(show ∃t,u=Value.int i t from r);subst e;exact zk P w i t
 |inr x=>obtain⟨t,e⟩:=(show ∃t,u=Value.str x t from r);subst e;exact sv P w x t
abbrev KT(H:Hp):List (List Key×V)->List (List Key×Addr×Value)->Prop:=Paired fun p q=>p.1=q.1/\H q.2.1=some (.tup (p.1.map kV))/\RelV p.2 q.2.2
theorem KT.val{H:Hp}{bp:List (List Key×V)}{xs:List (List Key×Addr×Value)}(r:KT H bp xs)(k:List Key):mn (p4 bp k) ((atKey xs k).map (·.2)):=by
 induction r with
 |nil=>exact True.intro
 |@cons p q ps qs h t ih =>
  obtain⟨h1,_,h2⟩:=h;by_cases e:p.1=k
  ·have e':q.1=k:=h1.symm.trans e;have b:atKey (q::qs) k=some q.2:=by simp [atKey,find?_cons,e']
   rw [uF e,b];exact h2
  ·have e':¬q.1=k:=fun z=>e (h1.trans z);have b:atKey (q::qs) k=atKey qs k:=by simp [atKey,find?_cons,e']
   rw [uG e,b];exact ih
theorem KT.MZ{H:Hp}{bp:List (List Key×V)}{xs:List (List Key×Addr×Value)}(r:KT H bp xs)(k:List Key){y:V}{u:Value}(ry:RelV y u):
  KT H (bp.map fun kv=>if kv.1=k then(kv.1,y)else kv) (xs.map (putAt k u)):=by
 induction r with
 |nil=>exact .nil
 |@cons p q ps qs h t ih =>
  rw [map_cons,map_cons];refine .cons ?_ ih;obtain⟨h1,h2,h3⟩:=h;unfold putAt;by_cases e:p.1=k
  ·rw [if_pos e,if_pos (h1.symm.trans e)];exact⟨h1,h2,ry⟩
  ·rw [if_neg e,if_neg (fun z=>e (h1.trans z))];exact⟨h1,h2,h3⟩
theorem KT.put{H:Hp}{bp:List (List Key×V)}{xs:List (List Key×Addr×Value)}(r:KT H bp xs)(k:List Key){b:Addr}{y:V}{u:Value}(hb:H b=some (.tup (k.map kV)))(ry:RelV y u):
  KT H (putK bp k y) (storedH xs k b u):=by
 have e:(bp.any fun kv=>decide (kv.1=k))=(atKey xs k).isSome:=by
  rw [zD,(r.val k).w8,isSome_map]
 unfold putK storedH;rw [e];by_cases q:(atKey xs k).isSome=true
 ·rw [if_pos q,if_pos q];exact r.MZ k ry
 ·rw [if_neg q,if_neg q];exact Paired.snoc r ⟨rfl,hb,ry⟩
theorem KT.keeps{H H':Hp}{bp:List (List Key×V)}{xs:List (List Key×Addr×Value)}(r:KT H bp xs)(ht:∀b ys,H b=some (.tup ys)->H' b=some (.tup ys)):KT H' bp xs :=
 Paired.Mf r fun _ _ z=>⟨z.1,ht _ _ z.2.1,z.2.2⟩
section
variable {P:Program}{w:World}{H:Hp}{h:Heap}{a:Addr}
theorem Pd{u:HO}(ok:mm P w H h)(e:Rd H a u):gp P w H h a u:=e.ok ok
theorem Pe{bp:List (Key×V)}(ok:mm P w H h)(e:Rd H a (.dK bp)):bp.length<=sizeLine/\(a==sysModules)=false/\∃vs,KV bp vs/\h.DictOf (gm P w) a vs :=
 show gp P w H h a (.dK bp) from Pd ok e
end
def JM(H:Hp)(a:Addr)(y:V)(r:Option V):Prop :=
 (∃bp k,Rd H a (.dK bp)/\y=kV k/\r=p4 bp k)\/∃bp k b,Rd H a (.dT bp)/\y=.ref b/\H b=some (.tup (k.map kV))/\r=p4 bp k
def JN(H:Hp)(a:Addr)(y v:V)(H':Hp):Prop :=
 (∃bp k,H a=some (.dK bp)/\y=kV k/\bp.length<sizeLine/\H'=upd H a (.dK (putK bp k v))) \/
 ∃bp k b,H a=some (.dT bp)/\y=.ref b/\H b=some (.tup (k.map kV))/\bp.length<sizeLine/\H'=upd H a (.dT (putK bp k v))
theorem JM.k{H:Hp}{a:Addr}{bp:List (Key×V)}{k:Key}(e:H a=some (.dK bp)):JM H a (kV k) (p4 bp k):=.inl ⟨bp,k,.inl e,rfl,rfl⟩
theorem JM.t{H:Hp}{a b:Addr}{bp:List (List Key×V)}{k:List Key}(e:H a=some (.dT bp))(eb:H b=some (.tup (k.map kV))):JM H a (.ref b) (p4 bp k):=.inr ⟨bp,k,b,.inl e,rfl,eb,rfl⟩
theorem JN.k{H:Hp}{a:Addr}{bp:List (Key×V)}{k:Key}{v:V}(e:H a=some (.dK bp))(hl:bp.length<sizeLine):JN H a (kV k) v (upd H a (.dK (putK bp k v))):=.inl ⟨bp,k,e,rfl,hl,rfl⟩
theorem JN.t{H:Hp}{a b:Addr}{bp:List (List Key×V)}{k:List Key}{v:V}(e:H a=some (.dT bp))(eb:H b=some (.tup (k.map kV)))(hl:bp.length<sizeLine):
  JN H a (.ref b) v (upd H a (.dT (putK bp k v))):=.inr ⟨bp,k,b,e,rfl,eb,hl,rfl⟩
section
variable {X:Cx}{pins:List (Addr×Obj)}{σ:St}{H:Hp}{s:Shared}{a:Addr}{y v:V}{u r:Value}{o:Option V}{A:Around}{E:Value->Shared->Prop}
theorem Inv.big(I:Inv X pins σ H s):sysModules<s.heap.objs.size:=by
 have h:mainGlobals<s.heap.objs.size:=(I.mod.glob.keeps I.bk).lt;exact Nat.lt_trans (by decide) h
end
section
variable {X:Cx}{pins:List (Addr×Obj)}{σ:St}{H:Hp}{s:Shared}{a:Addr}{bp:List (Key×V)}{k:Key}{u:Value}{A:Around}{E:Value->Shared->Prop}
theorem Pf{Q:Value->Shared->Prop}(I:Inv X pins σ H s)(e:Rd H a (.dK bp))(h:∀t s',Inv X pins σ H s'->Q (.int bp.length t) s'):wpAny (model X.prog X.w) A (call (.builtin "len") [.ref a]) Q E s:=by
 obtain⟨z,hd,vs,rel,dd⟩:=Pe I.cR e;refine call_len_dict hd dd (by rw [<-rel.length];rw [sizeLine_eq]at z;omega) ?_;rw [<-rel.length];exact h _ _ (I.tok _)
end
def Pg(i:Expr):Prop:=∀ov iv,subscripted i false ov iv=operate [ov,iv] (getItem ov iv)
theorem JO{prog:Program}{w:World}{A:Around}{E:Value->Shared->Prop}{s:Shared}{env:Env}{value slice:Expr}{pos:Pos}{T id:String}{Q:Value->Shared->Prop}
  (hl:typeLookup (.type T) "__getitem__" = pure (some (.builtin id))) (hs:Pg slice)
  (h:wpAny (model prog w) A (eval value env) (fun o s₁=>wpAny (model prog w) A (eval slice env) (fun i s₂=>s₂.TypeIs o T/\wpAny (model prog w) A (getItem o i) Q E s₂) E s₁) E s) :
  wpAny (model prog w) A (eval (.Subscript value slice pos) env) Q E s:=by
 refine Subscript_ (wpAny_mono h (fun o s₁ h₁=>wpAny_mono h₁ (fun i s₂ h₂=>?_) fun _ _ x=>x) fun _ _ x=>x);obtain⟨hT,h₂⟩:=h₂;unfold subscriptTail;refine wpAny_bind ?_;rw [getitemInPython_of_ne hT.not_modules];refine wpAny_bind (wpAny_specialOf hT hl ?_);have fin:wpAny (model prog w) A (subscripted slice false o i) (fun r s₃=>wpAny (model prog w) A (letTemporaryGo value o r >>= fun _=>pure r) Q E s₃) E s₂:=by
  rw [hs o i];exact wpAny_operating (wpAny_mono h₂ (fun r s₃ h₃=>wpAny_bind (wpAny_letTemporaryGo (wpAny_pure h₃))) fun _ _ x=>x)
 first
  |exact wpAny_pure (wpAny_bind fin)
  |exact wpAny_bind (wpAny_pure (wpAny_bind fin))
  |exact wpAny_bind fin
section
variable {X:Cx}{o i e value:Expr}{pos pos' Jz:Pos}{td ty tv:TE}
end
section
variable {X:Cx}{pos:Pos}
end
section
variable {X:Cx}{pins:List (Addr×Obj)}{σ:St}{H:Hp}{s:Shared}{a:Addr}{y d:V}{u r:Value}{o:Option V}{A:Around}{E:Value->Shared->Prop}
end
section
variable {X:Cx}{o e f:Expr}{apos bQ:Pos}{td ty tx:TE}
end
section
variable {X:Cx}{pins:List (Addr×Obj)}{σ:St}{H:Hp}{s:Shared}{a:Addr}{bp:List (Key×V)}{A:Around}{E:Value->Shared->Prop}
end
section
variable {X:Cx}{pins:List (Addr×Obj)}{σ:St}{H:Hp}{s:Shared}{a:Addr}{y:V}{u:Value}{A:Around}{E:Value->Shared->Prop}
end
end L2
namespace Ys
open PySem PySem.W PySem.Calls PyProof.Rows
theorem tI{P:Params}{h:Heap}:∀(ns:List Int)(vs:List Value),WellAll P h vs (ns.map WData.int)->IntsAre vs ns:=by
 intro ns
 induction ns with
 |nil =>
  intro vs w;rw [map_nil]at w
  cases w
  exact .nil
 |cons n ns ih =>
  intro vs w;rw [map_cons]at w
  cases w with
  |cons a b =>
   cases a
   exact .cons _ _ (ih _ b)
theorem D7{l:OpenLaw}{n:Nat}(hn:l.most=some n){P:Params}{h:Heap}{args:List WData}{vals:List Value}
  (D8:l.row.toRowW.claim.pre args=true) (D9:WellAll P h vals args) :
  ∃a vs ns,vals=[Value.ref a]/\args=[WData.list (ns.map WData.int)]/\h.get? a=some {cls:=.type "list", data:=.seq vs.toArray}/\IntsAre vs ns/\ns.length<=n:=by
 have hsh:WShape.hasAll [] args [.list .int]=true:=(pre_splitW D8).1;have hc:l.pre.holds [] {args:=args}=true:=(pre_splitW D8).2;obtain⟨d,r,rfl,h1,h2⟩:=hasAllW_cons hsh;obtain rfl:=hasAllW_nil h2;obtain⟨xs,rfl,h3⟩:=hasW_list h1;obtain⟨ns,rfl⟩:=items_int h3;have hlen:ns.length<=n:=by
  unfold OpenLaw.pre at hc;have h4:(WTm.not (.lt (.lit (.int (n:Int))) (.len (.arg 0)))).holds [] {args:=[.list (ns.map .int)]}=true:=by
   have h4:=(holds_andW hc).1;rw [hn]at h4;exact h4
  have h5:=condW_of h4 (w_not (w_lt w_lit (w_len_list (w_arg rfl))));rw [length_map]at h5;refine le_of_not_lt fun q=>?_;have q':(n:Int)<((ns.length:Nat):Int):=by omega
  first
   |(rw [decide_eq_true q']at h5;exact absurd h5 (by decide))
   |(simp at h5;omega)
 cases D9 with
 |cons w1 w2 =>
  cases w2
  cases w1 with
  |list ho M0=>exact⟨_,_,ns,rfl,rfl,ho,tI ns _ M0,hlen⟩
theorem Ea(l:OpenLaw)(args:List WData):l.row.toRowW.claim.post args (.bool true) args=true :=
 postW_of (r:=l.row.toRowW) (X:=(true==true))
  (show WShape.has [] (.bool true) .bool=true by first|rfl|decide|simp [WShape.has,WShape.arms,WShape.armsAll])
  (show(WTm.eq .res (.lit (.bool true))).value [] {args:=args,res:=some (.bool true),after:=args}=some (.bool (true==true)) from w_eq_bool (w_res rfl) w_lit) rfl
theorem zE{l:OpenLaw}{n:Nat}{q:Program}{loose:List Str}{XP:(Str->Option Value)->Heap->Prop}{YP:World->Heap->Prop}{d:DefRec}
  (hn:l.most=some n) (M1:d.params.defaults=[])
  (call:∀(w:World)(s₀ s₁:Shared)(mg mb:Str->Option Value)(fa:Addr)(o:Obj)(pm cd doc:Value)(a:Addr)(vs:List Value)(ns:List Int),
   Ground q loose [] XP w s₀ mg mb s₁.heap->YP w s₁.heap ->
   s₁.heap.get? fa=some o->o.data=.func (docDef d.name d.params d.body d.scope pm cd doc)->s₁.heap.CodeRec cd d.name->mg d.name=some (.ref fa) ->
   s₁.heap.get? a=some {cls:=.type "list", data:=.seq vs.toArray}->IntsAre vs ns->ns.length<=n->s₁.gens=#[] ->
   codeAny (model l.prog w) callerA (.call (.ref fa) ⟨[.ref a],[]⟩) (fun r s'=>r=.ok (.ret (.bool true))/\OldK s₁.heap s'.heap/\s'.os=s₁.os/\AllBare s'.gens) s₁) :
  WalkO q loose XP YP l.row.toRowW d [] (fun f vs=>PySem.call f vs):=by
 intro w s₀ s₁ mg mb G Y fa o pm cd doc dV kV ho hd zo hD FY hg args vals as D8 Ph Yt D9 Yu;obtain rfl:dV=.none:=Dflts.none hD M1;obtain rfl:kV=.none:=Dflts.noKw hD;obtain⟨a,vs,ns,rfl,rfl,M3,hints,hlen⟩:=D7 hn D8 D9;refine enter_call (codeAny_mono (call w s₀ s₁ mg mb fa o pm cd doc a vs ns G Y ho (fd_plain hd) zo FY M3 hints hlen hg) fun r s' hq=>?_);obtain⟨rfl,h2,h3,h4⟩:=hq;exact⟨.inl ⟨.bool true,.bool true,[],rfl,fun _=>rfl,.bool true,Ea l _,fun _=>⟨List.Pairwise.nil,fun _ hm=>(nomatch hm)⟩⟩,h2,h3,h4⟩
section
variable {prog:Program}{w:World}{A:Around}{E:Value->Shared->Prop}{s:Shared}{K:Frag}
def ledger(h:Heap)(L d:Addr):List (Addr×Obj):=(List.range h.objs.size).filterMap fun a=>if a=L\/a=d then none else(h.get? a).map fun o=>(a,o)
end
end Ys
namespace L2
open PySem PySem.Spec PyProof.Rows
theorem w9:∀{vs:List Value}{ns:List Int},IntsAre vs ns->Vals (ns.map V.int) vs
 |_,_,.nil=>.nil
 |_,_,.cons n t h=>.cons ⟨t,rfl⟩ (w9 h)
def M4(H:Hp):Prop:=∀b,H b=none\/∃o xs,H b=some (.Fp o (.lst xs))
theorem FZ{P:Program}{w:World}{K:PySem.W.Frag}{mg mb:Str->Option Value}{CX:wq}{k:Nat}{fa a:Addr}{fd:FuncData}{x:Str}{sp:Sp}{s₁:Shared}{vs:List Value}{ns:List Int}
  (KX:K.In s₁.heap) (Yv:s₁.heap.Ns mainGlobals mg) (hb:s₁.heap.Ns builtinsNs mb) (hbb:∀x:Str,x ≠ "__name__" -> mb x=bootBuiltins x) (Te:s₁.heap.NoLimit) (hg:s₁.gens=#[])
  (ha:s₁.heap.get? a=some {cls:=.type "list", data:=.seq vs.toArray}) (hi:IntsAre vs ns) (hl:ns.length<=sizeLine) (hr:dP k callerA)
  (F:∀base:Heap,K.In base->base.Ns mainGlobals mg->bc P w K mg base CX k fa fd [x] sp) (Pj:∀(s:Shared)(u:Value),BindsTo s fd ⟨[u],[]⟩ [(x,u)])
  (zz:∀H:Hp,M4 H->lM K H a (ns.map V.int)->sp [.ref a] H (fun v _=>v=.bl true) fun _ _ _=>False)
  (Tf:∀H e s',CX [] H s₁ (fun _ _ _=>False) e s'->False) :
  codeAny (model P w) callerA (.call (.ref fa) ⟨[.ref a],[]⟩) (fun r s'=>r=.ok (.ret (.bool true))/\OldK s₁.heap s'.heap/\s'.os=s₁.os/\AllBare s'.gens) s₁:=by
 have rv:=w9 hi;have Tg:=hi.length
 -- from an abstract heap in Yw nothing but Fg script may be tracked
 have core:∀H:Hp,M4 H->lM K H a (ns.map V.int)->mm P w H s₁.heap->(∀b,H b≠none->b=a)->(H a≠none->K.lookup a=none) ->
   codeAny (model P w) callerA (.call (.ref fa) ⟨[.ref a],[]⟩) (fun r s'=>r=.ok (.ret (.bool true))/\OldK s₁.heap s'.heap/\s'.os=s₁.os/\AllBare s'.gens) s₁:=by
  intro H hO hS cR hA hK;have CW:∀{b:Addr}{o:Obj},s₁.heap.get? b=some o->H b=none->(xT s₁.heap H).get? b=some o:=fun e n=>Fq e n;have O6:∀{b:Addr}{o:Obj}{es:Array DictEntry}{ep:Nat},s₁.heap.get? b=some o->o.data=.dict es ep->H b=none:=fun{b o es ep} e d=>by
   cases q:H b with
   |none=>rfl
   |some u =>
    have e':b=a:=hA b (by rw [q];simp);subst e';rw [ha]at e;cases e
    have d':Data.seq vs.toArray _=Data.dict es ep:=d
    cases d'
  have Rn:∀{b:Addr}{m:Str->Option Value},s₁.heap.Ns b m->(xT s₁.heap H).Ns b m:=fun{b m} ⟨o,es,ep,e,d,r⟩=>⟨o,es,ep,CW e (O6 e d),d,r⟩;have Yx:K.In (xT s₁.heap H):=fun b o e=>CW (KX b o e) (by
   cases q:H b with
   |none=>rfl
   |some u =>
    have e':b=a:=hA b (by rw [q];simp);subst e';rw [hK (by rw [q];simp)]at e;cases e)
  have hM:Mod K mg (xT s₁.heap H):=⟨Yx,Rn Yv,⟨mb,Rn hb,hbb⟩,let⟨mc,h1,h2⟩:=Te;⟨mc,Rn h1,h2⟩⟩;have e0:rk P w K mg (xT s₁.heap H) callerA [] s₁ H:=⟨rfl,hM,fun b o e=>Jc e,Nat.le_of_eq (DT _ _),trivial,fun b hb=>absurd (show b∈([]:List Addr) from hb) (by simp),cR,.of_eq hg⟩;refine codeAny_mono ((F _ Yx (Rn Yv)).run callerA [] s₁ H ⟨[.ref a],[]⟩ [.ref a] [.ref a] _ _ hr e0 (Pj s₁ (.ref a)) (.cons rfl .nil) (zz H hO hS)) fun r s' h=>?_
  cases r with
  |error e=>exact(Tf H e s' h).elim
  |ok fl =>
   cases fl with
   |next=>exact False.elim h
   |brk=>exact False.elim h
   |cont=>exact False.elim h
   |ret u =>
    obtain⟨v,H',os,bare,un,Th,r',q⟩:=h;have q':v=.bl true:=q;subst q';obtain rfl:u=Value.bool true:=r';refine⟨rfl,OldK.of_keep fun b o e=>?_,os,bare⟩
    cases q:H b with
    |none=>exact un.keep b o e q (by intro z;exact absurd (show b∈([]:List Addr) from z) (by simp)) (by simp)
    |some u =>
     rcases hO b with z|⟨ob,xs,z⟩
     ·rw [q]at z;cases z
     ·have z2:=un.jE b ob _ z;obtain⟨e1,_⟩:=cR b _ z;obtain⟨e2,_⟩:=Th b _ z2;rw [e]at e1;cases e1
      exact e2
 cases hk:K.lookup a with
 |some o =>
  -- Fg script is one of Fg FW own objects
  have e:=KX a o hk;rw [ha]at e
  cases e
  refine core (fun _=>none) (fun _=>.inl rfl) (.inr ⟨_,vs.toArray,_,hk,rfl,rfl,rfl,by rw [size_toArray,Tg];exact hl,by simpa using rv⟩) (fun b u z=>by have z':(none:Option HO)=some u:=z;cases z') (fun b z=>absurd rfl z) fun z=>absurd rfl z
 |none =>
  refine core (fun b=>if b=a then some (.Fp {cls:=.type "list", data:=.seq vs.toArray} (.lst (ns.map V.int)))else none) (fun b=>?_) (.inl (.inr ⟨{cls:=.type "list", data:=.seq vs.toArray},if_pos rfl⟩)) (fun b u z=>?_) (fun b z=>?_) fun _=>hk
  ·by_cases hb:b=a
   ·exact .inr ⟨_,_,if_pos hb⟩
   ·exact .inl (if_neg hb)
  ·by_cases hb:b=a
   ·have z':=(if_pos hb).symm.trans z
    cases z'
    subst hb;exact⟨ha,by rw [length_map];exact hl,vs,_,rv,ha⟩
   ·have z':=(if_neg hb).symm.trans z
    cases z'
  ·by_cases hb:b=a
   ·exact hb
   ·exact absurd (if_neg hb) z
abbrev Yy{K:PySem.W.Frag}{h:Heap}(_:K.In h):PySem.W.Frag:=K
theorem CY{l:PySem.W.OpenLaw}{n k:Nat}{q:Program}{loose:List Str}{XP:(Str->Option Value)->Heap->Prop}{YP:World->Heap->Prop}{d:DefRec}{K:Params->PySem.W.Frag}{CX:World->wq}{sp:World->Sp}{x:Str}
  (hn:l.most=some n) (FG:n<=sizeLine) (M1:d.params.defaults=[]) (hr:dP k callerA)
  (hY:∀(w:World)(h:Heap),YP w h->(K w.params).In h)
  (F:∀(w:World)(mg:Str->Option Value)(fa:Addr)(h:Heap),(K w.params).In h->h.Ns mainGlobals mg->mg d.name=some (.ref fa) ->
   ∃fd:FuncData,(∀(s:Shared)(u:Value),BindsTo s fd ⟨[u],[]⟩ [(x,u)]) /\
    ∀base:Heap,(K w.params).In base->base.Ns mainGlobals mg->bc l.prog w (K w.params) mg base (CX w) k fa fd [x] (sp w))
  (zz:∀(w:World)(H:Hp)(a:Addr)(ns:List Int),ns.length<=n->M4 H->lM (K w.params) H a (ns.map V.int)->sp w [.ref a] H (fun v _=>v=.bl true) fun _ _ _=>False)
  (Tf:∀(w:World)(H:Hp)(s:Shared)(e:Value)(s':Shared),CX w [] H s (fun _ _ _=>False) e s'->False) :
  PySem.W.WalkO q loose XP YP l.row.toRowW d [] (fun f vs=>PySem.call f vs):=by
 refine Ys.zE hn M1 fun w s₀ s₁ mg mb fa o pm cd doc a vs ns G Y ho hd zo FY M3 hints hlen hg=>?_;have KX:=hY w _ Y;obtain⟨fd,hb,hF⟩:=F w mg fa _ KX G.T.g FY;exact FZ KX G.T.g G.T.b G.T.builtins G.T.nolimit hg M3 hints (le_trans hlen FG) hr hF hb (fun H hO hS=>zz w H a ns hlen hO hS) fun H e s'=>Tf w H s₁ e s'
end L2
/- THE ac6 Ro (shape;LID,My.* are Yz):
  My.Adr: a structure of Fg addresses ac7 ac8 YA names (classes,Oo);My.Txt K t: a structure Prop of Fg equations over K;
  My.M5:{K} {implicit addresses ..} (e1:nsIn K mainGlobals "law" = some (some (.ref f))) (e2:K.lookup f=some ⟨oc,od,.func (fnOf "law" "law" params body scope dV kV doc pm an cW ct),sl⟩) (e3:codeIn K cW "law" = true) ..:∃t,My.Txt K t
set_option maxRecDepth 100000 in
set_option maxHeartbeats 0 in
theorem PySem.Challenge.cw_LID_holds : PySem.Challenge.rw_LID.Holds := by
 w_on;o_law;k_head;(case hw=>w_witness2)
 k_fill
 refine L2.CY (l:=PySem.Challenge.rw_LID) (n:=63) (k:=40) (x := "script") (CX:=fun w=>..) (sp:=fun _=>My.Ti) rfl (by decide) rfl ⟨rfl,by decide,by decide⟩ (fun w h Y=>kIn_of Y) ?F ?S ?C
 case F =>
  intro w mg fa h KX G FY;have T:∃t,My.Txt (L2.Yy KX) t:=by
   dsimp only [L2.Yy]                          -- K ac9 YB as «<heap const> w.params» for k_is;refine' My.M5 ?e1 ?e2 ?e3 ..
   (case e1=>PySem.W.k_is)                    -- in Fg order: a name -> bh address -> bh object -> bh parts
   (case e2=>PySem.W.k_is)
   ..
  obtain⟨t,T⟩:=T;have e0:=FY.symm.trans (mg_of KX G T.law)
  cases e0                                       -- fa is Fg YC own address
  exact⟨_,fun s u=>.of_eq rfl,fun base kb nb=>My.law_fn T kb nb⟩     -- if «.of_eq rfl» comes too early: refine' ⟨_,?b,fun base kb nb=>My.law_fn T kb nb⟩;exact fun s u=>.of_eq rfl
 case S=>exact fun w H a ns hl hO hS=>..
 case C=>exact ..
(Fg tactic k_is has no namespace: write k_is) -/
namespace L2
open PySem PySem.Spec PyProof.Rows
def aV(s:Stmt):Arguments:=match s with
 |.FunctionDef _ a _ _ _ _ _ _ _ _=>a
 |_=>{posonlyargs:=[],args:=[],vararg:=none,kwonlyargs:=[],kw_defaults:=[],kwarg:=none,defaults:=[]}
def aH(s:Stmt):List Stmt:=match s with
 |.FunctionDef _ _ b _ _ _ _ _ _ _=>b
 |_=>[]
def ai(s:Stmt):Scope:=match s with
 |.FunctionDef _ _ _ _ _ _ sc _ _ _=>sc
 |_=>{kind:=.function,names:=[],isGenerator:=false,isCoroutine:=false}
abbrev gU:wq:=fun _ _ _ _ _ _=>False
abbrev E0:XK:=fun _ _ _=>False
theorem uH{X:Cx}:Passes gU X E0:=fun _ _ _ _ _ _ _ h=>h.elim
structure jW(K:PySem.W.Frag)(x qual:Str)(st:Stmt)(f:Addr)(fd:FuncData):Prop where
 ex:∃(oc:Value) (od:Option Addr) (kV doc pm:Value) (an:Option Addr) (cW ct:Value) (FO:Array (Option Value)),
  fd=PySem.W.fnOf x qual (aV st) (aH st) (ai st) .none kV doc pm an cW ct/\K.lookup f=some ⟨oc,od,.func fd,FO⟩/\PySem.W.codeIn K cW qual=true
 kp:keepIn K (.ref f)=true
section
variable {P:Program}{w:World}{K:PySem.W.Frag}{mg:Str->Option Value}{base:Heap}
theorem jW.ok{x qual:Str}{st:Stmt}{f:Addr}{fd:FuncData}{N ps:List Str}{k:Nat}{sp:Sp}(F:jW K x qual st f fd)(S:aN N ps (ai st))(len:∀vs H Q E,sp vs H Q E->vs.length=ps.length)
  (zy:∀(cW:Value)(A:Around)(outer:List Env)(s:Shared)(H:Hp)(vs:List V)(Q:VK)(E:XK),dP k (A.deeper (envOfC qual (ai st) s.heap.objs.size f cW))->sp vs H Q E ->
   ∃t,pV (lX gU P w K mg base N qual (ai st) f cW A outer s H E).Ff (aH st) t/\t {nx:=fun _ H'=>Q .cQ H',rt:=Q} (start N vs) H):bc P w K mg base gU (k+1) f fd ps sp:=by
 obtain⟨oc,od,kV,doc,pm,an,cW,ct,FO,rfl,lk,zo⟩:=F.ex;refine FN lk zo S len fun A outer s H vs Q E hr zz=>?_;obtain⟨t,h,q⟩:=zy cW A outer s H vs Q E hr zz;exact⟨t,h.Ff,q⟩
theorem jW.binds{x qual:Str}{st:Stmt}{f:Addr}{fd:FuncData}{ps:List Str}(F:jW K x qual st f fd)
  (h:∀(kV doc pm:Value)(an:Option Addr)(cW ct:Value)(us:List Value),us.length=ps.length->bindArgs (PySem.W.fnOf x qual (aV st) (aH st) (ai st) .none kV doc pm an cW ct) ⟨us,[]⟩=pure (ps.zip us)):Binds K fd ps []:=by
 obtain⟨oc,od,kV,doc,pm,an,cW,ct,FO,rfl,lk,zo⟩:=F.ex;exact .all (h kV doc pm an cW ct)
theorem bW{x qual:Str}{st:Stmt}{f:Addr}{oc:Value}{od an:Option Addr}{FO:Array (Option Value)}{kV doc pm cW ct:Value}(l:K.lookup f=some ⟨oc,od,.func (PySem.W.fnOf x qual (aV st) (aH st) (ai st) .none kV doc pm an cW ct),FO⟩)
  (c:PySem.W.codeIn K cW qual=true) (k:keepIn K (.ref f)=true):jW K x qual st f (PySem.W.fnOf x qual (aV st) (aH st) (ai st) .none kV doc pm an cW ct):=⟨⟨oc,od,kV,doc,pm,an,cW,ct,FO,rfl,l,c⟩,k⟩
end
theorem eL{n:Nat}(h:n<=1000):n<sizeLine:=Nat.lt_of_le_of_lt h (by decide)
section
variable {X:Cx}
theorem pv(i:Nat){x:Str}{pos:Pos}(hN:X.N[i]?=some x:=by rfl)(hv:Sb X.env.scope x:=by first|exact Or.inl rfl|exact Or.inr (Or.inl rfl)|exact Or.inr (Or.inr rfl))(hd:(x==("__debug__" : Str))=false:=by decide)
  (zo:(x==("__classdict__" : Str))=false:=by decide):PE X (.Name x pos) (gq i):=Bl hN hv hd zo
theorem Eb:fF X (.builtin "len") (fun xs H Q=>∃a bp,xs=[V.ref a]/\H a=some (.dK bp)/\Q (.int bp.length) H):=by
 intro pins s σ H xs us Q I r h;obtain⟨a,bp,rfl,ha,q⟩:=h;obtain⟨u,rfl,ru⟩:=vals1 r
 cases ru
 exact Pf I (.inl ha) fun t s' I'=>⟨.int bp.length,H,I',⟨t,rfl⟩,q⟩
end
theorem uI{A B:Prop}(h:B):if false=true then A else B:=by
 rw [if_neg Bool.false_ne_true];exact h
theorem rA{A B:Prop}(h:A):if true=true then A else B:=by
 rw [if_pos rfl];exact h
def ax(H H':Hp):Prop:=∀b o,H b=some o->H' b=some o
theorem ax.refl(H:Hp):ax H H:=fun _ _ h=>h
theorem ax.trans{H H1 H2:Hp}(a:ax H H1)(b:ax H1 H2):ax H H2:=fun c o h=>b c o (a c o h)
theorem ax.free{H H':Hp}(e:ax H H'){l:Addr}(h:H' l=Option.none):H l=Option.none:=by
 cases q:H l with
 |none=>rfl
 |some o =>
  rw [e l o q]at h
  cases h
theorem ax.seq{K:PySem.W.Frag}{H H':Hp}{a:Addr}{xs:List V}(e:ax H H')(h:lM K H a xs):lM K H' a xs:=by
 rcases h with(h|⟨o,h⟩)|h
 ·exact .inl (.inl (e _ _ h))
 ·exact .inl (.inr ⟨o,e _ _ h⟩)
 ·exact .inr h
section
variable {κ:Type}[DecidableEq κ]
end
end L2
set_option maxHeartbeats 4000000
namespace M
section Zs
open PySem PySem.Spec PySem.Calls PySem.W PyProof.Rows Builtin Builtin.ObjectAttr Builtin.Getset_descriptor
section
variable {prog:Program}{w:World}{A:Around}{E:Value->Shared->Prop}{K:Frag}{h:Heap}{g:Array GenState}{d:Drawn}{t:Nat}{os:OsState}{a C:Addr}{o:Obj}
theorem wB{tp:Value}{R:Result->Shared->Prop}(X:K.In h)(hx:h.get? a=some o)(hc:o.cls=.ref C)(hm:mroIn K C (.type "object")=some true)
  (hq:R (.ok (.ret (.ref C))) ⟨h,g,d,t,os⟩):codeAny (model prog w) A (.call (.builtin "getset_descriptor.__get__") ⟨[.builtin "object.__class__", .ref a,tp],[]⟩) R ⟨h,g,d,t,os⟩:=by
 have L0:Looks (model prog w) h (typeOf (.ref a)) (.ref C):=hc▸(Looks.ld hx).andThen .now;have L1:=looks_mroIn (M:=model prog w) X hm;refine codeAny_call_builtin KF.slot_gs.plain KF.entry_gs (KF.slot_gs.check _ _ _ _ _ _ _ _ KF.type_class (KF.args_gs _ _ _) ?_);unfold Builtin.«getset_descriptor.__get__» descrGet;rw [dga_obj];refine wpAny_bind (wpAny_pure ?_);unfold descrGetter descrCheckInstance descrNameAndClass isInstance;simp only [KF.owner_class]
 repeat lk
 refine⟨Code.quiet_builtin _ (by decide +kernel),codeAny_builtin KF.entry_class ?_⟩;unfold Builtin.«object.__class__» shownTypeOf
 repeat lk
 exact hq
theorem yg{M:Model}{LB:Value}{Q:Unit->Shared->Prop}(X:K.In h)(hx:h.get? a=some o)(hc:o.cls=.ref C)(hb:mroIn K C (.type "BaseException")=some true)
  (hq:Q () ⟨h,g,d,t,os⟩):wpAny M A (checkBuiltinCall "BaseException.__getattribute__" ⟨[.ref a,LB],[]⟩) Q E ⟨h,g,d,t,os⟩:=by
 have hk:builtinKind "BaseException.__getattribute__" = some .slot:=by decide +kernel
 have M6:splitId "BaseException.__getattribute__" = some ("BaseException", "__getattribute__"):=by decide +kernel
 have L1:=looks_mroIn (M:=M) X hb;have ha:=F.args_bexc_ga (.ref a) LB;simp only [checkBuiltinCall,hk,M6];refine wpAny_bind ?_
 ·unfold isInstance
  repeat (first|(with_reducible refine wpAny_loadPart_at hx ?_;rw [hc])|with_reducible refine L1.at ?_|wp_step)
  exact hq
theorem tJ{tk:Tok}{Q:Fin->Shared->Prop}(X:K.In h)(hx:h.get? a=some o)(hc:o.cls=.ref C)(hm:mroIn K C (.type "object")=some true)
  (ha:findIn K (.ref C) "__class__" = some (some (.builtin "object.__class__"))) (hq:Q (.done (.ret (.ref C))) ⟨h,g,d,t,os⟩) :
  wpAny (model prog w) A (Builtin.«object.__getattribute__» ⟨[.ref a,.str "__class__" tk],[]⟩) Q E ⟨h,g,d,t,os⟩:=by
 have hT5:(⟨h,g,d,t,os⟩:Shared).TypeIs (.builtin "object.__class__") "getset_descriptor" := KF.type_class;have f5:=KF.type_class;have f6:=F.slot_gs_get.lookup;have f7:=F.slot_gs_set.lookup;have L1:=looks_findIn (M:=model prog w) X ha
 repeat (any_goals (first|assumption|(with_reducible refine wpAny_loadPart_at hx ?_;rw [hc])|with_reducible refine L1.at ?_|wp_step))
 refine wB X hx hc hm ?_
 repeat (any_goals (first|assumption|wp_step))
theorem yh{tk:Tok}{fill expr:Bool}{Q:Value->Shared->Prop}(X:K.In h)(hx:h.get? a=some o)(hc:o.cls=.ref C)(hm:mroIn K C (.type "object")=some true)(hb:mroIn K C (.type "BaseException")=some true)
  (ha:findIn K (.ref C) "__class__" = some (some (.builtin "object.__class__"))) (Tj:findIn K (.ref C) "__getattribute__" = some (some (.builtin "BaseException.__getattribute__"))) (Tn:findIn K (.ref C) "__getattr__" = some none)
  (FB:Slot "ValueError" "__getattribute__" "BaseException.__getattribute__")
  (hq:Q (.ref C) ⟨h,g,d,t,os⟩):wpAny (model prog w) A (getAttrBy (.ref a) (.str "__class__" tk) fill expr) Q E ⟨h,g,d,t,os⟩:=by
 have f3:=FB.bind (.ref a);have L1:=looks_findIn (M:=model prog w) X Tj;have L2:=looks_findIn (M:=model prog w) X Tn;have Oq:(expr&&onTheHeap (Value.builtin "BaseException.__getattribute__"))=false:=by cases expr<;>rfl
 have hx2:(Value.builtin "BaseException.__getattribute__" == Value.builtin "object.__getattribute__")=false:=by decide +kernel
 have hx1:(onTheHeap (Value.ref C)&&Value.builtin "BaseException.__getattribute__" == Value.builtin "object.__getattribute__")=false:=by rw [hx2];rfl
 repeat (any_goals (first|assumption|(with_reducible refine wpAny_loadPart_at hx ?_;rw [hc])|with_reducible refine L1.at ?_|with_reducible refine L2.at ?_|wp_step))
 refine codeAny_call_builtin FB.plain F.entry_bexc_ga (yg X hx hc hb (tJ X hx hc hm ha ?_))
 repeat (any_goals (first|assumption|wp_step))
theorem uJ{Q:Option Value->Shared->Prop}(X:K.In h)(hx:h.get? a=some o)(hc:o.cls=.ref C)(hm:mroIn K C (.type "object")=some true)(hb:mroIn K C (.type "BaseException")=some true)
  (ha:findIn K (.ref C) "__class__" = some (some (.builtin "object.__class__"))) (Tj:findIn K (.ref C) "__getattribute__" = some (some (.builtin "BaseException.__getattribute__"))) (Tn:findIn K (.ref C) "__getattr__" = some none)
  (FB:Slot "ValueError" "__getattribute__" "BaseException.__getattribute__")
  (hq:Q (some (.ref C)) ⟨h,g,d,t+1,os⟩):wpAny (model prog w) A (getAttr? (.ref a) "__class__") Q E ⟨h,g,d,t,os⟩:=by
 unfold getAttr? getAttrBy?
 repeat (any_goals (first|assumption|with_reducible apply yh X hx hc hm hb ha Tj Tn FB|wp_step))
structure Ga(K:Frag)(C:Addr):Prop where
 cls:(clsIn K C).isSome=true
 obj:mroIn K C (.type "object")=some true
 exc:mroIn K C (.type "BaseException")=some true
 ca:findIn K (.ref C) "__class__" = some (some (.builtin "object.__class__"))
 ga:findIn K (.ref C) "__getattribute__" = some (some (.builtin "BaseException.__getattribute__"))
 gn:findIn K (.ref C) "__getattr__" = some none
theorem Gb(Z:Ga K C)(FB:Slot "ValueError" "__getattribute__" "BaseException.__getattribute__"):KitX K (.ref a) (.ref C) (fun h=>∃o,h.get? a=some o/\o.cls=.ref C)where
 ty:=fun M h _ ⟨o,hx,hc⟩=>hc▸(Looks.ld hx).andThen .now
 it:=fun _ _ X _=>by
  have Jw:=Z.cls;unfold clsIn at Jw;split at Jw
  ·rename_i c' d' cd' Bj ho;intro A' Q' E' s' k q;unfold isType loadHead;exact wpAny_bind (wpAny_loadPart (k _ _ (X _ _ ho)) (wpAny_pure q))
  ·cases Jw
 ne:=fun h tp dd bh n sl X htp=>by
  have Jw:=Z.cls;refine Bool.eq_false_iff.mpr fun q=>?_;have e:C=tp:=Value.ref.inj (beq_iff_eq.mp q);subst e;unfold clsIn at Jw;split at Jw
  ·rename_i c' d' cd' Bj ho;have z:=(X _ _ ho).symm.trans htp
   cases z
  ·cases Jw
 ca:=fun{_ _ _ _ _ s} X ⟨o,hx,hc⟩ k=>by
  obtain⟨h,g,d,t,os⟩:=s;exact uJ X hx hc Z.obj Z.exc Z.ca Z.ga Z.gn FB k
end
end Zs
open PySem PySem.Spec PyProof.Rows L2
abbrev St:=L2.St
structure KC where
 f:PySem.W.Frag
 cl:Nat->Addr
inductive T where
 |cQ|bl (b:Bool)|int (i:Int)|str (x:Str)|lst (ts:List T)|tup (ts:List T)|ua (ks:List Key) (ts:List T)|obj (n:Nat)
mutual
def Tr(K:KC)(H:Hp):V->T->Prop
 |v,.cQ=>v=.cQ
 |v,.bl b=>v=.bl b
 |v,.int i=>v=.int i
 |v,.str x=>v=.str x
 |v,.lst ts=>∃a xs,v=.ref a/\lM K.f H a xs/\iu K H xs ts
 |v,.tup ts=>∃a xs,v=.ref a/\uy K.f H a xs/\iu K H xs ts
 |v,.ua ks ts=>∃a xs,v=.ref a/\H a=some (.dK (ks.zip xs))/\ks.length=xs.length/\iu K H xs ts
 |v,.obj n=>∃a dx,v=.ref a/\H a=some (.ins (K.cl n) dx [])
def iu(K:KC)(H:Hp):List V->List T->Prop
 |xs,[]=>xs=[]
 |xs,t::ts=>∃v vs,xs=v::vs/\Tr K H v t/\iu K H vs ts
end
theorem my{K:PySem.W.Frag}{H H':Hp}{a:Addr}{xs:List V}(e:ax H H')(h:uy K H a xs):uy K H' a xs:=by
 rcases h with(h|⟨o,h⟩)|h
 ·exact .inl (.inl (e _ _ h))
 ·exact .inl (.inr ⟨o,e _ _ h⟩)
 ·exact .inr h
section
variable {K:KC}{H H' Hs aM:Hp}
mutual
theorem cX(e:ax H H'):∀(v:V)(t:T),Tr K H v t->Tr K H' v t
 |v,.cQ,h=>h
 |v,.bl b,h=>h
 |v,.int i,h=>h
 |v,.str x,h=>h
 |v,.lst ts,h=>by
  obtain⟨a,xs,e1,s,r⟩:=h;exact⟨a,xs,e1,e.seq s,cT e xs ts r⟩
 |v,.tup ts,h=>by
  obtain⟨a,xs,e1,s,r⟩:=h;exact⟨a,xs,e1,my e s,cT e xs ts r⟩
 |v,.ua ks ts,h=>by
  obtain⟨a,xs,e1,s,l,r⟩:=h;exact⟨a,xs,e1,e _ _ s,l,cT e xs ts r⟩
 |v,.obj C,h=>by
  obtain⟨a,dx,e1,s⟩:=h;exact⟨a,dx,e1,e _ _ s⟩
theorem cT(e:ax H H'):∀(xs:List V)(ts:List T),iu K H xs ts->iu K H' xs ts
 |xs,[],h=>h
 |xs,t::ts,h=>by
  obtain⟨v,vs,e1,r,rs⟩:=h;exact⟨v,vs,e1,cX e v t r,cT e vs ts rs⟩
end
theorem cu:iu K H [] []:=rfl
theorem dh{v:V}{t:T}{vs:List V}{ts:List T}(h:Tr K H v t)(hs:iu K H vs ts):iu K H (v::vs) (t::ts):=⟨v,vs,rfl,h,hs⟩
theorem aF:∀{ts:List T}{xs:List V},iu K H xs ts->xs.length=ts.length
 |[],xs,h=>by
  have e:xs=[]:=h;rw [e];rfl
 |t::ts,xs,h=>by
  obtain⟨v,vs,rfl,_,rs⟩:=h;simp [aF rs]
theorem kL:∀{ts:List T}{xs:List V}{i:Nat}{t:T},iu K H xs ts->ts[i]?=some t->∃v,xs[i]?=some v/\Tr K H v t
 |[],xs,i,t,h,e=>by simp at e
 |u::ts,xs,0,t,h,e=>by
  obtain⟨v,vs,rfl,r,_⟩:=h;simp at e;subst e;exact⟨v,rfl,r⟩
 |u::ts,xs,i+1,t,h,e=>by
  obtain⟨v,vs,rfl,_,rs⟩:=h;obtain⟨w,h1,h2⟩:=kL (i:=i) (t:=t) rs (by simpa using e);exact⟨w,by simpa using h1,h2⟩
theorem d4:∀{ts us:List T}{xs ys:List V},iu K H xs ts->iu K H ys us->iu K H (xs++ys) (ts++us)
 |[],us,xs,ys,h,h'=>by
  have e:xs=[]:=h;rw [e];exact h'
 |t::ts,us,xs,ys,h,h'=>by
  obtain⟨v,vs,rfl,r,rs⟩:=h;exact⟨v,vs++ys,rfl,r,d4 rs h'⟩
theorem uK:∀(n:Nat){ts:List T}{xs:List V},iu K H xs ts->iu K H (xs.take n) (ts.take n)
 |0,ts,xs,_=>by
  rw [List.take_zero,List.take_zero];exact cu
 |n+1,[],xs,h=>by
  have e:xs=[]:=h;rw [e];exact cu
 |n+1,t::ts,xs,h=>by
  obtain⟨v,vs,rfl,r,rs⟩:=h;exact⟨v,vs.take n,rfl,r,uK n rs⟩
theorem zF:∀(n:Nat){ts:List T}{xs:List V},iu K H xs ts->iu K H (xs.drop n) (ts.drop n)
 |0,ts,xs,h=>h
 |n+1,[],xs,h=>by
  have e:xs=[]:=h;rw [e];exact cu
 |n+1,t::ts,xs,h=>by
  obtain⟨v,vs,rfl,r,rs⟩:=h;exact zF n rs
theorem zG:∀(ns:List Int),iu K H (ns.map V.int) (ns.map T.int)
 |[]=>cu
 |n::ns=>dh rfl (zG ns)
def wC(K:KC)(H Hs:Hp)(v:V):T->Prop
 |.lst ts=>∃a xs,v=.ref a/\lM K.f H a xs/\iu K Hs xs ts
 |.ua ks ts=>∃a xs,v=.ref a/\H a=some (.dK (ks.zip xs))/\ks.length=xs.length/\iu K Hs xs ts
 |.cQ=>v=.cQ
 |.bl b=>v=.bl b
 |.int i=>v=.int i
 |.str x=>v=.str x
 |.tup ts=>Tr K Hs v (.tup ts)
 |.obj C=>Tr K Hs v (.obj C)
theorem wC.of{v:V}{t:T}(s:ax Hs H)(h:Tr K Hs v t):wC K H Hs v t:=by
 cases t with
 |lst ts =>
  obtain⟨a,xs,e1,q,r⟩:=h;exact⟨a,xs,e1,s.seq q,r⟩
 |ua ks ts =>
  obtain⟨a,xs,e1,q,l,r⟩:=h;exact⟨a,xs,e1,s _ _ q,l,r⟩
 |cQ=>exact h
 |bl b=>exact h
 |int i=>exact h
 |str x=>exact h
 |tup ts=>exact h
 |obj C=>exact h
theorem wC.tr{v:V}{t:T}(s:ax Hs H)(h:wC K H Hs v t):Tr K H v t:=by
 cases t with
 |lst ts =>
  obtain⟨a,xs,e1,q,r⟩:=h;exact⟨a,xs,e1,q,cT s _ _ r⟩
 |ua ks ts =>
  obtain⟨a,xs,e1,q,l,r⟩:=h;exact⟨a,xs,e1,q,l,cT s _ _ r⟩
 |cQ=>exact h
 |bl b=>exact h
 |int i=>exact h
 |str x=>exact h
 |tup ts=>exact cX s _ _ h
 |obj C=>exact cX s _ _ h
theorem wC.mono{v:V}{t:T}(e:ax H H')(e':ax Hs aM)(h:wC K H Hs v t):wC K H' aM v t:=by
 cases t with
 |lst ts =>
  obtain⟨a,xs,e1,q,r⟩:=h;exact⟨a,xs,e1,e.seq q,cT e' _ _ r⟩
 |ua ks ts =>
  obtain⟨a,xs,e1,q,l,r⟩:=h;exact⟨a,xs,e1,e _ _ q,l,cT e' _ _ r⟩
 |cQ=>exact h
 |bl b=>exact h
 |int i=>exact h
 |str x=>exact h
 |tup ts=>exact cX e' _ _ h
 |obj C=>exact cX e' _ _ h
inductive uL(K:KC)(H Hs:Hp):List V->List T->Prop where
 |nil:uL K H Hs [] []
 |cons {v:V} {t:T} {vs:List V} {ts:List T} (h:wC K H Hs v t) (r:uL K H Hs vs ts):uL K H Hs (v::vs) (t::ts)
theorem uL.mono(e:ax H H')(e':ax Hs aM){vs:List V}{ts:List T}(h:uL K H Hs vs ts):uL K H' aM vs ts:=by
 induction h with
 |nil=>exact .nil
 |cons h r ih=>exact .cons (h.mono e e') ih
end
inductive Slot where
 |no|sh (t:T)|own (t:T)
abbrev G:=List Slot
inductive R where
 |sh (t:T)|own (t:T)|bor (i:Nat) (t:T)
def R.tree:R->T
 |.sh t=>t
 |.own t=>t
 |.bor _ t=>t
structure Fx where
 H0:Hp
 S0:Hp
 cl:Nat->Addr
 F:Nat->Option V
def lO(K:KC)(H Hs:Hp)(a:Addr):T->Prop
 |.lst ts=>Hs a=none/\∃xs,H a=some (.lst xs)/\iu K Hs xs ts
 |.ua ks ts=>Hs a=none/\∃xs,H a=some (.dK (ks.zip xs))/\ks.length=xs.length/\iu K Hs xs ts
 |_=>False
theorem lO.free{K:KC}{H Hs:Hp}{a:Addr}{t:T}(h:lO K H Hs a t):Hs a=none:=by
 cases t with
 |lst ts=>exact h.1
 |ua ks ts=>exact h.1
 |cQ=>exact h.elim
 |bl b=>exact h.elim
 |int i=>exact h.elim
 |str x=>exact h.elim
 |tup ts=>exact h.elim
 |obj C=>exact h.elim
theorem lO.uM{K:KC}{H Hs:Hp}{a:Addr}{t:T}(h:lO K H Hs a t):wC K H Hs (.ref a) t:=by
 cases t with
 |lst ts =>
  obtain⟨_,xs,q,r⟩:=h;exact⟨a,xs,rfl,lM.of q,r⟩
 |ua ks ts =>
  obtain⟨_,xs,q,l,r⟩:=h;exact⟨a,xs,rfl,q,l,r⟩
 |cQ=>exact h.elim
 |bl b=>exact h.elim
 |int i=>exact h.elim
 |str x=>exact h.elim
 |tup ts=>exact h.elim
 |obj C=>exact h.elim
theorem lO.there{K:KC}{H Hs:Hp}{a:Addr}{t:T}(h:lO K H Hs a t):∃o,H a=some o/\∀aM,aM a=some o->ax Hs aM->Tr K aM (.ref a) t:=by
 cases t with
 |lst ts =>
  obtain⟨_,xs,q,r⟩:=h;exact⟨_,q,fun aM q' e=>⟨a,xs,rfl,lM.of q',cT e _ _ r⟩⟩
 |ua ks ts =>
  obtain⟨_,xs,q,l,r⟩:=h;exact⟨_,q,fun aM q' e=>⟨a,xs,rfl,q',l,cT e _ _ r⟩⟩
 |cQ=>exact h.elim
 |bl b=>exact h.elim
 |int i=>exact h.elim
 |str x=>exact h.elim
 |tup ts=>exact h.elim
 |obj C=>exact h.elim
theorem lO.mono{K:KC}{H H' Hs aM:Hp}{a:Addr}{t:T}(e:∀o,H a=some o->H' a=some o)(e':ax Hs aM)(n:aM a=none)(h:lO K H Hs a t):lO K H' aM a t:=by
 cases t with
 |lst ts =>
  obtain⟨_,xs,q,r⟩:=h;exact⟨n,xs,e _ q,cT e' _ _ r⟩
 |ua ks ts =>
  obtain⟨_,xs,q,l,r⟩:=h;exact⟨n,xs,e _ q,l,cT e' _ _ r⟩
 |cQ=>exact h.elim
 |bl b=>exact h.elim
 |int i=>exact h.elim
 |str x=>exact h.elim
 |tup ts=>exact h.elim
 |obj C=>exact h.elim
structure az(K:KC)(P:Fx)(Γ:G)(σ:St)(H Hs:Hp):Prop where
 kept:ax P.H0 H
 sub:ax Hs H
 new:∀a o,Hs a=some o->P.S0 a=some o\/P.H0 a=none
 fix:∀(i:Nat)(v:V),P.F i=some v->σ[i]?=some (some v)
 sh:∀(i:Nat)(t:T),Γ[i]?=some (Slot.sh t)->∃v,σ[i]?=some (some v)/\Tr K Hs v t
 own:∀(i:Nat)(t:T),Γ[i]?=some (Slot.own t)->∃a,σ[i]?=some (some (V.ref a))/\P.H0 a=none/\lO K H Hs a t
 apart:∀(i j:Nat)(t u:T)(a:Addr),i≠j->Γ[i]?=some (Slot.own t)->Γ[j]?=some (Slot.own u)->σ[i]?=some (some (V.ref a))->σ[j]?≠some (some (V.ref a))
 len:Γ.length=σ.length
def iD(K:KC)(P:Fx)(Γ:G)(σ:St)(H Hs:Hp)(v:V):R->Prop
 |.sh t=>Tr K Hs v t
 |.own t=>∃a,v=.ref a/\P.H0 a=none/\lO K H Hs a t/\∀(i:Nat)(u:T),Γ[i]?=some (Slot.own u)->σ[i]?≠some (some (V.ref a))
 |.bor i t=>σ[i]?=some (some v)/\Γ[i]?=some (Slot.own t)
section
variable {K:KC}{P:Fx}{Γ:G}{σ:St}{H H' Hs aM:Hp}
theorem az.uM(S:az K P Γ σ H Hs){v:V}{r:R}(h:iD K P Γ σ H Hs v r):wC K H Hs v r.tree:=by
 cases r with
 |sh t=>exact wC.of S.sub h
 |own t =>
  obtain⟨a,rfl,_,q,_⟩:=h;exact q.uM
 |bor i t =>
  obtain⟨h1,h2⟩:=h;obtain⟨a,e,_,q⟩:=S.own i t h2;rw [h1]at e
  cases e
  exact q.uM
theorem az.grow(S:az K P Γ σ H Hs)(e:ax H H'):az K P Γ σ H' Hs where
 kept:=S.kept.trans e
 sub:=S.sub.trans e
 new:=S.new
 fix:=S.fix
 sh:=S.sh
 own:=fun i t h=>by
  obtain⟨a,h1,h2,h3⟩:=S.own i t h;exact⟨a,h1,h2,h3.mono (e a) (ax.refl _) h3.free⟩
 apart:=S.apart
 len:=S.len
theorem az.share(S:az K P Γ σ H Hs)(e:ax Hs aM)(e':ax aM H)(w:∀a o,aM a=some o->P.S0 a=some o\/P.H0 a=none)(n:∀(i:Nat)(t:T)(a:Addr),Γ[i]?=some (Slot.own t)->σ[i]?=some (some (V.ref a))->aM a=none):az K P Γ σ H aM where
 kept:=S.kept
 sub:=e'
 new:=w
 fix:=S.fix
 sh:=fun i t h=>by
  obtain⟨v,h1,h2⟩:=S.sh i t h;exact⟨v,h1,cX e _ _ h2⟩
 own:=fun i t h=>by
  obtain⟨a,h1,h2,h3⟩:=S.own i t h;exact⟨a,h1,h2,h3.mono (fun _ q=>q) e (n i t a h h1)⟩
 apart:=S.apart
 len:=S.len
theorem ee{a:Addr}{o:HO}(h:H a=none):ax H (upd H a o):=fun b u e=>by
 rw [aw (bM e h)];exact e
theorem sC{a:Addr}{o:HO}(e:ax Hs H)(h:H a=some o):ax (upd Hs a o) H:=fun b u q=>by
 by_cases z:b=a
 ·subst z;rw [aE]at q
  cases q
  exact h
 ·rw [aw z]at q;exact e _ _ q
theorem Ec{a:Addr}{o:HO}(e:ax Hs H):ax (upd Hs a o) (upd H a o):=fun b u q=>by
 by_cases z:b=a
 ·subst z;rw [aE]at q ⊢;exact q
 ·rw [aw z]at q ⊢;exact e _ _ q
theorem az.BF(S:az K P Γ σ H Hs){a:Addr}{o:HO}(n:P.H0 a=none):∀b u,upd Hs a o b=some u->P.S0 b=some u\/P.H0 b=none:=fun b u q=>by
 by_cases z:b=a
 ·subst z;exact .inr n
 ·rw [aw z]at q;exact S.new b u q
theorem az.give(S:az K P Γ σ H Hs){i:Nat}{t:T}(h:Γ[i]?=some (.own t)):∃aM v,ax Hs aM/\σ[i]?=some (some v)/\Tr K aM v t/\az K P (Γ.set i (.sh t)) σ H aM:=by
 obtain⟨a,h1,h2,h3⟩:=S.own i t h;obtain⟨o,ho,tr⟩:=h3.there;have e1:ax Hs (upd Hs a o):=ee h3.free;have e2:ax (upd Hs a o) H:=sC S.sub ho;have Ge:i<Γ.length:=(List.getElem?_eq_some_iff.mp h).1;have tr:=tr (upd Hs a o) aE e1;refine⟨upd Hs a o,.ref a,e1,h1,tr,?_⟩;refine{kept:=S.kept,sub:=e2,new:=S.BF h2,fix:=S.fix,sh:=fun j u hj=>?_,own:=fun j u hj=>?_,apart:=fun j k u v b To hj hk=>?_,len:=by rw [length_set];exact S.len}
 ·by_cases z:i=j
  ·subst z;rw [getElem?_set_self Ge]at hj
   cases hj
   exact⟨_,h1,tr⟩
  ·rw [getElem?_set_ne z]at hj;obtain⟨w,q1,q2⟩:=S.sh j u hj;exact⟨w,q1,cX e1 _ _ q2⟩
 ·by_cases z:i=j
  ·subst z;rw [getElem?_set_self Ge]at hj
   cases hj
  ·rw [getElem?_set_ne z]at hj;obtain⟨b,q1,q2,q3⟩:=S.own j u hj;refine⟨b,q1,q2,q3.mono (fun _ q=>q) e1 ?_⟩;have:b≠a:=by
    rintro rfl;exact S.apart i j t u _ z h hj h1 q1
   rw [aw this];exact q3.free
 ·by_cases z:i=j
  ·subst z;rw [getElem?_set_self Ge]at hj
   cases hj
  ·by_cases z':i=k
   ·subst z';rw [getElem?_set_self Ge]at hk
    cases hk
   ·rw [getElem?_set_ne z]at hj;rw [getElem?_set_ne z']at hk;exact S.apart j k u v b To hj hk
end
theorem cE{α β γ:Type}{o:Option (α×β)}{f:α×β->Option γ}{r:γ}(h:o.bind f=some r):∃a b,o=some (a,b)/\f (a,b)=some r:=by
 cases o with
 |none=>cases h
 |some p=>exact⟨p.1,p.2,rfl,h⟩
theorem iE{α γ:Type}{o:Option α}{f:α->γ}{r:γ}(h:o.map f=some r):∃a,o=some a/\f a=r:=by
 cases o with
 |none=>cases h
 |some p=>exact⟨p,rfl,Option.some.inj h⟩
inductive Out(K:KC)(Hs:Hp):Hp->V->Hp->R->Prop where
 |val {H:Hp} {v:V} {t:T} (h:Tr K Hs v t):Out K Hs H v H (.sh t)
 |zH {H:Hp} {p:Addr} {vs:List V} {ts:List T} (n:H p=none) (h:iu K Hs vs ts):Out K Hs H (.ref p) (upd H p (.lst vs)) (.own (.lst ts))
 |Ed {H:Hp} {p:Addr} {vs:List V} {ts:List T} (n:H p=none) (h:iu K Hs vs ts):Out K Hs H (.ref p) (upd H p (.tup vs)) (.sh (.tup ts))
 |newD {H:Hp} {p:Addr} {ks:List Key} {vs:List V} {ts:List T} (n:H p=none) (l:ks.length=vs.length) (h:iu K Hs vs ts):Out K Hs H (.ref p) (upd H p (.dK (ks.zip vs))) (.own (.ua ks ts))
 |grow {H H1 H2:Hp} {v:V} {r:R} (e:ax H H1) (h:Out K Hs H1 v H2 r):Out K Hs H v H2 r
section
variable {K:KC}{P:Fx}{Γ:G}{σ:St}{H H' Hs aM:Hp}
theorem az.mz(S:az K P Γ σ H Hs){p:Addr}(n:H p=none):∀(i:Nat)(u:T),Γ[i]?=some (Slot.own u)->σ[i]?≠some (some (V.ref p)):=fun i u h e=>by
 obtain⟨a,h1,_,h3⟩:=S.own i u h;rw [e]at h1
 cases h1
 obtain⟨o,ho,_⟩:=h3.there;rw [n]at ho
 cases ho
theorem Out.fin{v:V}{r:R}(o:Out K Hs H v H' r)(S:az K P Γ σ H Hs):∃aM,ax H H'/\ax Hs aM/\az K P Γ σ H' aM/\iD K P Γ σ H' aM v r:=by
 induction o with
 |val h=>exact⟨Hs,ax.refl _,ax.refl _,S,h⟩
 |@zH H p vs ts n h =>
  have e:=ee (o:=.lst vs) n;refine⟨Hs,e,ax.refl _,S.grow e,p,rfl,S.kept.free n,⟨S.sub.free n,vs,aE,h⟩,S.mz n⟩
 |@Ed H p vs ts n h =>
  have e:=ee (o:=.tup vs) n;have n':=S.sub.free n;have e':=ee (o:=.tup vs) n';refine⟨upd Hs p (.tup vs),e,e',(S.grow e).share e' (Ec S.sub) (S.BF (S.kept.free n)) fun i t a h1 h2=>?_,p,vs,rfl,uy.of aE,cT e' _ _ h⟩;have z:a≠p:=by
   rintro rfl;exact S.mz n i t h1 h2
  rw [aw z];obtain⟨b,q1,_,q3⟩:=S.own i t h1;rw [h2]at q1
  cases q1
  exact q3.free
 |@newD H p ks vs ts n l h =>
  have e:=ee (o:=.dK (ks.zip vs)) n;refine⟨Hs,e,ax.refl _,S.grow e,p,rfl,S.kept.free n,⟨S.sub.free n,vs,aE,l,h⟩,S.mz n⟩
 |grow e h ih =>
  obtain⟨aM,e1,e2,S2,f⟩:=ih (S.grow e);exact⟨aM,e.trans e1,e2,S2,f⟩
def eM(r:R)(Γ:G):T×G:=match r with
 |.sh t=>(t,Γ)
 |.own t=>(t,Γ)
 |.bor i t=>(t,Γ.set i (.sh t))
theorem az.eM(S:az K P Γ σ H Hs){v:V}{r:R}(f:iD K P Γ σ H Hs v r):∃aM,ax Hs aM/\az K P (eM r Γ).2 σ H aM/\Tr K aM v (eM r Γ).1:=by
 cases r with
 |sh t=>exact⟨Hs,ax.refl _,S,f⟩
 |own t =>
  obtain⟨a,rfl,h0,q,n⟩:=f;obtain⟨o,ho,tr⟩:=q.there;have e1:ax Hs (upd Hs a o):=ee q.free;refine⟨upd Hs a o,e1,S.share e1 (sC S.sub ho) (S.BF h0) fun i t b h1 h2=>?_,tr _ aE e1⟩;have z:b≠a:=by
   rintro rfl;exact n i t h1 h2
  rw [aw z];obtain⟨c,q1,_,q3⟩:=S.own i t h1;rw [h2]at q1
  cases q1
  exact q3.free
 |bor i t =>
  obtain⟨h1,h2⟩:=f;obtain⟨aM,w,e,h3,tr,S'⟩:=S.give h2;rw [h1]at h3
  cases h3
  exact⟨aM,e,S',tr⟩
end
abbrev MX:=G->Option (R×G)
abbrev MT:=G->Option (Bool×G)
abbrev MA:=G->Option (List T×G)
def BH(K:KC)(P:Fx)(Γ:G)(r:R)(Γ':G):TE:=fun σ H Q=>∃Hs,az K P Γ σ H Hs/\∀v H' aM,ax H H'->ax Hs aM->az K P Γ' σ H' aM->iD K P Γ' σ H' aM v r->Q v H'
def Pk(K:KC)(P:Fx)(Γ:G)(b:Bool)(Γ':G):TT:=fun σ H Q=>∃Hs,az K P Γ σ H Hs/\∀H' aM,ax H H'->ax Hs aM->az K P Γ' σ H' aM->Q b H'
def YD(K:KC)(P:Fx)(Γ:G)(ts:List T)(Γ':G):TA:=fun σ H Q=>∃Hs,az K P Γ σ H Hs/\∀vs H' aM,ax H H'->ax Hs aM->az K P Γ' σ H' aM->uL K H' aM vs ts->Q vs H'
def Tp(K:KC)(P:Fx)(Γ:G)(ts:List T)(Γ':G):TA:=fun σ H Q=>∃Hs,az K P Γ σ H Hs/\∀vs H' aM,ax H H'->ax Hs aM->az K P Γ' σ H' aM->iu K aM vs ts->Q vs H'
abbrev kc(X:Cx)(P:Fx):KC:=⟨X.K,P.cl⟩
def aW(X:Cx)(P:Fx)(e:Expr)(m:MX):Prop:=∀Γ r Γ',m Γ=some (r,Γ')->PE X e (BH (kc X P) P Γ r Γ')
def oN(X:Cx)(P:Fx)(e:Expr)(m:MT):Prop:=∀Γ b Γ',m Γ=some (b,Γ')->PT X e (Pk (kc X P) P Γ b Γ')
def zI(X:Cx)(P:Fx)(e:Expr)(m:MT):Prop:=∀Γ b Γ',m Γ=some (b,Γ')->PW X e (Pk (kc X P) P Γ b Γ')
def wD(X:Cx)(P:Fx)(es:List Expr)(m:MA):Prop:=∀Γ ts Γ',m Γ=some (ts,Γ')->PA X es (YD (kc X P) P Γ ts Γ')
def yi(X:Cx)(P:Fx)(es:List Expr)(m:MA):Prop:=∀Γ ts Γ',m Γ=some (ts,Γ')->PA X es (Tp (kc X P) P Γ ts Γ')
theorem _root_.L2.PE.imp{X:Cx}{e:Expr}{t t':TE}(h:PE X e t)(i:∀σ H Q,t' σ H Q->t σ H Q):PE X e t':=fun pins s σ H Q I q=>h pins s σ H Q I (i σ H Q q)
theorem _root_.L2.PT.imp{X:Cx}{e:Expr}{t t':TT}(h:PT X e t)(i:∀σ H Q,t' σ H Q->t σ H Q):PT X e t':=fun pins s σ H Q I q=>h pins s σ H Q I (i σ H Q q)
theorem _root_.L2.PW.imp{X:Cx}{e:Expr}{t t':TT}(h:PW X e t)(i:∀σ H Q,t' σ H Q->t σ H Q):PW X e t':=fun wh pins s σ H Q I q=>h wh pins s σ H Q I (i σ H Q q)
theorem _root_.L2.PA.imp{X:Cx}{es:List Expr}{t t':TA}(h:PA X es t)(i:∀σ H Q,t' σ H Q->t σ H Q):PA X es t':=fun pos pins s σ H Q I q=>h pos pins s σ H Q I (i σ H Q q)
theorem _root_.L2.PS.imp{X:Cx}{e:Stmt}{t t':TS}(h:PS X e t)(i:∀D σ H,t' D σ H->t D σ H):PS X e t':=fun pins s σ H D I q=>h pins s σ H D I (i D σ H q)
theorem _root_.L2.pV.imp{X:Cx}{e:List Stmt}{t t':TS}(h:pV X e t)(i:∀D σ H,t' D σ H->t D σ H):pV X e t':=fun pins s σ H D I q=>h pins s σ H D I (i D σ H q)
theorem zI.t{X:Cx}{P:Fx}{e:Expr}{m:MT}(h:zI X P e m):oN X P e m:=fun Γ b Γ' hm=>(h Γ b Γ' hm).pt
section
variable {X:Cx}{P:Fx}{a b c e:Expr}{es:List Expr}{ma mb mc:MX}{pos:Pos}
def mC(t:T):MX:=fun Γ=>some (.sh t,Γ)
theorem zJ{v:V}{t:T}(h:PE X e (tC v))(q:∀Hs,Tr (kc X P) Hs v t):aW X P e (mC t):=fun Γ r Γ' hm=>by
 cases hm
 exact h.imp fun σ H Q ⟨Hs,S,k⟩=>k v H Hs (ax.refl _) (ax.refl _) S (q Hs)
theorem af{i:Int}{j:Nat}:aW X P (.Constant (.int i) j pos) (mC (.int i)):=zJ Bm fun _=>rfl
theorem jc{i:Bool}{j:Nat}:aW X P (.Constant (.bool i) j pos) (mC (.bl i)):=zJ OF fun _=>rfl
theorem ub{j:Nat}:aW X P (.Constant .none j pos) (mC .cQ):=zJ Mi fun _=>rfl
theorem aP{x:Str}{j:Nat}:aW X P (.Constant (.str x) j pos) (mC (.str x)):=zJ xV fun _=>rfl
def mV(i:Nat):MX:=fun Γ=>match Γ[i]? with
 |some (.sh t)=>some (.sh t,Γ)
 |some (.own t)=>some (.bor i t,Γ)
 |_=>none
theorem ah{i:Nat}(h:PE X e (gq i)):aW X P e (mV i):=fun Γ r Γ' hm=>by
 refine h.imp fun σ H Q ⟨Hs,S,k⟩=>?_;unfold mV at hm
 cases q:Γ[i]? with
 |none=>rw [q]at hm;cases hm
 |some s =>
  rw [q]at hm
  cases s with
  |no=>cases hm
  |sh t =>
   cases hm
   obtain⟨v,h1,h2⟩:=S.sh i t q;exact⟨v,h1,k v H Hs (ax.refl _) (ax.refl _) S h2⟩
  |own t =>
   cases hm
   obtain⟨a,h1,_,_⟩:=S.own i t q;exact⟨_,h1,k _ H Hs (ax.refl _) (ax.refl _) S ⟨h1,q⟩⟩
def rS(K:KC)(g:T->T->Option R):R2:=fun x y H Q=>∃Hs t u r,ax Hs H/\wC K H Hs x t/\wC K H Hs y u/\g t u=some r/\∀v H',Out K Hs H v H' r->Q v H'
def kd(X:Cx)(cl:Nat->Addr)(f:Value->Value->Sem Value)(g:T->T->Option R):Prop:=iU X f (rS ⟨X.K,cl⟩ g)
def ag(g:T->T->Option R)(ma mb:MX):MX:=fun Γ=>(ma Γ).bind fun p=>(mb p.2).bind fun q=>(g p.1.tree q.1.tree).map fun r=>(r,q.2)
theorem p5{g:T->T->Option R}{Γ Γ':G}{r:R}(h:ag g ma mb Γ=some (r,Γ')):∃r1 Γ1 r2,ma Γ=some (r1,Γ1)/\mb Γ1=some (r2,Γ')/\g r1.tree r2.tree=some r:=by
 obtain⟨r1,Γ1,h1,h⟩:=cE h;obtain⟨r2,Γ2,h2,h⟩:=cE h;obtain⟨z,h3,h⟩:=iE h
 cases h
 exact⟨r1,Γ1,r2,h1,h2,h3⟩
theorem yj{K:KC}{g:T->T->Option R}{Γ Γ1 Γ':G}{r r1 r2:R}(hg:g r1.tree r2.tree=some r){σ:St}{H:Hp}{Q:VK}(h:BH K P Γ r Γ' σ H Q):OP (rS K g) (BH K P Γ r1 Γ1) (BH K P Γ1 r2 Γ') σ H Q:=by
 obtain⟨Hs,S,k⟩:=h;refine⟨Hs,S,fun v H1 bJ e1 dr S1 f1=>⟨bJ,S1,fun w H2 bX e2 fb S2 f2=>⟨bX,r1.tree,r2.tree,r,S2.sub,(S1.uM f1).mono e2 fb,S2.uM f2,hg,fun z H3 o=>?_⟩⟩⟩;obtain⟨jI,e3,tK,S3,f3⟩:=o.fin S2;exact k z H3 jI (e1.trans (e2.trans e3)) (dr.trans (fb.trans tK)) S3 f3
theorem ak{op:Operator}{g:T->T->Option R}(ho:kd X P.cl (binaryOp op) g)(ha:aW X P a ma)(hb:aW X P b mb):aW X P (.BinOp a op b pos) (ag g ma mb):=fun Γ r Γ' hm=>by
 obtain⟨r1,Γ1,r2,h1,h2,hg⟩:=p5 hm;exact(CM ho (ha _ _ _ h1) (hb _ _ _ h2)).imp fun σ H Q q=>yj hg q
theorem fM{op:CmpOp}{g:T->T->Option R}(ho:kd X P.cl (compareOp op) g)(ha:aW X P a ma)(hb:aW X P b mb)(hm:behindInMarks op b=false):aW X P (.Compare a [op] [b] pos) (ag g ma mb):=fun Γ r Γ' h=>by
 obtain⟨r1,Γ1,r2,h1,h2,hg⟩:=p5 h;exact(Js ho (ha _ _ _ h1) (hb _ _ _ h2) hm).imp fun σ H Q q=>yj hg q
def IQ(g g':T->T->Option R):T->T->Option R:=fun t u=>match g t u with
 |some r=>some r
 |none=>g' t u
theorem kd.or{cl:Nat->Addr}{f:Value->Value->Sem Value}{g g':T->T->Option R}(h:kd X cl f g)(h':kd X cl f g'):kd X cl f (IQ g g'):=by
 intro pins s σ H x y v u Q I rx ry q;obtain⟨Hs,t,w,r,sm,h1,h2,hg,k⟩:=q;unfold IQ at hg
 cases e:g t w with
 |some z =>
  rw [e]at hg
  cases hg
  exact h pins s σ H x y v u Q I rx ry ⟨Hs,t,w,_,sm,h1,h2,e,k⟩
 |none =>
  rw [e]at hg;exact h' pins s σ H x y v u Q I rx ry ⟨Hs,t,w,r,sm,h1,h2,hg,k⟩
def ar(m:MX):MT:=fun Γ=>(m Γ).bind fun p=>match p.1 with
 |.sh (.bl k)=>some (k,p.2)
 |_=>none
theorem nP{m:MX}{Γ Γ':G}{k:Bool}(h:ar m Γ=some (k,Γ')):m Γ=some (.sh (.bl k),Γ'):=by
 unfold ar at h
 cases h1:m Γ with
 |none=>rw [h1]at h;cases h
 |some p =>
  rw [h1]at h;obtain⟨r,Γ1⟩:=p
  cases r with
  |sh t =>
   cases t with
   |bl j=>cases h;rfl
   |_=>cases h
  |_=>cases h
theorem uc{K:KC}{Γ Γ':G}{k:Bool}{σ:St}{H:Hp}{Q:Bool->Hp->Prop}(h:Pk K P Γ k Γ' σ H Q):BH K P Γ (.sh (.bl k)) Γ' σ H fun x H'=>∃c,x=.bl c/\Q c H':=by
 obtain⟨Hs,S,k'⟩:=h;exact⟨Hs,S,fun v H' aM e e' S' f=>⟨k,f,k' H' aM e e' S'⟩⟩
theorem fN{m:MX}(h:aW X P e m)(he:∀whole,isTrue e X.env whole=(do let v<-whole;standAt e.pos;holding [v] (truthy v)):=by intro _;rfl):oN X P e (ar m):=fun Γ k Γ' hm =>
 (Fu (h _ _ _ (nP hm)) he).imp fun σ H Q q=>uc q
theorem aQ{op:CmpOp}{g:T->T->Option R}(ho:kd X P.cl (compareOp op) g)(ha:aW X P a ma)(hb:aW X P b mb)(hm:behindInMarks op b=false):oN X P (.Compare a [op] [b] pos) (ar (ag g ma mb)):=fun Γ k Γ' h=>by
 obtain⟨r1,Γ1,r2,h1,h2,hg⟩:=p5 (nP h);exact(Jt ho (ha _ _ _ h1) (hb _ _ _ h2) hm).imp fun σ H Q q=>yj hg (uc q)
def kh(m:MT):MT:=fun Γ=>(m Γ).map fun p=>(!p.1,p.2)
theorem kM{m:MT}(h:oN X P a m):oN X P (.UnaryOp .Not a pos) (kh m):=fun Γ k Γ' hm=>by
 unfold kh at hm
 cases h1:m Γ with
 |none=>rw [h1]at hm;cases hm
 |some p =>
  rw [h1]at hm
  cases hm
  exact(Fw (h _ _ _ h1)).imp fun σ H Q ⟨Hs,S,k'⟩=>⟨Hs,S,k'⟩
def dD(m n:MT):MT:=fun Γ=>(m Γ).bind fun p=>if p.1=true then n p.2 else some (false,p.2)
def jX(m n:MT):MT:=fun Γ=>(m Γ).bind fun p=>if p.1=true then some (true,p.2)else n p.2
theorem Ee{m n:MT}{Γ Γ':G}{k:Bool}(h:dD m n Γ=some (k,Γ')):∃Γ1,(m Γ=some (true,Γ1)/\n Γ1=some (k,Γ'))\/(m Γ=some (false,Γ')/\k=false):=by
 unfold dD at h
 cases h1:m Γ with
 |none=>rw [h1]at h;cases h
 |some p =>
  rw [h1]at h;obtain⟨c,Γ1⟩:=p
  cases c with
  |true=>exact⟨Γ1,.inl ⟨rfl,h⟩⟩
  |false =>
   have h:some (false,Γ1)=some (k,Γ'):=h
   cases h
   exact⟨Γ',.inr ⟨rfl,rfl⟩⟩
theorem Gf{m n:MT}{Γ Γ':G}{k:Bool}(h:jX m n Γ=some (k,Γ')):∃Γ1,(m Γ=some (false,Γ1)/\n Γ1=some (k,Γ'))\/(m Γ=some (true,Γ')/\k=true):=by
 unfold jX at h
 cases h1:m Γ with
 |none=>rw [h1]at h;cases h
 |some p =>
  rw [h1]at h;obtain⟨c,Γ1⟩:=p
  cases c with
  |false=>exact⟨Γ1,.inl ⟨rfl,h⟩⟩
  |true =>
   have h:some (true,Γ1)=some (k,Γ'):=h
   cases h
   exact⟨Γ',.inr ⟨rfl,rfl⟩⟩
variable {rest:List Expr}
theorem fG{m:MT}(ha:oN X P a m):zI X P (.BoolOp .And [a] pos) m:=fun Γ k Γ' h=>Jh (ha _ _ _ h)
theorem nQ{m:MT}(ha:oN X P a m):zI X P (.BoolOp .Or [a] pos) m:=fun Γ k Γ' h=>Ml (ha _ _ _ h)
theorem gx{m n:MT}(ha:oN X P a m)(hb:zI X P (.BoolOp .And (b::rest) pos) n)(Tq:∃t,PW X (.BoolOp .And (b::rest) pos) t:=⟨fun _ _ _=>False,fun _ _ _ _ _ _ _ h=>h.elim⟩):zI X P (.BoolOp .And (a::b::rest) pos) (dD m n):=fun Γ k Γ' h=>by
 obtain⟨Γ1,⟨h1,h2⟩|⟨h1,rfl⟩⟩:=Ee h
 ·refine(Fv (ha _ _ _ h1) (hb _ _ _ h2)).imp fun σ H Q ⟨Hs,S,k'⟩=>⟨Hs,S,fun H1 bJ e e' S1=>?_⟩;refine rA ?_;exact⟨bJ,S1,fun H2 bX e2 fb S2=>k' H2 bX (e.trans e2) (e'.trans fb) S2⟩
 ·obtain⟨t,ht⟩:=Tq;refine(Fv (ha _ _ _ h1) ht).imp fun σ H Q ⟨Hs,S,k'⟩=>⟨Hs,S,fun H1 bJ e e' S1=>?_⟩;refine uI ?_;exact k' H1 bJ e e' S1
theorem mB{m n:MT}(ha:oN X P a m)(hb:zI X P (.BoolOp .Or (b::rest) pos) n)(Tq:∃t,PW X (.BoolOp .Or (b::rest) pos) t:=⟨fun _ _ _=>False,fun _ _ _ _ _ _ _ h=>h.elim⟩):zI X P (.BoolOp .Or (a::b::rest) pos) (jX m n):=fun Γ k Γ' h=>by
 obtain⟨Γ1,⟨h1,h2⟩|⟨h1,rfl⟩⟩:=Gf h
 ·refine(Lr (ha _ _ _ h1) (hb _ _ _ h2)).imp fun σ H Q ⟨Hs,S,k'⟩=>⟨Hs,S,fun H1 bJ e e' S1=>?_⟩;refine uI ?_;exact⟨bJ,S1,fun H2 bX e2 fb S2=>k' H2 bX (e.trans e2) (e'.trans fb) S2⟩
 ·obtain⟨t,ht⟩:=Tq;refine(Lr (ha _ _ _ h1) ht).imp fun σ H Q ⟨Hs,S,k'⟩=>⟨Hs,S,fun H1 bJ e e' S1=>?_⟩;refine rA ?_;exact k' H1 bJ e e' S1
def jd(m n:MX):MX:=fun Γ=>(m Γ).bind fun p=>match p.1 with
 |.sh (.bl true)=>n p.2
 |.sh (.bl false)=>some (.sh (.bl false),p.2)
 |_=>none
def zK(m n:MX):MX:=fun Γ=>(m Γ).bind fun p=>match p.1 with
 |.sh (.bl false)=>n p.2
 |.sh (.bl true)=>some (.sh (.bl true),p.2)
 |_=>none
theorem gz{X:Cx}{e:Expr}:PE X e (fun _ _ _=>False):=fun _ _ _ _ _ _ h=>h.elim
theorem Ef{m n:MX}{Γ Γ':G}{r:R}(h:jd m n Γ=some (r,Γ')):∃Γ1,(m Γ=some (.sh (.bl true),Γ1)/\n Γ1=some (r,Γ'))\/(m Γ=some (.sh (.bl false),Γ')/\r=.sh (.bl false)):=by
 unfold jd at h
 cases h1:m Γ with
 |none=>rw [h1]at h;cases h
 |some p =>
  rw [h1]at h;obtain⟨q,Γ1⟩:=p
  cases q with
  |sh t =>
   cases t with
   |bl j =>
    cases j with
    |true=>exact⟨Γ1,.inl ⟨rfl,h⟩⟩
    |false =>
     have h:some (R.sh (.bl false),Γ1)=some (r,Γ'):=h
     cases h
     exact⟨Γ',.inr ⟨rfl,rfl⟩⟩
   |_=>cases h
  |_=>cases h
theorem Gg{m n:MX}{Γ Γ':G}{r:R}(h:zK m n Γ=some (r,Γ')):∃Γ1,(m Γ=some (.sh (.bl false),Γ1)/\n Γ1=some (r,Γ'))\/(m Γ=some (.sh (.bl true),Γ')/\r=.sh (.bl true)):=by
 unfold zK at h
 cases h1:m Γ with
 |none=>rw [h1]at h;cases h
 |some p =>
  rw [h1]at h;obtain⟨q,Γ1⟩:=p
  cases q with
  |sh t =>
   cases t with
   |bl j =>
    cases j with
    |false=>exact⟨Γ1,.inl ⟨rfl,h⟩⟩
    |true =>
     have h:some (R.sh (.bl true),Γ1)=some (r,Γ'):=h
     cases h
     exact⟨Γ',.inr ⟨rfl,rfl⟩⟩
   |_=>cases h
  |_=>cases h
theorem p6{op:PySem.BoolOp}{m:MX}(h:aW X P a m):aW X P (.BoolOp op [a] pos) m:=fun Γ r Γ' hm=>Mm (h _ _ _ hm)
theorem snd_and{m n:MX}(ha:aW X P a m)(hb:aW X P (.BoolOp .And (b::rest) pos) n):aW X P (.BoolOp .And (a::b::rest) pos) (jd m n):=fun Γ r Γ' h=>by
 obtain⟨Γ1,⟨h1,h2⟩|⟨h1,rfl⟩⟩:=Ef h
 ·refine(Fy (ha _ _ _ h1) (hb _ _ _ h2)).imp fun σ H Q ⟨Hs,S,k'⟩=>⟨Hs,S,fun v H1 bJ e e' S1 f=>⟨true,f,?_⟩⟩;refine rA ?_;exact⟨bJ,S1,fun w H2 bX e2 fb S2 f2=>k' w H2 bX (e.trans e2) (e'.trans fb) S2 f2⟩
 ·refine(Fy (ha _ _ _ h1) gz).imp fun σ H Q ⟨Hs,S,k'⟩=>⟨Hs,S,fun v H1 bJ e e' S1 f=>⟨false,f,?_⟩⟩;refine uI ?_;exact k' _ H1 bJ e e' S1 rfl
theorem M7{m n:MX}(ha:aW X P a m)(hb:aW X P (.BoolOp .Or (b::rest) pos) n):aW X P (.BoolOp .Or (a::b::rest) pos) (zK m n):=fun Γ r Γ' h=>by
 obtain⟨Γ1,⟨h1,h2⟩|⟨h1,rfl⟩⟩:=Gg h
 ·refine(Ls (ha _ _ _ h1) (hb _ _ _ h2)).imp fun σ H Q ⟨Hs,S,k'⟩=>⟨Hs,S,fun v H1 bJ e e' S1 f=>⟨false,f,?_⟩⟩;refine uI ?_;exact⟨bJ,S1,fun w H2 bX e2 fb S2 f2=>k' w H2 bX (e.trans e2) (e'.trans fb) S2 f2⟩
 ·refine(Ls (ha _ _ _ h1) gz).imp fun σ H Q ⟨Hs,S,k'⟩=>⟨Hs,S,fun v H1 bJ e e' S1 f=>⟨true,f,?_⟩⟩;refine rA ?_;exact k' _ H1 bJ e e' S1 rfl
def Pm(m:MX):MX:=fun Γ=>(ar m Γ).map fun p=>(.sh (.bl (!p.1)),p.2)
def zM(c:MT)(m n:MX):MX:=fun Γ=>(c Γ).bind fun p=>if p.1=true then m p.2 else n p.2
theorem BI{t:MT}{m n:MX}(hc:oN X P c t)(ha:aW X P a m)(hb:aW X P b n):aW X P (.IfExp c a b pos) (zM t m n):=fun Γ r Γ' h=>by
 unfold zM at h
 cases h1:t Γ with
 |none=>rw [h1]at h;cases h
 |some p =>
  rw [h1]at h;obtain⟨k,Γ1⟩:=p
  cases k with
  |true =>
   have h:m Γ1=some (r,Γ'):=h;refine(mr (hc _ _ _ h1) (ha _ _ _ h) gz).imp fun σ H Q ⟨Hs,S,k'⟩=>⟨Hs,S,fun H1 bJ e e' S1=>?_⟩;refine rA ?_;exact⟨bJ,S1,fun w H2 bX e2 fb S2 f2=>k' w H2 bX (e.trans e2) (e'.trans fb) S2 f2⟩
  |false =>
   have h:n Γ1=some (r,Γ'):=h;refine(mr (hc _ _ _ h1) gz (hb _ _ _ h)).imp fun σ H Q ⟨Hs,S,k'⟩=>⟨Hs,S,fun H1 bJ e e' S1=>?_⟩;refine uI ?_;exact⟨bJ,S1,fun w H2 bX e2 fb S2 f2=>k' w H2 bX (e.trans e2) (e'.trans fb) S2 f2⟩
def aD:MA:=fun Γ=>some ([],Γ)
def fE(m:MX)(n:MA):MA:=fun Γ=>(m Γ).bind fun p=>(n p.2).map fun q=>(p.1.tree::q.1,q.2)
def aB(m:MX)(n:MA):MA:=fun Γ=>(m Γ).bind fun p=>(n (eM p.1 p.2).2).map fun q=>((eM p.1 p.2).1::q.1,q.2)
theorem bT:wD X P [] aD:=fun Γ ts Γ' h=>by
 cases h
 exact d0.imp fun σ H Q ⟨Hs,S,k⟩=>k [] H Hs (ax.refl _) (ax.refl _) S .nil
theorem aq:yi X P [] aD:=fun Γ ts Γ' h=>by
 cases h
 exact d0.imp fun σ H Q ⟨Hs,S,k⟩=>k [] H Hs (ax.refl _) (ax.refl _) S cu
theorem bw{m:MX}{n:MA}(ha:aW X P e m)(hr:wD X P es n)(hs:starEach (e::es) X.env=(false,eval e X.env)::starEach es X.env:=by rfl):wD X P (e::es) (fE m n):=fun Γ ts Γ' h=>by
 unfold fE at h
 cases h1:m Γ with
 |none=>rw [h1]at h;cases h
 |some p =>
  rw [h1]at h;have h:(n p.2).map (fun q=>(p.1.tree::q.1,q.2))=some (ts,Γ'):=h
  cases h2:n p.2 with
  |none=>rw [h2]at h;cases h
  |some q =>
   rw [h2]at h
   cases h
   refine(bE (ha _ _ _ h1) (hr _ _ _ h2) hs).imp fun σ H Q ⟨Hs,S,k⟩=>⟨Hs,S,fun v H1 bJ e1 dr S1 f1=>⟨bJ,S1,fun vs H2 bX e2 fb S2 f2=>?_⟩⟩;exact k _ H2 bX (e1.trans e2) (dr.trans fb) S2 (.cons ((S1.uM f1).mono e2 fb) f2)
theorem ae{m:MX}{n:MA}(ha:aW X P e m)(hr:yi X P es n)(hs:starEach (e::es) X.env=(false,eval e X.env)::starEach es X.env:=by rfl):yi X P (e::es) (aB m n):=fun Γ ts Γ' h=>by
 unfold aB at h
 cases h1:m Γ with
 |none=>rw [h1]at h;cases h
 |some p =>
  rw [h1]at h;have h:(n (eM p.1 p.2).2).map (fun q=>((eM p.1 p.2).1::q.1,q.2))=some (ts,Γ'):=h
  cases h2:n (eM p.1 p.2).2 with
  |none=>rw [h2]at h;cases h
  |some q =>
   rw [h2]at h
   cases h
   refine(bE (ha _ _ _ h1) (hr _ _ _ h2) hs).imp fun σ H Q ⟨Hs,S,k⟩=>⟨Hs,S,fun v H1 bJ e1 dr S1 f1=>?_⟩;obtain⟨Ts,g,S1',tr⟩:=S1.eM f1;refine⟨Ts,S1',fun vs H2 bX e2 fb S2 f2=>?_⟩;exact k _ H2 bX (e1.trans e2) (dr.trans (g.trans fb)) S2 (dh (cX fb _ _ tr) f2)
def di(n:MA):MX:=fun Γ=>(n Γ).bind fun p=>if p.1.length<=1000 then some (.own (.lst p.1),p.2)else none
def dS(n:MA):MX:=fun Γ=>(n Γ).bind fun p=>if p.1.length<=1000 then some (.sh (.tup p.1),p.2)else none
theorem cG{n:MA}(h:yi X P es n):aW X P (.List es pos) (di n):=fun Γ r Γ' hm=>by
 unfold di at hm
 cases h1:n Γ with
 |none=>rw [h1]at hm;cases hm
 |some p =>
  rw [h1]at hm;have hm:(if p.1.length<=1000 then some (R.own (.lst p.1),p.2)else none)=some (r,Γ'):=hm;by_cases hl:p.1.length<=1000
  ·rw [if_pos hl]at hm
   cases hm
   refine(MK (h _ _ _ h1)).imp fun σ H Q ⟨Hs,S,k⟩=>⟨Hs,S,fun vs H1 bJ e1 dr S1 f1=>⟨by rw [aF f1];exact le_of_lt (eL hl),fun p n=>?_⟩⟩;obtain⟨bX,e2,fb,S2,f2⟩:=Out.fin (.zH n f1) S1;exact k _ _ bX (e1.trans e2) (dr.trans fb) S2 f2
  ·rw [if_neg hl]at hm
   cases hm
theorem cw{n:MA}{x1:Nat}(h:yi X P es n):aW X P (.Tuple es x1 pos) (dS n):=fun Γ r Γ' hm=>by
 unfold dS at hm
 cases h1:n Γ with
 |none=>rw [h1]at hm;cases hm
 |some p =>
  rw [h1]at hm;have hm:(if p.1.length<=1000 then some (R.sh (.tup p.1),p.2)else none)=some (r,Γ'):=hm;by_cases hl:p.1.length<=1000
  ·rw [if_pos hl]at hm
   cases hm
   refine(Bw (h _ _ _ h1)).imp fun σ H Q ⟨Hs,S,k⟩=>⟨Hs,S,fun vs H1 bJ e1 dr S1 f1=>⟨by rw [aF f1];exact le_of_lt (eL hl),fun p n=>?_⟩⟩;obtain⟨bX,e2,fb,S2,f2⟩:=Out.fin (.Ed n f1) S1;exact k _ _ bX (e1.trans e2) (dr.trans fb) S2 f2
  ·rw [if_neg hl]at hm
   cases hm
def cS(K:KC)(g:List T->Option R):List V->Hp->VK->Prop:=fun vs H Q=>∃Hs ts r,ax Hs H/\uL K H Hs vs ts/\g ts=some r/\∀v H',Out K Hs H v H' r->Q v H'
def ki(X:Cx)(cl:Nat->Addr)(f:Value)(g:List T->Option R):Prop:=fF X f (cS ⟨X.K,cl⟩ g)
def bR(g:List T->Option R)(n:MA):MX:=fun Γ=>(n Γ).bind fun p=>(g p.1).map fun r=>(r,p.2)
theorem rB{g:List T->Option R}{n:MA}{Γ Γ':G}{r:R}(h:bR g n Γ=some (r,Γ')):∃ts,n Γ=some (ts,Γ')/\g ts=some r:=by
 unfold bR at h
 cases h1:n Γ with
 |none=>rw [h1]at h;cases h
 |some p =>
  rw [h1]at h;have h:(g p.1).map (fun r=>(r,p.2))=some (r,Γ'):=h
  cases h2:g p.1 with
  |none=>rw [h2]at h;cases h
  |some z =>
   rw [h2]at h
   cases h
   exact⟨p.1,rfl,h2⟩
theorem CZ{K:KC}{g:List T->Option R}{Γ Γ':G}{r:R}{ts:List T}(hg:g ts=some r){σ:St}{H:Hp}{Q:VK}(h:BH K P Γ r Γ' σ H Q):SO (cS K g) (YD K P Γ ts Γ') σ H Q:=by
 obtain⟨Hs,S,k⟩:=h;refine⟨Hs,S,fun vs H1 bJ e1 dr S1 f1=>⟨bJ,ts,r,S1.sub,f1,hg,fun v H2 o=>?_⟩⟩;obtain⟨bX,e2,fb,S2,f2⟩:=o.fin S1;exact k v H2 bX (e1.trans e2) (dr.trans fb) S2 f2
theorem dz{x:Str}{p:Pos}{id:String}{g:List T->Option R}{n:MA}(hc:ki X P.cl (.builtin id) g)(hg:Gl X x)(hm:X.mg x=none)(hv:bootBuiltins x=some (.builtin id))(ha:wD X P (e::es) n)(hn:x ≠ "__name__" := by decide)(kJ:(x==("__debug__" : Str))=false:=by decide)
  (he:starEach (e::es) X.env=(false,eval e X.env)::starEach es X.env:=by rfl) (jV:(backTo pos (starEach es X.env)).any (·.1)=false:=by rfl):aW X P (.Call (.Name x p) (e::es) [] pos) (bR g n):=fun Γ r Γ' h=>by
 obtain⟨ts,h1,h2⟩:=rB h;exact(pW hc hg hm hv (ha _ _ _ h1) hn kJ he jV).imp fun σ H Q q=>CZ h2 q
theorem oO{x:Str}{p:Pos}{T':String}{g:List T->Option R}{n:MA}(hc:ki X P.cl (.type T') g)(hg:Gl X x)(hm:X.mg x=none)(hv:bootBuiltins x=some (.type T'))(ha:wD X P (e::es) n)(hn:x ≠ "__name__" := by decide)(kJ:(x==("__debug__" : Str))=false:=by decide)
  (he:starEach (e::es) X.env=(false,eval e X.env)::starEach es X.env:=by rfl) (jV:(backTo pos (starEach es X.env)).any (·.1)=false:=by rfl):aW X P (.Call (.Name x p) (e::es) [] pos) (bR g n):=fun Γ r Γ' h=>by
 obtain⟨ts,h1,h2⟩:=rB h;exact(nO hc hg hm hv (ha _ _ _ h1) hn kJ he jV).imp fun σ H Q q=>CZ h2 q
abbrev CF:=G->Option (R×G)
def ud:Nat->Option V:=fun _=>none
def oq(K:KC)(np:Nat)(cf:CF):Sp:=fun vs H Q _=>vs.length=np/\∃as r Γ' Hs H0,cf as=some (r,Γ')/\az K ⟨H0,Hs,K.cl,ud⟩ as (vs.map some) H Hs /\
 ∀v H' aM,ax Hs aM->az K ⟨H0,Hs,K.cl,ud⟩ (Γ'.take np) (vs.map some) H' aM->iD K ⟨H0,Hs,K.cl,ud⟩ (Γ'.take np) (vs.map some) H' aM v r->Q v H'
def av(np:Nat)(cf:CF)(n:MA):MX:=fun Γ=>(n Γ).bind fun p=>if p.1.length=np then match cf (p.1.map Slot.sh)with
 |some (.sh t,_)=>some (.sh t,p.2)
 |some (.own t,_)=>some (.own t,p.2)
 |_=>none else none
theorem uN{np:Nat}{cf:CF}{n:MA}{Γ Γ':G}{r:R}(h:av np cf n Γ=some (r,Γ')):∃ts Γ2,n Γ=some (ts,Γ')/\ts.length=np/\cf (ts.map Slot.sh)=some (r,Γ2)/\((∃t,r=.sh t)\/∃t,r=.own t):=by
 unfold av at h
 cases h1:n Γ with
 |none=>rw [h1]at h;cases h
 |some p =>
  rw [h1]at h;obtain⟨ts,Γ1⟩:=p;dsimp only [Option.bind]at h;split at h
  ·rename_i hl;split at h
   ·rename_i t Γ2 q
    cases h
    exact⟨ts,Γ2,rfl,hl,q,.inl ⟨t,rfl⟩⟩
   ·rename_i t Γ2 q
    cases h
    exact⟨ts,Γ2,rfl,hl,q,.inr ⟨t,rfl⟩⟩
   ·cases h
  ·cases h
theorem nR{K:KC}{H Hs:Hp}{vs:List V}{ts:List T}(s:ax Hs H)(r:iu K Hs vs ts):az K ⟨H,Hs,K.cl,ud⟩ (ts.map Slot.sh) (vs.map some) H Hs where
 kept:=ax.refl _
 sub:=s
 new:=fun a o h=>.inl h
 fix:=fun i v h=>nomatch h
 sh:=fun i t h=>by
  rw [getElem?_map]at h
  cases e:ts[i]? with
  |none=>rw [e]at h;cases h
  |some u =>
   rw [e]at h
   cases h
   obtain⟨v,h1,h2⟩:=kL r e;exact⟨v,by rw [getElem?_map,h1];rfl,h2⟩
 own:=fun i t h=>by
  rw [getElem?_map]at h
  cases e:ts[i]? with
  |none=>rw [e]at h;cases h
  |some u=>rw [e]at h;cases h
 apart:=fun i j t u a _ h _=>by
  rw [getElem?_map]at h
  cases e:ts[i]? with
  |none=>rw [e]at h;cases h
  |some u=>rw [e]at h;cases h
 len:=by rw [length_map,length_map,aF r]
theorem az.after{K:KC}{Γ Γ2:G}{σ σ2:St}{H H' Hs aM:Hp}(S:az K P Γ σ H Hs)(e:ax Hs aM)(S2:az K ⟨H,Hs,K.cl,ud⟩ Γ2 σ2 H' aM):az K P Γ σ H' aM :=
 (S.grow S2.kept).share e S2.sub (fun a o h=>by
  rcases S2.new a o h with q|q
  ·exact S.new a o q
  ·exact .inr (S.kept.free q)) fun i t a h1 h2=>by
  obtain⟨b,q1,_,q3⟩:=S.own i t h1;rw [h2]at q1
  cases q1
  cases z:aM a with
  |none=>rfl
  |some o =>
   rcases S2.new a o z with q|q
   ·have q4:=q3.free;rw [show Hs a=some o from q]at q4
    cases q4
   ·obtain⟨o',ho,_⟩:=q3.there;rw [show H a=none from q]at ho
    cases ho
theorem iD.after{K:KC}{Γ Γ2:G}{σ σ2:St}{H H' Hs aM:Hp}{v:V}{r:R}(S:az K P Γ σ H Hs)(hr:(∃t,r=.sh t)\/∃t,r=.own t)(f:iD K ⟨H,Hs,K.cl,ud⟩ Γ2 σ2 H' aM v r):iD K P Γ σ H' aM v r:=by
 rcases hr with⟨t,rfl⟩|⟨t,rfl⟩
 ·exact f
 ·obtain⟨a,rfl,n,q,_⟩:=f;exact⟨a,rfl,S.kept.free n,q,S.mz n⟩
theorem zN{K:KC}{np:Nat}{cf:CF}{E:XK}{Γ Γ' Γ2:G}{r:R}{ts:List T}(hl:ts.length=np)(hg:cf (ts.map Slot.sh)=some (r,Γ2))(hr:(∃t,r=.sh t)\/∃t,r=.own t){σ:St}{H:Hp}{Q:VK}(h:BH K P Γ r Γ' σ H Q):
  Tp K P Γ ts Γ' σ H fun vs H1=>oq K np cf vs H1 Q E:=by
 obtain⟨Hs,S,k⟩:=h;refine⟨Hs,S,fun vs H1 bJ e1 dr S1 f1=>⟨by rw [aF f1,hl],ts.map Slot.sh,r,Γ2,bJ,H1,hg,nR S1.sub f1,fun v H2 bX e2 S2 f2=>?_⟩⟩;exact k v H2 bX (e1.trans S2.kept) (dr.trans e2) (S1.after e2 S2) (iD.after S1 hr f2)
theorem aX{k np:Nat}{f:Addr}{fd:FuncData}{ps:List Str}{cf:CF}{x:Str}{p:Pos}{n:MA}(F:bc X.prog X.w X.K X.mg X.base gU k f fd ps (oq (kc X P) np cf))(hr:dP k X.A)(hg:Gl X x)(hm:X.mg x=some (.ref f))(hk:keepIn X.K (.ref f)=true)(hb:Binds X.K fd ps [])
  (ha:yi X P (e::es) n) (kJ:(x==("__debug__" : Str))=false:=by decide) (he:starEach (e::es) X.env=(false,eval e X.env)::starEach es X.env:=by rfl) (jV:(backTo pos (starEach es X.env)).any (·.1)=false:=by rfl) :
  aW X P (.Call (.Name x p) (e::es) [] pos) (av np cf n):=fun Γ r Γ' h=>by
 obtain⟨ts,Γ2,h1,hl,h2,zO⟩:=uN h;refine(nN (dvs:=[]) (E:=E0) F hr hg hm hk hb .nil uH (ha _ _ _ h1) kJ he jV).imp fun σ H Q q=>?_;have z:=zN (E:=E0) hl h2 zO q;show Tp (kc X P) P Γ ts Γ' σ H fun vs H1=>oq (kc X P) np cf (vs++[]) H1 Q E0;simp only [append_nil];exact z
end
inductive Res where
 |nx (Γ:G)|rt (r:R) (Γ:G)|bk (Γ:G)|ct (Γ:G)
abbrev MS:=G->Option Res
def M8(K:KC)(P:Fx)(D:Ends)(σ':St)(H' aM:Hp):Res->Prop
 |.nx Γ'=>az K P Γ' σ' H' aM->D.nx σ' H'
 |.bk Γ'=>az K P Γ' σ' H' aM->D.bk σ' H'
 |.ct Γ'=>az K P Γ' σ' H' aM->D.ct σ' H'
 |.rt r Γ'=>∀v,az K P Γ' σ' H' aM->iD K P Γ' σ' H' aM v r->D.rt v H'
def C1(K:KC)(P:Fx)(Γ:G)(res:Res):TS:=fun D σ H=>∃Hs,az K P Γ σ H Hs/\∀σ' H' aM,ax Hs aM->M8 K P D σ' H' aM res
def Tt(K:KC)(P:Fx)(m:MS):TS:=fun D σ H=>∃Γ res,m Γ=some res/\C1 K P Γ res D σ H
def lY(X:Cx)(P:Fx)(st:Stmt)(m:MS):Prop:=PS X st (Tt (kc X P) P m)
def jJ(X:Cx)(P:Fx)(st:List Stmt)(m:MS):Prop:=pV X st (Tt (kc X P) P m)
theorem gY{X:Cx}{P:Fx}{st:Stmt}{m:MS}(h:∀Γ res,m Γ=some res->PS X st (C1 (kc X P) P Γ res)):lY X P st m:=fun pins s σ H D I ⟨Γ,res,hm,q⟩=>h Γ res hm pins s σ H D I q
theorem lY.at{X:Cx}{P:Fx}{st:Stmt}{m:MS}(h:lY X P st m){Γ:G}{res:Res}(hm:m Γ=some res):PS X st (C1 (kc X P) P Γ res):=L2.PS.imp h fun D σ H q=>⟨Γ,res,hm,q⟩
theorem jJ.at{X:Cx}{P:Fx}{st:List Stmt}{m:MS}(h:jJ X P st m){Γ:G}{res:Res}(hm:m Γ=some res):pV X st (C1 (kc X P) P Γ res):=L2.pV.imp h fun D σ H q=>⟨Γ,res,hm,q⟩
theorem ym{X:Cx}{P:Fx}{st:List Stmt}{m:MS}(h:∀Γ res,m Γ=some res->pV X st (C1 (kc X P) P Γ res)):jJ X P st m:=fun pins s σ H D I ⟨Γ,res,hm,q⟩=>h Γ res hm pins s σ H D I q
section
variable {K:KC}{P:Fx}{Γ:G}{σ:St}{H H' Hs aM:Hp}
theorem get_set{α:Type}{l:List α}{i j:Nat}{x y:α}(h:(l.set i x)[j]?=some y):(j=i/\i<l.length/\y=x)\/(j≠i/\l[j]?=some y):=by
 by_cases z:i=j
 ·subst z;have hl:i<l.length:=by
   have:=(List.getElem?_eq_some_iff.mp h).1;rw [length_set]at this;exact this
  rw [getElem?_set_self hl]at h
  cases h
  exact .inl ⟨rfl,hl,rfl⟩
 ·rw [getElem?_set_ne z]at h;exact .inr ⟨fun e=>z e.symm,h⟩
theorem az.Pn(S:az K P Γ σ H Hs)(i:Nat):az K P (Γ.set i .no) σ H Hs where
 kept:=S.kept
 sub:=S.sub
 new:=S.new
 fix:=S.fix
 sh:=fun j u h=>by
  rcases get_set h with⟨_,_,e⟩|⟨_,h⟩
  ·cases e
  ·exact S.sh j u h
 own:=fun j u h=>by
  rcases get_set h with⟨_,_,e⟩|⟨_,h⟩
  ·cases e
  ·exact S.own j u h
 apart:=fun j k u v a n h h'=>by
  rcases get_set h with⟨_,_,e⟩|⟨_,h⟩
  ·cases e
  ·rcases get_set h' with⟨_,_,e⟩|⟨_,h'⟩
   ·cases e
   ·exact S.apart j k u v a n h h'
 len:=by rw [length_set];exact S.len
theorem az.xa(S:az K P Γ σ H Hs){i:Nat}{v:V}{t:T}(hF:P.F i=none)(q:Tr K Hs v t):az K P (Γ.set i (.sh t)) (σ.set i (some v)) H Hs where
 kept:=S.kept
 sub:=S.sub
 new:=S.new
 fix:=fun j w h=>by
  have z:i≠j:=by
   rintro rfl;rw [hF]at h
   cases h
  rw [getElem?_set_ne z];exact S.fix j w h
 sh:=fun j u h=>by
  rcases get_set h with⟨e,l,e'⟩|⟨n,h⟩
  ·subst e
   cases e'
   exact⟨v,getElem?_set_self (by rw [<-S.len];exact l),q⟩
  ·rw [getElem?_set_ne fun e=>n e.symm];exact S.sh j u h
 own:=fun j u h=>by
  rcases get_set h with⟨_,_,e⟩|⟨n,h⟩
  ·cases e
  ·rw [getElem?_set_ne fun e=>n e.symm];exact S.own j u h
 apart:=fun j k u w a n h h'=>by
  rcases get_set h with⟨_,_,e⟩|⟨n1,h⟩
  ·cases e
  ·rcases get_set h' with⟨_,_,e⟩|⟨n2,h'⟩
   ·cases e
   ·rw [getElem?_set_ne fun e=>n1 e.symm,getElem?_set_ne fun e=>n2 e.symm];exact S.apart j k u w a n h h'
 len:=by rw [length_set,length_set];exact S.len
theorem az.BJ(S:az K P Γ σ H Hs){i:Nat}{v:V}{t:T}(hF:P.F i=none)(q:iD K P Γ σ H Hs v (.own t)):az K P (Γ.set i (.own t)) (σ.set i (some v)) H Hs where
 kept:=S.kept
 sub:=S.sub
 new:=S.new
 fix:=fun j w h=>by
  have z:i≠j:=by
   rintro rfl;rw [hF]at h
   cases h
  rw [getElem?_set_ne z];exact S.fix j w h
 sh:=fun j u h=>by
  rcases get_set h with⟨_,_,e⟩|⟨n,h⟩
  ·cases e
  ·rw [getElem?_set_ne fun e=>n e.symm];exact S.sh j u h
 own:=fun j u h=>by
  obtain⟨a,rfl,n0,o,_⟩:=q;rcases get_set h with⟨e,l,e'⟩|⟨n,h⟩
  ·subst e
   cases e'
   exact⟨a,getElem?_set_self (by rw [<-S.len];exact l),n0,o⟩
  ·rw [getElem?_set_ne fun e=>n e.symm];exact S.own j u h
 apart:=fun j k u w b n h h'=>by
  obtain⟨a,rfl,n0,o,no⟩:=q;rcases get_set h with⟨e,l,e'⟩|⟨n1,h⟩
  ·subst e;rcases get_set h' with⟨e2,_,_⟩|⟨n2,h'⟩
   ·exact absurd e2.symm n
   ·rw [getElem?_set_ne fun e=>n2 e.symm,getElem?_set_self (by rw [<-S.len];exact l)];intro q1 q2
    cases q1
    exact no k w h' q2
  ·rcases get_set h' with⟨e2,l2,_⟩|⟨n2,h'⟩
   ·rw [getElem?_set_ne fun e=>n1 e.symm,e2,getElem?_set_self (by rw [<-S.len];exact l2)];intro q1 q2
    cases q2
    exact no j u (by assumption) q1
   ·rw [getElem?_set_ne fun e=>n1 e.symm,getElem?_set_ne fun e=>n2 e.symm];exact S.apart j k u w b n h h'
 len:=by rw [length_set,length_set];exact S.len
theorem az.rewrite(S:az K P Γ σ H Hs){i:Nat}{t t':T}{a:Addr}{o:HO}(h:Γ[i]?=some (.own t))(ha:σ[i]?=some (some (.ref a)))(q:lO K (upd H a o) Hs a t'):az K P (Γ.set i (.own t')) σ (upd H a o) Hs:=by
 obtain⟨b,h1,h2,h3⟩:=S.own i t h;rw [ha]at h1
 cases h1
 have Ge:i<Γ.length:=(List.getElem?_eq_some_iff.mp h).1;refine{kept:=fun c u e=>?_,sub:=fun c u e=>?_,new:=S.new,fix:=S.fix,sh:=fun j u hj=>?_,own:=fun j u hj=>?_,apart:=fun j k u v c n hj hk=>?_,len:=by rw [length_set];exact S.len}
 ·rw [aw (bM e h2)];exact S.kept c u e
 ·rw [aw (bM e h3.free)];exact S.sub c u e
 ·rcases get_set hj with⟨_,_,e⟩|⟨_,hj⟩
  ·cases e
  ·exact S.sh j u hj
 ·rcases get_set hj with⟨e,_,e'⟩|⟨n,hj⟩
  ·subst e
   cases e'
   exact⟨a,ha,h2,q⟩
  ·obtain⟨c,q1,q2,q3⟩:=S.own j u hj;have z:c≠a:=by
    rintro rfl;exact S.apart i j t u _ (fun e=>n e.symm) h hj ha q1
   exact⟨c,q1,q2,q3.mono (fun o' e=>by rw [aw z];exact e) (ax.refl _) q3.free⟩
 ·have e1:∀{j:Nat}{u:T},(Γ.set i (.own t'))[j]?=some (.own u)->∃u',Γ[j]?=some (Slot.own u'):=fun{j u} hj=>by
   rcases get_set hj with⟨e,_,_⟩|⟨_,hj⟩
   ·subst e;exact⟨t,h⟩
   ·exact⟨u,hj⟩
  obtain⟨u',hj'⟩:=e1 hj;obtain⟨v',hk'⟩:=e1 hk;exact S.apart j k u' v' c n hj' hk'
end
section
variable {X:Cx}{P:Fx}{a b c e:Expr}{es:List Expr}{pos pos':Pos}{st:Stmt}{rest:List Stmt}
def dO:MS:=fun Γ=>some (.nx Γ)
def bo(m n:MS):MS:=fun Γ=>(m Γ).bind fun r=>match r with
 |.nx Γ1=>n Γ1
 |r=>some r
theorem bF:jJ X P [] dO:=ym fun Γ res h=>by
 cases h
 exact xX.imp fun D σ H ⟨Hs,S,k⟩=>k σ H Hs (ax.refl _) S
theorem Gh{m n:MS}{Γ:G}{res:Res}(h:bo m n Γ=some res):(∃Γ1,m Γ=some (.nx Γ1)/\n Γ1=some res)\/(m Γ=some res/\∀Γ1,res ≠ .nx Γ1):=by
 unfold bo at h
 cases h1:m Γ with
 |none=>rw [h1]at h;cases h
 |some r =>
  rw [h1]at h
  cases r with
  |nx Γ1=>exact .inl ⟨Γ1,rfl,h⟩
  |rt r Γ1=>cases h;exact .inr ⟨rfl,fun _ e=>nomatch e⟩
  |bk Γ1=>cases h;exact .inr ⟨rfl,fun _ e=>nomatch e⟩
  |ct Γ1=>cases h;exact .inr ⟨rfl,fun _ e=>nomatch e⟩
theorem M9{K:KC}{Γ:G}{res:Res}(Na:∀Γ1,res ≠ .nx Γ1){D:Ends}{f:St->Hp->Prop}{σ:St}{H:Hp}(h:C1 K P Γ res D σ H):C1 K P Γ res {D with nx:=f} σ H:=by
 obtain⟨Hs,S,k⟩:=h;refine⟨Hs,S,fun σ' H' aM e=>?_⟩
 cases res with
 |nx Γ1=>exact absurd rfl (Na Γ1)
 |rt r Γ1=>exact k σ' H' aM e
 |bk Γ1=>exact k σ' H' aM e
 |ct Γ1=>exact k σ' H' aM e
theorem ao{m n:MS}(h1:lY X P st m)(h2:jJ X P rest n):jJ X P (st::rest) (bo m n):=ym fun Γ res h=>by
 rcases Gh h with⟨Γ1,q1,q2⟩|⟨q1,Na⟩
 ·refine(ed (h1.at q1) (h2.at q2)).imp fun D σ H ⟨Hs,S,k⟩=>⟨Hs,S,fun σ' H' aM e S'=>⟨aM,S',fun σ2 H2 bX e2=>k σ2 H2 bX (e.trans e2)⟩⟩
 ·exact(ed (h1.at q1) eK).imp fun D σ H q=>M9 Na q
theorem ay{m:MS}(h1:lY X P st m):jJ X P [st] m:=ym fun Γ res h=>kI (h1.at h)
def bD(i:Nat)(m:MX):MS:=fun Γ=>(m Γ).map fun p=>match p.1 with
 |.sh t=>.nx (p.2.set i (.sh t))
 |.own t=>.nx (p.2.set i (.own t))
 |.bor j t=>.nx ((p.2.set j (.sh t)).set i (.sh t))
theorem aO{i:Nat}{x:Str}{m:MX}(hN:X.N.Nodup)(hi:X.N[i]?=some x)(hx:Loc X.env.scope x)(hF:P.F i=none)(he:aW X P e m)(hs:swapsWith e (some (.Name x pos')) pos.line X.env=pure false:=by rfl)(hf:X.fn x=true\/X.env.scope.names.lookup x=some .local:=by first|exact .inl rfl|exact .inr rfl|assumption):
  lY X P (.Assign [.Name x pos'] e pos) (bD i m):=gY fun Γ res h=>by
 unfold bD at h
 cases h1:m Γ with
 |none=>rw [h1]at h;cases h
 |some p =>
  rw [h1]at h;obtain⟨r,Γ1⟩:=p;refine(mv hN hi hx (he _ _ _ h1) hs hf).imp fun D σ H ⟨Hs,S,k⟩=>⟨Hs,S,fun v H1 bJ e1 dr S1 f1=>?_⟩;show D.nx (σ.set i (some v)) H1
  cases r with
  |sh t =>
   cases h
   exact k _ H1 bJ dr (S1.xa hF f1)
  |own t =>
   cases h
   exact k _ H1 bJ dr (S1.BJ hF f1)
  |bor j t =>
   cases h
   obtain⟨bX,g,S2,tr⟩:=S1.eM f1;exact k _ H1 bX (dr.trans g) (S2.xa hF tr)
def dt(np:Nat)(m:MX):MS:=fun Γ=>(m Γ).map fun p=>match p.1 with
 |.bor j t=>if j<np then .rt (.sh t) (p.2.set j (.sh t))else .rt (.own t) (p.2.set j .no)
 |r=>.rt r p.2
theorem aY{np:Nat}{m:MX}(he:aW X P e m):lY X P (.Return (some e) pos) (dt np m):=gY fun Γ res h=>by
 unfold dt at h
 cases h1:m Γ with
 |none=>rw [h1]at h;cases h
 |some p =>
  rw [h1]at h;obtain⟨r,Γ1⟩:=p;refine(xY (he _ _ _ h1)).imp fun D σ H ⟨Hs,S,k⟩=>⟨Hs,S,fun v H1 bJ e1 dr S1 f1=>?_⟩
  cases r with
  |sh t =>
   cases h
   exact k σ H1 bJ dr v S1 f1
  |own t =>
   cases h
   exact k σ H1 bJ dr v S1 f1
  |bor j t =>
   have h:(if j<np then Res.rt (.sh t) (Γ1.set j (.sh t))else .rt (.own t) (Γ1.set j .no))=res:=Option.some.inj h;by_cases hj:j<np
   ·rw [if_pos hj]at h;subst h;obtain⟨bX,g,S2,tr⟩:=S1.eM f1;exact k σ H1 bX (dr.trans g) v S2 tr
   ·rw [if_neg hj]at h;subst h;obtain⟨q1,q2⟩:=f1;obtain⟨a,h3,h4,h5⟩:=S1.own j t q2;rw [q1]at h3
    cases h3
    refine k σ H1 bJ dr _ (S1.Pn j) ⟨a,rfl,h4,h5,fun i u hi=>?_⟩;rcases get_set hi with⟨_,_,e⟩|⟨n,hi⟩
    ·cases e
    ·exact S1.apart j i t u a (fun e=>n e.symm) q2 hi q1
def C2(m:MX):MS:=fun Γ=>(m Γ).map fun p=>.nx p.2
def jG(c:MT)(m n:MS):MS:=fun Γ=>(c Γ).bind fun p=>if p.1=true then m p.2 else n p.2
theorem cI{t:MT}{m n:MS}{x y:List Stmt}(hc:oN X P c t)(ha:jJ X P x m)(hb:jJ X P y n):lY X P (.If c x y pos) (jG t m n):=gY fun Γ res h=>by
 unfold jG at h
 cases h1:t Γ with
 |none=>rw [h1]at h;cases h
 |some p =>
  rw [h1]at h;obtain⟨k,Γ1⟩:=p
  cases k with
  |true =>
   have h:m Γ1=some res:=h;refine(wU (hc _ _ _ h1) (ha.at h) eK).imp fun D σ H ⟨Hs,S,k'⟩=>⟨Hs,S,fun H1 bJ e e' S1=>?_⟩;refine rA ?_;exact⟨bJ,S1,fun σ2 H2 bX e2=>k' σ2 H2 bX (e'.trans e2)⟩
  |false =>
   have h:n Γ1=some res:=h;refine(wU (hc _ _ _ h1) eK (hb.at h)).imp fun D σ H ⟨Hs,S,k'⟩=>⟨Hs,S,fun H1 bJ e e' S1=>?_⟩;refine uI ?_;exact⟨bJ,S1,fun σ2 H2 bX e2=>k' σ2 H2 bX (e'.trans e2)⟩
abbrev BG:=T->G->Option G
def YE(K:KC)(P:Fx)(b:BG):TG:=fun v σ H Q=>∃t Γ Γ' Hs,b t Γ=some Γ'/\az K P Γ σ H Hs/\Tr K Hs v t/\∀σ',az K P Γ' σ' H Hs->Q σ' H
def uO(X:Cx)(P:Fx)(tg:Expr)(b:BG):Prop:=PG X tg (YE (kc X P) P b)
abbrev JP:=List T->G->Option G
def Tu(K:KC)(P:Fx)(b:JP):Ji:=fun vs σ H Q=>∃ts Γ Γ' Hs,b ts Γ=some Γ'/\az K P Γ σ H Hs/\iu K Hs vs ts/\∀σ',az K P Γ' σ' H Hs->Q σ' H
def C3(X:Cx)(P:Fx)(tg:List Expr)(b:JP):Prop:=Jj X tg (Tu (kc X P) P b)
def aZ(i:Nat):BG:=fun t Γ=>some (Γ.set i (.sh t))
theorem bK{i:Nat}{x:Str}(hN:X.N.Nodup)(hi:X.N[i]?=some x)(hx:Loc X.env.scope x)(hF:P.F i=none)(hf:X.fn x=true\/X.env.scope.names.lookup x=some .local:=by first|exact .inl rfl|exact .inr rfl|assumption):uO X P (.Name x pos) (aZ i) :=
 fun pins s σ H v u Q I r ⟨t,Γ,Γ',Hs,hb,S,tr,k⟩=>by
  cases hb
  exact Jk hN hi hx hf pins s σ H v u Q I r (k _ (S.xa hF tr))
def uP:JP:=fun ts Γ=>match ts with
 |[]=>some Γ
 |_=>none
def ef(b:BG)(c:JP):JP:=fun ts Γ=>match ts with
 |t::r=>(b t Γ).bind fun Γ1=>c r Γ1
 |[]=>none
theorem p8:C3 X P [] uP:=fun pins s σ H v u Q I r ⟨ts,Γ,Γ',Hs,hb,S,tr,k⟩=>by
 cases ts with
 |nil =>
  cases hb
  exact Jl pins s σ H v u Q I r ⟨tr,k _ S⟩
 |cons t r=>cases hb
theorem PG.imp{X:Cx}{tg:Expr}{t t':TG}(h:PG X tg t)(i:∀v σ H Q,t' v σ H Q->t v σ H Q):PG X tg t':=fun pins s σ H v u Q I r q=>h pins s σ H v u Q I r (i v σ H Q q)
theorem Jj.imp{X:Cx}{tg:List Expr}{t t':Ji}(h:Jj X tg t)(i:∀v σ H Q,t' v σ H Q->t v σ H Q):Jj X tg t':=fun pins s σ H v u Q I r q=>h pins s σ H v u Q I r (i v σ H Q q)
theorem eg{b:BG}{d:JP}(h1:uO X P e b)(h2:C3 X P es d)(hs:(assignEach (e::es) X.env).map (·.2)=assign e X.env::(assignEach es X.env).map (·.2):=by rfl):C3 X P (e::es) (ef b d):=by
 refine Jj.imp (FA h1 h2 hs) fun vs σ H Q ⟨ts,Γ,Γ',Hs,hb,S,tr,k⟩=>?_
 cases ts with
 |nil=>cases hb
 |cons t r =>
  obtain⟨v,vr,rfl,q1,q2⟩:=tr;have hb:(b t Γ).bind (fun Γ1=>d r Γ1)=some Γ':=hb
  cases h3:b t Γ with
  |none=>rw [h3]at hb;cases hb
  |some Γ1 =>
   rw [h3]at hb;exact⟨v,vr,rfl,t,Γ,Γ1,Hs,h3,S,q1,fun σ' S'=>⟨r,Γ1,Γ',Hs,hb,S',q2,k⟩⟩
def uQ(n:Nat)(d:JP):BG:=fun t Γ=>match t with
 |.tup ts=>if ts.length=n then d ts Γ else none
 |_=>none
theorem ue{k n:Nat}{d:JP}(hc:X.calm=true)(h:C3 X P es d)(hn:(assignEach es X.env).length=n:=by rfl)(wV:(assignEach es X.env).findIdx? (·.1)=none:=by rfl):uO X P (.Tuple es k pos) (uQ n d):=by
 refine PG.imp (Mp hc h hn wV) fun v σ H Q ⟨t,Γ,Γ',Hs,hb,S,tr,k⟩=>?_
 cases t with
 |tup ts =>
  have hb:(if ts.length=n then d ts Γ else none)=some Γ':=hb;by_cases hl:ts.length=n
  ·rw [if_pos hl]at hb;obtain⟨a,xs,rfl,sq,rs⟩:=tr;exact⟨a,xs,rfl,my S.sub sq,by rw [aF rs];exact hl,ts,Γ,Γ',Hs,hb,S,rs,k⟩
  ·rw [if_neg hl]at hb
   cases hb
 |_=>cases hb
def tL(b:BG)(m:MX):MS:=fun Γ=>(m Γ).bind fun p=>(b (eM p.1 p.2).1 (eM p.1 p.2).2).map .nx
theorem uf{tg:Expr}{b:BG}{m:MX}(he:aW X P e m)(hg:uO X P tg b)(hs:swapsWithSole [tg] e pos.line X.env=pure false:=by rfl)(hw:swappedStores [tg] e X.env=pure none:=by rfl)
  (h1:(assignEach [tg] X.env).map (·.2)=[assign tg X.env]:=by rfl):lY X P (.Assign [tg] e pos) (tL b m):=gY fun Γ res h=>by
 unfold tL at h
 cases h2:m Γ with
 |none=>rw [h2]at h;cases h
 |some p =>
  rw [h2]at h;have h:(b (eM p.1 p.2).1 (eM p.1 p.2).2).map Res.nx=some res:=h
  cases h3:b (eM p.1 p.2).1 (eM p.1 p.2).2 with
  |none=>rw [h3]at h;cases h
  |some Γ2 =>
   rw [h3]at h
   cases h
   refine(FC (he _ _ _ h2) hg hs hw h1).imp fun D σ H ⟨Hs,S,k⟩=>⟨Hs,S,fun v H1 bJ e1 dr S1 f1=>?_⟩;obtain⟨bX,g,S2,tr⟩:=S1.eM f1;exact⟨_,_,Γ2,bX,h3,S2,tr,fun σ' S'=>k σ' H1 bX (dr.trans g) S'⟩
def eG(b:BG)(m:MS):List T->G->Option Res
 |[],Γ=>some (.nx Γ)
 |t::ts,Γ=>(b t Γ).bind fun Γ1=>(m Γ1).bind fun r=>match r with
  |.nx Γ2=>eG b m ts Γ2
  |.ct Γ2=>eG b m ts Γ2
  |.bk Γ2=>some (.nx Γ2)
  |.rt r Γ2=>some (.rt r Γ2)
theorem BK{b:BG}{m:MS}{t:T}{ts:List T}{Γ:G}{res:Res}(h:eG b m (t::ts) Γ=some res):∃Γ1 r,b t Γ=some Γ1/\m Γ1=some r /\
  ((∃Γ2,(r=.nx Γ2\/r=.ct Γ2)/\eG b m ts Γ2=some res)\/(∃Γ2,r=.bk Γ2/\res=.nx Γ2)\/∃z Γ2,r=.rt z Γ2/\res=.rt z Γ2):=by
 unfold eG at h
 cases h1:b t Γ with
 |none=>rw [h1]at h;cases h
 |some Γ1 =>
  rw [h1]at h
  cases h2:m Γ1 with
  |none =>
   have h:(m Γ1).bind _=some res:=h;rw [h2]at h;cases h
  |some r =>
   have h:(m Γ1).bind (fun r=>match r with | .nx Γ2=>eG b m ts Γ2 | .ct Γ2=>eG b m ts Γ2 | .bk Γ2=>some (.nx Γ2) | .rt r Γ2=>some (.rt r Γ2))=some res:=h;rw [h2]at h;refine⟨Γ1,r,rfl,h2,?_⟩
   cases r with
   |nx Γ2=>exact .inl ⟨Γ2,.inl rfl,h⟩
   |ct Γ2=>exact .inl ⟨Γ2,.inr rfl,h⟩
   |bk Γ2=>cases h;exact .inr (.inl ⟨Γ2,rfl,rfl⟩)
   |rt z Γ2=>cases h;exact .inr (.inr ⟨z,Γ2,rfl,rfl⟩)
theorem JQ{K:KC}{b:BG}{m:MS}{t:T}{ts:List T}{Γ:G}{res:Res}{D:Ends}{σ:St}{H Hs Tv:Hp}{v:V}{Pv:St->Hp->Prop}
  (h:eG b m (t::ts) Γ=some res) (S:az K P Γ σ H Hs) (e0:ax Tv Hs) (tr:Tr K Hs v t)
  (k:∀σ' H' aM,ax Tv aM->M8 K P D σ' H' aM res)
  (hP:∀Γ2 σ' H' aM,ax Tv aM->eG b m ts Γ2=some res->az K P Γ2 σ' H' aM->Pv σ' H') :
  YE K P b v σ H fun σ2 H2=>Tt K P m {D with nx:=Pv,ct:=Pv,bk:=D.nx} σ2 H2:=by
 obtain⟨Γ1,r,hb,hm,hr⟩:=BK h;refine⟨t,Γ,Γ1,Hs,hb,S,tr,fun σ' S'=>⟨Γ1,r,hm,Hs,S',fun σ2 H2 bX e2=>?_⟩⟩;rcases hr with⟨Γ2,hr,hl⟩|⟨Γ2,rfl,rfl⟩|⟨z,Γ2,rfl,rfl⟩
 ·rcases hr with rfl|rfl
  ·exact fun S2=>hP Γ2 σ2 H2 bX (e0.trans e2) hl S2
  ·exact fun S2=>hP Γ2 σ2 H2 bX (e0.trans e2) hl S2
 ·exact fun S2=>k σ2 H2 bX (e0.trans e2) S2
 ·exact fun w S2 f2=>k σ2 H2 bX (e0.trans e2) w S2 f2
theorem drop_cons{α:Type}{l:List α}{i:Nat}{x:α}(h:l[i]?=some x):l.drop i=x::l.drop (i+1):=by
 obtain⟨hl,e⟩:=List.getElem?_eq_some_iff.mp h;rw [<-e];exact List.drop_eq_getElem_cons hl
def upTo(lo:Int)(n:Nat):List T:=(List.range n).map fun(i:Nat)=>T.int (lo+(i:Int))
theorem Gi{lo:Int}{n i:Nat}(h:i<n):(upTo lo n)[i]?=some (T.int (lo+(i:Int))):=by
 unfold upTo;rw [getElem?_map,List.getElem?_range h];rfl
def dN(i:Nat)(m:MX):MS:=fun Γ=>match Γ[i]? with
 |some (.own (.lst _))=>(m Γ).bind fun p=>match (eM p.1 p.2).2[i]? with
  |some (.own (.lst ts))=>if ts.length<sizeLine then some (.nx ((eM p.1 p.2).2.set i (.own (.lst (ts++[(eM p.1 p.2).1])))))else none
  |_=>none
 |_=>none
theorem sD{i:Nat}{m:MX}{Γ:G}{res:Res}(h:dN i m Γ=some res):∃us r Γ1 ts,Γ[i]?=some (.own (.lst us))/\m Γ=some (r,Γ1)/\(eM r Γ1).2[i]?=some (.own (.lst ts))/\ts.length<sizeLine/\res=.nx ((eM r Γ1).2.set i (.own (.lst (ts++[(eM r Γ1).1])))):=by
 unfold dN at h;split at h
 ·rename_i us hu
  cases h1:m Γ with
  |none=>rw [h1]at h;cases h
  |some p =>
   rw [h1]at h;obtain⟨r,Γ1⟩:=p;dsimp only [Option.bind]at h;split at h
   ·rename_i ts ht;split at h
    ·rename_i hl
     cases h
     exact⟨us,r,Γ1,ts,hu,rfl,ht,hl,rfl⟩
    ·cases h
   ·cases h
 ·cases h
theorem uR{i:Nat}{o:Expr}{apos bQ:Pos}{m:MX}(ho:PE X o (gq i))(he:aW X P e m)
  (gu:attributeBase o "append" X.env (eval o X.env)=eval o X.env:=by rfl)
  (rq:((backTo bQ (starEach [e] X.env)).all (fun x=>!x.1)&&(backToKw bQ (keywordEach [] X.env)).all (fun x=>x.1.isSome)
   && decide ([e].length+([]:List Keyword).length+(if([]:List Keyword).isEmpty then 0 else 1)<30))=true:=by rfl)
  (ir:(apos.endLine==bQ.line)=true:=by rfl) (hs:starEach [e] X.env=(false,eval e X.env)::starEach [] X.env:=by rfl) (gX:(backTo bQ (starEach [] X.env)).any (·.1)=false:=by rfl)
  (Nb:swapsWith (.Call (.Attribute o "append" apos) [e] [] bQ) none pos.line X.env=pure false:=by rfl) :
  lY X P (.Expr (.Call (.Attribute o "append" apos) [e] [] bQ) pos) (dN i m):=gY fun Γ res h=>by
 obtain⟨us,r,Γ1,ts,hu,h1,ht,hl,rfl⟩:=sD h;refine(nM (w6 PySem.F.plainAttrs_list PySem.F.slot_list_append PySem.F.type_list_append kg ho (bE (he _ _ _ h1) d0 hs) gu rq ir hs gX) Nb).imp fun D σ H ⟨Hs,S,k⟩=>?_;obtain⟨a,q1,_,q3⟩:=S.own i _ hu;obtain⟨_,YF,Oq,_⟩:=q3;refine⟨_,q1,.inl ⟨rfl,_,lM.of Oq⟩,Hs,S,fun v H1 bJ e1 dr S1 f1=>?_⟩;obtain⟨bX,g,S2,tr⟩:=S1.eM f1;obtain⟨b,p1,p2,p3⟩:=S2.own i _ ht;rw [q1]at p1
 cases p1
 obtain⟨pf,xs,hx,rs⟩:=p3;refine⟨a,xs,v,rfl,rfl,hx,by rw [aF rs];exact hl,?_⟩;refine k σ _ bX (dr.trans g) (S2.rewrite ht q1 ⟨pf,_,aE,d4 rs (dh tr cu)⟩)
end
def gZ(n:Nat)(m:MS):CF:=fun as=>match m (as++List.replicate (n-as.length) Slot.no)with
 |some (.nx Γ)=>some (.sh .cQ,Γ)
 |some (.rt (.sh t) Γ)=>some (.sh t,Γ)
 |some (.rt (.own t) Γ)=>some (.own t,Γ)
 |_=>none
theorem Gj{n:Nat}{m:MS}{as Γ:G}{r:R}(h:gZ n m as=some (r,Γ)):(m (as++List.replicate (n-as.length) Slot.no)=some (.nx Γ)/\r=.sh .cQ)\/(m (as++List.replicate (n-as.length) Slot.no)=some (.rt r Γ)/\((∃t,r=.sh t)\/∃t,r=.own t)):=by
 unfold gZ at h;split at h
 ·rename_i q
  cases h
  exact .inl ⟨q,rfl⟩
 ·rename_i q
  cases h
  exact .inr ⟨q,.inl ⟨_,rfl⟩⟩
 ·rename_i q
  cases h
  exact .inr ⟨q,.inr ⟨_,rfl⟩⟩
 ·cases h
def p9(vs:List V):Nat->Option V:=fun i=>vs[i]?
theorem je{K:KC}{H0 Hs H:Hp}{as:G}{vs:List V}{N:List Str}(S:az K ⟨H0,Hs,K.cl,ud⟩ as (vs.map some) H Hs):az K ⟨H0,Hs,K.cl,p9 vs⟩ (as++List.replicate (N.length-as.length) Slot.no) (L2.start N vs) H Hs:=by
 have hl:as.length=vs.length:=by have:=S.len;rwa [length_map]at this
 have ga:∀{i:Nat}{s:Slot},(as++List.replicate (N.length-as.length) Slot.no)[i]?=some s->s ≠ .no->as[i]?=some s/\i<vs.length:=fun{i s} h n=>by
  by_cases hi:i<as.length
  ·rw [List.getElem?_append_left hi]at h;exact⟨h,by omega⟩
  ·rw [List.getElem?_append_right (by omega),getElem?_replicate]at h;split at h
   ·cases h
    exact absurd rfl n
   ·cases h
 have gs:∀{i:Nat},i<vs.length->(L2.start N vs)[i]?=(vs.map some)[i]?:=fun{i} hi=>by
  unfold L2.start;rw [List.getElem?_append_left (by rw [length_map];exact hi)]
 refine{kept:=S.kept,sub:=S.sub,new:=S.new,fix:=fun i v h=>?_,sh:=fun i t h=>?_,own:=fun i t h=>?_,apart:=fun i j t u a n h1 h2=>?_,len:=?_}
 ·have h:vs[i]?=some v:=h;rw [gs (List.getElem?_eq_some_iff.mp h).1,getElem?_map,h];rfl
 ·obtain⟨h1,h2⟩:=ga h (by intro z;cases z);rw [gs h2];exact S.sh i t h1
 ·obtain⟨h1,h2⟩:=ga h (by intro z;cases z);rw [gs h2];exact S.own i t h1
 ·obtain⟨q1,q2⟩:=ga h1 (by intro z;cases z);obtain⟨q3,q4⟩:=ga h2 (by intro z;cases z);rw [gs q2,gs q4];exact S.apart i j t u a n q1 q3
 ·unfold L2.start;rw [length_append,length_append,List.length_replicate,List.length_replicate,length_map,hl]
theorem qb{K:KC}{H0 Hs aM H':Hp}{Γ:G}{vs:List V}{σ:St}(S:az K ⟨H0,Hs,K.cl,p9 vs⟩ Γ σ H' aM):az K ⟨H0,Hs,K.cl,ud⟩ (Γ.take vs.length) (vs.map some) H' aM:=by
 have ga:∀{i:Nat}{s:Slot},(Γ.take vs.length)[i]?=some s->Γ[i]?=some s/\i<vs.length:=fun{i s} h=>by
  have hi:i<vs.length:=by
   have:=(List.getElem?_eq_some_iff.mp h).1;rw [length_take]at this;omega
  rw [List.getElem?_take_of_lt hi]at h;exact⟨h,hi⟩
 have gs:∀{i:Nat},i<vs.length->(vs.map some)[i]?=σ[i]?:=fun{i} hi=>by
  have e:vs[i]?=some vs[i]:=by simp [hi]
  rw [getElem?_map,e,S.fix i vs[i] e];rfl
 have hΓ:vs.length<=Γ.length:=by
  rw [S.len];by_cases hz:vs.length=0
  ·omega
  ·have e:vs[vs.length-1]?=some vs[vs.length-1]:=by simp
   have:=(List.getElem?_eq_some_iff.mp (S.fix (vs.length-1) _ e)).1;omega
 refine{kept:=S.kept,sub:=S.sub,new:=S.new,fix:=(fun i v h=>nomatch h),sh:=fun i t h=>?_,own:=fun i t h=>?_,apart:=fun i j t u a n h1 h2=>?_,len:=?_}
 ·obtain⟨h1,h2⟩:=ga h;rw [gs h2];exact S.sh i t h1
 ·obtain⟨h1,h2⟩:=ga h;rw [gs h2];exact S.own i t h1
 ·obtain⟨q1,q2⟩:=ga h1;obtain⟨q3,q4⟩:=ga h2;rw [gs q2,gs q4];exact S.apart i j t u a n q1 q3
 ·rw [length_take,length_map];omega
section
variable {Pr:Program}{w:World}{K:PySem.W.Frag}{mg:Str->Option Value}{base:Heap}
theorem Tw{cl:Nat->Addr}{x qual:Str}{st:Stmt}{f:Addr}{fd:FuncData}{N ps:List Str}{k:Nat}{m:MS}(F:jW K x qual st f fd)(Sc:aN N ps (ai st))
  (hb:∀(cW:Value)(A:Around)(outer:List Env)(s:Shared)(H:Hp)(E:XK)(P:Fx),P.cl=cl->(∀i,ps.length<=i->P.F i=none)->dP k (A.deeper (envOfC qual (ai st) s.heap.objs.size f cW)) ->
   jJ (lX gU Pr w K mg base N qual (ai st) f cW A outer s H E).Ff P (aH st) m) :
  bc Pr w K mg base gU (k+1) f fd ps (oq ⟨K,cl⟩ ps.length (gZ N.length m)):=by
 refine F.ok Sc (fun vs H Q E h=>h.1) (fun cW A outer s H vs Q E hr h=>?_);obtain⟨hl,as,r,Γ',Hs,H0,hc,S,kq⟩:=h;have jV:ps.length<=N.length:=by
  have:=congrArg List.length Sc.pre;rw [length_take]at this;omega
 have hv:∀i,ps.length<=i->p9 vs i=none:=fun i hi=>by
  unfold p9;rw [List.getElem?_eq_none_iff];omega
 refine⟨_,hb cW A outer s H E ⟨H0,Hs,cl,p9 vs⟩ rfl hv hr,?_⟩;have S0:=je (N:=N) S;rcases Gj hc with⟨hm,rfl⟩|⟨hm,zO⟩
 ·refine⟨_,_,hm,Hs,S0,fun σ' H' aM e S'=>?_⟩;refine kq _ H' aM e ?_ rfl;rw [<-hl];exact qb S'
 ·refine⟨_,_,hm,Hs,S0,fun σ' H' aM e v S' f=>?_⟩;have S2:=qb S';rw [hl]at S2;refine kq v H' aM e S2 ?_;rcases zO with⟨t,rfl⟩|⟨t,rfl⟩
  ·exact f
  ·obtain⟨a,rfl,n,q,no⟩:=f;refine⟨a,rfl,n,q,fun i u hi=>?_⟩;have Tz:i<vs.length:=by
    have:=(List.getElem?_eq_some_iff.mp hi).1;rw [length_take]at this;omega
   rw [List.getElem?_take_of_lt (by omega)]at hi;have e:vs[i]?=some vs[i]:=by simp [Tz]
   have e2:=S'.fix i vs[i] e;rw [getElem?_map,e];have e3:=no i u hi;rw [e2]at e3;exact e3
theorem lZ{cl:Nat->Addr}{x qual:Str}{st:Stmt}{f:Addr}{fd:FuncData}{N ps:List Str}{k n np:Nat}{m:MS}(F:jW K x qual st f fd)(Sc:aN N ps (ai st))(hn:N.length=n)(hp:ps.length=np)
  (hb:∀(cW:Value)(A:Around)(outer:List Env)(s:Shared)(H:Hp)(E:XK)(P:Fx),P.cl=cl->(∀i,np<=i->P.F i=none)->dP k (A.deeper (envOfC qual (ai st) s.heap.objs.size f cW)) ->
   jJ (lX gU Pr w K mg base N qual (ai st) f cW A outer s H E).Ff P (aH st) m) :
  bc Pr w K mg base gU (k+1) f fd ps (oq ⟨K,cl⟩ np (gZ n m)):=by
 subst hn hp;exact Tw F Sc hb
end
theorem iU.imp{X:Cx}{f:Value->Value->Sem Value}{r r':R2}(h:iU X f r)(i:∀x y H Q,r' x y H Q->r x y H Q):iU X f r':=fun pins s σ H x y v u Q I rx ry q=>h pins s σ H x y v u Q I rx ry (i x y H Q q)
theorem fF.imp{X:Cx}{f:Value}{r r':List V->Hp->VK->Prop}(h:fF X f r)(i:∀xs H Q,r' xs H Q->r xs H Q):fF X f r':=fun pins s σ H xs us Q I rx q=>h pins s σ H xs us Q I rx (i xs H Q q)
def gI(f:Int->Int->Int):T->T->Option R
 |.int i,.int j=>some (.sh (.int (f i j)))
 |_,_=>none
def Nc(C:Int->Int->Bool)(f:Int->Int->Int):T->T->Option R
 |.int i,.int j=>if C i j=true then some (.sh (.int (f i j)))else none
 |_,_=>none
def gB(f:Int->Int->Bool):T->T->Option R
 |.int i,.int j=>some (.sh (.bl (f i j)))
 |_,_=>none
theorem Nd{f:Int->Int->Int}{t u:T}{r:R}(h:gI f t u=some r):∃i j,t=.int i/\u=.int j/\r=.sh (.int (f i j)):=by
 unfold gI at h;split at h
 ·cases h
  exact⟨_,_,rfl,rfl,rfl⟩
 ·cases h
theorem JR{C:Int->Int->Bool}{f:Int->Int->Int}{t u:T}{r:R}(h:Nc C f t u=some r):∃i j,t=.int i/\u=.int j/\C i j=true/\r=.sh (.int (f i j)):=by
 unfold Nc at h;split at h
 ·split at h
  ·rename_i hc
   cases h
   exact⟨_,_,rfl,rfl,hc,rfl⟩
  ·cases h
 ·cases h
theorem Nf{f:Int->Int->Bool}{t u:T}{r:R}(h:gB f t u=some r):∃i j,t=.int i/\u=.int j/\r=.sh (.bl (f i j)):=by
 unfold gB at h;split at h
 ·cases h
  exact⟨_,_,rfl,rfl,rfl⟩
 ·cases h
section
variable {X:Cx}{cl:Nat->Addr}
theorem LC{f:Value->Value->Sem Value}{g:Int->Int->Int}(h:iU X f (IP fun i j=>.int (g i j))):kd X cl f (gI g):=iU.imp h fun x y H Q ⟨Hs,t,u,r,sm,h1,h2,hg,k⟩=>by
 obtain⟨i,j,rfl,rfl,rfl⟩:=Nd hg;exact⟨i,j,h1,h2,k _ H (.val rfl)⟩
theorem yn{f:Value->Value->Sem Value}{C:Int->Int->Prop}{D:Int->Int->Bool}{g:Int->Int->Int}(h:iU X f (rI C fun i j=>.int (g i j)))(hc:∀i j,D i j=true->C i j):kd X cl f (Nc D g):=iU.imp h fun x y H Q ⟨Hs,t,u,r,sm,h1,h2,hg,k⟩=>by
 obtain⟨i,j,rfl,rfl,q,rfl⟩:=JR hg;exact⟨i,j,h1,h2,hc i j q,k _ H (.val rfl)⟩
theorem C4{f:Value->Value->Sem Value}{g:Int->Int->Bool}(h:iU X f (IP fun i j=>.bl (g i j))):kd X cl f (gB g):=iU.imp h fun x y H Q ⟨Hs,t,u,r,sm,h1,h2,hg,k⟩=>by
 obtain⟨i,j,rfl,rfl,rfl⟩:=Nf hg;exact⟨i,j,h1,h2,k _ H (.val rfl)⟩
def eW(i:Int):Bool:=decide (-(2 ^ 64)<i)&&decide (i<2 ^ 64)
def LD:=gI fun i j=>i+j
def jF:=gI fun i j=>i-j
def xb:=Nc (fun i j=>eW i||eW j) fun i j=>i*j
def fO:=Nc (fun _ j=>decide (0<j)&&decide (j<1073741824)) fun i j=>i / j
def du:=Nc (fun _ j=>decide (0<j)) fun i j=>i % j
def Gk:=Nc (fun i j=>decide (0<=j)&&decide (j<=1000)&&eW i&&decide (-(2 ^ 63)<i)) fun i j=>i ^ j.toNat
def zi:=gB fun i j=>decide (i<j)
def JS:=gB fun i j=>decide (i<=j)
def sE:=gB fun i j=>decide (j<i)
def TB:=gB fun i j=>decide (j<=i)
theorem Gm:kd X cl (binaryOp .Add) LD:=LC Mz
theorem kN:kd X cl (binaryOp .Sub) jF:=LC MB
theorem Gn:kd X cl (binaryOp .Mult) xb:=yn MC fun i j h=>by
 unfold eW at h;simp only [Bool.or_eq_true,and_eq_true,decide_eq_true_eq]at h;exact h
theorem eu:kd X cl (binaryOp .FloorDiv) fO:=yn Jq fun i j h=>by
 simp only [and_eq_true,decide_eq_true_eq]at h;exact h
theorem cm:kd X cl (binaryOp .Mod) du:=yn MD fun i j h=>by
 simp only [decide_eq_true_eq]at h;exact h
theorem C5:kd X cl (binaryOp .Pow) Gk:=yn ME fun i j h=>by
 unfold eW at h;simp only [and_eq_true,decide_eq_true_eq]at h;refine⟨by omega,by omega,?_⟩;omega
theorem oP:kd X cl (compareOp .Lt) zi:=C4 OV
theorem yo:kd X cl (compareOp .LtE) JS:=C4 OW
theorem mD:kd X cl (compareOp .Gt) sE:=C4 OX
theorem Ng:kd X cl (compareOp .GtE) TB:=C4 OY
def Gp:T->Bool
 |.cQ=>true
 |_=>false
theorem xc{K:KC}{H Hs:Hp}{x:V}{t:T}(h:wC K H Hs x t):decide (x=.cQ)=Gp t:=by
 cases t with
 |cQ =>
  cases(show x=.cQ from h)
  rfl
 |bl b =>
  cases(show x=.bl b from h)
  rfl
 |int i =>
  cases(show x=.int i from h)
  rfl
 |str s =>
  cases(show x=.str s from h)
  rfl
 |lst ts =>
  obtain⟨a,_,rfl,_⟩:=h;rfl
 |tup ts =>
  obtain⟨a,_,rfl,_⟩:=h;rfl
 |ua ks ts =>
  obtain⟨a,_,rfl,_⟩:=h;rfl
 |obj n =>
  obtain⟨a,_,rfl,_⟩:=h;rfl
def xf:T->T->Option R:=fun t u=>if Gp u=true then some (.sh (.bl (!Gp t)))else none
theorem Gq:kd X cl (compareOp .IsNot) xf:=iU.imp Jr fun x y H Q ⟨Hs,t,u,r,sm,h1,h2,hg,k⟩=>by
 unfold xf at hg;split at hg
 ·rename_i hu
  cases hg
  rw [<-xc h2]at hu;refine⟨of_decide_eq_true hu,?_⟩;rw [xc h1];exact k _ H (.val rfl)
 ·cases hg
mutual
def toD:T->PyData
 |.cQ=>.none
 |.bl b=>.bool b
 |.int i=>.int i
 |.str x=>.str x
 |.lst ts=>.list (yp ts)
 |.tup ts=>.tuple (yp ts)
 |.ua _ _=>.dict []
 |.obj _=>.dict []
def yp:List T->List PyData
 |[]=>[]
 |t::ts=>toD t::yp ts
end
mutual
def Eg:T->Bool
 |.cQ=>true
 |.bl _=>true
 |.int _=>true
 |.str x=>PySem.PyData.strOk x
 |.lst ts=>yq ts
 |.tup ts=>yq ts
 |.ua _ _=>false
 |.obj _=>false
def yq:List T->Bool
 |[]=>true
 |t::ts=>Eg t&&yq ts
end
mutual
theorem xg:∀t:T,Eg t=true->(toD t).canLay0=true
 |.cQ,_=>rfl
 |.bl _,_=>rfl
 |.int _,_=>rfl
 |.str _,h=>h
 |.lst ts,h=>oQ ts h
 |.tup ts,h=>oQ ts h
 |.ua _ _,h=>nomatch h
 |.obj _,h=>nomatch h
theorem oQ:∀ts:List T,yq ts=true->PyData.canLayAll0 (yp ts)=true
 |[],_=>rfl
 |t::ts,h=>by
  have h:(Eg t&&yq ts)=true:=h;obtain⟨h1,h2⟩:=Bool.and_eq_true_iff.mp h;show((toD t).canLay0&&PyData.canLayAll0 (yp ts))=true;rw [xg t h1,oQ ts h2];rfl
end
mutual
theorem mE{pins:List (Addr×Obj)}{s:Shared}{σ:St}{H:Hp}(I:Inv X pins σ H s):∀(t:T)(v:V)(u:Value),Eg t=true->Tr ⟨X.K,cl⟩ H v t->RelV v u->∃as,Reads s.heap u (toD t) as
 |.cQ,v,u,_,h,r=>by
  cases(show v=.cQ from h)
  cases(show u=Value.none from r)
  exact⟨_,.none⟩
 |.bl b,v,u,_,h,r=>by
  cases(show v=.bl b from h)
  cases(show u=Value.bool b from r)
  exact⟨_,.bool b⟩
 |.int i,v,u,_,h,r=>by
  cases(show v=.int i from h)
  obtain⟨t,q⟩:=(show ∃t,u=Value.int i t from r);subst q;exact⟨_,.int i t⟩
 |.str x,v,u,_,h,r=>by
  cases(show v=.str x from h)
  obtain⟨t,q⟩:=(show ∃t,u=Value.str x t from r);subst q;exact⟨_,.str x t⟩
 |.lst ts,v,u,ok,h,r=>by
  obtain⟨a,xs,rfl,sq,rs⟩:=h
  cases(show u=Value.ref a from r)
  obtain⟨bh,vs,⟨o,n,e,c,_,d⟩,_⟩:=I.list sq;obtain⟨as,q⟩:=rD I ts xs bh ok rs vs;exact⟨_,.list e c d (by simpa using q)⟩
 |.tup ts,v,u,ok,h,r=>by
  obtain⟨a,xs,rfl,sq,rs⟩:=h
  cases(show u=Value.ref a from r)
  obtain⟨bh,vs,⟨o,e,c,n,d⟩,_⟩:=I.tuple sq;obtain⟨as,q⟩:=rD I ts xs bh ok rs vs;exact⟨_,.tuple e c d (by simpa using q)⟩
 |.ua _ _,v,u,ok,h,r=>nomatch ok
 |.obj _,v,u,ok,h,r=>nomatch ok
theorem rD{pins:List (Addr×Obj)}{s:Shared}{σ:St}{H:Hp}(I:Inv X pins σ H s):∀(ts:List T)(xs:List V)(us:List Value),yq ts=true->iu ⟨X.K,cl⟩ H xs ts->Vals xs us->∃as,ReadsAll s.heap us (yp ts) as
 |[],xs,us,_,h,r=>by
  cases(show xs=[] from h)
  cases r
  exact⟨_,.nil⟩
 |t::ts,xs,us,ok,h,r=>by
  have ok:(Eg t&&yq ts)=true:=ok;obtain⟨h1,h2⟩:=Bool.and_eq_true_iff.mp ok;obtain⟨v,vs,rfl,q,qs⟩:=h
  cases r with
  |cons r1 r2 =>
   obtain⟨as,z⟩:=mE I t v _ h1 q r1;obtain⟨bs,zs⟩:=rD I ts vs _ h2 qs r2;exact⟨_,.cons z zs⟩
end
def eqT(t u:T):Bool:=PyData.eqv (toD t) (toD u)
def JT(n:Bool):T->T->Option R:=fun t u=>match t,u with
 |.str x,.str y=>some (.sh (.bl (xor n (decide (x=y)))))
 |_,_=>if(Eg t&&Eg u&&decide ((toD t).depth<=60)&&decide ((toD u).depth<=60))=true then some (.sh (.bl (xor n (eqT t u))))else none
def gW:=JT false
def zP:=JT true
theorem nS{t:T}(h:Eg t=true)(hd:(toD t).depth<=60):PySem.SeqAt.shaped (toD t)=true:=by
 unfold PySem.SeqAt.shaped;rw [xg t h,Bool.true_and];exact decide_eq_true (by omega)
theorem zQ{n:Bool}{t u:T}{r:R}(h:JT n t u=some r):(∃x y,t=.str x/\u=.str y/\r=.sh (.bl (xor n (decide (x=y)))))\/(Eg t=true/\Eg u=true/\(toD t).depth<=60/\(toD u).depth<=60/\r=.sh (.bl (xor n (eqT t u)))):=by
 unfold JT at h;split at h
 ·cases h
  exact .inl ⟨_,_,rfl,rfl,rfl⟩
 ·split at h
  ·rename_i hc
   cases h
   simp only [and_eq_true,decide_eq_true_eq]at hc;exact .inr ⟨hc.1.1.1,hc.1.1.2,hc.1.2,hc.2,rfl⟩
  ·cases h
theorem dE(hu:X.A.units+64<cLine):kd X cl (compareOp .Eq) gW:=by
 intro pins s σ H x y v u Q I rx ry ⟨Hs,t,w,r,sm,h1,h2,hg,k⟩;rcases zQ hg with⟨a,b,rfl,rfl,rfl⟩|⟨o1,o2,d1,d2,rfl⟩
 ·refine OT pins s σ H x y v u Q I rx ry ?_
  cases(show x=.str a from h1)
  cases(show y=.str b from h2)
  refine⟨rfl,?_⟩;have e:decide (V.str a=V.str b)=xor false (decide (a=b)):=by
   rw [false_xor];simp
  rw [e];exact k _ H (.val rfl)
 ·obtain⟨as,q1⟩:=mE (cl:=cl) I t x v o1 (h1.tr sm) rx;obtain⟨bs,q2⟩:=mE (cl:=cl) I w y u o2 (h2.tr sm) ry;refine eq_dataH q1 q2 (nS o1 d1) (nS o2 d2) hu ?_;have z:=k (.bl (xor false (eqT t w))) H (.val rfl);rw [false_xor]at z;exact⟨.bl (eqT t w),H,I,rfl,z⟩
theorem BL(hu:X.A.units+64<cLine):kd X cl (compareOp .NotEq) zP:=by
 intro pins s σ H x y v u Q I rx ry ⟨Hs,t,w,r,sm,h1,h2,hg,k⟩;rcases zQ hg with⟨a,b,rfl,rfl,rfl⟩|⟨o1,o2,d1,d2,rfl⟩
 ·refine OU pins s σ H x y v u Q I rx ry ?_
  cases(show x=.str a from h1)
  cases(show y=.str b from h2)
  refine⟨rfl,?_⟩;have e:(!decide (V.str a=V.str b))=xor true (decide (a=b)):=by
   rw [true_xor];simp
  rw [e];exact k _ H (.val rfl)
 ·obtain⟨as,q1⟩:=mE (cl:=cl) I t x v o1 (h1.tr sm) rx;obtain⟨bs,q2⟩:=mE (cl:=cl) I w y u o2 (h2.tr sm) ry;refine ne_dataH q1 q2 (nS o1 d1) (nS o2 d2) hu ?_;have z:=k (.bl (xor true (eqT t w))) H (.val rfl);rw [true_xor]at z;exact⟨.bl (!eqT t w),H,I,rfl,z⟩
def JU:T->T->Option R:=fun t u=>match t,u with
 |.lst ts,.lst us=>if ts.length+us.length<=sizeLine then some (.own (.lst (ts++us)))else none
 |_,_=>none
theorem Gr{t u:T}{r:R}(h:JU t u=some r):∃ts us,t=.lst ts/\u=.lst us/\ts.length+us.length<=sizeLine/\r=.own (.lst (ts++us)):=by
 unfold JU at h;split at h
 ·split at h
  ·rename_i hl
   cases h
   exact⟨_,_,rfl,rfl,hl,rfl⟩
  ·cases h
 ·cases h
theorem JV:kd X cl (binaryOp .Add) JU:=by
 intro pins s σ H x y v u Q I rx ry ⟨Hs,t,w,r,sm,h1,h2,hg,k⟩;obtain⟨ts,us,rfl,rfl,hl,rfl⟩:=Gr hg;obtain⟨l,xs,rfl,sl,rl⟩:=h1;obtain⟨b,ys,rfl,sb,rb⟩:=h2
 cases rx
 cases ry
 obtain⟨bh,v1,⟨⟨cls,dd,data,Rp⟩,n,e1,c1,d1,q1⟩,z1⟩:=I.list sl;obtain⟨TF,v2,⟨⟨SQ,Ri,data2,TH⟩,n2,e2,c2,d2,q2⟩,z2⟩:=I.list sb;simp only at c1 d1 q1 c2 d2 q2;subst c1 q1 c2 q2;have l1:=v1.length;have l2:=v2.length;have m1:=aF rl;have m2:=aF rb;refine concat_meets ⟨_,e1,rfl⟩ ⟨_,e2,rfl⟩ noFill_list_add seq_list_add PySem.F.slot_list_add PySem.F.entry_list_add (PySem.F.args_list_add_2 _ _) (list_addW l b bh.toArray TF.toArray n n2 dd Ri Rp TH (by simp only [size_toArray];omega)) ⟨e1,e2,?_⟩;have ea:bh.toArray++TF.toArray=(bh++TF).toArray:=by simp
 rw [ea];exact⟨.ref _,_,I.Pb (t':=s.toks) (v1.append v2) (by rw [length_append];omega),rfl,k _ _ (.zH I.fresh (d4 rl rb))⟩
def C6:T->T->Option R:=fun t u=>match t,u with
 |.str a,.str b=>if a.length+b.length<=sizeLine then some (.sh (.str (a++b)))else none
 |_,_=>none
theorem Gs:kd X cl (binaryOp .Add) C6:=iU.imp Bq fun x y H Q ⟨Hs,t,u,r,sm,h1,h2,hg,k⟩=>by
 unfold C6 at hg;split at hg
 ·split at hg
  ·rename_i hl
   cases hg
   exact⟨_,_,h1,h2,hl,k _ H (.val rfl)⟩
  ·cases hg
 ·cases hg
def bf:=IQ LD (IQ JU C6)
theorem aI:kd X cl (binaryOp .Add) bf:=Gm.or (JV.or Gs)
def wt:T->T->Option R:=fun t u=>match t,u with
 |.lst ts,.int i=>(lN ts i).map .sh
 |.tup ts,.int i=>(lN ts i).map .sh
 |_,_=>none
theorem C7{K:KC}{H:Hp}{xs:List V}{ts:List T}{i:Int}{t:T}(r:iu K H xs ts)(h:lN ts i=some t):∃v,lN xs i=some v/\Tr K H v t:=by
 unfold lN at h ⊢;rw [aF r]
 cases q:BA ts.length i with
 |none=>rw [q]at h;cases h
 |some j =>
  rw [q]at h;exact kL r h
end
section
variable {prog:Program}{w:World}{A:Around}{R:Result->Shared->Prop}{s:Shared}
theorem xh{elt target iter:Expr}{ifs:List Expr}{scope:Scope}{pos:Pos}{it acc:Value}{env:Env}(I:Nat->Shared->Prop)
  (turn:∀n s,I n s->wpAny (model prog w) A (pyNext it) (fun r s₁=>match r with
   |none=>R (.ok .next) s₁
   |some v=>wpAny (model prog w) A (letOwnedTupleGo target it v) (fun _ s₀=>wpAny (model prog w) A (assign target env v) (fun _ s₂ =>
     wpAny (model prog w) A (forIn ifs true fun c r=>if r=true then do let ok<-isTrue c env (eval c env);pure (ForInStep.yield ok)else pure (ForInStep.yield r)) (fun ok s₃ =>
      if ok=true then wpAny (model prog w) A (eval elt env) (fun x s₄ =>
       wpAny (model prog w) A (call (.builtin "list.append") [acc,x]) (fun _ s₅=>∃m,m<n/\I m s₅) (fun _ _=>False) s₄) (fun _ _=>False) s₃
      else ∃m,m<n/\I m s₃) (fun _ _=>False) s₂) (fun _ _=>False) s₀) (fun _ _=>False) s₁) (fun _ _=>False) s)
  (n:Nat) (h:I n s) :
  codeAny (model prog w) A (.compLoop (.ListComp elt [⟨target,iter,ifs,0⟩] scope pos) 0 it acc env) R s:=by
 refine codeAny_loop rfl I (fun n s hI=>?_) n h;show wpAny _ A ((compTurn (.ListComp elt [⟨target,iter,ifs,0⟩] scope pos) 0 it acc env).onRaise (fun x=>do noteFrame x env;theTreesLotGoes x)) _ _ s;refine wpAny_noted ?_;rw [compTurn_list];refine wpAny_bind (wpAny_standAt (wpAny_bind (wpAny_mono (turn n s hI) (fun r s₁ h₁=>?_) fun _ _ h'=>h'.elim)))
 cases r with
 |none=>exact wpAny_pure h₁
 |some v =>
  refine wpAny_bind (wpAny_mono h₁ (fun _ s₀ h₀=>wpAny_bind (wpAny_mono h₀ (fun _ s₂ h₂=>wpAny_bind (wpAny_mono h₂ (fun ok s₃ h₃=>?_) fun _ _ h'=>h'.elim)) fun _ _ h'=>h'.elim)) fun _ _ h'=>h'.elim)
  cases ok with
  |false=>exact wpAny_pure ⟨rfl,h₃⟩
  |true =>
   exact wpAny_bind (wpAny_bind (wpAny_mono h₃ (fun x s₄ h₄=>wpAny_bind (wpAny_mono h₄ (fun _ s₅ h₅=>wpAny_pure (wpAny_pure ⟨rfl,h₅⟩)) fun _ _ h'=>h'.elim)) fun _ _ h'=>h'.elim))
end
def bq(X:Cx)(N:List Str)(scope:Scope)(cs:List (Str×Addr))(C:Addr)(s₂:Shared)(H₂:Hp)(fp:List Addr):Cx :=
 {X with N:=N,s₀:=s₂,H₀:=H₂,env:=compEnvC scope cs C X.env,outer:=X.stack,stack:=X.stack,ex:=fp,fn:=fun _=>false,pn:=[],xe:=fun _ _=>False}
structure qd(X:Cx)(scope:Scope)(cs:List (Str×Addr)):Prop where
 Nh:closureFor scope X.env=pure cs
 same:∀x c,cs.lookup x=some c->X.env.cells.lookup x=some c
 has:∀x,((relabel scope X.env).names.lookup x=some .cell\/(relabel scope X.env).names.lookup x=some .free)->∃c,cs.lookup x=some c
 oR:∀y∈scope.names,y.2 ≠ .cell
 kind:scope.kind=.function
 names:∀y∈scope.names,y.2=.local->scope.names.lookup y.1=some .local
section
variable {X:Cx}{N:List Str}{scope:Scope}{cs:List (Str×Addr)}{pins:List (Addr×Obj)}{σ:St}{H₂:Hp}{s₂:Shared}{fp:List Addr}{C:Addr}
theorem ug(I:Inv X pins σ H₂ s₂)(cp:qd X scope cs)(hC:s₂.heap.objs.size<=C)(hf:∀b∈fp,oM X pins H₂ b)(TJ:∀b∈fp,b<s₂.heap.objs.size):(bq X N scope cs C s₂ H₂ fp).Ok where
 mod:=I.ok.mod
 kind:=cp.kind
 glob:=I.ok.glob
 blt:=I.ok.blt
 above:=hC
 inj:=fun x y c h1 h2=>I.ok.inj x y c (cp.same x c h1) (cp.same y c h2)
 has:=fun x h=>cp.has x h
 IL:=fun x c h=>nomatch h
 hd:=I.ok.hd
 frames:=I.ok.frames
 Je:=.inl rfl
 Mh:=fun b hb=>⟨fun e=>by
  have:=TJ b hb;rw [show b=C from e]at this;exact absurd (lt_of_lt_of_le this hC) (lt_irrefl _),fun x c h=>(hf b hb).2.2.2.2.1 x c (cp.same x c h)⟩
 bs:=I.bs
 zl:=le_trans I.ok.zl I.sz
 wx:=fun b o e hb=>by
  rcases(hf b hb).2.2.2.1 with z|z
  ·exact I.ok.wx b o e z
  ·exact absurd (lt_of_lt_of_le (Heap.lt_size e) (le_trans I.ok.zl z)) (lt_irrefl _)
 xU:=fun b hb Ni=>by
  rcases mem_cons.mp (I.mq b Ni)with z|z
  ·exact(hf b hb).2.1 z
  ·exact(hf b hb).2.2.1 z
 iC:=I.stack
 zm:=I.tY
theorem uS{σ':St}{h₁:Heap}{tk:Nat}{D:Addr}{m:Str->Option Value}(I:Inv X pins σ H₂ s₂)(cp:qd X scope cs)(hD:s₂.heap.objs.size<=D)(hC:s₂.heap.objs.size<=C)(A5:C≠D)(hf:∀b∈fp,oM X pins H₂ b)(TJ:∀b∈fp,b<s₂.heap.objs.size)
  (hk:∀b o,s₂.heap.get? b=some o->h₁.get? b=some o) (hn:h₁.Ns C m) (hl:∃n,h₁.get? D=some {cls:=.type "list", data:=.seq #[] n})
  (kO:∀(j:Nat)(x:Str)(v:V),N[j]?=some x->σ'[j]?=some (some v)->∃(i:Nat),X.N[i]?=some x/\σ[i]?=some (some v)/\(X.env.scope.names.lookup x=some .cell\/X.env.scope.names.lookup x=some .free) /\
   ((relabel scope X.env).names.lookup x=some .cell\/(relabel scope X.env).names.lookup x=some .free)) (hlen:σ'.length=N.length) :
  Inv (bq X N scope cs C s₂ H₂ fp) [] σ' (upd H₂ D (.lst [])) {s₂ with heap:=h₁,toks:=tk}:=by
 have nD:H₂ D=none:=I.cR.fresh hD;obtain⟨n,hl⟩:=hl;refine⟨ug I cp hC hf TJ,rfl,I.bare,Un.laid hk hD nD,⟨m,hn,fun j x v h1 h2 h3=>?_⟩,fun x c h=>?_,?_,fun x c h=>?_,fun p hp=>?_,I.cR.laid hk hD ⟨zero_le _,[],n,.nil,hl⟩,hlen⟩
 ·obtain⟨i,q1,q2,q3,q4⟩:=kO j x v h1 h2;obtain⟨m0,_,hl0⟩:=I.loc;obtain⟨u,ru,lk⟩:=hl0 i x v q1 q2 (.inr q3);refine⟨u,ru,.inr ⟨q4,?_⟩⟩;obtain⟨c,hc⟩:=cp.has x q4;rcases lk with⟨z,_⟩|⟨_,c',Jf,CL⟩
  ·rcases q3 with z'|z'
   ·rw [show X.env.scope.names.lookup x=some .local from z]at z';cases z'
   ·rw [show X.env.scope.names.lookup x=some .local from z]at z';cases z'
  ·have e:=cp.same x c hc;rw [Jf]at e
   cases e
   obtain⟨o,ho,hd⟩:=CL;exact⟨_,hc,o,hk _ _ ho,hd⟩
 ·obtain⟨v,o,ho,hd⟩:=I.cell x c (cp.same x c h);exact⟨v,o,hk _ _ ho,hd⟩
 ·show upd H₂ D (.lst []) C=none;rw [aw A5];exact I.cR.fresh hC
 ·have e:=I.iK x c (cp.same x c h);obtain⟨v,o,ho,hd⟩:=I.cell x c (cp.same x c h);have z:c≠D:=fun e=>absurd (lt_of_lt_of_le (Heap.lt_size ho) (by rw [e];exact hD)) (lt_irrefl _);rw [aw z];exact e
 ·exact absurd (show p∈([]:List (Addr×Obj)) from hp) (by simp)
end
def tM(env:Env):List (Str×NameKind)->List (Str×Addr)->List (Str×Addr)
 |[],cs=>cs
 |y::r,cs=>tM env r (if(y.2 == .free)=true then(y.1,(env.cells.lookup y.1).getD 0)::cs else cs)
theorem C8{env:Env}:∀(names:List (Str×NameKind))(cs:List (Str×Addr)),(∀y∈names,y.2=.free->∃c,env.cells.lookup y.1=some c) ->
  (forIn names cs fun x r=>(if(x.2==NameKind.free)=true then(do let a<-cellOf env x.1;pure (ForInStep.yield ((x.1,a)::r)))else pure (ForInStep.yield r):Sem (ForInStep (List (Str×Addr)))))=(pure (tM env names cs):Sem (List (Str×Addr)))
 |[],cs,_=>rfl
 |y::r,cs,h=>by
  have ih:=fun cs'=>C8 (env:=env) r cs' fun z hz=>h z (mem_cons_of_mem _ hz);rw [List.forIn_cons];by_cases q:(y.2==NameKind.free)=true
  ·obtain⟨c,hc⟩:=h y mem_cons_self (by simpa using q);have e1:cellOf env y.1=pure c:=by
    unfold cellOf;rw [hc]
   rw [if_pos q,e1];simp only [pure_bind];rw [ih];have e2:tM env (y::r) cs=tM env r ((y.1,c)::cs):=by
    show tM env r (if(y.2 == .free)=true then(y.1,(env.cells.lookup y.1).getD 0)::cs else cs)=_;rw [if_pos q,hc];rfl
   rw [e2]
  ·rw [if_neg q];simp only [pure_bind];rw [ih]
   conv=>rhs;unfold tM
   rw [if_neg q]
theorem zR{env:Env}:∀{names:List (Str×NameKind)}{cs:List (Str×Addr)},(∀y∈names,y.2=.free->∃c,env.cells.lookup y.1=some c)->(∀p∈cs,env.cells.lookup p.1=some p.2)->∀p∈tM env names cs,env.cells.lookup p.1=some p.2
 |[],cs,_,h,p,hp=>h p hp
 |y::r,cs,hf,h,p,hp=>by
  unfold tM at hp;refine zR (names:=r) (fun z hz=>hf z (mem_cons_of_mem _ hz)) (fun z hz=>?_) p hp;by_cases q:(y.2==NameKind.free)=true
  ·rw [if_pos q]at hz;obtain⟨c,hc⟩:=hf y mem_cons_self (by simpa using q);rcases mem_cons.mp hz with e|e
   ·rw [e];show env.cells.lookup y.1=some ((env.cells.lookup y.1).getD 0);rw [hc];rfl
   ·exact h z e
  ·rw [if_neg q]at hz;exact h z hz
theorem C9{env:Env}{x:Str}:∀{names:List (Str×NameKind)}{cs:List (Str×Addr)},((∃c,(x,c)∈cs)\/(x,NameKind.free)∈names)->∃c,(x,c)∈tM env names cs
 |[],cs,h=>by
  rcases h with h|h
  ·exact h
  ·simp at h
 |y::r,cs,h=>by
  unfold tM;refine C9 (names:=r) ?_;rcases h with⟨c,h⟩|h
  ·refine .inl ⟨c,?_⟩;split
   ·exact mem_cons_of_mem _ h
   ·exact h
  ·rcases mem_cons.mp h with e|e
   ·subst e;exact .inl ⟨_,by rw [if_pos (by simp)];exact mem_cons_self⟩
   ·exact .inr e
theorem ou{x:Str}{c:Addr}:∀{cs:List (Str×Addr)},(x,c)∈cs->∃c',cs.lookup x=some c'
 |[],h=>by simp at h
 |(y,d)::r,h=>by
  rw [List.lookup_cons]
  cases q:x==y with
  |true=>exact⟨d,rfl⟩
  |false =>
   rcases mem_cons.mp h with e|e
   ·cases e
    simp at q
   ·exact ou e
theorem uT{scope:Scope}{env:Env}{x:Str}{k:NameKind}(hc:∀y∈scope.names,y.2 ≠ .cell)(h:(relabel scope env).names.lookup x=some k)(hk:k=.cell\/k=.free):(x,NameKind.free)∈scope.names:=by
 have hm:=PySem.mem_of_lookup h;unfold relabel at hm;obtain⟨⟨n,k'⟩,h1,h2⟩:=mem_map.mp hm;have hn:=hc _ h1;dsimp only at h2;split at h2
 ·rename_i q
  cases h2
  simp only [and_eq_true,beq_iff_eq]at q;rw [<-q.1.1];exact h1
 ·cases h2
  rcases hk with e|e
  ·exact absurd e hn
  ·rw [<-e];exact h1
theorem xj{X:Cx}{scope sc:Scope}(hsc:X.env.scope=sc)(kind:scope.kind=.function)(oR:∀y∈scope.names,y.2 ≠ .cell)(names:∀y∈scope.names,y.2=.local->scope.names.lookup y.1=some .local)
  (fr:∀y∈scope.names,y.2=.free->sc.names.lookup y.1=some .cell\/sc.names.lookup y.1=some .free) (ok:X.Ok):∃cs,qd X scope cs:=by
 have hf:∀y∈scope.names,y.2=.free->∃c,X.env.cells.lookup y.1=some c:=fun y hy e=>ok.has y.1 (by
  have:=fr y hy e;rw [<-hsc]at this;exact this)
 refine⟨tM X.env scope.names [],⟨?_,fun x c h=>?_,fun x h=>?_,oR,kind,names⟩⟩
 ·have e:=C8 (env:=X.env) scope.names [] hf;have e2:closureFor scope X.env=((forIn scope.names [] fun x r=>(if(x.2==NameKind.free)=true then(do let a<-cellOf X.env x.1;pure (ForInStep.yield ((x.1,a)::r)))else pure (ForInStep.yield r):Sem (ForInStep (List (Str×Addr))))) >>= fun cs=>pure cs):=rfl;rw [e2,e];rfl
 ·exact zR hf (fun p hp=>by simp at hp) _ (PySem.mem_of_lookup h)
 ·obtain⟨c,hc⟩:∃c,(x,c)∈tM X.env scope.names []:=C9 (.inr (by
   rcases h with h|h
   ·exact uT oR h (.inl rfl)
   ·exact uT oR h (.inr rfl)))
  exact ou hc
abbrev MI:=G->Option (List T×G)
def JW(K:KC)(J:It)(ts:List T)(Hs:Hp):Prop:=∀(i:Nat)(H bJ:Hp),ax Hs bJ->ax bJ H ->
 (∀t,ts[i]?=some t->J.go i H/\∀x H',J.Sv i H x H'->Out K bJ H x H' (.sh t))/\(ts.length<=i->J.stop i H)
def rdI(K:KC)(P:Fx)(Γ:G)(ts:List T)(Γ':G):TI:=fun σ H R=>∃Hs,az K P Γ σ H Hs/\∀J H' aM,ax H H'->ax Hs aM->az K P Γ' σ H' aM->JW K J ts aM->R J H'
def tO(X:Cx)(P:Fx)(tg iter:Expr)(m:MI):Prop:=∀Γ ts Γ',m Γ=some (ts,Γ')->PI X tg iter (rdI (kc X P) P Γ ts Γ')
theorem PI.imp{X:Cx}{tg iter:Expr}{t t':TI}(h:PI X tg iter t)(i:∀σ H R,t' σ H R->t σ H R):PI X tg iter t':=fun pins s σ H R I q=>h pins s σ H R I (i σ H R q)
def JX(m:MX):MI:=fun Γ=>(m Γ).bind fun p=>match (eM p.1 p.2).1 with
 |.lst ts=>some (ts,(eM p.1 p.2).2)
 |_=>none
theorem Dc{m:MX}{Γ Γ':G}{ts:List T}(h:JX m Γ=some (ts,Γ')):∃r Γ1,m Γ=some (r,Γ1)/\eM r Γ1=(.lst ts,Γ'):=by
 unfold JX at h
 cases h1:m Γ with
 |none=>rw [h1]at h;cases h
 |some p =>
  rw [h1]at h;obtain⟨r,Γ1⟩:=p;dsimp only [Option.bind]at h;split at h
  ·rename_i us q
   cases h
   exact⟨r,Γ1,rfl,by rw [<-q]⟩
  ·cases h
section
variable {X:Cx}{P:Fx}{tg l:Expr}
theorem zS{m:MX}(hl:aW X P l m):tO X P tg l (JX m):=fun Γ ts Γ' h=>by
 obtain⟨r,Γ1,h1,h2⟩:=Dc h;refine PI.imp (Jm (hl _ _ _ h1)) fun σ H R ⟨Hs,S,k⟩=>⟨Hs,S,fun v H1 bJ e1 dr S1 f1=>?_⟩;obtain⟨bX,g,S2,tr⟩:=S1.eM f1;rw [h2]at S2 tr;obtain⟨a,xs,rfl,sq,rs⟩:=tr;refine⟨a,rfl,⟨xs,S2.sub.seq sq⟩,k _ H1 bX e1 (dr.trans g) S2 fun i H jI e3 e4=>?_⟩;have IS:lM X.K H a xs:=(e3.trans e4).seq sq;refine⟨fun t ht=>?_,fun hl=>⟨xs,IS,by rw [aF rs];exact hl⟩⟩;obtain⟨v,hv,tv⟩:=kL rs ht;refine⟨⟨xs,v,IS,hv⟩,fun x H' hy=>?_⟩;obtain⟨rfl,hy⟩:=hy;have:=hy xs IS;rw [hv]at this
 cases this
 exact .val (cX e3 _ _ tv)
def A6(n:MA):MI:=fun Γ=>(n Γ).bind fun p=>match p.1 with
 |[.int j]=>if -(2 ^ 62)<=j/\j<2 ^ 62 then some (upTo 0 j.toNat,p.2)else none
 |_=>none
theorem JY{n:MA}{Γ Γ':G}{ts:List T}(h:A6 n Γ=some (ts,Γ')):∃j:Int,n Γ=some ([.int j],Γ')/\-(2 ^ 62)<=j/\j<2 ^ 62/\ts=upTo 0 j.toNat:=by
 unfold A6 at h
 cases h1:n Γ with
 |none=>rw [h1]at h;cases h
 |some p =>
  rw [h1]at h;obtain⟨us,Γ1⟩:=p;dsimp only [Option.bind]at h;split at h
  ·rename_i j;split at h
   ·rename_i hj
    cases h
    exact⟨j,rfl,hj.1,hj.2,rfl⟩
   ·cases h
  ·cases h
theorem fe(lo:Int)(n:Nat):(upTo lo n).length=n:=by simp [upTo]
theorem nT{x:Expr}{n:MA}{p pos':Pos}(hgl:Gl X "range")(FY:X.mg "range" = none)(ha:wD X P [x] n)(wV:starEach [x] X.env=[(false,eval x X.env)]:=by rfl):tO X P tg (.Call (.Name "range" p) [x] [] pos') (A6 n):=fun Γ ts Γ' h=>by
 obtain⟨j,h1,hj1,hj2,rfl⟩:=JY h;refine PI.imp (DX hgl FY (ha _ _ _ h1) wV) fun σ H R ⟨Hs,S,k⟩=>⟨Hs,S,fun vs H1 bJ e1 dr S1 f1=>?_⟩
 cases f1 with
 |cons f1 f2 =>
 cases f2
 cases(show _=V.int j from f1)
 refine⟨j,rfl,hj1,hj2,k _ H1 bJ e1 dr S1 fun i H jI e3 e4=>⟨fun t ht=>?_,fun hl=>by rw [fe]at hl;exact hl⟩⟩;have hi:i<j.toNat:=by
  have:=(List.getElem?_eq_some_iff.mp ht).1;rw [fe]at this;exact this
 rw [Gi hi]at ht
 cases ht
 refine⟨hi,fun x H' hy=>?_⟩;obtain⟨rfl,rfl⟩:=hy;exact .val rfl
def ox(mi:MI)(b:BG)(m:MS):MS:=fun Γ=>(mi Γ).bind fun p=>eG b m p.1 p.2
theorem mF{iter:Expr}{body:List Stmt}{pos:Pos}{mi:MI}{b:BG}{m:MS}(hp:PassesOwn (model X.prog X.w) X.A X.env X.xe)(hc:X.calm=true)(hi:tO X P tg iter mi)(hg:uO X P tg b)(hb:jJ X P body m)
  (hs:∀x,foldedSetIterable iter X.env x=pure x:=by intro _;rfl):lY X P (.For tg iter body [] pos) (ox mi b m):=gY fun Γ res h=>by
 unfold ox at h
 cases h1:mi Γ with
 |none=>rw [h1]at h;cases h
 |some p =>
  rw [h1]at h;obtain⟨ts,Γ1⟩:=p;have h:eG b m ts Γ1=some res:=h;refine(Ms hp hc (hi _ _ _ h1) hg hb hs).imp fun D σ H ⟨Hs,S,k⟩=>⟨Hs,S,fun J H1 bJ e1 dr S1 ok=>?_⟩;refine⟨fun i n σ H=>n=ts.length-i/\i<=ts.length/\∃Γi fW,ax bJ fW/\eG b m (ts.drop i) Γi=some res/\az (kc X P) P Γi σ H fW,⟨ts.length,by simp,zero_le _,Γ1,bJ,ax.refl _,h,S1⟩,?_⟩;rintro i n σ' H' ⟨rfl,Ge,Γi,fW,q1,q2,q3⟩;by_cases yr:i<ts.length
  ·have ht:ts[i]?=some ts[i]:=by simp [yr]
   obtain⟨g1,g2⟩:=(ok i H' fW q1 q3.sub).1 _ ht;refine .inr ⟨g1,fun σ2 H2=>∃Γ2 bX,ax bJ bX/\eG b m (ts.drop (i+1)) Γ2=some res/\az (kc X P) P Γ2 σ2 H2 bX,fun σ2 H2 ⟨Γ2,bX,z1,z2,z3⟩=>⟨ts.length-(i+1),by omega,rfl,yr,Γ2,bX,z1,z2,z3⟩,fun x H2 hy=>?_⟩;obtain⟨bX,_,fb,S2,f2⟩:=(g2 x H2 hy).fin q3;rw [drop_cons ht]at q2;exact JQ q2 S2 (q1.trans fb) f2 (fun σ2 H2 jI e3=>k σ2 H2 jI (dr.trans e3)) fun Γ2 σ2 H2 jI e3 hl S3=>⟨Γ2,jI,e3,hl,S3⟩
  ·have e:i=ts.length:=by omega
   subst e;rw [drop_length]at q2
   cases q2
   exact .inl ⟨(ok _ H' fW q1 q3.sub).2 (le_refl _),k σ' H' fW (dr.trans q1) q3⟩
end
def rE(X:Cx)(sc:Scope):List Str->List (Option Nat)->Prop
 |[],[]=>True
 |x::N,c::cap=>(match c with
  |none=>True
  |some i=>X.N[i]?=some x/\(X.env.scope.names.lookup x=some .cell\/X.env.scope.names.lookup x=some .free)/\((relabel sc X.env).names.lookup x=some .cell\/(relabel sc X.env).names.lookup x=some .free))/\rE X sc N cap
 |_,_=>False
theorem rE.length{X:Cx}{sc:Scope}:∀{N:List Str}{cap:List (Option Nat)},rE X sc N cap->cap.length=N.length
 |[],[],_=>rfl
 |x::N,c::cap,h=>by
  show cap.length+1=N.length+1;rw [rE.length (N:=N) (cap:=cap) h.2]
 |[],_::_,h=>h.elim
 |_::_,[],h=>h.elim
theorem rE.get{X:Cx}{sc:Scope}:∀{N:List Str}{cap:List (Option Nat)}{j i:Nat}{x:Str},rE X sc N cap->N[j]?=some x->cap[j]?=some (some i)->X.N[i]?=some x/\(X.env.scope.names.lookup x=some .cell\/X.env.scope.names.lookup x=some .free)/\((relabel sc X.env).names.lookup x=some .cell\/(relabel sc X.env).names.lookup x=some .free)
 |[],[],j,i,x,_,h,_=>by simp at h
 |y::N,c::cap,0,i,x,h,h1,h2=>by
  simp at h1 h2;subst h1 h2;exact h.1
 |y::N,c::cap,j+1,i,x,h,h1,h2=>rE.get (N:=N) (cap:=cap) (j:=j) h.2 (by simpa using h1) (by simpa using h2)
 |[],_::_,_,_,_,h,_,_=>h.elim
 |_::_,[],_,_,_,h,_,_=>h.elim
def jg(cap:List (Option Nat))(Γ:G):G:=cap.map fun c=>match c with
 |none=>.no
 |some i=>match Γ[i]? with
  |some (.sh t)=>.sh t
  |_=>.no
def wF(cap:List (Option Nat))(Γ:G)(σ:St):St:=cap.map fun c=>match c with
 |none=>none
 |some i=>match Γ[i]? with
  |some (.sh _)=>(σ[i]?).getD none
  |_=>none
def oS(cap:List (Option Nat))(Γ:G)(σ:St):Nat->Option V:=fun j=>((wF cap Γ σ)[j]?).getD none
def aJ:List (Option Nat)->G->G
 |[],Γ=>Γ
 |none::cap,Γ=>aJ cap Γ
 |some i::cap,Γ=>aJ cap (match Γ[i]? with
  |some (.own t)=>Γ.set i (.sh t)
  |_=>Γ)
theorem az.aJ{K:KC}{P:Fx}{σ:St}{H:Hp}:∀{cap:List (Option Nat)}{Γ:G}{Hs:Hp},az K P Γ σ H Hs->∃aM,ax Hs aM/\az K P (aJ cap Γ) σ H aM
 |[],Γ,Hs,S=>⟨Hs,ax.refl _,S⟩
 |none::cap,Γ,Hs,S=>az.aJ (cap:=cap) S
 |some i::cap,Γ,Hs,S=>by
  cases h:Γ[i]? with
  |none =>
   obtain⟨aM,e,S'⟩:=az.aJ (cap:=cap) S;refine⟨aM,e,?_⟩;simp only [M.aJ,h];exact S'
  |some s =>
   cases s with
   |own t =>
    obtain⟨bJ,v,e1,_,_,S1⟩:=S.give h;obtain⟨aM,e,S'⟩:=az.aJ (cap:=cap) S1;refine⟨aM,e1.trans e,?_⟩;simp only [M.aJ,h];exact S'
   |no =>
    obtain⟨aM,e,S'⟩:=az.aJ (cap:=cap) S;refine⟨aM,e,?_⟩;simp only [M.aJ,h];exact S'
   |sh t =>
    obtain⟨aM,e,S'⟩:=az.aJ (cap:=cap) S;refine⟨aM,e,?_⟩;simp only [M.aJ,h];exact S'
def eX(b:BG)(mt:MT)(me:MX)(Γ:G):List T->List T->Option (List T)
 |[],acc=>some acc
 |t::ts,acc=>(b t Γ).bind fun Γ1=>(mt Γ1).bind fun p=>if p.1=true then(me p.2).bind fun q=>if acc.length<sizeLine then eX b mt me Γ ts (acc++[(eM q.1 q.2).1])else none else eX b mt me Γ ts acc
def jh(cap:List (Option Nat))(mi:MI)(b:BG)(mt:MT)(me:MX):MX:=fun Γ=>(mi Γ).bind fun p=>(eX b mt me (jg cap (aJ cap p.2)) p.1 []).map fun ts=>(.own (.lst ts),aJ cap p.2)
def Gu(X:Cx)(P:Fx)(ifs:List Expr)(mt:MT):Prop:=∀Γ k Γ',mt Γ=some (k,Γ')->∀(pins:List (Addr×Obj))(s:Shared)(σ:St)(H:Hp)(Q:Bool->Hp->Prop),Inv X pins σ H s->Pk (kc X P) P Γ k Γ' σ H Q ->
 wpAny (model X.prog X.w) X.A (forIn ifs true fun c r=>if r=true then do let ok<-isTrue c X.env (eval c X.env);pure (ForInStep.yield ok)else pure (ForInStep.yield r)) (TP X pins σ Q) X.xe s
def jK:MT:=fun Γ=>some (true,Γ)
theorem nU{X:Cx}{P:Fx}:Gu X P [] jK:=fun Γ k Γ' h pins s σ H Q I ⟨Hs,S,q⟩=>by
 cases h
 exact wpAny_tests_nil ⟨H,I,q H Hs (ax.refl _) (ax.refl _) S⟩
theorem kj{cap:List (Option Nat)}{Γ:G}{j:Nat}{s:Slot}(h:(jg cap Γ)[j]?=some s):(s=.no)\/∃(i:Nat) (t:T),cap[j]?=some (some i)/\Γ[i]?=some (.sh t)/\s=.sh t:=by
 unfold jg at h;rw [getElem?_map]at h
 cases hc:cap[j]? with
 |none=>rw [hc]at h;cases h
 |some c =>
  rw [hc]at h
  cases c with
  |none =>
   cases h
   exact .inl rfl
  |some i =>
   have h:(match Γ[i]? with|some (.sh t)=>Slot.sh t|_=>.no)=s:=Option.some.inj h;split at h
   ·rename_i t q;exact .inr ⟨i,t,rfl,q,h.symm⟩
   ·exact .inl h.symm
theorem Eh{cap:List (Option Nat)}{Γ:G}{σ:St}{j i:Nat}{t:T}{v:V}(h1:cap[j]?=some (some i))(h2:Γ[i]?=some (.sh t))(h3:σ[i]?=some (some v)):oS cap Γ σ j=some v:=by
 unfold oS wF;rw [getElem?_map,h1];simp [h2,h3]
theorem Ei{cap:List (Option Nat)}{Γ:G}{σ:St}{j:Nat}(h:cap[j]?=some none):oS cap Γ σ j=none:=by
 unfold oS wF;rw [getElem?_map,h];rfl
theorem Gv{cap:List (Option Nat)}{Γ:G}{σ:St}{j:Nat}{v:V}(h:(wF cap Γ σ)[j]?=some (some v)):∃(i:Nat),cap[j]?=some (some i)/\σ[i]?=some (some v):=by
 unfold wF at h;rw [getElem?_map]at h
 cases hc:cap[j]? with
 |none=>rw [hc]at h;cases h
 |some c =>
  rw [hc]at h
  cases c with
  |none=>cases h
  |some i =>
   have h:(match Γ[i]? with|some (.sh _)=>(σ[i]?).getD none|_=>none)=some v:=Option.some.inj h;split at h
   ·cases q:σ[i]? with
    |none=>rw [q]at h;cases h
    |some z =>
     rw [q]at h;have h:z=some v:=h;subst h;exact⟨i,rfl,q⟩
   ·cases h
theorem BM{K:KC}{P:Fx}{cap:List (Option Nat)}{Γ:G}{σ σ':St}{H2 bX H Hs:Hp}(S2:az K P Γ σ H2 bX)(e:ax bX Hs)(sub:ax Hs H)(fix:∀j v,oS cap Γ σ j=some v->σ'[j]?=some (some v))(hl:σ'.length=cap.length):
  az K ⟨H,Hs,P.cl,oS cap Γ σ⟩ (jg cap Γ) σ' H Hs where
 kept:=ax.refl _
 sub:=sub
 new:=fun a o h=>.inl h
 fix:=fix
 sh:=fun j t h=>by
  rcases kj h with z|⟨i,u,h1,h2,h3⟩
  ·cases z
  ·cases h3
   obtain⟨v,q1,q2⟩:=S2.sh i t h2;exact⟨v,fix j v (Eh h1 h2 q1),cX e _ _ q2⟩
 own:=fun j t h=>by
  rcases kj h with z|⟨i,u,h1,h2,h3⟩
  ·cases z
  ·cases h3
 apart:=fun i j t u a n h _=>by
  rcases kj h with z|⟨i,u,h1,h2,h3⟩
  ·cases z
  ·cases h3
 len:=by
  rw [hl];simp [jg]
theorem zT{b:BG}{mt:MT}{me:MX}{Γ:G}{t:T}{ts acc out:List T}(h:eX b mt me Γ (t::ts) acc=some out):∃Γ1 k Γ2,b t Γ=some Γ1/\mt Γ1=some (k,Γ2) /\
  ((k=true/\∃r Γ3,me Γ2=some (r,Γ3)/\acc.length<sizeLine/\eX b mt me Γ ts (acc++[(eM r Γ3).1])=some out)\/(k=false/\eX b mt me Γ ts acc=some out)):=by
 unfold eX at h
 cases h1:b t Γ with
 |none=>rw [h1]at h;cases h
 |some Γ1 =>
  rw [h1]at h;dsimp only [Option.bind]at h
  cases h2:mt Γ1 with
  |none=>rw [h2]at h;cases h
  |some p =>
   rw [h2]at h;obtain⟨k,Γ2⟩:=p;refine⟨Γ1,k,Γ2,rfl,h2,?_⟩
   cases k with
   |false=>exact .inr ⟨rfl,h⟩
   |true =>
    refine .inl ⟨rfl,?_⟩;dsimp only at h;rw [if_pos rfl]at h
    cases h3:me Γ2 with
    |none=>rw [h3]at h;cases h
    |some q =>
     rw [h3]at h;dsimp only at h;split at h
     ·rename_i hl;exact⟨q.1,q.2,rfl,hl,h⟩
     ·cases h
section
variable {X:Cx}{pins:List (Addr×Obj)}{σ:St}{H:Hp}{s:Shared}{h':Heap}
theorem _root_.L2.Inv.yt{t':Nat}{fp:List Addr}(I:Inv X pins σ H s)(hf:∀b∈fp,oM X pins H b)(k:∀b o,b∉fp->s.heap.get? b=some o->h'.get? b=some o):Inv X pins σ H {s with heap:=h',toks:=t'}:=by
 have OE:∀b u,H b=some u->b∉fp:=fun b u e z=>by
  rw [(hf b z).1]at e
  cases e
 refine I.step (g':=s.gens) (d':=s.drawn) (ch:=fp) (fun b hb=>?_) (fun b o _ _ hc e _=>k b o hc e) (fun b o _ _ hc e _=>⟨o.slots,k b o hc e⟩) (fun _ _ _ _ n=>n)
  (fun b o hc e=>⟨o,k b o hc e⟩) (fun _ _ e=>e) (fun _ _ _ e=>e) (fun b ps e=>⟨#[],by rw [e];simp⟩) (fun m hm=>?_) (fun b u e=>?_) I.bare
 ·obtain⟨_,f2,_,f4,f5,f6⟩:=hf b hb;exact⟨f4,f2,f5,f6⟩
 ·obtain⟨o,es,ep,ho,r⟩:=hm;exact⟨o,es,ep,k _ o (fun z=>(hf _ z).2.1 rfl) ho,r⟩
 ·refine(I.cR b u e).wu (fun c v hc q=>k c v ?_ q) (fun _ q=>q) fun _ _ q=>q;rcases hc with z|z
  ·rw [z];exact OE b u e
  ·exact OE c _ z
end
section
variable {X:Cx}{P:Fx}{elt tg iter:Expr}{ifs:List Expr}{scope:Scope}{pos:Pos}{N':List Str}{cap:List (Option Nat)}{mi:MI}{b:BG}{mt:MT}{me:MX}
inductive CI(Y:Cx)(K:KC)(cap:List (Option Nat))(b:BG)(mt:MT)(me:MX)(Γ1:G)(ts out:List T)(σ:St)(H2 bX:Hp)(tn:Nat->Heap->Prop)(D:Addr)(fp:List Addr):Nat->Shared->Prop
 |mk {s':Shared} (i:Nat) (Hi fW:Hp) (acc:List T) (ys:List V) (σ':St) (le:i<=ts.length) (run:eX b mt me (jg cap Γ1) (ts.drop i) acc=some out) (inv:Inv Y [] σ' Hi s') (at_:tn i s'.heap) (h2:ax H2 Hi) (MG:ax bX fW)
   (sub:ax fW Hi) (new:∀a o,fW a=some o->bX a=some o\/H2 a=none) (own:Hi D=some (.lst ys)) (xS:fW D=none) (YG:iu K fW ys acc) (fix:∀j v,oS cap Γ1 σ j=some v->σ'[j]?=some (some v)) (IT:∀b∈fp,Hi b=none):CI Y K cap b mt me Γ1 ts out σ H2 bX tn D fp (ts.length-i) s'
theorem JZ(hc:X.calm=true)(hi:tO X P tg iter mi)(cp:X.Ok->∃cs,qd X scope cs)(kO:rE X scope N' cap)
  (uU:∀(cs:List (Str×Addr))(C:Addr)(s₂:Shared)(H₂:Hp)(fp:List Addr)(P':Fx),P'.cl=P.cl->(∀j,cap[j]?=some none->P'.F j=none) ->
   uO (bq X N' scope cs C s₂ H₂ fp) P' tg b/\Gu (bq X N' scope cs C s₂ H₂ fp) P' ifs mt/\aW (bq X N' scope cs C s₂ H₂ fp) P' elt me)
  (hs:∀x,foldedSetIterable iter X.env x=pure x) {use:Option (Value->Sem Unit)} {Q0:Value->Shared->Prop} {Gw:Pos} {Γ Γ1:G} {ts out:List T} {pins:List (Addr×Obj)} {s:Shared} {σ:St} {H Hs:Hp}
  (h1:mi Γ=some (ts,Γ1)) (h2:eX b mt me (jg cap (aJ cap Γ1)) ts []=some out) (I:Inv X pins σ H s) (S:az (kc X P) P Γ σ H Hs)
  (Nj:∀(D C:Addr)(s3:Shared)(H' aM:Hp)(m3:Str->Option Value),Inv X pins σ H' s3->s3.heap.Ns C m3->oM X pins H' C->ax H H'->ax Hs aM->az (kc X P) P (aJ cap Γ1) σ H' aM->iD (kc X P) P (aJ cap Γ1) σ H' aM (.ref D) (.own (.lst out))->compPost (model X.prog X.w) X.A X.xe use Q0 (.ref D) C (.ok .next) s3) :
  wpAny (model X.prog X.w) X.A (comprehension (.ListComp elt [⟨tg,iter,ifs,0⟩] scope pos) scope X.env Gw (newList []) false (eval iter X.env) use) Q0 X.xe s:=by
 obtain⟨cs,cp⟩:=cp I.ok;refine wpAny_comprehension_free (use:=use) rfl hs cp.Nh cp.kind cp.names ?_;refine da (hi Γ ts Γ1 h1 pins s σ H (fun J H'=>∃aM,ax H H'/\ax Hs aM/\az (kc X P) P Γ1 σ H' aM/\JW (kc X P) J ts aM) I ⟨Hs,S,fun J H' aM e e' S' ok=>⟨aM,e,e',S',ok⟩⟩) fun xv s1 g1=>da g1 fun OM s2 g2=>?_;obtain⟨it,fp,tn,J,H2,rfl,I2,turn,zU,qe,Po,e2,fb,Pp,ok⟩:=g2;obtain⟨bX,e3,S2⟩:=Pp.aJ (cap:=cap);have BN:∀b∈fp,b<s2.heap.objs.size:=fun b hb=>by
  obtain⟨o,ho,_⟩:=turn.obj 0 _ zU b hb;exact Heap.lt_size ho
 refine wpAny_newObj_type (wpAny_newFunctionEnv cp.oR (by intro y hy;simp at hy) (fun hB Dd zV=>?_) cp.kind);dsimp only at Dd zV ⊢;generalize hA:s2.heap.push {cls:=.type "list", dict:=none,data:=.seq ([]:List Value).toArray}=Gx at Dd zV ⊢;have Gy:Gx.objs.size=s2.heap.objs.size+1:=by rw [<-hA,Heap.size_push]
 have hD:H2 s2.heap.objs.size=none:=I2.cR.fresh (le_refl _);have A5:Gx.objs.size≠s2.heap.objs.size:=by rw [Gy];exact Nat.succ_ne_self _
 have lP:∀b o,s2.heap.get? b=some o->hB.get? b=some o:=fun b o e=>by
  have lt:=Heap.lt_size e;refine zV.extBut b o ?_ ?_
  ·intro z;rw [z,Gy]at lt;exact absurd lt (not_lt.mpr (le_succ _))
  ·exact Heap.get?_push_of_some _ (by rw [<-hA];exact Heap.get?_push_of_some _ e)
 have sF:hB.get? s2.heap.objs.size=some {cls:=.type "list", data:=.seq #[] 0}:=zV.extBut _ _ A5.symm (Heap.get?_push_of_some _ (by rw [<-hA];exact Heap.get?_push_size _ rfl));generalize Pq:s2.heap.objs.size=D at hD A5 sF ⊢;generalize Pt:Gx.objs.size=C at Dd zV A5 ⊢;have Fi:s2.heap.objs.size<=C:=by rw [<-Pt,Gy];exact le_succ _
 have LF:s2.heap.objs.size<=D:=by rw [Pq];exact le_refl _
 have Gz:(wF cap (aJ cap Γ1) σ).length=N'.length:=by
  rw [<-kO.length];simp [wF]
 have J0:Inv (bq X N' scope cs C s2 H2 fp) [] (wF cap (aJ cap Γ1) σ) (upd H2 D (.lst [])) {s2 with heap:=hB,toks:=s2.toks+([]:List (Str×Value)).length} :=
  uS I2 cp LF Fi A5 qe BN lP Dd ⟨0,sF⟩ (fun j x v q1 q2=>by
   obtain⟨i,z1,z2⟩:=Gv q2;obtain⟨y1,y2,y3⟩:=kO.get q1 z1;exact⟨i,y1,z2,y2,y3⟩) Gz
 have IU:∀(pl:List (Addr×Obj))(H':Hp),(∀b∈fp,H' b=none)->pl=[]->∀b∈fp,oM (bq X N' scope cs C s2 H2 fp) pl H' b:=fun pl H' hn e b hb=>by
  subst e;obtain⟨_,f2,f3,_,f5,_⟩:=qe b hb;refine⟨hn b hb,fun e=>?_,fun Ni=>?_,.inl hb,fun x c q=>f5 x c (cp.same x c q),fun p hp=>absurd (show p∈([]:List (Addr×Obj)) from hp) (by simp)⟩
  ·have:=BN b hb;rw [show b=C from e]at this;exact absurd (lt_of_lt_of_le this Fi) (lt_irrefl _)
  ·rcases mem_cons.mp (I2.mq b Ni)with z|z
   ·exact f2 z
   ·exact f3 z
 have GA:∀j v,oS cap (aJ cap Γ1) σ j=some v->(wF cap (aJ cap Γ1) σ)[j]?=some (some v):=fun j v q=>by
  unfold oS at q
  cases z:(wF cap (aJ cap Γ1) σ)[j]? with
  |none=>rw [z]at q;cases q
  |some y =>
   rw [z]at q;have q:y=some v:=q;rw [q]
 have loop:codeAny (model X.prog X.w) X.A (.compLoop (.ListComp elt [⟨tg,iter,ifs,0⟩] scope pos) 0 (.ref it) (.ref D) (compEnvC scope cs C X.env)) (compPost (model X.prog X.w) X.A X.xe use Q0 (.ref D) C)
   {s2 with heap:=hB,toks:=s2.toks+([]:List (Str×Value)).length}:=by
  refine xh (CI (bq X N' scope cs C s2 H2 fp) (kc X P) cap b mt me (aJ cap Γ1) ts out σ H2 bX tn D fp) ?_ ts.length ?_
  ·rintro n s' ⟨i,Hi,fW,acc,ys,σ',Ge,q2,J1,Nk,sH,zW,sub,nw,Fj,IV,rs,fix,IT⟩;have hlen:σ'.length=cap.length:=by rw [kO.length];exact J1.len
   have SB:=BM (cap:=cap) S2 zW sub fix hlen;by_cases yr:i<ts.length
   ·have ht:ts[i]?=some ts[i]:=by simp [yr]
    obtain⟨g1,g2⟩:=(ok i Hi fW (e3.trans zW) sub).1 _ ht;rw [drop_cons ht]at q2;obtain⟨Γ2,kk,Γ3,Pu,hm1,hor⟩:=zT q2;obtain⟨bg,bt,be⟩:=uU cs C s2 H2 fp ⟨Hi,fW,P.cl,oS cap (aJ cap Γ1) σ⟩ rfl (fun j hj=>Ei hj);refine da (turn.item (bq X N' scope cs C s2 H2 fp) rfl rfl rfl hc i [] s' σ' Hi (fun _ _=>False) J1 (IU [] Hi IT rfl) Nk g1) fun r3 s3 ⟨u,er,g3⟩=>?_;subst er;refine da g3 fun _ s4 ⟨x,H',J2,rx,hy,GB,GC⟩=>?_;obtain⟨jI,y1,y2,S3,tr⟩:=(g2 x H' hy).fin SB;have J3:=J2.pinned (IU [] H' GC rfl) fun b hb=>turn.obj _ _ GB b hb
    -- Jn is left behind a turn
    have fin:∀(Γz:G)(σz:St)(Hz Nl:Hp)(s9:Shared)(H9:Hp)(J4:List T)(Rq:List V),az (kc X P) ⟨Hi,fW,P.cl,oS cap (aJ cap Γ1) σ⟩ Γz σz Hz Nl->ax fW Nl->Inv (bq X N' scope cs C s2 H2 fp) ([]++uz fp s4.heap) σz H9 s9 ->
      (∀b,b≠D->H9 b=Hz b)->H9 D=some (.lst Rq)->iu (kc X P) Nl Rq J4->eX b mt me (jg cap (aJ cap Γ1)) (ts.drop (i+1)) J4=some out ->
      ∃m,m<ts.length-i/\CI (bq X N' scope cs C s2 H2 fp) (kc X P) cap b mt me (aJ cap Γ1) ts out σ H2 bX tn D fp m s9:=by
     intro Γz σz Hz Nl s9 H9 J4 Rq Sz ez J9 h9 hD9 r9 m9;have LG:Nl D=none:=by
      cases z:Nl D with
      |none=>rfl
      |some o =>
       rcases Sz.new D o z with w1|w1
       ·rw [show fW D=some o from w1]at IV
        cases IV
       ·rw [show Hi D=none from w1]at Fj
        cases Fj
     have nD2:∀{b:Addr}{o:HO},H2 b=some o->b≠D:=fun{b o} q=>bM q hD;refine⟨ts.length-(i+1),by omega,.mk (i+1) H9 Nl J4 Rq σz yr m9 J9.kf (turn.keep _ _ _ GB fun b hb o ho=>(J9.pin (b,o) (mem_append_right _ (mem_append_right _ (fc hb ho)))).1) (fun b o q=>?_) (zW.trans ez) (fun b o q=>?_) (fun a o q=>?_) hD9 LG r9 (fun j v q=>Sz.fix j v q) (fun b hb=>?_)⟩
     ·rw [h9 b (nD2 q)];exact Sz.kept b o (sH b o q)
     ·have z:b≠D:=fun e=>by rw [e,LG]at q;cases q
      rw [h9 b z];exact Sz.sub b o q
     ·rcases Sz.new a o q with w1|w1
      ·exact nw a o w1
      ·exact .inr (sH.free w1)
     ·obtain⟨o,ho,_⟩:=turn.obj _ _ GB b hb;exact(J9.pin (b,o) (mem_append_right _ (mem_append_right _ (fc hb ho)))).2.1
    refine da (bg _ s4 σ' H' x u (fun σ5 H5=>H5=H'/\az (kc X P) ⟨Hi,fW,P.cl,oS cap (aJ cap Γ1) σ⟩ Γ2 σ5 H' jI) J3 rx ⟨_,_,Γ2,jI,Pu,S3,tr,fun σ5 S5=>⟨rfl,S5⟩⟩) fun _ s5 ⟨σ5,H5,J5,eH,S5⟩=>?_;subst eH;refine da (bt Γ2 kk Γ3 hm1 _ s5 σ5 H5 (fun k6 H6=>k6=kk/\∃J8,ax H5 H6/\ax jI J8/\az (kc X P) ⟨Hi,fW,P.cl,oS cap (aJ cap Γ1) σ⟩ Γ3 σ5 H6 J8) J5 ⟨jI,S5,fun H6 J8 w1 w2 S6=>⟨rfl,J8,w1,w2,S6⟩⟩) fun k6 s6 ⟨H6,J6,ek,J8,w1,w2,S6⟩=>?_;subst ek;rcases hor with⟨rfl,r7,Γ4,Pw,Px,m7⟩|⟨rfl,m7⟩
    ·refine rA ?_;refine da (be Γ3 r7 Γ4 Pw _ s6 σ5 H6 (fun v7 H7=>∃xn,ax H6 H7/\ax J8 xn/\az (kc X P) ⟨Hi,fW,P.cl,oS cap (aJ cap Γ1) σ⟩ Γ4 σ5 H7 xn/\iD (kc X P) ⟨Hi,fW,P.cl,oS cap (aJ cap Γ1) σ⟩ Γ4 σ5 H7 xn v7 r7) J6 ⟨J8,S6,fun v7 H7 xn z1 z2 S7 f7=>⟨xn,z1,z2,S7,f7⟩⟩) fun u7 s7 ⟨v7,H7,J7,Py,xn,z1,z2,S7,f7⟩=>?_;obtain⟨Fl,y3,S8,Pz⟩:=S7.eM f7;have PB:H7 D=some (.lst ys):=S7.kept D _ Fj;refine da (kg (X:=bq X N' scope cs C s2 H2 fp) _ s7 σ5 H7 (.ref D) [v7] (.ref D) [u7] (fun v9 H9=>H9=upd H7 D (.lst (ys++[v7]))) J7 rfl (.cons Py .nil) ⟨D,ys,v7,rfl,rfl,PB,by rw [aF rs];exact Px,rfl⟩) fun _ s9 ⟨v9,H9,J9,_,eH⟩=>?_;subst eH;have es:ax fW Fl:=y2.trans (w2.trans (z2.trans y3));exact fin _ σ5 H7 Fl s9 _ _ _ S8 es J9 (fun b hb=>aw hb) aE (d4 (cT es _ _ rs) (dh Pz cu)) m7
    ·refine uI ?_;have es:ax fW J8:=y2.trans w2;exact fin _ σ5 H6 J8 s6 H6 acc ys S6 es J6 (fun _ _=>rfl) (S6.kept D _ Fj) (cT es _ _ rs) m7
   ·have e:i=ts.length:=by omega
    subst e;rw [drop_length]at q2
    cases q2
    refine da (turn.done (bq X N' scope cs C s2 H2 fp) rfl rfl rfl hc _ [] s' σ' Hi (fun _ _=>False) J1 (IU [] Hi IT rfl) Nk ((ok _ Hi fW (e3.trans zW) sub).2 (le_refl _))) fun r3 s3 ⟨er,J3⟩=>?_;subst er;obtain⟨m3,TK,_⟩:=J3.loc;have nC:Hi C=none:=J3.free;have I9:Inv X pins σ Hi s3:=I2.uw (ch:=fp) J3.os
     ⟨fun b o q n1 n2 n3=>J3.base.keep b o q n1 n2 n3,fun b o q n1 n2 n3=>J3.base.slot b o q n1 n2 n3,J3.base.free,fun b o q n1=>J3.base.there b o q n1,J3.base.jR,J3.base.jE,J3.base.jS⟩ J3.cR J3.bare fun b hb=>by
      obtain⟨_,f2,_,f4,f5,f6⟩:=qe b hb;exact⟨f4,f2,f5,f6⟩
    have SZ:az (kc X P) ⟨H2,bX,P.cl,ud⟩ [] [] Hi fW:=⟨sH,sub,nw,(fun i v q=>nomatch q),(fun i t q=>by simp at q),(fun i t q=>by simp at q),(fun i j t u a _ q=>by simp at q),rfl⟩;exact Nj D C s3 Hi fW m3 I9 TK (I2.zq Fi nC) (e2.trans sH) (fb.trans (e3.trans zW)) (S2.after zW SZ) ⟨D,rfl,S2.kept.free hD,⟨IV,ys,Fj,rs⟩,S2.mz hD⟩
  ·refine .mk 0 (upd H2 D (.lst [])) bX [] [] _ (zero_le _) (by simpa using h2) J0 (turn.keep 0 _ _ zU fun b hb o ho=>lP b o ho) (ee hD) (ax.refl _) (S2.sub.trans (ee hD)) (fun a o q=>.inl q) aE (S2.sub.free hD) cu GA fun b hb=>?_;have z:b≠D:=fun e=>by
    have:=BN b hb;rw [e]at this;exact absurd (lt_of_lt_of_le this LF) (lt_irrefl _)
   rw [aw z];exact(qe b hb).1
 exact codeAny_compStart_list loop (turn.self _ 0 _ _ _ (turn.keep 0 _ _ zU fun b hb o ho=>lP b o ho) loop)
theorem Ej{Γ Γ':G}{r:R}(h:jh cap mi b mt me Γ=some (r,Γ')):∃ts Γ1 out,mi Γ=some (ts,Γ1)/\eX b mt me (jg cap (aJ cap Γ1)) ts []=some out/\r=.own (.lst out)/\Γ'=aJ cap Γ1:=by
 unfold jh at h
 cases h1:mi Γ with
 |none=>rw [h1]at h;cases h
 |some p =>
 rw [h1]at h;obtain⟨ts,Γ1⟩:=p;dsimp only [Option.bind]at h
 cases h2:eX b mt me (jg cap (aJ cap Γ1)) ts []with
 |none=>rw [h2]at h;cases h
 |some out =>
 rw [h2]at h
 cases h
 exact⟨ts,Γ1,out,rfl,h2,rfl,rfl⟩
theorem qf(hc:X.calm=true)(hi:tO X P tg iter mi)(cp:X.Ok->∃cs,qd X scope cs)(kO:rE X scope N' cap)
  (uU:∀(cs:List (Str×Addr))(C:Addr)(s₂:Shared)(H₂:Hp)(fp:List Addr)(P':Fx),P'.cl=P.cl->(∀j,cap[j]?=some none->P'.F j=none) ->
   uO (bq X N' scope cs C s₂ H₂ fp) P' tg b/\Gu (bq X N' scope cs C s₂ H₂ fp) P' ifs mt/\aW (bq X N' scope cs C s₂ H₂ fp) P' elt me)
  (hs:∀x,foldedSetIterable iter X.env x=pure x:=by intro _;rfl):aW X P (.ListComp elt [⟨tg,iter,ifs,0⟩] scope pos) (jh cap mi b mt me):=fun Γ r Γ' h=>by
 obtain⟨ts,Γ1,out,h1,h2,rfl,rfl⟩:=Ej h;intro pins s σ H Q I ⟨Hs,S,k⟩;rw [eval_ListComp];refine JZ (use:=none) hc hi cp kO uU hs h1 h2 I S fun D C s3 H' aM m3 I3 hn BN e e' S' f=>⟨m3,hn,fun h' TL=>⟨.ref D,H',?_,rfl,k _ H' aM e e' S' f⟩⟩;exact I3.yt (t':=s3.toks) (fp:=[C]) (fun b hb=>by rw [mem_singleton.mp hb];exact BN) fun b o hb q=>TL.extBut b o (fun z=>hb (by simp [z])) q
end
section
variable {X:Cx}{P:Fx}{cl:Nat->Addr}{a b c e:Expr}{es:List Expr}{ma mb mc:MX}{pos pos':Pos}
theorem A4.imp{r r':R2}(h:A4 X r)(i:∀x y H Q,r' x y H Q->r x y H Q):A4 X r':=fun value slice pins s σ H x y v u Q I rx ry q=>h value slice pins s σ H x y v u Q I rx ry (i x y H Q q)
theorem Ka{t u:T}{r:R}(h:wt t u=some r):∃ts i z,(t=.lst ts\/t=.tup ts)/\u=.int i/\lN ts i=some z/\r=.sh z:=by
 unfold wt at h;split at h
 ·rename_i ts i
  cases q:lN ts i with
  |none=>rw [q]at h;cases h
  |some z=>rw [q]at h;cases h;exact⟨ts,i,z,.inl rfl,rfl,q,rfl⟩
 ·rename_i ts i
  cases q:lN ts i with
  |none=>rw [q]at h;cases h
  |some z=>rw [q]at h;cases h;exact⟨ts,i,z,.inr rfl,rfl,q,rfl⟩
 ·cases h
theorem TM:A4 X (rS ⟨X.K,cl⟩ wt):=A4.imp (JH.or MP) fun x y H Q ⟨Hs,t,u,r,sm,h1,h2,hg,k⟩=>by
 obtain⟨ts,i,z,ht,rfl,hz,rfl⟩:=Ka hg;rcases ht with rfl|rfl
 ·obtain⟨p,xs,rfl,sq,rs⟩:=h1;obtain⟨v,hv,tv⟩:=C7 rs hz;exact .inl ⟨p,xs,i,v,rfl,h2,sq,hv,k v H (.val tv)⟩
 ·obtain⟨p,xs,rfl,sq,rs⟩:=h1;obtain⟨v,hv,tv⟩:=C7 rs hz;exact .inr ⟨p,xs,i,v,rfl,h2,my sm sq,hv,k v H (.val tv)⟩
def cut{α:Type}(xs:List α)(lo hi:Option Int):List α:=(xs.drop (HT.fV xs.length 0 lo)).take (HT.fV xs.length xs.length hi-HT.fV xs.length 0 lo)
theorem De{K:KC}{H:Hp}{xs:List V}{ts:List T}(r:iu K H xs ts)(lo hi:Option Int):iu K H (zC xs lo hi) (cut ts lo hi):=by
 unfold zC cut;rw [aF r];exact uK _ (zF _ r)
abbrev MO:=G->Option (Option Int×G)
def TN(K:KC)(P:Fx)(Γ:G)(o:Option Int)(Γ':G):TO:=fun σ H Q=>∃Hs,az K P Γ σ H Hs/\∀H' aM,ax H H'->ax Hs aM->az K P Γ' σ H' aM->Q o H'
def Ek(X:Cx)(P:Fx)(e:Option Expr)(m:MO):Prop:=∀Γ o Γ',m Γ=some (o,Γ')->PO X e (TN (kc X P) P Γ o Γ')
theorem PO.imp{e:Option Expr}{t t':TO}(h:PO X e t)(i:∀σ H Q,t' σ H Q->t σ H Q):PO X e t':=fun pins s σ H Q I q=>h pins s σ H Q I (i σ H Q q)
def qV:MO:=fun Γ=>some (none,Γ)
def qW(m:MX):MO:=fun Γ=>(m Γ).bind fun p=>match p.1 with
 |.sh (.int i)=>some (some i,p.2)
 |_=>none
theorem dj:Ek X P none qV:=fun Γ o Γ' h=>by
 cases h
 exact PO.imp JE fun σ H Q ⟨Hs,S,k⟩=>k H Hs (ax.refl _) (ax.refl _) S
theorem dk{m:MX}(h:aW X P e m):Ek X P (some e) (qW m):=fun Γ o Γ' hm=>by
 unfold qW at hm
 cases h1:m Γ with
 |none=>rw [h1]at hm;cases hm
 |some p =>
  rw [h1]at hm;obtain⟨r,Γ1⟩:=p;dsimp only [Option.bind]at hm;split at hm
  ·rename_i i
   cases hm
   exact PO.imp (JF (h _ _ _ h1)) fun σ H Q ⟨Hs,S,k⟩=>⟨Hs,S,fun v H1 bJ e1 dr S1 f1=>⟨i,f1,k H1 bJ e1 dr S1⟩⟩
  ·cases hm
def oU(g g':T->T->Option R)(ma mb mc:MX):MX:=fun Γ=>(ma Γ).bind fun p=>(mb p.2).bind fun q=>match g p.1.tree q.1.tree with
 |some (.sh (.bl true))=>(mc q.2).bind fun z=>(g' q.1.tree z.1.tree).map fun r=>(r,z.2)
 |some (.sh (.bl false))=>some (.sh (.bl false),q.2)
 |_=>none
theorem uV{g g':T->T->Option R}{Γ Γ':G}{r:R}(h:oU g g' ma mb mc Γ=some (r,Γ')):∃r1 Γ1 r2 Γ2,ma Γ=some (r1,Γ1)/\mb Γ1=some (r2,Γ2) /\
  ((g r1.tree r2.tree=some (.sh (.bl true))/\∃r3,mc Γ2=some (r3,Γ')/\g' r2.tree r3.tree=some r)\/(g r1.tree r2.tree=some (.sh (.bl false))/\r=.sh (.bl false)/\Γ'=Γ2)):=by
 obtain⟨r1,Γ1,h1,h⟩:=cE h;obtain⟨r2,Γ2,h2,h⟩:=cE h;refine⟨r1,Γ1,r2,Γ2,h1,h2,?_⟩;clear h1 h2;dsimp only at h;split at h
 ·rename_i hg;obtain⟨r3,Γ3,h3,h⟩:=cE h;obtain⟨y,h4,h⟩:=iE h
  cases h
  exact .inl ⟨hg,r3,h3,h4⟩
 ·rename_i hg
  cases h
  exact .inr ⟨hg,rfl,rfl⟩
 ·cases h
theorem zX{K:KC}{g g':T->T->Option R}{Γ Γ1 Γ2 Γ':G}{r r1 r2 r3:R}(hg:g r1.tree r2.tree=some (.sh (.bl true)))(PD:g' r2.tree r3.tree=some r){σ:St}{H:Hp}{Q:VK}(h:BH K P Γ r Γ' σ H Q):
  x5 (rS K g) (rS K g') (BH K P Γ r1 Γ1) (BH K P Γ1 r2 Γ2) (BH K P Γ2 r3 Γ') σ H Q:=by
 obtain⟨Hs,S,k⟩:=h;refine⟨Hs,S,fun v H1 bJ e1 dr S1 f1=>⟨bJ,S1,fun w H2 bX e2 fb S2 f2=>⟨bX,r1.tree,r2.tree,_,S2.sub,(S1.uM f1).mono e2 fb,S2.uM f2,hg,fun z H3 o=>?_⟩⟩⟩;obtain⟨jI,e3,tK,S3,f3⟩:=o.fin S2;refine⟨true,f3,rA ⟨jI,S3,fun y H4 GD e4 Fm S4 f4=>⟨GD,r2.tree,r3.tree,r,S4.sub,(S2.uM f2).mono (e3.trans e4) (tK.trans Fm),S4.uM f4,PD,fun x H5 o5=>?_⟩⟩⟩;obtain⟨Hs5,e5,e5',S5,f5⟩:=o5.fin S4;exact k x H5 Hs5 (e1.trans (e2.trans (e3.trans (e4.trans e5)))) (dr.trans (fb.trans (tK.trans (Fm.trans e5')))) S5 f5
theorem xo{K:KC}{g g':T->T->Option R}{Γ Γ1 Γ':G}{r1 r2:R}{tc:TE}(hg:g r1.tree r2.tree=some (.sh (.bl false))){σ:St}{H:Hp}{Q:VK}(h:BH K P Γ (.sh (.bl false)) Γ' σ H Q):
  x5 (rS K g) (rS K g') (BH K P Γ r1 Γ1) (BH K P Γ1 r2 Γ') tc σ H Q:=by
 obtain⟨Hs,S,k⟩:=h;refine⟨Hs,S,fun v H1 bJ e1 dr S1 f1=>⟨bJ,S1,fun w H2 bX e2 fb S2 f2=>⟨bX,r1.tree,r2.tree,_,S2.sub,(S1.uM f1).mono e2 fb,S2.uM f2,hg,fun z H3 o=>?_⟩⟩⟩;obtain⟨jI,e3,tK,S3,f3⟩:=o.fin S2;exact⟨false,f3,uI (k _ H3 jI (e1.trans (e2.trans e3)) (dr.trans (fb.trans tK)) S3 rfl)⟩
theorem El{op Bp:CmpOp}{g g':T->T->Option R}(ho:kd X P.cl (compareOp op) g)(nK:kd X P.cl (compareOp Bp) g')(ha:aW X P a ma)(hb:aW X P b mb)(hc:aW X P c mc)
  (hm:lastMarks [op,Bp] [b,c]=false:=by with_unfolding_all rfl):aW X P (.Compare a [op,Bp] [b,c] pos) (oU g g' ma mb mc):=fun Γ r Γ' h=>by
 obtain⟨r1,Γ1,r2,Γ2,h1,h2,⟨hg,r3,h3,PD⟩|⟨hg,rfl,rfl⟩⟩:=uV h
 ·exact(zu ho nK (ha _ _ _ h1) (hb _ _ _ h2) (hc _ _ _ h3) hm).imp fun σ H Q q=>zX hg PD q
 ·exact(zu ho nK (ha _ _ _ h1) (hb _ _ _ h2) gz hm).imp fun σ H Q q=>xo hg q
theorem Em{op Bp:CmpOp}{g g':T->T->Option R}(ho:kd X P.cl (compareOp op) g)(nK:kd X P.cl (compareOp Bp) g')(ha:aW X P a ma)(hb:aW X P b mb)(hc:aW X P c mc)
  (hm:lastMarks [op,Bp] [b,c]=false:=by with_unfolding_all rfl):oN X P (.Compare a [op,Bp] [b,c] pos) (ar (oU g g' ma mb mc)):=fun Γ k Γ' h=>by
 obtain⟨r1,Γ1,r2,Γ2,h1,h2,⟨hg,r3,h3,PD⟩|⟨hg,e,rfl⟩⟩:=uV (nP h)
 ·exact(zv ho nK (ha _ _ _ h1) (hb _ _ _ h2) (hc _ _ _ h3) hm).imp fun σ H Q q=>zX hg PD (uc q)
 ·cases e
  exact(zv ho nK (ha _ _ _ h1) (hb _ _ _ h2) gz hm).imp fun σ H Q q=>xo hg (uc q)
theorem jj{x:Str}{u:Value}{v:V}{t:T}(hg:Gl X x)(hm:X.mg x=some u)(r:RelV v u)(q:∀Hs,Tr (kc X P) Hs v t)(hd:(x==("__debug__" : Str))=false:=by decide):aW X P (.Name x pos) (mC t):=zJ (xW hg hm r hd) q
def GF(m:MX):MX:=fun Γ=>(m Γ).bind fun p=>match p.1 with
 |.sh (.int i)=>some (.sh (.int (-i)),p.2)
 |_=>none
theorem Df{m:MX}(h:aW X P a m):aW X P (.UnaryOp .USub a pos) (GF m):=fun Γ r Γ' hm=>by
 unfold GF at hm
 cases h1:m Γ with
 |none=>rw [h1]at hm;cases hm
 |some p =>
  rw [h1]at hm;obtain⟨r1,Γ1⟩:=p;dsimp only [Option.bind]at hm;split at hm
  ·rename_i i
   cases hm
   exact(OQ MF (h _ _ _ h1)).imp fun σ H Q ⟨Hs,S,k⟩=>⟨Hs,S,fun v H1 bJ e1 dr S1 f1=>⟨i,f1,k _ H1 bJ e1 dr S1 rfl⟩⟩
  ·cases hm
theorem lQ{K:KC}{H Hs:Hp}{vs:List V}{t:T}(h:uL K H Hs vs [t]):∃v,vs=[v]/\wC K H Hs v t:=by
 cases h with
 |cons h r =>
  cases r
  exact⟨_,rfl,h⟩
theorem PF{K:KC}{H Hs:Hp}{vs:List V}{t u:T}(h:uL K H Hs vs [t,u]):∃v w,vs=[v,w]/\wC K H Hs v t/\wC K H Hs w u:=by
 cases h with
 |cons h r =>
  obtain⟨w,rfl,q⟩:=lQ r;exact⟨_,w,rfl,h,q⟩
def gA:List T->Option R
 |[.lst ts]=>some (.sh (.int ts.length))
 |[.tup ts]=>some (.sh (.int ts.length))
 |[.str x]=>if x.length<=sizeLine then some (.sh (.int x.length))else none
 |[.ua ks _]=>some (.sh (.int ks.length))
 |_=>none
theorem jk:ki X cl (.builtin "len") gA:=fF.imp ((yc.or yd).or Eb) fun vs H Q ⟨Hs,ts,r,sm,h1,hg,k⟩=>by
 unfold gA at hg;split at hg
 ·rename_i us
  cases hg
  obtain⟨v,rfl,p,xs,rfl,sq,rs⟩:=lQ h1;rw [<-aF rs]at k;exact .inl (.inl ⟨p,xs,rfl,.inl sq,k _ H (.val rfl)⟩)
 ·rename_i us
  cases hg
  obtain⟨v,rfl,p,xs,rfl,sq,rs⟩:=lQ h1;rw [<-aF rs]at k;exact .inl (.inl ⟨p,xs,rfl,.inr (my sm sq),k _ H (.val rfl)⟩)
 ·split at hg
  ·rename_i hl
   cases hg
   obtain⟨v,rfl,e⟩:=lQ h1
   cases(show v=V.str _ from e)
   exact .inl (.inr ⟨_,rfl,hl,k _ H (.val rfl)⟩)
  ·cases hg
 ·rename_i ks us
  cases hg
  obtain⟨v,rfl,p,xs,rfl,sq,l,rs⟩:=lQ h1;refine .inr ⟨p,_,rfl,sq,?_⟩;have e:(ks.zip xs).length=ks.length:=by rw [List.length_zip,l];omega
  rw [e];exact k _ H (.val rfl)
 ·cases hg
def LH:List T->Option R
 |[.lst ts]=>some (.own (.lst ts))
 |[.tup ts]=>some (.own (.lst ts))
 |_=>none
theorem Kb:ki X cl (.type "list") LH:=fF.imp ye fun vs H Q ⟨Hs,ts,r,sm,h1,hg,k⟩=>by
 unfold LH at hg;split at hg
 ·cases hg
  obtain⟨v,rfl,p,xs,rfl,sq,rs⟩:=lQ h1;exact⟨p,xs,rfl,.inl sq,fun l n=>k _ _ (.zH n rs)⟩
 ·cases hg
  obtain⟨v,rfl,p,xs,rfl,sq,rs⟩:=lQ h1;exact⟨p,xs,rfl,.inr (my sm sq),fun l n=>k _ _ (.zH n rs)⟩
 ·cases hg
def sG:List T->Option R
 |[.int i,.int j]=>some (.sh (.int (if j>i then j else i)))
 |_=>none
theorem Kc(hc:X.calm=true):ki X cl (.builtin "max") sG:=fF.imp (D0 hc) fun vs H Q ⟨Hs,ts,r,sm,h1,hg,k⟩=>by
 unfold sG at hg;split at hg
 ·cases hg
  obtain⟨v,w,rfl,e1,e2⟩:=PF h1
  cases(show v=V.int _ from e1)
  cases(show w=V.int _ from e2)
  exact⟨_,_,rfl,k _ H (.val rfl)⟩
 ·cases hg
end
def YH:T->String
 |.cQ => "NoneType"
 |.bl _ => "bool"
 |.int _ => "int"
 |.str _ => "str"
 |.lst _ => "list"
 |.tup _ => "tuple"
 |.ua _ _ => "dict"
 |.obj _ => "object"
def YI(n c:String):Bool:=n==c||(n == "bool" && c == "int")
def GG:T->Bool
 |.obj _=>true
 |_=>false
section
variable {X:Cx}{P:Fx}{cl:Nat->Addr}{e:Expr}{pos p p2:Pos}{m:MX}
def TQ(c:String)(m:MX):MX:=fun Γ=>(m Γ).bind fun p=>if GG p.1.tree=true then none else some (.sh (.bl (YI (YH p.1.tree) c)),p.2)
def boolsOf:List T->Option (List Bool)
 |[]=>some []
 |.bl b::r=>(boolsOf r).map fun bs=>b::bs
 |_::_=>none
theorem sI{K:KC}{H:Hp}:∀{ts:List T}{xs:List V}{bs:List Bool},boolsOf ts=some bs->iu K H xs ts->xs=bs.map V.bl
 |[],xs,bs,h,r=>by
  cases h
  exact r
 |t::ts,xs,bs,h,r=>by
  obtain⟨v,vs,rfl,q,qs⟩:=r
  cases t with
  |bl b =>
   have h:(boolsOf ts).map (fun bs=>b::bs)=some bs:=h
   cases e:boolsOf ts with
   |none=>rw [e]at h;cases h
   |some cs =>
    rw [e]at h
    cases h
    rw [sI e qs]
    cases(show v=V.bl b from q)
    rfl
  |_=>cases h
theorem sJ:∀{bs:List Bool}{us:List Value},Vals (bs.map V.bl) us->us=bs.map Value.bool
 |[],us,h=>by
  cases h
  rfl
 |b::bs,us,h=>by
  cases h with
  |cons r rs =>
   cases(show _=Value.bool b from r)
   rw [sJ rs];rfl
def En:List T->Option R
 |[.lst ts]=>(boolsOf ts).map fun bs=>.sh (.bl (bs.all id))
 |_=>none
theorem range_all:∀(bs:List Bool),((List.range bs.length).all fun i=>(bs[i]?).getD true)=bs.all id
 |bs=>by
  rw [Bool.eq_iff_iff];simp only [all_eq_true,mem_range,id];constructor
  ·intro h x hx;obtain⟨i,hi,e⟩:=List.mem_iff_getElem.mp hx;have:=h i hi;rw [getElem?_eq_getElem hi,e]at this;exact this
  ·intro h i hi;rw [getElem?_eq_getElem hi];exact h _ (getElem_mem hi)
theorem GH(hc:X.calm=true):ki X cl (.builtin "all") En:=by
 intro pins s σ H vs us Q I r ⟨Hs,ts,res,sm,h1,hg,k⟩;unfold En at hg;split at hg
 ·rename_i zs
  cases hb:boolsOf zs with
  |none=>rw [hb]at hg;cases hg
  |some bs =>
   rw [hb]at hg
   cases hg
   obtain⟨v,rfl,a,xs,rfl,sq,rs⟩:=lQ h1;obtain⟨u,rfl,ru⟩:=vals1 r
   cases(show u=Value.ref a from ru)
   have ex:=sI hb rs;subst ex;obtain⟨bh,vv,pl,_⟩:=I.list sq;have ei:=sJ vv;subst ei;have ha:a<s.heap.objs.size:=by
    obtain⟨o,_,e,_⟩:=pl;exact Heap.lt_size e
   refine call_all_walk (wpAny_pyIter_list pl.isList ?_);refine⟨s.heap.objs.size,[s.heap.objs.size,a],[s.heap.objs.size],(bs.map Value.bool).toArray.size,_,_,fun i=>(bs[i]?).getD true,rfl,Walks.list (A:=X.A.in1) (I.ok.hd hc) _ a (ne_of_lt ha) (bs.map Value.bool).toArray,
    ⟨⟨_,Heap.get?_push_size _ rfl,rfl,rfl⟩,pl.isList.push _⟩,fun i z s' Q' E' hP hQ=>?_,fun h' tk hk=>?_⟩
   ·have hP:(bs.map Value.bool).toArray[i]?=some z:=hP;rw [List.getElem?_toArray,getElem?_map]at hP
    cases e:bs[i]? with
    |none=>rw [e]at hP;cases hP
    |some y =>
     rw [e]at hP
     cases hP
     simp only [e,Option.getD_some]at hQ;exact wpAny_truthy_bool hQ
   ·have e:(List.range (bs.map Value.bool).toArray.size).all (fun i=>(bs[i]?).getD true)=bs.all id:=by
     rw [<-range_all];simp
    rw [e];refine⟨.bl (bs.all id),H,I.kept (t':=tk) fun b o q=>hk b o (fun hm=>?_) (Heap.get?_push_of_some _ q),rfl,k _ H (.val rfl)⟩;rw [mem_singleton.mp hm]at q;exact absurd (Heap.lt_size q) (lt_irrefl _)
 ·cases hg
end
section
variable {Γ Γ1 Γ2 Γ3:G}{r r1 r2:R}{t u:T}{res:Res}
theorem aj{m n:MS}(h:m Γ=some (.nx Γ1))(h':n Γ1=some res):bo m n Γ=some res:=by
 unfold bo;rw [h];exact h'
theorem cN{m n:MS}(h:m Γ=some (.rt r Γ1)):bo m n Γ=some (.rt r Γ1):=by
 unfold bo;rw [h];rfl
theorem eY{i:Nat}{m:MX}(h:m Γ=some (.sh t,Γ1)):bD i m Γ=some (.nx (Γ1.set i (.sh t))):=by
 unfold bD;rw [h];rfl
theorem kP{i:Nat}{m:MX}(h:m Γ=some (.own t,Γ1)):bD i m Γ=some (.nx (Γ1.set i (.own t))):=by
 unfold bD;rw [h];rfl
theorem bO{np:Nat}{m:MX}(h:m Γ=some (.sh t,Γ1)):dt np m Γ=some (.rt (.sh t) Γ1):=by
 unfold dt;rw [h];rfl
theorem Dg{np:Nat}{m:MX}(h:m Γ=some (.own t,Γ1)):dt np m Γ=some (.rt (.own t) Γ1):=by
 unfold dt;rw [h];rfl
theorem bS{c:MT}{m n:MS}(h:c Γ=some (true,Γ1))(h':m Γ1=some res):jG c m n Γ=some res:=by
 unfold jG;rw [h];exact h'
theorem aA{c:MT}{m n:MS}(h:c Γ=some (false,Γ1))(h':n Γ1=some res):jG c m n Γ=some res:=by
 unfold jG;rw [h];exact h'
theorem uW{c:MT}{m n:MX}{b:Bool}(h:c Γ=some (b,Γ1))(h1:b=true->m Γ1=some (r,Γ2))(h2:b=false->n Γ1=some (r,Γ2)):zM c m n Γ=some (r,Γ2):=by
 unfold zM;rw [h]
 cases b with
 |true=>exact h1 rfl
 |false=>exact h2 rfl
theorem au{g:T->T->Option R}{ma mb:MX}(h:ma Γ=some (r1,Γ1))(h':mb Γ1=some (r2,Γ2))(hg:g r1.tree r2.tree=some r):ag g ma mb Γ=some (r,Γ2):=by
 unfold ag;rw [h];show(mb Γ1).bind _=_;rw [h'];show(g r1.tree r2.tree).map _=_;rw [hg];rfl
theorem aK{m:MX}{b:Bool}(h:m Γ=some (.sh (.bl b),Γ1)):ar m Γ=some (b,Γ1):=by
 unfold ar;rw [h];rfl
theorem h8{m:MT}{b:Bool}(h:m Γ=some (b,Γ1)):kh m Γ=some (!b,Γ1):=by
 unfold kh;rw [h];rfl
theorem ey{m n:MT}{b:Bool}(h:m Γ=some (true,Γ1))(h':n Γ1=some (b,Γ2)):dD m n Γ=some (b,Γ2):=by
 unfold dD;rw [h];exact h'
theorem cq{m n:MT}(h:m Γ=some (false,Γ1)):dD m n Γ=some (false,Γ1):=by
 unfold dD;rw [h];rfl
theorem eA{m n:MT}{b:Bool}(h:m Γ=some (false,Γ1))(h':n Γ1=some (b,Γ2)):jX m n Γ=some (b,Γ2):=by
 unfold jX;rw [h];exact h'
theorem mG{m n:MT}(h:m Γ=some (true,Γ1)):jX m n Γ=some (true,Γ1):=by
 unfold jX;rw [h];rfl
theorem qg{m n:MX}(h:m Γ=some (.sh (.bl true),Γ1))(h':n Γ1=some (r,Γ2)):jd m n Γ=some (r,Γ2):=by
 unfold jd;rw [h];exact h'
theorem qh{m n:MX}(h:m Γ=some (.sh (.bl false),Γ1)):jd m n Γ=some (.sh (.bl false),Γ1):=by
 unfold jd;rw [h];rfl
theorem cM{m:MX}{n:MA}{ts:List T}(h:m Γ=some (r,Γ1))(h':n (eM r Γ1).2=some (ts,Γ2)):aB m n Γ=some ((eM r Γ1).1::ts,Γ2):=by
 unfold aB;rw [h];show(n (eM r Γ1).2).map _=_;rw [h'];rfl
theorem uX{m:MX}{n:MA}{ts:List T}(h:m Γ=some (r,Γ1))(h':n Γ1=some (ts,Γ2)):fE m n Γ=some (r.tree::ts,Γ2):=by
 unfold fE;rw [h];show(n Γ1).map _=_;rw [h'];rfl
theorem cH{np:Nat}{cf:CF}{n:MA}{ts:List T}(h:n Γ=some (ts,Γ1))(hl:ts.length=np)(hc:cf (ts.map Slot.sh)=some (.sh t,Γ2)):av np cf n Γ=some (.sh t,Γ1):=by
 unfold av;rw [h];show(if ts.length=np then _ else _)=_;rw [if_pos hl,hc]
theorem mH{np:Nat}{cf:CF}{n:MA}{ts:List T}(h:n Γ=some (ts,Γ1))(hl:ts.length=np)(hc:cf (ts.map Slot.sh)=some (.own t,Γ2)):av np cf n Γ=some (.own t,Γ1):=by
 unfold av;rw [h];show(if ts.length=np then _ else _)=_;rw [if_pos hl,hc]
theorem mI{g:List T->Option R}{n:MA}{ts:List T}(h:n Γ=some (ts,Γ1))(hg:g ts=some r):bR g n Γ=some (r,Γ1):=by
 unfold bR;rw [h];show(g ts).map _=_;rw [hg];rfl
theorem mJ{n:MA}{ts:List T}(h:n Γ=some (ts,Γ1))(hl:ts.length<=1000):dS n Γ=some (.sh (.tup ts),Γ1):=by
 unfold dS;rw [h];show(if ts.length<=1000 then _ else _)=_;rw [if_pos hl]
theorem uY{n:MA}{ts:List T}(h:n Γ=some (ts,Γ1))(hl:ts.length<=1000):di n Γ=some (.own (.lst ts),Γ1):=by
 unfold di;rw [h];show(if ts.length<=1000 then _ else _)=_;rw [if_pos hl]
theorem Nm{i:Nat}{m:MX}{us ts:List T}(h0:Γ[i]?=some (.own (.lst us)))(h:m Γ=some (r,Γ1))(h2:(eM r Γ1).2[i]?=some (.own (.lst ts)))(hl:ts.length<sizeLine):dN i m Γ=some (.nx ((eM r Γ1).2.set i (.own (.lst (ts++[(eM r Γ1).1]))))):=by
 unfold dN;rw [h0];show(m Γ).bind _=_;rw [h];show(match (eM r Γ1).2[i]? with|some (.own (.lst ts))=>if ts.length<sizeLine then some (Res.nx ((eM r Γ1).2.set i (.own (.lst (ts++[(eM r Γ1).1])))))else none|_=>none)=_;rw [h2];show(if ts.length<sizeLine then _ else _)=_;rw [if_pos hl]
theorem oV{mi:MI}{b:BG}{m:MS}{ts:List T}(h:mi Γ=some (ts,Γ1))(hl:eG b m ts Γ1=some res):ox mi b m Γ=some res:=by
 unfold ox;rw [h];exact hl
theorem qi{b:BG}{m:MS}{ts:List T}(hb:b t Γ=some Γ1)(hm:m Γ1=some (.nx Γ2))(hl:eG b m ts Γ2=some res):eG b m (t::ts) Γ=some res:=by
 unfold eG;rw [hb];show(m Γ1).bind _=_;rw [hm];exact hl
theorem zY{b:BG}{m:MS}{ts:List T}(hb:b t Γ=some Γ1)(hm:m Γ1=some (.rt r Γ2)):eG b m (t::ts) Γ=some (.rt r Γ2):=by
 unfold eG;rw [hb];show(m Γ1).bind _=_;rw [hm];rfl
theorem cy{n:Nat}{m:MS}{as:G}(h:m (as++List.replicate (n-as.length) Slot.no)=some (.rt (.sh t) Γ)):gZ n m as=some (.sh t,Γ):=by
 unfold gZ;rw [h]
theorem GI{n:Nat}{m:MS}{as:G}(h:m (as++List.replicate (n-as.length) Slot.no)=some (.rt (.own t) Γ)):gZ n m as=some (.own t,Γ):=by
 unfold gZ;rw [h]
theorem Dh{cap:List (Option Nat)}{mi:MI}{b:BG}{mt:MT}{me:MX}{ts out:List T}(h:mi Γ=some (ts,Γ1))(hl:eX b mt me (jg cap (aJ cap Γ1)) ts []=some out):jh cap mi b mt me Γ=some (.own (.lst out),aJ cap Γ1):=by
 unfold jh;rw [h];show(eX b mt me (jg cap (aJ cap Γ1)) ts []).map _=_;rw [hl];rfl
theorem uZ{b:BG}{me:MX}{f:T->T}:∀(ts acc:List T),(∀t∈ts,∃Γ1 r Γ2,b t Γ=some Γ1/\me Γ1=some (r,Γ2)/\(eM r Γ2).1=f t)->acc.length+ts.length<=sizeLine->eX b jK me Γ ts acc=some (acc++ts.map f)
 |[],acc,_,_=>by
  show some acc=_;rw [map_nil,append_nil]
 |t::ts,acc,h,hl=>by
  obtain⟨Γ1,r,Γ2,h1,h2,h3⟩:=h t mem_cons_self;have D6:acc.length<sizeLine:=by
   rw [length_cons]at hl;omega
  unfold eX;rw [h1];show(me Γ1).bind (fun q=>if acc.length<sizeLine then eX b jK me Γ ts (acc++[(eM q.1 q.2).1])else none)=_;rw [h2];show(if acc.length<sizeLine then eX b jK me Γ ts (acc++[(eM r Γ2).1])else none)=_;rw [if_pos D6,uZ ts _ (fun u hu=>h u (mem_cons_of_mem _ hu)) (by rw [length_append,List.length_singleton];rw [length_cons]at hl;omega),h3];rw [map_cons,List.append_assoc];rfl
end
section
variable {X:Cx}{P:Fx}{x:Str}{p pos:Pos}{C:Addr}{n:Nat}
def TR(n:Nat):MX:=fun Γ=>some (.sh (.obj n),Γ)
end
section
variable {X:Cx}{P:Fx}{e:Expr}{pos p2:Pos}
def IW(m:MX):MI:=fun Γ=>(m Γ).bind fun p=>match (eM p.1 p.2).1 with
 |.tup ts=>some (ts,(eM p.1 p.2).2)
 |_=>none
theorem Kd{m:MX}{Γ Γ':G}{ts:List T}(h:IW m Γ=some (ts,Γ')):∃r Γ1,m Γ=some (r,Γ1)/\eM r Γ1=(.tup ts,Γ'):=by
 unfold IW at h
 cases h1:m Γ with
 |none=>rw [h1]at h;cases h
 |some p =>
  rw [h1]at h;obtain⟨r,Γ1⟩:=p;dsimp only [Option.bind]at h;split at h
  ·rename_i us q
   cases h
   exact⟨r,Γ1,rfl,by rw [<-q]⟩
  ·cases h
theorem Ke{tg l:Expr}{m:MX}(hl:aW X P l m):tO X P tg l (IW m):=fun Γ ts Γ' h=>by
 obtain⟨r,Γ1,h1,h2⟩:=Kd h;refine PI.imp (Mr (hl _ _ _ h1)) fun σ H R ⟨Hs,S,k⟩=>⟨Hs,S,fun v H1 bJ e1 dr S1 f1=>?_⟩;obtain⟨bX,g,S2,tr⟩:=S1.eM f1;rw [h2]at S2 tr;obtain⟨a,xs,rfl,sq,rs⟩:=tr;refine⟨a,rfl,⟨xs,my S2.sub sq⟩,k _ H1 bX e1 (dr.trans g) S2 fun i H jI e3 e4=>?_⟩;have IS:uy X.K H a xs:=my (e3.trans e4) sq;refine⟨fun t ht=>?_,fun hl=>⟨xs,IS,by rw [aF rs];exact hl⟩⟩;obtain⟨v,hv,tv⟩:=kL rs ht;refine⟨⟨xs,v,IS,hv⟩,fun x H' hy=>?_⟩;obtain⟨rfl,hy⟩:=hy;have:=hy xs IS;rw [hv]at this
 cases this
 exact .val (cX e3 _ _ tv)
end
section
variable {X:Cx}{cl:Nat->Addr}
end
section
variable {X:Cx}{P:Fx}{o ke ve:Expr}{pos pos':Pos}
def PH:MX:=fun Γ=>some (.own (.ua [] []),Γ)
end
section
variable {X:Cx}{pins:List (Addr×Obj)}{σ:St}{H:Hp}{s:Shared}{h':Heap}
end
section
variable {X:Cx}{P:Fx}{elts:List Expr}{kk:Nat}{Jz:Pos}
def PJ(ts us:List T):List T:=List.zipWith (fun t u=>T.tup [t,u]) ts us
def miZ(n:MA):MI:=fun Γ=>(n Γ).bind fun p=>match p.1 with
 |[.lst ts,.lst us]=>some (PJ ts us,p.2)
 |_=>none
end
def IY(xs:Array Nat):Prop:=∀i j:Nat,i<j->∀a b:Nat,xs[i]?=some a->xs[j]?=some b->a<b
theorem getD_some{xs:Array Nat}{i d:Nat}(h:i<xs.size):xs.getD i d=xs[i]/\xs[i]?=some xs[i]:=by
 constructor
 ·simp [Array.getD,h]
 ·simp [h]
theorem GJ{xs:Array Nat}(R:IY xs)(j:Nat):∀(f lo hi:Nat),hi<=xs.size->lo<=hi->hi-lo<=f ->
  (∀k a,k<lo->xs[k]?=some a->a<j)->(∀k a,hi<=k->xs[k]?=some a->j<=a) ->
  (SetTable.below.go xs j f lo hi<=xs.size)/\(∀k a,k<SetTable.below.go xs j f lo hi->xs[k]?=some a->a<j)/\(∀k a,SetTable.below.go xs j f lo hi<=k->xs[k]?=some a->j<=a):=by
 intro f
 induction f with
 |zero =>
  intro lo hi h1 h2 h3 h4 h5;have e:lo=hi:=by omega
  subst e;unfold SetTable.below.go;exact⟨h1,h4,h5⟩
 |succ f ih =>
  intro lo hi h1 h2 h3 h4 h5;unfold SetTable.below.go;by_cases hl:lo<hi
  ·rw [if_pos hl];have hm:(lo+hi) / 2<xs.size:=by omega
   obtain⟨e1,e2⟩:=getD_some (d:=j) hm;by_cases hc:xs.getD ((lo+hi) / 2) j<j
   ·simp only [if_pos hc];refine ih _ _ h1 (by omega) (by omega) (fun k a hk ha=>?_) h5;by_cases z:k=(lo+hi) / 2
    ·subst z;rw [e2]at ha
     cases ha
     rw [e1]at hc;exact hc
    ·have:=R k ((lo+hi) / 2) (by omega) a _ ha e2;rw [e1]at hc;omega
   ·simp only [if_neg hc];refine ih _ _ (by omega) (by omega) (by omega) h4 fun k a hk ha=>?_;rw [e1]at hc;by_cases z:(lo+hi) / 2=k
    ·subst z;rw [e2]at ha
     cases ha
     omega
    ·have:=R ((lo+hi) / 2) k (by omega) _ a e2 ha;omega
  ·rw [if_neg hl];have e:lo=hi:=by omega
   subst e;exact⟨h1,h4,h5⟩
theorem zZ{xs:Array Nat}(R:IY xs)(j:Nat):SetTable.below xs j<=xs.size/\(∀k a,k<SetTable.below xs j->xs[k]?=some a->a<j)/\(∀k a,SetTable.below xs j<=k->xs[k]?=some a->j<=a) :=
 GJ R j xs.size 0 xs.size (le_refl _) (zero_le _) (by omega) (fun k a h=>absurd h (not_lt_zero _)) (fun k a h e=>by
  have:=(Array.getElem?_eq_some_iff.mp e).1;omega)
def xp(t:SetTable)(j:Nat):Prop:=∀i:Nat,t.place[i]?≠some j
theorem GK{t:SetTable}(R:IY t.place){j:Nat}(h:t.place[SetTable.below t.place j]?≠some j):xp t j:=fun i e=>by
 obtain⟨h1,h2,h3⟩:=zZ R j;have hi:=(Array.getElem?_eq_some_iff.mp e).1;rcases Nat.lt_or_ge i (SetTable.below t.place j)with z|z
 ·exact absurd (h2 i j z e) (lt_irrefl _)
 ·rcases Nat.lt_or_ge (SetTable.below t.place j) i with y|y
  ·have hb:SetTable.below t.place j<t.place.size:=by omega
   have e':=(getD_some (d:=0) hb).2;have q1:=R _ i y _ _ e' e;have q2:=h3 _ _ (le_refl _) e';omega
  ·have:SetTable.below t.place j=i:=by omega
   rw [this]at h;exact h e
theorem xq{t:SetTable}(R:IY t.place){j:Nat}(h:∀i,t.slot j ≠ .live i):xp t j:=by
 refine GK R fun e=>?_;refine h (SetTable.below t.place j) ?_;unfold SetTable.slot;simp [e]
theorem GL{t:SetTable}(R:IY t.place){ha:Nat->Int}{h:Int}:∀(f:Nat)(p:SetTable.Probe),(∀d,p.dummy=some d->xp t d)->∀j dm,SetTable.probe.go t ha h f p=some (.empty j dm)->xp t (dm.getD j):=by
 intro f
 induction f with
 |zero =>
  intro p hp j dm e;unfold SetTable.probe.go at e
  cases e
 |succ f ih =>
  intro p hp j dm e;have YJ:∀q:SetTable.Probe,(t.advance q).dummy=q.dummy:=fun q=>by
   unfold SetTable.advance;split<;>rfl
  unfold SetTable.probe.go at e;split at e
  ·rename_i hs
   cases e
   cases hd:p.dummy with
   |none=>exact xq (j:=p.j) R fun i q=>by rw [hs]at q;cases q
   |some d=>exact hp d hd
  ·rename_i hs;refine ih _ (fun d hd=>?_) j dm e;rw [YJ]at hd
   cases hd
   exact xq R fun i q=>by rw [hs]at q;cases q
  ·split at e
   ·cases e
   ·refine ih _ (fun d hd=>?_) j dm e;rw [YJ]at hd;exact hp d hd
theorem Kf{t:SetTable}(R:IY t.place){h:Int}{sl:Nat}{b:Bool}(e:t.freeSlot h=some (sl,b)):xp t sl:=by
 unfold SetTable.freeSlot at e;split at e
 ·rename_i j dm hp
  cases e
  refine GL R _ _ (fun d hd=>?_) _ _ hp;unfold SetTable.probeStart at hd
  cases hd
 ·cases e
theorem u0{xs:Array Nat}:IY xs↔xs.toList.Pairwise (·<·):=by
 constructor
 ·intro R;rw [List.pairwise_iff_getElem];intro i j hi hj TU;exact R i j TU _ _ (by rw [<-getElem?_toList];exact getElem?_eq_getElem hi) (by rw [<-getElem?_toList];exact getElem?_eq_getElem hj)
 ·intro h i j TU a b ha hb;rw [<-getElem?_toList]at ha hb;obtain⟨h1,e1⟩:=List.getElem?_eq_some_iff.mp ha;obtain⟨h2,e2⟩:=List.getElem?_eq_some_iff.mp hb;have:=List.pairwise_iff_getElem.mp h i j h1 h2 TU;omega
theorem Kg{t:SetTable}(R:IY t.place){j:Nat}(n:xp t j):IY (t.put j).1.place:=by
 rw [u0];show(SetTable.insertAt t.place (SetTable.below t.place j) j).toList.Pairwise (·<·);rw [SetTable.toList_insertAt];obtain⟨h1,h2,h3⟩:=zZ R j;have hl:=u0.mp R;rw [List.pairwise_append,List.pairwise_cons];refine⟨hl.sublist (List.take_sublist ..),⟨fun a ha=>?_,hl.sublist (List.drop_sublist ..)⟩,fun a ha b hb=>?_⟩
 ·obtain⟨k,hk⟩:=List.mem_iff_getElem?.mp ha;rw [List.getElem?_drop,getElem?_toList]at hk;have q:=h3 _ a (Nat.le_add_right _ _) hk;have:a≠j:=fun e=>n _ (by rw [e]at hk;exact hk);omega
 ·obtain⟨k,hk⟩:=List.mem_iff_getElem?.mp ha;rw [List.getElem?_take]at hk;split at hk
  ·rename_i hk2;rw [getElem?_toList]at hk;have q:=h2 k a hk2 hk;rcases mem_cons.mp hb with e|hb
   ·omega
   ·obtain⟨m,hm⟩:=List.mem_iff_getElem?.mp hb;rw [List.getElem?_drop,getElem?_toList]at hm;have:=h3 _ b (Nat.le_add_right _ _) hm;omega
  ·cases hk
theorem BO{β:Type}(f:Nat->Option β):∀l:List Nat,((l.filterMap fun j=>(f j).map (j,·)).map (·.1)).Sublist l
 |[]=>.slnil
 |a::l=>by
  rw [filterMap_cons]
  cases e:f a with
  |none=>exact(BO f l).cons a
  |some b=>exact(BO f l).cons₂ a
structure Gd(b:Bool)(t:SetTable):Prop where
 led:t.led=b
 YK:t.plain=true->IY t.place
theorem qj{b:Bool}{t:SetTable}(g:Gd b t)(n:Nat):Gd b (t.standIn n):=⟨g.led,fun h=>by cases h⟩
theorem PK{b:Bool}{t:SetTable}(g:Gd b t)(n:Nat):Gd b (t.orStandIn n):=by
 unfold SetTable.orStandIn;split
 ·exact g
 ·exact qj g n
theorem Nn{b:Bool}{t:SetTable}{es:Array (Int×Value)}{h:Int}{x:Value}(g:Gd b t):Gd b (layNew t es h x).2.1:=by
 unfold layNew;split
 ·rename_i sl wd hf;refine PK (t:=(t.put sl).1) ⟨g.led,fun hp=>?_⟩ _;have YL:t.plain=true:=hp;exact Kg (g.YK YL) (Kf (g.YK YL) hf)
 ·exact qj g _
theorem GN{b:Bool}{t:SetTable}{es:Array (Int×Value)}{n:Nat}(g:Gd b t):Gd b (relayAll t es n).2.1:=by
 unfold relayAll;split
 ·rename_i t' order hr;dsimp only;split
  ·unfold SetTable.relaid SetTable.laid at hr
   cases ho:SetTable.layClean (SetTable.sizeAbove n-1) (es.map (·.1))with
   |none=>rw [ho]at hr;cases hr
   |some ow =>
    rw [ho]at hr
    cases hr
    refine⟨g.led,fun _=>u0.mpr ?_⟩;refine List.Pairwise.sublist ?_ (List.pairwise_lt_range (n:=SetTable.sizeAbove n-1+1));exact BO (fun j=>ow.getD j none) _
  ·exact qj g _
 ·exact qj g _
def iv:Value->Int
 |.int k _=>k
 |_=>0
def z0(prog:Program)(w:World)(h:Heap)(a:Addr)(ks:List Int):Prop:=∃o es ep t,h.get? a=some o/\o.ExactSet/\o.data=.set es ep t/\ElemsOf (intKind prog w) es.toList /\
 (es.toList.map fun e=>iv e.2).Perm ks/\es.size<scanBound/\t.fits es.size=true/\Gd (!w.params.followText "set-order") t
section
variable {prog:Program}{w:World}{A:Around}{E:Value->Shared->Prop}{s:Shared}{a:Addr}{ks:List Int}
theorem GO{e:Int×Value}(h:(∃k,(intKind prog w).is k e.2=true/\e.1=(intKind prog w).hash k)/\e.2.scannable=true):∃t,e.2=.int (iv e.2) t:=by
 obtain⟨⟨k,h1,_⟩,_⟩:=h;obtain⟨t,e1⟩:=Value.isInt_shape (show Value.isInt k e.2=true from h1);rw [e1];exact⟨t,rfl⟩
theorem Dj{e:Int×Value}(h:(∃k,(intKind prog w).is k e.2=true/\e.1=(intKind prog w).hash k)/\e.2.scannable=true)(k:Int):(intKind prog w).is k e.2=decide (iv e.2=k):=by
 obtain⟨t,e1⟩:=GO h;have q:∀n:Int,(intKind prog w).is k (.int n t)=decide (n=k):=fun n=>by
  show Value.isInt k (.int n t)=_;by_cases z:n=k
  ·subst z;simp [Value.isInt]
  ·simp [Value.isInt,z]
 have z:=q (iv e.2);rw [<-e1]at z;exact z
theorem has_int{es:Array (Int×Value)}(Dk:ElemsOf (intKind prog w) es.toList)(hp:(es.toList.map fun e=>iv e.2).Perm ks)(k:Int):(∃e∈es.toList,(intKind prog w).is k e.2=true)↔ks.any (·==k)=true:=by
 rw [any_eq_true];constructor
 ·rintro⟨e,he,hi⟩;rw [Dj (Dk e he)]at hi;refine⟨iv e.2,hp.mem_iff.mp (List.mem_map_of_mem he),?_⟩;simpa using hi
 ·rintro⟨n,hn,hi⟩;obtain⟨e,he,rfl⟩:=mem_map.mp (hp.mem_iff.mpr hn);refine⟨e,he,?_⟩;rw [Dj (Dk e he)];simpa using hi
theorem z5{o:Obj}{es Bk:Array (Int×Value)}{ep:Nat}{t t':SetTable}{h:Heap}(ho:h.get? a=some o)(hex:o.ExactSet)(hd:o.data=.set es ep t)(Dk:ElemsOf (intKind prog w) Bk.toList)(hp:(Bk.toList.map fun e=>iv e.2).Perm ks)(hb:Bk.size<scanBound)(hf:t'.fits Bk.size=true)
  (g:Gd (!w.params.followText "set-order") t'):(h.update a (Obj.putSet Bk t')).get? a=some {o with data:=.set Bk (ep+1) t'}/\z0 prog w (h.update a (Obj.putSet Bk t')) a ks:=by
 have q:=Heap.get?_update_self (Obj.putSet Bk t') ho (by rw [putSet_of Bk t' hd];rfl);rw [putSet_of Bk t' hd]at q;exact⟨q,_,Bk,ep+1,t',q,hex,rfl,Dk,hp,hb,hf,g⟩
theorem GP{gw:Bool->Sem Unit}(hgw:∀(b:Bool)(s1:Shared)(R:Unit->Shared->Prop),R () s1->wpAny (model prog w) A (gw b) R E s1){o:Obj}{es oj:Array (Int×Value)}{ep:Nat}{t t1:SetTable}(ho:s.heap.get? a=some o)(hex:o.ExactSet)(hd:o.data=.set es ep t)
  (Dk:ElemsOf (intKind prog w) oj.toList) (hp:(oj.toList.map fun e=>iv e.2).Perm ks) (hb:oj.size<scanBound) (hf:t1.fits oj.size=true) (g:Gd (!w.params.followText "set-order") t1) {wd:Bool} {R:Option Bool->Shared->Prop}
  (h:∀h',Heap.SameBut a s.heap h'->z0 prog w h' a ks->R (some true) {s with heap:=h'}) :
  wpAny (model prog w) A (storeSet a oj t1 >>= fun _=>if(!wd&&t1.tooFull)=true then(gw (relayAll t1 oj (SetTable.grown oj.size)).2.2 >>= fun _=>storeSet a (relayAll t1 oj (SetTable.grown oj.size)).1 (relayAll t1 oj (SetTable.grown oj.size)).2.1 >>= fun _=>pure (some true))else pure (some true)) R E s:=by
 refine wpAny_bind (wpAny_storeSet_of ho hd ?_ (fits_of_scanBound hb));obtain⟨q,G1⟩:=z5 (ks:=ks) ho hex hd Dk hp hb hf g;have sb:=Heap.SameBut.update s.heap a (Obj.putSet oj t1);by_cases z:(!wd&&t1.tooFull)=true
 ·rw [if_pos z];have rp:=relayAll_perm t1 oj (SetTable.grown oj.size);have rf:=relayAll_fits t1 oj (SetTable.grown oj.size);have rg:=GN (es:=oj) (n:=SetTable.grown oj.size) g;generalize relayAll t1 oj (SetTable.grown oj.size)=y at rp rf rg ⊢;obtain⟨es2,t2,b2⟩:=y;dsimp only at rp rf rg ⊢;have z2:es2.size=oj.size:=by
   have:=rp.length_eq;simpa using this
  refine wpAny_bind (hgw _ _ _ (wpAny_bind (wpAny_storeSet_of q rfl ?_ (fits_of_scanBound (by rw [z2];exact hb)))));obtain⟨_,G2⟩:=z5 (ks:=ks) q hex rfl (Dk.perm rp) ((rp.map _).trans hp) (by rw [z2];exact hb) rf rg;exact wpAny_pure (h _ (sb.trans (Heap.SameBut.update _ a _)) G2)
 ·rw [if_neg z];exact wpAny_pure (h _ sb G1)
theorem add_int{k:Int}{tk:Tok}{Q:Bool->Shared->Prop}(S:z0 prog w s.heap a ks)(room:ks.length+1<scanBound)(h:∀b h',Heap.SameBut a s.heap h'->z0 prog w h' a (step_dedup ks k)->Q b {s with heap:=h'}):
  wpAny (model prog w) A (setAddHashed a (.int k tk) (hashInt k)) Q E s:=by
 obtain⟨o,es,ep,t,ho,hex,hd,Dk,hp,hb,hf,g⟩:=S;have Ju:(intKind prog w).is k (.int k tk)=true:=intKind_is _ _ _ _;have zh:es.size=ks.length:=by
  have:=hp.length_eq;simpa using this
 unfold setAddHashed setAddHashedIn;refine wpAny_holding (wpAny_bind (wpAny_setState_of ho hd hf ?_));dsimp only;rw [byScan_of (x:=.int k tk) rfl hb Dk,if_pos rfl];unfold setAddByScan;refine wpAny_bind (wpAny_bind (wpAny_rule (wpAny_bind (wpAny_setScan_of Ju ho hd hf Dk ?_))))
 cases hr:List.findIdx? (fun e=>(intKind prog w).is k e.2) es.toList with
 |some j =>
  dsimp only;obtain⟨hj,hpj,_⟩:=List.findIdx?_eq_some_iff_getElem.mp hr;have hk:ks.any (·==k)=true:=(has_int Dk hp k).mp ⟨es.toList[j],getElem_mem hj,hpj⟩;have q:=h false s.heap (Heap.SameBut.refl a s.heap) (by
   unfold step_dedup;rw [if_pos hk];exact⟨o,es,ep,t,ho,hex,hd,Dk,hp,hb,hf,g⟩)
  exact wpAny_pure (wpAny_pure q)
 |none =>
  dsimp only;have hk:¬ks.any (·==k)=true:=fun z=>by
   obtain⟨e,he,hi⟩:=(has_int Dk hp k).mpr z;have:=List.findIdx?_eq_none_iff.mp hr e he;rw [hi]at this
   cases this
  have sd:step_dedup ks k=ks++[k]:=by
   unfold step_dedup;rw [if_neg hk]
  rw [sd]at h;have lp:=layNew_perm t es (hashInt k) (.int k tk);have lf:=layNew_fits t es (hashInt k) (.int k tk);have lg:=Nn (es:=es) (h:=hashInt k) (x:=.int k tk) g;show wpAny (model prog w) A _ _ E s;generalize hL:layNew t es (hashInt k) (.int k tk)=y at lp lf lg ⊢;obtain⟨oj,t1,wd,gv⟩:=y;dsimp only at lp lf lg ⊢;rw [Array.toList_push]at lp;have TV:ElemsOf (intKind prog w) oj.toList:=(Dk.push Ju rfl).perm lp;have z1:oj.size=ks.length+1:=by
   have:=lp.length_eq;rw [length_append,length_toList,length_toList]at this;rw [this,zh];rfl
  have Rr:(oj.toList.map fun e=>iv e.2).Perm (ks++[k]):=by
   refine(lp.map _).trans ?_;rw [map_append];exact hp.append (.refl _)
  have YM:∀(b:Bool){s1:Shared}{R:Unit->Shared->Prop},R () s1->wpAny (model prog w) A (match b with|true=>rule "set.scan.the-table-gave-way" | false=>pure ()) R E s1:=fun b s1 R hq=>by
   cases b<;>first|exact wpAny_pure hq|exact wpAny_rule hq
  have tl:∀t2:SetTable,t2.fits oj.size=true->Gd (!w.params.followText "set-order") t2->∀{R:Option Bool->Shared->Prop},(∀h',Heap.SameBut a s.heap h'->z0 prog w h' a (ks++[k])->R (some true) {s with heap:=h'}) ->
    wpAny (model prog w) A (storeSet a oj t2 >>= fun _=>if(!wd&&t2.tooFull)=true then((match (relayAll t2 oj (SetTable.grown oj.size)).2.2 with|true=>rule "set.scan.the-table-gave-way" | false=>pure ()) >>= fun _=>storeSet a (relayAll t2 oj (SetTable.grown oj.size)).1 (relayAll t2 oj (SetTable.grown oj.size)).2.1 >>= fun _=>pure (some true))else pure (some true)) R E s :=
   fun t2 f2 g2 R hR=>GP (gw:=fun b=>match b with|true=>rule "set.scan.the-table-gave-way" | false=>pure ()) (fun b s1 R' hq=>YM b hq) ho hex hd TV Rr (by omega) f2 g2 hR
  refine wpAny_bind (YM _ ?_);split
  ·refine wpAny_bind ?_;rw [hashByValue_scannable 8 (x:=.int k tk) rfl];refine wpAny_pure (tl _ lf lg fun h' sb G'=>?_);exact wpAny_pure (h true h' sb G')
  ·refine wpAny_bind (wpAny_pure ?_);rw [if_pos rfl];refine tl _ lf lg fun h' sb G'=>?_;exact wpAny_pure (h true h' sb G')
end
section
variable {prog:Program}{w:World}{A:Around}
theorem z0.at{h h':Heap}{a:Addr}{ks:List Int}(S:z0 prog w h a ks)(k:∀o,h.get? a=some o->h'.get? a=some o):z0 prog w h' a ks:=by
 obtain⟨o,es,ep,t,ho,r⟩:=S;exact⟨o,es,ep,t,k o ho,r⟩
variable {E:Value->Shared->Prop}{s:Shared}
end
section
variable {prog:Program}{w:World}{A:Around}{E:Value->Shared->Prop}{s:Shared}
end
section
variable {X:Cx}{P:Fx}{pins:List (Addr×Obj)}{σ:St}{H:Hp}{s:Shared}
theorem _root_.L2.Inv.drawn(I:Inv X pins σ H s)(d:Drawn):Inv X pins σ H {s with drawn:=d} :=
 I.step (h':=s.heap) (g':=s.gens) (t':=s.toks) (d':=d) (ch:=[]) (fun _ z=>nomatch z) (fun _ _ _ _ _ e _=>e) (fun _ o _ _ _ e _=>⟨o.slots,e⟩) (fun _ _ _ _ n=>n) (fun _ o _ e=>⟨o,e⟩) (fun _ _ e=>e) (fun _ _ _ e=>e) (fun b ps e=>⟨#[],by rw [e];simp⟩) (fun _ hm=>hm) I.cR I.bare
end
open PySem PySem.Spec PyProof.Rows L2 PySem.W
section
variable (n:Nat)(v:Nat->Int)
def kw{α:Type}:KasT α->(α->Prop)->Prop
 |.ret a,Q=>Q a
 |.ask i j f,Q=>i<n/\j<n/\kw (f (decide (v i<v j))) Q
def PP(p:Array Nat):Prop:=p.toList.Perm (List.range n)
variable {n v}
theorem PP.size{p:Array Nat}(h:PP n p):p.size=n:=by
 have:=List.Perm.length_eq h;simpa using this
theorem PP.lt{p:Array Nat}(h:PP n p){i:Nat}(hi:i<n):p.getD i 0<n:=by
 have hs:i<p.size:=by rw [h.size];exact hi
 have e:p.getD i 0=p[i]:=by simp [Array.getD,hs]
 rw [e];have m:p[i]∈p.toList:=by simp
 exact mem_range.mp (List.Perm.mem_iff h |>.mp m)
end
inductive jY(h:Heap):List Value->List (Int×Int)->Prop where
 |nil:jY h [] []
 |cons {a:Addr} {o:Obj} {n:Nat} {x y:Int} {t u:Tok} {vs:List Value} {ps:List (Int×Int)} (ho:h.get? a=some o) (hc:o.cls=.type "tuple") (hd:o.data=.seq #[.int x t,.int y u] n) (r:jY h vs ps):jY h (.ref a::vs) ((x,y)::ps)
theorem jY.length{h:Heap}{vs:List Value}{ps:List (Int×Int)}(r:jY h vs ps):vs.length=ps.length:=by
 induction r with
 |nil=>rfl
 |cons _ _ _ _ ih=>rw [length_cons,length_cons,ih]
theorem jY.at{h h':Heap}{vs:List Value}{ps:List (Int×Int)}(r:jY h vs ps)(k:∀b o,h.get? b=some o->o.cls=.type "tuple" -> h'.get? b=some o):jY h' vs ps:=by
 induction r with
 |nil=>exact .nil
 |cons ho hc hd _ ih=>exact .cons (k _ _ ho hc) hc hd ih
theorem jY.get{h:Heap}{vs:List Value}{ps:List (Int×Int)}(r:jY h vs ps):∀{i:Nat},i<ps.length->∃a o n t u,vs.getD i Value.none=.ref a/\h.get? a=some o/\o.cls=.type "tuple" /\ o.data=.seq #[.int (ps.getD i (0,0)).1 t,.int (ps.getD i (0,0)).2 u] n:=by
 induction r with
 |nil=>intro i hi;exact absurd hi (not_lt_zero _)
 |@cons a o n x y t u vs ps ho hc hd _ ih =>
  intro i hi
  cases i with
  |zero=>exact⟨a,o,n,t,u,rfl,ho,hc,hd⟩
  |succ i =>
   obtain⟨a',o',n',t',u',e1,e2⟩:=ih (i:=i) (by simpa using hi);exact⟨a',o',n',t',u',by simpa using e1,by simpa using e2⟩
section
variable {prog:Program}{w:World}{A:Around}{E:Value->Shared->Prop}{s:Shared}
end
section
variable {X:Cx}{pins:List (Addr×Obj)}{σ:St}{H H':Hp}{s:Shared}{h':Heap}
end
section
variable {prog:Program}{w:World}{A:Around}{E:Value->Shared->Prop}{s:Shared}
end
section
variable {X:Cx}{P:Fx}{o:Expr}{p pos pos' apos:Pos}
end
mutual
def qk:T->Option PyData
 |.cQ=>some .none
 |.bl b=>some (.bool b)
 |.int i=>some (.int i)
 |.str x=>some (.str x)
 |.lst ts=>(fw ts).map .list
 |.tup ts=>(fw ts).map .tuple
 |.ua _ _=>none
 |.obj _=>none
def fw:List T->Option (List PyData)
 |[]=>some []
 |t::ts=>(qk t).bind fun d=>(fw ts).map fun ds=>d::ds
end
mutual
theorem yu:∀(t:T)(d:PyData),qk t=some d->d.hasDict=false
 |.cQ,d,h=>by cases h;rfl
 |.bl b,d,h=>by cases h;rfl
 |.int i,d,h=>by cases h;rfl
 |.str x,d,h=>by cases h;rfl
 |.lst ts,d,h=>by
  unfold qk at h
  cases e:fw ts with
  |none=>rw [e]at h;cases h
  |some ds =>
   rw [e]at h
   cases h
   exact jZ ts ds e
 |.tup ts,d,h=>by
  unfold qk at h
  cases e:fw ts with
  |none=>rw [e]at h;cases h
  |some ds =>
   rw [e]at h
   cases h
   exact jZ ts ds e
 |.ua ks ts,d,h=>by cases h
 |.obj n,d,h=>by cases h
theorem jZ:∀(ts:List T)(ds:List PyData),fw ts=some ds->PyData.hasDictAll ds=false
 |[],ds,h=>by cases h;rfl
 |t::ts,ds,h=>by
  unfold fw at h
  cases e:qk t with
  |none=>rw [e]at h;cases h
  |some d =>
   rw [e]at h
   cases e2:fw ts with
   |none =>
    have h:(fw ts).map (fun ds=>d::ds)=some ds:=h;rw [e2]at h;cases h
   |some es =>
    have h:(fw ts).map (fun ds=>d::ds)=some ds:=h;rw [e2]at h
    cases h
    show(d.hasDict||PyData.hasDictAll es)=false;rw [yu t d e,jZ ts es e2];rfl
end
section
variable {X:Cx}{cl:Nat->Addr}{pins:List (Addr×Obj)}{s:Shared}{σ:St}{H:Hp}
mutual
theorem GQ(I:Inv X pins σ H s):∀(t:T)(v:V)(u:Value)(d:PyData),qk t=some d->Tr ⟨X.K,cl⟩ H v t->RelV v u->∃as,Reads s.heap u d as
 |.cQ,v,u,d,h,q,r=>by
  cases h
  cases(show v=.cQ from q)
  cases(show u=Value.none from r)
  exact⟨_,.none⟩
 |.bl b,v,u,d,h,q,r=>by
  cases h
  cases(show v=.bl b from q)
  cases(show u=Value.bool b from r)
  exact⟨_,.bool b⟩
 |.int i,v,u,d,h,q,r=>by
  cases h
  cases(show v=.int i from q)
  obtain⟨t,rfl⟩:=(show ∃t,u=Value.int i t from r);exact⟨_,.int i t⟩
 |.str x,v,u,d,h,q,r=>by
  cases h
  cases(show v=.str x from q)
  obtain⟨t,rfl⟩:=(show ∃t,u=Value.str x t from r);exact⟨_,.str x t⟩
 |.lst ts,v,u,d,h,q,r=>by
  unfold qk at h
  cases e:fw ts with
  |none=>rw [e]at h;cases h
  |some ds =>
   rw [e]at h
   cases h
   obtain⟨a,xs,rfl,sq,rs⟩:=q
   cases(show u=Value.ref a from r)
   obtain⟨bh,vv,⟨o,n,e1,e2,e3,e4⟩,_⟩:=I.list sq;obtain⟨as,ra⟩:=rF I ts xs bh ds e rs vv;exact⟨_,.list e1 e2 e4 ra⟩
 |.tup ts,v,u,d,h,q,r=>by
  unfold qk at h
  cases e:fw ts with
  |none=>rw [e]at h;cases h
  |some ds =>
   rw [e]at h
   cases h
   obtain⟨a,xs,rfl,sq,rs⟩:=q
   cases(show u=Value.ref a from r)
   obtain⟨bh,vv,⟨o,e1,e2,n,e4⟩,_⟩:=I.tuple sq;obtain⟨as,ra⟩:=rF I ts xs bh ds e rs vv;exact⟨_,.tuple e1 e2 e4 ra⟩
 |.ua ks ts,v,u,d,h,q,r=>by cases h
 |.obj n,v,u,d,h,q,r=>by cases h
theorem rF(I:Inv X pins σ H s):∀(ts:List T)(vs:List V)(us:List Value)(ds:List PyData),fw ts=some ds->iu ⟨X.K,cl⟩ H vs ts->Vals vs us->∃as,ReadsAll s.heap us ds as
 |[],vs,us,ds,h,q,r=>by
  cases h
  cases(show vs=[] from q)
  cases r
  exact⟨_,.nil⟩
 |t::ts,vs,us,ds,h,q,r=>by
  unfold fw at h
  cases e:qk t with
  |none=>rw [e]at h;cases h
  |some d =>
   rw [e]at h;have h:(fw ts).map (fun ds=>d::ds)=some ds:=h
   cases e2:fw ts with
   |none=>rw [e2]at h;cases h
   |some es =>
    rw [e2]at h
    cases h
    obtain⟨v,vr,rfl,q1,q2⟩:=q
    cases r with
    |cons r1 r2 =>
    obtain⟨as,h1⟩:=GQ I t v _ d e q1 r1;obtain⟨bs,h2⟩:=rF I ts vr _ es e2 q2 r2;exact⟨_,.cons h1 h2⟩
end
end
section
variable {prog:Program}{w:World}{A:Around}{E:Value->Shared->Prop}{s:Shared}
end
section
variable {X:Cx}{P:Fx}{cl:Nat->Addr}
theorem GR:bootBuiltins "reversed" = some (.type "reversed"):=by decide +kernel
def yv:List T->Option R
 |[.lst ts]=>some (.sh (.tup ts))
 |_=>none
theorem BP{us:List T}{r:R}(h:yv us=some r):∃ts,us=[.lst ts]/\r=.sh (.tup ts):=by
 unfold yv at h;split at h
 ·cases h
  exact⟨_,rfl,rfl⟩
 ·cases h
theorem z6:ki X cl (.type "tuple") yv:=fF.imp wA fun vs H Q ⟨Hs,ts,r,sm,h1,hg,k⟩=>by
 obtain⟨ts,rfl,rfl⟩:=BP hg;obtain⟨v,rfl,a,xs,rfl,sq,rs⟩:=lQ h1;exact⟨a,xs,rfl,.inl ⟨sq,fun l hl=>k _ _ (.Ed hl rs)⟩⟩
end
def Kh(s:Stmt):List Stmt:=match s with
 |.ClassDef _ _ _ b _ _ _ _ _ _ _=>b
 |_=>[]
def Dl(s:Stmt)(i:Nat):Stmt:=(Kh s).getD i (.Pass ⟨0,0,0,0⟩)
theorem PL{α:Type}{P:List α->Prop}(h:P []):∀us:List α,us.length=0->P us
 |[],_=>h
theorem Np{α:Type}{P:List α->Prop}{n:Nat}(h:∀a us,us.length=n->P (a::us)):∀us:List α,us.length=n+1->P us
 |a::us,e=>h a us (Nat.succ.inj e)
theorem all1{α:Type}{P:List α->Prop}(h:∀a,P [a]):∀us:List α,us.length=1->P us:=Np fun a=>PL (h a)
theorem all2{α:Type}{P:List α->Prop}(h:∀a b,P [a,b]):∀us:List α,us.length=2->P us:=Np fun a=>all1 (h a)
theorem Nq{α:Type}{P:List α->Prop}(h:∀a b c,P [a,b,c]):∀us:List α,us.length=3->P us:=Np fun a=>all2 (h a)
def PM(K:PySem.W.Frag)(cf:CF):Sp:=fun vs H Q E=>∀cl,oq ⟨K,cl⟩ 1 cf vs H Q E
theorem Nr{P:Program}{w:World}{K:PySem.W.Frag}{mg:Str->Option Value}{base:Heap}{CX:wq}{k:Nat}{f:Addr}{fd:FuncData}{ps:List Str}{cf:CF}{cl:Nat->Addr}(F:bc P w K mg base CX k f fd ps (oq ⟨K,cl⟩ 1 cf)):bc P w K mg base CX k f fd ps (PM K cf):=F.imp fun vs H Q E q=>q cl
theorem PN{l:PySem.W.OpenLaw}{q:Program}{loose:List Str}{XP:(Str->Option Value)->Heap->Prop}{YP:World->Heap->Prop}{d:DefRec}{K:Params->PySem.W.Frag}{k:Nat}{x:Str}{cf:CF}(hn:l.most=some 63)(M1:d.params.defaults=[])(hr:dP k callerA)
  (hY:∀(w:World)(h:Heap),YP w h->(K w.params).In h)
  (F:∀(w:World)(mg:Str->Option Value)(fa:Addr)(h:Heap),(K w.params).In h->h.Ns mainGlobals mg->mg d.name=some (.ref fa) ->
   ∃fd:FuncData,(∀(s:Shared)(u:Value),BindsTo s fd ⟨[u],[]⟩ [(x,u)])/\∀base:Heap,(K w.params).In base->base.Ns mainGlobals mg->bc l.prog w (K w.params) mg base gU k fa fd [x] (PM (K w.params) cf))
  (TX:∀ns:List Int,ns.length<=63->∃Γ,cf [.sh (.lst (ns.map T.int))]=some (.sh (.bl true),Γ)) :
  PySem.W.WalkO q loose XP YP l.row.toRowW d [] (fun f vs=>PySem.call f vs) :=
 L2.CY (n:=63) (k:=k) (x:=x) (CX:=fun _=>gU) (sp:=fun w=>PM (K w.params) cf) hn (by decide) M1 hr hY F
  (fun w H a ns hl _ sq cl=>by
   obtain⟨Γ,h⟩:=TX ns hl;exact⟨rfl,[.sh (.lst (ns.map T.int))],.sh (.bl true),Γ,H,H,h,nR (K:=⟨K w.params,cl⟩) (ax.refl _) (dh (v:=.ref a) (t:=.lst (ns.map T.int)) (show Tr _ H (.ref a) (.lst (ns.map T.int)) from⟨a,_,rfl,sq,zG ns⟩) cu),fun v H' aM _ _ f=>f⟩) fun _ _ _ _ _ z=>z
theorem walkZ{l:PySem.W.OpenLaw}{q:Program}{loose:List Str}{XP:(Str->Option Value)->Heap->Prop}{d:DefRec}{K:Params->PySem.W.Frag}{as:List Addr}{n t k:Nat}{x:Str}{cf:CF}(e:∀P,as=(K P).map (·.1))(hn:l.most=some 63)(M1:d.params.defaults=[])(hr:dP k callerA)
  (F:∀(w:World)(mg:Str->Option Value)(fa:Addr)(h:Heap),(K w.params).In h->h.Ns mainGlobals mg->mg d.name=some (.ref fa) ->
   ∃fd:FuncData,(∀(s:Shared)(u:Value),BindsTo s fd ⟨[u],[]⟩ [(x,u)])/\∀base:Heap,(K w.params).In base->base.Ns mainGlobals mg->bc l.prog w (K w.params) mg base gU k fa fd [x] (PM (K w.params) cf))
  (TX:∀ns:List Int,ns.length<=63->∃Γ,cf [.sh (.lst (ns.map T.int))]=some (.sh (.bl true),Γ)) :
  WalkX q loose XP (PySem.W.X.obsZ as) (PySem.W.X.valZ K n t) l.row.toRowW d [] (fun f vs=>PySem.call f vs) :=
 fun w s₀ s₁ mg mb G y a o pm cd doc dV kV h1 h2 h3 h4 h5 h6 args vals aa L D8 Ph Yt D9 Yu =>
  PN (YP:=fun w h=>(K w.params).In h) hn M1 hr (fun _ _ h=>h) F TX w s₀ s₁ mg mb G (InK.keeps w _ _ (PySem.W.X.z_facts e y).2.1 L.keeps) a o pm cd doc dV kV h1 h2 h3 h4 h5 h6 args vals aa D8 Ph Yt D9 Yu
section
variable {X:Cx}{P:Fx}{cl:Nat->Addr}{a b e:Expr}{pos:Pos}{ma mb:MX}
def A7(x y:Str):Bool:=!(Builtin.Str.occurrences y x 0 y.length 1).isEmpty
def Nt:T->T->Option R:=fun t u=>match t,u with
 |.str x,.str y=>some (.sh (.bl (A7 x y)))
 |_,_=>none
def GS:T->T->Option R:=fun t u=>match t,u with
 |.str x,.str y=>some (.sh (.bl (!A7 x y)))
 |_,_=>none
theorem Ki:kd X cl (compareOp .In) Nt:=iU.imp DZ fun x y H Q ⟨Hs,t,u,r,sm,h1,h2,hg,k⟩=>by
 unfold Nt at hg;split at hg
 ·cases hg
  exact⟨_,_,h1,h2,k _ H (.val rfl)⟩
 ·cases hg
theorem GU:kd X cl (compareOp .NotIn) GS:=iU.imp xZ fun x y H Q ⟨Hs,t,u,r,sm,h1,h2,hg,k⟩=>by
 unfold GS at hg;split at hg
 ·cases hg
  exact⟨_,_,h1,h2,k _ H (.val rfl)⟩
 ·cases hg
def yw:T->T->Option R:=fun t u=>match t,u with
 |.str z,.int i=>if z.length<=sizeLine then(lN z.cps.toList i).map fun c=>.sh (.str ⟨#[c]⟩)else none
 |_,_=>none
theorem TY:A4 X (rS ⟨X.K,cl⟩ yw):=A4.imp MQ fun x y H Q ⟨Hs,t,u,r,sm,h1,h2,hg,k⟩=>by
 unfold yw at hg;split at hg
 ·rename_i z i;split at hg
  ·rename_i hz;obtain⟨c,hc,rfl⟩:=iE hg;exact⟨z,i,c,h1,h2,hz,hc,k _ H (.val rfl)⟩
  ·cases hg
 ·cases hg
def bC:=IQ wt yw
theorem TZ:A4 X (rS ⟨X.K,cl⟩ bC):=fun value slice pins s σ H x y v u Q I rx ry ⟨Hs,t,w,r,sm,h1,h2,hg,k⟩ hs=>by
 unfold bC IQ at hg
 cases h:wt t w with
 |some z =>
  rw [h]at hg
  cases hg
  exact TM value slice pins s σ H x y v u Q I rx ry ⟨Hs,t,w,_,sm,h1,h2,h,k⟩ hs
 |none =>
  rw [h]at hg;exact TY value slice pins s σ H x y v u Q I rx ry ⟨Hs,t,w,r,sm,h1,h2,hg,k⟩ hs
theorem bu(ha:aW X P a ma)(hb:aW X P b mb)(hs:tZ b:=by intro _ _;rfl):aW X P (.Subscript a b pos) (ag bC ma mb):=fun Γ r Γ' h=>by
 obtain⟨r1,Γ1,r2,h1,h2,hg⟩:=p5 h;exact(FT (TZ (cl:=P.cl)) (ha _ _ _ h1) (hb _ _ _ h2) hs).imp fun σ H Q q=>yj hg q
theorem part_of{v:Value}{o:Option Int}(h:IsPart v o):∃l:Option (Int×Tok),v=partValue l/\l.map (·.1)=o:=by
 cases h with
 |none=>exact⟨none,rfl,rfl⟩
 |int i t=>exact⟨some (i,t),rfl,rfl⟩
theorem Nu:Lx X (fun x lo hi H Q=>∃z,x=.str z/\z.length<=sizeLine/\Q (.str (Txt.slice z lo hi)) H):=by
 intro pins s σ H x v vl vu lo hi sl Q I rx hs pl pu h;obtain⟨z,rfl,hz,q⟩:=h;obtain⟨t,rfl⟩:=rx;obtain⟨l,rfl,rfl⟩:=part_of pl;obtain⟨u,rfl,rfl⟩:=part_of pu;refine⟨"str", _,PySem.F.slot_str_getitem.lookup,typeIs_str _ _ _,wpAny_getItem_str_slice (l:=l) (u:=u) (st:=none) hs rfl ?_⟩;refine post_val_or_str ⟨le_trans (Txt.slice_le z _ _) hz,fun t' k=>⟨.str _,H,I.tok _,⟨t',rfl⟩,q⟩⟩
def iF(m:MX)(lo hi:MO):MX:=fun Γ=>(m Γ).bind fun p=>(lo p.2).bind fun q=>(hi q.2).bind fun z=>match p.1.tree with
 |.lst ts=>some (.own (.lst (cut ts q.1 z.1)),z.2)
 |.str x=>if x.length<=sizeLine then some (.sh (.str (Txt.slice x q.1 z.1)),z.2)else none
 |_=>none
theorem cz{lo hi:Option Expr}{p2:Pos}{m:MX}{ml mh:MO}(he:aW X P e m)(hl:Ek X P lo ml)(hh:Ek X P hi mh):aW X P (.Subscript e (.Slice lo hi none p2) pos) (iF m ml mh):=fun Γ r Γ' h=>by
 obtain⟨r1,Γ1,h1,h⟩:=cE h;obtain⟨o1,Γ2,h2,h⟩:=cE h;obtain⟨o2,Γ3,h3,h⟩:=cE h;dsimp only at h;refine(zB (JI.or Nu) (he _ _ _ h1) (hl _ _ _ h2) (hh _ _ _ h3)).imp fun σ H Q ⟨Hs,S,k⟩=>⟨Hs,S,fun v H1 bJ e1 dr S1 f1=>⟨bJ,S1,fun H2 bX e2 fb S2=>⟨bX,S2,fun H3 jI e3 tK S3=>?_⟩⟩⟩;have tb:=((S1.uM f1).mono (e2.trans e3) (fb.trans tK));split at h
 ·rename_i ts ht
  cases h
  rw [ht]at tb;obtain⟨a,xs,rfl,sq,rs⟩:=tb;refine .inl ⟨a,xs,rfl,sq,fun p n=>?_⟩;obtain⟨GD,e4,Fm,S4,f4⟩:=Out.fin (.zH n (De rs o1 o2)) S3;exact k _ _ GD (e1.trans (e2.trans (e3.trans e4))) (dr.trans (fb.trans (tK.trans Fm))) S4 f4
 ·rename_i x ht;split at h
  ·rename_i hz
   cases h
   rw [ht]at tb;refine .inr ⟨x,tb,hz,?_⟩;obtain⟨GD,e4,Fm,S4,f4⟩:=Out.fin (.val (t:=.str (Txt.slice x o1 o2)) rfl) S3;exact k _ _ GD (e1.trans (e2.trans (e3.trans e4))) (dr.trans (fb.trans (tK.trans Fm))) S4 f4
  ·cases h
 ·cases h
def gD(c:Nat):Str:=⟨#[c]⟩
def YN(x:Str):It:=⟨fun i _=>i<x.cps.size,fun i H v H'=>H'=H/\∃c,x.cps[i]?=some c/\v=.str (gD c),fun i _=>x.cps.size<=i⟩
theorem GV{Pr:Program}{w:World}{K:PySem.W.Frag}{tg:Expr}{x:Str}{t:Tok}{it:Addr}{ty:String}(CV:ty = "str_ascii_iterator" \/ ty = "str_iterator"):Turn Pr w K tg (YN x) [it] it (fun i h=>i<=x.cps.size/\h.IsStrIter it ty x t i)where
 mem:=by simp
 obj:=fun i h st b hb=>by
  have e:b=it:=by simpa using hb
  subst e;obtain⟨_,o,e,c,d⟩:=st;exact⟨o,e,fun v z=>by rw [d]at z;cases z⟩
 keep:=fun i h h' st k=>⟨st.1,let⟨o,ho,r⟩:=st.2;⟨o,k it (by simp) o ho,r⟩⟩
 item:=by
  intro X hP hw hK hc i pins s σ H E I hf st hg;subst hP hw hK;have W:Walks X.prog X.w X.A it [it] [it] x.cps.size (SignAt x) (fun i h=>h.IsStrIter it ty x t i):=by
   rcases CV with rfl|rfl
   ·exact Walks.strAscii (I.ok.hd hc) it x t
   ·exact Walks.strWide (I.ok.hd hc) it x t
  obtain⟨f0,f1,f2,f3,f4,f5⟩:=hf it (by simp);refine W.item i s _ E hg st.2 fun v h' tk hv wy hk=>?_;obtain⟨c,u,Jf,rfl⟩:=hv;have I1:Inv X pins σ H {s with heap:=h',toks:=tk}:=I.turned (t':=tk) (fun b o hb e=>hk b o (by simpa using hb) e) f0 f1 f3 f4 f5;obtain⟨o,e,cc,d⟩:=id wy;refine⟨_,rfl,zt (s:={s with heap:=h',toks:=tk}) e cc d ?_ ⟨.str (gD c),H,I1,⟨u,rfl⟩,⟨rfl,c,Jf,rfl⟩,⟨hg,wy⟩,fun b hb=>(hf b hb).1⟩⟩;rcases CV with rfl|rfl<;>decide
 done:=by
  intro X hP hw hK hc i pins s σ H E I hf st hg;subst hP hw hK;have W:Walks X.prog X.w X.A it [it] [it] x.cps.size (SignAt x) (fun i h=>h.IsStrIter it ty x t i):=by
   rcases CV with rfl|rfl
   ·exact Walks.strAscii (I.ok.hd hc) it x t
   ·exact Walks.strWide (I.ok.hd hc) it x t
  obtain⟨f0,f1,f2,f3,f4,f5⟩:=hf it (by simp);have ei:i=x.cps.size:=Nat.le_antisymm st.1 hg;subst ei;exact W.done s _ E st.2 fun h' tk hk=>⟨rfl,I.turned (t':=tk) (fun b o hb e=>hk b o (by simpa using hb) e) f0 f1 f3 f4 f5⟩
 self:=fun A i s Q E st h=>by
  rcases CV with rfl|rfl
  ·exact wpAny_pyIter_striter_ascii st.2 h
  ·exact wpAny_pyIter_striter_wide st.2 h
def T1(tl:TE):TI:=fun σ H R=>tl σ H fun v H'=>∃x,v=.str x/\R (YN x) H'
theorem Nv{tg l:Expr}{tl:TE}(hl:PE X l tl):PI X tg l (T1 tl):=by
 intro pins s σ H R I h;refine da (hl pins s σ H _ I h) fun v s1 ⟨x,H1,I1,r1,q1⟩=>?_;obtain⟨z,rfl,q⟩:=q1;obtain⟨t,rfl⟩:=r1;refine wpAny_pyIter_strU ?_;have CV:strIterType z = "str_ascii_iterator" \/ strIterType z = "str_iterator" := by
  unfold strIterType;split
  ·exact .inl rfl
  ·exact .inr rfl
 refine⟨s1.heap.objs.size,[s1.heap.objs.size],_,_,H1,rfl,I1.kept (t':=s1.toks) fun b o e=>Heap.get?_push_of_some _ e,GV (t:=t) CV,⟨zero_le _,_,Heap.get?_push_size _ rfl,rfl,rfl⟩,fun b hb=>?_,q⟩;have e:b=s1.heap.objs.size:=by simpa using hb
 subst e;exact I1.zq (le_refl _) (I1.cR.fresh (le_refl _))
def signs(x:Str):List T:=x.cps.toList.map fun c=>T.str (gD c)
def LI(m:MX):MI:=fun Γ=>(m Γ).bind fun p=>match p.1.tree with
 |.str x=>some (signs x,(eM p.1 p.2).2)
 |_=>none
theorem Kj{m:MX}{Γ Γ':G}{ts:List T}(h:LI m Γ=some (ts,Γ')):∃r Γ1 x,m Γ=some (r,Γ1)/\r.tree=.str x/\ts=signs x/\Γ'=(eM r Γ1).2:=by
 obtain⟨r,Γ1,h1,h⟩:=cE h;dsimp only at h;split at h
 ·rename_i x hx
  cases h
  exact⟨r,Γ1,x,h1,hx,rfl,rfl⟩
 ·cases h
theorem GW(r:R)(Γ:G):(eM r Γ).1=r.tree:=by cases r<;>rfl
theorem yx{tg l:Expr}{m:MX}(hl:aW X P l m):tO X P tg l (LI m):=fun Γ ts Γ' h=>by
 obtain⟨r,Γ1,x,h1,hx,rfl,rfl⟩:=Kj h;refine PI.imp (Nv (hl _ _ _ h1)) fun σ H R ⟨Hs,S,k⟩=>⟨Hs,S,fun v H1 bJ e1 dr S1 f1=>?_⟩;obtain⟨bX,g,S2,tr⟩:=S1.eM f1;rw [GW,hx]at tr;refine⟨x,tr,k _ H1 bX e1 (dr.trans g) S2 fun i H jI e3 e4=>⟨fun t ht=>?_,fun hl=>?_⟩⟩
 ·unfold signs at ht;rw [getElem?_map]at ht
  cases hc:x.cps.toList[i]? with
  |none=>rw [hc]at ht;cases ht
  |some c =>
   rw [hc]at ht
   cases ht
   rw [getElem?_toList]at hc;refine⟨(Array.getElem?_eq_some_iff.mp hc).1,fun v H' hy=>?_⟩;obtain⟨rfl,c',Jf,rfl⟩:=hy;rw [hc]at Jf
   cases Jf
   exact .val rfl
 ·unfold signs at hl;rw [length_map]at hl;exact hl
def strsOf:List T->Option (List Str)
 |[]=>some []
 |.str x::ts=>(strsOf ts).map (x::·)
 |_::_=>none
theorem nV:∀{ts:List T}{ys:List Str},strsOf ts=some ys->ts=ys.map T.str
 |[],_,h=>by cases h;rfl
 |t::ts,ys,h=>by
  cases t with
  |str x =>
   obtain⟨zs,hz,rfl⟩:=iE (show(strsOf ts).map (x::·)=some ys from h);rw [nV hz];rfl
  |_=>cases h
theorem fX{K:KC}{H:Hp}:∀{ys:List Str}{xs:List V},iu K H xs (ys.map T.str)->xs=ys.map V.str
 |[],xs,h=>h
 |y::ys,xs,h=>by
  obtain⟨v,vs,rfl,hv,hr⟩:=h;rw [show v=V.str y from hv,fX hr];rfl
theorem xr(ys:List Str):(ys.map V.str).all pY=true:=by
 rw [all_map,all_eq_true];intro n _;rfl
theorem z7(x:Str)(ys:List Str):Rm (.str x) (ys.map V.str)=ys.any fun y=>y==x:=by
 unfold Rm;rw [List.any_map];rfl
def PQ:T->Option (List Str)
 |.lst ts=>strsOf ts
 |.tup ts=>strsOf ts
 |_=>none
def GX(neg:Bool):T->T->Option R:=fun t u=>match t with
 |.str x=>(PQ u).map fun ys=>.sh (.bl (if neg then !(ys.any fun y=>y==x)else ys.any fun y=>y==x))
 |_=>none
theorem GY{neg:Bool}{x y:V}{H:Hp}{Q:VK}(h:rS ⟨X.K,cl⟩ (GX neg) x y H Q):SY X.K neg x y H Q:=by
 obtain⟨Hs,t,u,r,sm,h1,h2,hg,k⟩:=h
 cases t with
 |str z =>
  obtain⟨ys,hy,rfl⟩:=iE (show(PQ u).map _=some r from hg)
  cases(show x=V.str z from h1)
  cases u with
  |lst ts =>
   obtain⟨a,xs,rfl,sq,rs⟩:=h2;rw [nV hy]at rs;have ex:=fX rs;subst ex;refine⟨a,_,rfl,.inl sq,rfl,xr ys,?_⟩;rw [z7];exact k _ H (.val rfl)
  |tup ts =>
   obtain⟨a,xs,rfl,sq,rs⟩:=h2;rw [nV hy]at rs;have ex:=fX rs;subst ex;refine⟨a,_,rfl,.inr (my sm sq),rfl,xr ys,?_⟩;rw [z7];exact k _ H (.val rfl)
  |_=>cases hy
 |_=>cases hg
theorem Kk:kd X cl (compareOp .In) (GX false):=iU.imp D4 fun x y H Q h=>GY h
theorem GZ:kd X cl (compareOp .NotIn) (GX true):=iU.imp yb fun x y H Q h=>GY h
def kQ:=IQ Nt (GX false)
def xt:=IQ GS (GX true)
theorem kR:kd X cl (compareOp .In) kQ:=Ki.or Kk
theorem z8:kd X cl (compareOp .NotIn) xt:=GU.or GZ
def oW(x y:Str):Option T:=match Builtin.Str.occurrences x y 0 x.length 1 with
 |i::_=>some (.int (i:Nat))
 |[]=>none
def YO(g:Str->Str->Option T):V->List V->Hp->VK->Prop:=fun x xs H Q=>∃a b t,x=.str a/\xs=[.str b]/\g a b=some t/\∀v,(∀K Hs,Tr K Hs v t)->Q v H
theorem G0:Fh X "str.index" (YO oW):=by
 intro pins s σ H x xs v us Q I rx rs h;obtain⟨a,b,t,rfl,rfl,hg,q⟩:=h;obtain⟨ta,rfl⟩:=rx;obtain⟨u,rfl,ru⟩:=Vals.one rs;obtain⟨tb,rfl⟩:=ru;unfold oW at hg;split at hg
 ·rename_i i rest ho
  cases hg
  exact SC.index ho ⟨.int i,H,I.tok _,⟨_,rfl⟩,q _ fun _ _=>rfl⟩
 ·cases hg
def T2(g:Str->Str->Option T)(mo:MX)(ma:MA):MX:=fun Γ=>(mo Γ).bind fun p=>(ma p.2).bind fun q=>match p.1.tree,q.1 with
 |.str x,[.str y]=>(g x y).map fun t=>(.sh t,q.2)
 |_,_=>none
theorem Nw{o:Expr}{es:List Expr}{name:Str}{id:String}{apos bQ:Pos}{g:Str->Str->Option T}{mo:MX}{n:MA}(slot:PySem.Slot "str" name id)(CV:typeOf (.builtin id)=pure (.type "method_descriptor"))(hm:Fh X id (YO g))(ho:aW X P o mo)(ha:wD X P (e::es) n)
  (gu:attributeBase o name X.env (eval o X.env)=eval o X.env:=by rfl)
  (rq:((backTo bQ (starEach (e::es) X.env)).all (fun x=>!x.1)&&(backToKw bQ (keywordEach [] X.env)).all (fun x=>x.1.isSome)
   && decide ((e::es).length+([]:List Keyword).length+(if([]:List Keyword).isEmpty then 0 else 1)<30))=true:=by rfl)
  (ir:(apos.endLine==bQ.line)=true:=by rfl) (hs:starEach (e::es) X.env=(false,eval e X.env)::starEach es X.env:=by rfl) (gX:(backTo bQ (starEach es X.env)).any (·.1)=false:=by rfl) :
  aW X P (.Call (.Attribute o name apos) (e::es) [] bQ) (T2 g mo n):=fun Γ r Γ' h=>by
 obtain⟨r1,Γ1,h1,h⟩:=cE h;obtain⟨ts,Γ2,h2,h⟩:=cE h;have h:∃x y t,r1.tree=.str x/\ts=[.str y]/\g x y=some t/\r=.sh t/\Γ'=Γ2:=by
  dsimp only at h;split at h
  ·obtain⟨t,ht,h⟩:=iE h
   cases h
   exact⟨_,_,t,by assumption,rfl,ht,rfl,rfl⟩
  ·cases h
 obtain⟨x,y,t,hx,rfl,ht,rfl,rfl⟩:=h;refine(w6 PySem.F.plainAttrs_str slot CV hm (ho _ _ _ h1) (ha _ _ _ h2) gu rq ir hs gX).imp fun σ H Q ⟨Hs,S,k⟩=>⟨Hs,S,fun v H1 bJ e1 dr S1 f1=>?_⟩;have tb:=S1.uM f1;rw [hx]at tb
 cases(show v=V.str x from tb)
 refine⟨rfl,bJ,S1,fun vs H2 bX e2 fb S2 PR=>?_⟩
 cases PR with
 |cons q1 q2 =>
 cases q2
 rename_i v2
 cases(show v2=V.str y from q1)
 refine⟨x,y,t,rfl,rfl,ht,fun v hv=>?_⟩;obtain⟨GD,e4,Fm,S4,f4⟩:=Out.fin (.val (hv _ _)) S2;exact k _ _ GD (e1.trans (e2.trans e4)) (dr.trans (fb.trans Fm)) S4 f4
def Dm:List T->Option R
 |[.str x]=>if x.length<=640 then(PySem.intText? x).map fun n=>.sh (.int n)else none
 |_=>none
theorem Kl:ki X cl (.type "int") Dm:=by
 intro pins s σ H vs us Q I r ⟨Hs,ts,res,sm,h1,hg,k⟩;unfold Dm at hg;split at hg
 ·rename_i x;split at hg
  ·rename_i hl;obtain⟨n,hn,rfl⟩:=iE hg;obtain⟨v,rfl,e⟩:=lQ h1
   cases(show v=V.str x from e)
   obtain⟨u,rfl,ru⟩:=vals1 r;obtain⟨t,rfl⟩:=ru;exact PySem.W.KIN.call_text hn hl ⟨.int n,H,I.tok _,⟨_,rfl⟩,k _ H (.val rfl)⟩
  ·cases hg
 ·cases hg
end
section
variable {X:Cx}{P:Fx}{cl:Nat->Addr}
def Nx:T->T->Option R:=fun t u=>match t,u with
 |.lst ts,.int n=>if 0<=n/\n<=256/\ts.length*n.toNat<=256 then some (.own (.lst (List.replicate n.toNat ts).flatten))else none
 |_,_=>none
theorem u3{xs:List V}{us:List Value}(h:Vals xs us):∀n:Nat,Vals (List.replicate n xs).flatten (List.replicate n us).flatten
 |0=>.nil
 |n+1=>by
  rw [replicate_succ,replicate_succ,flatten_cons,flatten_cons];exact h.append (u3 h n)
theorem Dn{K:KC}{H:Hp}{xs:List V}{ts:List T}(h:iu K H xs ts):∀n:Nat,iu K H (List.replicate n xs).flatten (List.replicate n ts).flatten
 |0=>cu
 |n+1=>by
  rw [replicate_succ,replicate_succ,flatten_cons,flatten_cons];exact d4 h (Dn h n)
theorem Km:kd X cl (binaryOp .Mult) Nx:=by
 intro pins s σ H x y v u Q I rx ry ⟨Hs,t,w,r,sm,h1,h2,hg,k⟩;have hg:∃ts n,t=.lst ts/\w=.int n/\(0<=n/\n<=256/\ts.length*n.toNat<=256)/\r=.own (.lst (List.replicate n.toNat ts).flatten):=by
  unfold Nx at hg;split at hg
  ·split at hg
   ·rename_i hn
    cases hg
    exact⟨_,_,rfl,rfl,hn,rfl⟩
   ·cases hg
  ·cases hg
 obtain⟨ts,n,rfl,rfl,⟨n0,n1,hz⟩,rfl⟩:=hg;obtain⟨l,xs,rfl,sl,rl⟩:=h1
 cases(show y=V.int n from h2)
 cases rx
 obtain⟨ti,rfl⟩:=ry;obtain⟨bh,v1,⟨⟨cls,dd,data,Rp⟩,m,e1,c1,d1,q1⟩,z1⟩:=I.list sl;simp only at c1 d1 q1;subst c1 q1;have l1:=v1.length;have m1:=aF rl;have zh:bh.toArray.size*n.toNat<=256:=by rw [size_toArray,<-l1,m1];exact hz
 refine wpAny_binaryOp_repeat_ref (T := "list") (U := "int") (by decide) ⟨_,e1,rfl⟩ (fun s'=>typeIs_int s' n ti) noFill_list_mul F.fills_int_mul F.slot_int_rmul repeat_list F.slot_int_index.lookup
  (call_meets F.slot_int_rmul (typeIs_int s n ti) F.entry_int_rmul (F.args_int_rmul_2 _ _) (PySem.lm_int_rmul_list_any n ti l bh.toArray m dd Rp)
   ⟨e1,rfl,⟨_,e1,rfl⟩,call_meets F.slot_list_mul ⟨_,e1,rfl⟩ F.entry_list_mul (F.args_list_mul_2 _ _)
    (PySem.lm_list_mul_any l bh.toArray m dd Rp n ti (by simp [Builtin.List.listFitsIndex];omega) (by omega) (by rw [size_toArray]at zh;simp [Builtin.List.listTooLong,sizeLine];omega))
    ⟨e1,?_⟩⟩)
 rw [listMul_foldl_if];exact⟨.ref _,_,I.Pb (t':=s.toks) (u3 v1 n.toNat) (by
  rw [(u3 v1 n.toNat).length,List.length_flatten,map_replicate,List.sum_replicate_nat,<-l1,m1,Nat.mul_comm];exact le_of_lt (eL (le_trans hz (by decide)))),rfl,k _ _ (.zH I.fresh (Dn rl n.toNat))⟩
end
section
variable {X:Cx}{cl:Nat->Addr}
def fg:=IQ xb Nx
theorem gE:kd X cl (binaryOp .Mult) fg:=Gn.or Km
end
def strLits:List Expr->Option (List Str)
 |[]=>some []
 |e::es=>match e with
  |.Constant (.str x) _ _=>(strLits es).map (x::·)
  |_=>none
def kl(ys:List Str):MA:=fun Γ=>some (ys.map T.str,Γ)
section
variable {X:Cx}{P:Fx}
theorem u6:∀{es:List Expr}{ys:List Str},strLits es=some ys->yi X P es (kl ys)
 |[],ys,h=>by
  cases h
  exact aq
 |e::es,ys,h=>by
  unfold strLits at h;split at h
  ·obtain⟨zs,hz,rfl⟩:=iE h;exact ae aP (u6 hz)
  ·cases h
end
section
variable {X:Cx}{P:Fx}{pos:Pos}
theorem mK{es:List Expr}{ys:List Str}(h:strLits es=some ys):aW X P (.List es pos) (di (kl ys)):=cG (u6 h)
theorem nW{k:Nat}{f:Addr}{fd:FuncData}{cf:CF}{x:Str}{p:Pos}(F:bc X.prog X.w X.K X.mg X.base gU k f fd [] (oq (kc X P) 0 cf))(hr:dP k X.A)(hg:Gl X x)(hm:X.mg x=some (.ref f))(hk:keepIn X.K (.ref f)=true)(hb:Binds X.K fd [] [])
  (kJ:(x==("__debug__" : Str))=false:=by decide):aW X P (.Call (.Name x p) [] [] pos) (av 0 cf aD):=fun Γ r Γ' h=>by
 obtain⟨ts,Γ2,h1,hl,h2,zO⟩:=uN h;refine(FJ (dvs:=[]) (E:=E0) F hr hg hm hk hb .nil uH kJ).imp fun σ H Q q=>?_
 cases h1
 have z:=zN (E:=E0) (K:=kc X P) hl h2 zO q;obtain⟨Hs,S,kk⟩:=z;exact kk [] H Hs (ax.refl _) (ax.refl _) S cu
end
open PySem PySem.Spec PyProof.Rows L2 PySem.F
theorem jL{P:Program}{w:World}{H:Hp}{h:Heap}{b:Addr}{v:HO}(l:gp P w H h b v):∃o,h.get? b=some o:=by
 cases v with
 |lst xs=>obtain⟨_,_,_,_,e⟩:=l;exact⟨_,e⟩
 |tup xs=>obtain⟨_,_,_,_,e,_⟩:=l;exact⟨_,e⟩
 |dK bp=>obtain⟨_,_,_,_,o,_,_,e,_⟩:=l;exact⟨_,e⟩
 |dT bp=>obtain⟨_,_,_,_,o,_,_,e,_⟩:=l;exact⟨_,e⟩
 |set S n=>obtain⟨o,_,_,_,e,_⟩:=l;exact⟨_,e⟩
 |ins C dx fs=>obtain⟨_,_,_,e,_⟩:=l;exact⟨_,e⟩
 |own y=>obtain⟨_,e⟩:=l;exact⟨_,e⟩
 |xd fs=>obtain⟨_,⟨_,_,_,e,_⟩,_⟩:=l;exact⟨_,e⟩
 |Q9 lo hi=>obtain⟨_,_,_,e⟩:=l;exact⟨_,e⟩
 |Fp ob u=>obtain⟨e,_⟩:=l;exact⟨_,e⟩
 |Ln ps=>exact⟨_,(show h.get? b=some _ from l)⟩
 |met f y=>exact⟨_,(show h.get? b=some _ from l)⟩
 |ext φ=>obtain⟨_,⟨_,e⟩,_⟩:=l;exact⟨_,e⟩
theorem rG{P:Program}{w:World}{fs:List Addr}{H H':Hp}{h0 h h' B:Heap}(U:Un fs [] H H' h0 h)(ok:mm P w H' h)(hi:∀b o,h.get? b=some o->(H' b≠none\/∃u,h0.get? b=some u)->b∉fs->B.get? b=some o)
  (st:B.StaysIn h') (up:h.UpToSlots h') (ff:∀b∈fs,H' b=none/\∀o,h.get? b=some o->∀vs,o.data ≠ .fields vs) :
  Un fs [] H H' h0 h'/\mm P w H' h'/\(∀b o,h'.get? b=some o->(H' b≠none\/∃u,h0.get? b=some u)->b∉fs->B.get? b=some o):=by
 have kp:∀b o,h.get? b=some o->(H' b≠none\/∃u,h0.get? b=some u)->b∉fs->h'.get? b=some o:=fun b o e z n=>st b o (hi b o e z n);refine⟨⟨fun b o e n hb hx=>kp b o (U.keep b o e n hb hx) (.inr ⟨o,e⟩) hb,fun b o e n hb hx=>?_,U.free,fun b o e hx=>?_,U.jR,U.jE,U.jS⟩,fun a o e=>?_,fun b o e z n=>?_⟩
 ·obtain⟨sl,e1⟩:=U.slot b o e n hb hx;obtain⟨Bj,e2⟩:=up b _ e1 ((ff b hb).2 _ e1);exact⟨Bj,e2⟩
 ·obtain⟨o',e1⟩:=U.there b o e hx;by_cases hb:b∈fs
  ·obtain⟨Bj,e2⟩:=up b _ e1 ((ff b hb).2 _ e1);exact⟨_,e2⟩
  ·exact⟨o',kp b o' e1 (.inr ⟨o,e⟩) hb⟩
 ·have nf:∀c u,H' c=some u->c∉fs:=fun c u q hc=>by
   rw [(ff c hc).1]at q
   cases q
  refine(ok a o e).wu (fun b u hb q=>?_) (fun _ q=>q) fun _ _ q=>q;rcases hb with rfl|hb
  ·exact kp b u q (.inl (by rw [e];exact fun z=>nomatch z)) (nf b o e)
  ·exact kp b u q (.inl (by rw [hb];exact fun z=>nomatch z)) (nf b _ hb)
 ·have⟨o2,e2⟩:∃o2,h.get? b=some o2:=by
   rcases z with z|⟨u,z⟩
   ·cases q:H' b with
    |none=>exact absurd q z
    |some v =>
     exact jL (ok b v q)
   ·exact U.there b u z (by simp)
  have e3:=hi b o2 e2 z n;have e4:=st b o2 e3;rw [e]at e4
  cases e4
  exact e3
def Ot(P:Program)(w:World)(C:Addr):wq:=fun outer H s E e s'=>∃(a:Addr) (H':Hp) (B:Heap) (a0:Value),
 e=.ref a/\s'.os=s.os/\AllBare s'.gens/\Un (pU outer) [] H H' s.heap s'.heap/\mm P w H' s'.heap/\Heap.FlyingW B outer a (.ref C) a0 s'.heap /\
 (∀b o,s'.heap.get? b=some o->(H' b≠none\/∃u,s.heap.get? b=some u)->b∉pU outer->B.get? b=some o)/\s.heap.get? a=none/\H' a=none/\E e none H'
theorem Ny{K:PySem.W.Frag}{h:Heap}{C:Addr}{YQ:List Value}{newId:String}(X:K.In h)(q:excIn K C YQ newId=true):∃bm N nm qn bs hdct sn sub ab col dd k0 k1 k2 k3 k5 mN,
  h.get? C=some (excClassObj nm qn C N bs bm hdct sn sub ab col dd k0 k1 k2 k3 k5 newId)/\h.Ns N mN/\mN "__init__" = none/\OwnTail h YQ bm:=by
 unfold excIn at q;split at q
 case h_2=>cases q
 rename_i dd cd sl ho;split at q
 case h_2=>cases q
 rename_i C' bm k0 k1 k2 k3 n k5 hm hs;simp only [and_eq_true,beq_iff_eq,Bool.not_eq_true']at q;obtain⟨⟨⟨⟨⟨rfl,rfl⟩,PU⟩,ht⟩,cR⟩,Ou⟩:=q;have e:=X _ _ ho;have hsl:sl=#[k0,k1,k2,k3,some (.builtin n),k5]:=by
  rw [<-toList_inj,hs]
 subst hsl
 cases cd
 dsimp only at hm PU cR Ou;subst hm;subst PU;exact⟨_,_,_,_,_,_,_,_,_,_,_,_,_,_,_,_,_,e,.of_isNs (PySem.W.isNs_of_in X cR),PySem.W.nsMap_none_of_in X cR Ou,PySem.W.tail_of_in X ht⟩
abbrev Rt:List Value:=[.type "ValueError", .type "Exception", .type "BaseException", .type "object"]
abbrev BQ(a C:Addr):Heap->Prop:=fun h=>∃o,h.get? a=some o/\o.cls=.ref C
theorem Nz{fs:List Addr}{H H':Hp}{h0 h:Heap}{a:Addr}{o:HO}(U:Un fs [] H H' h0 h)(n:h0.get? a=none)(n':H' a=none):Un fs [] H (upd H' a o) h0 h where
 keep:=U.keep
 slot:=U.slot
 free:=fun b u e z hx=>by
  have:b≠a:=fun q=>by
   rw [q,n]at e
   cases e
  rw [aw this];exact U.free b u e z hx
 there:=U.there
 jR:=fun b xs e=>by
  have q:=U.jR b xs e;rw [aw (bM q n')];exact q
 jE:=fun b u xs e=>by
  have q:=U.jE b u xs e;rw [aw (bM q n')];exact q
 jS:=fun b ps e=>by
  obtain⟨m,q⟩:=U.jS b ps e;exact⟨m,by rw [aw (bM q n')];exact q⟩
theorem Kn{P:Program}{w:World}{H:Hp}{h:Heap}{a:Addr}{o:HO}(ok:mm P w H h)(n:H a=none)(new:gp P w (upd H a o) h a o):mm P w (upd H a o) h:=fun b u e=>by
 by_cases z:b=a
 ·subst z;rw [aE]at e
  cases e
  exact new
 ·rw [aw z]at e;exact(ok b u e).wu (fun _ _ _ q=>q) (fun c q=>by rw [aw (bM q n)];exact q) fun c xs q=>by rw [aw (bM q n)];exact q
abbrev marked(X:Cx)(e:Value)(E:Value->Shared->Prop):Cx:={X with A:=X.A.mark (some e),calm:=false,xe:=E}
section
variable {X:Cx}{pins:List (Addr×Obj)}{σ:St}{H:Hp}{s:Shared}{e:Value}{E:Value->Shared->Prop}
theorem Ko(ok:X.Ok):(marked X e E).Ok :=
 ⟨ok.mod,ok.kind,ok.glob,ok.blt,ok.above,ok.inj,ok.has,ok.IL,fun z=>(by cases z),ok.frames,ok.Je,ok.Mh,ok.bs,ok.zl,ok.wx,ok.xU,ok.iC,ok.zm⟩
theorem z9(I:L2.Inv X pins σ H s):L2.Inv (marked X e E) pins σ H s:=⟨Ko I.ok,I.os,I.bare,I.base,I.loc,I.cell,I.free,I.iK,I.pin,I.cR,I.len⟩
theorem BR(ok:X.Ok)(I:L2.Inv (marked X e E) pins σ H s):L2.Inv X pins σ H s:=⟨ok,I.os,I.bare,I.base,I.loc,I.cell,I.free,I.iK,I.pin,I.cR,I.len⟩
theorem Kp{M:Model}{A:Around}{i:Nat}{x:Str}{pos:Pos}{Q:Unit->Shared->Prop}(I:L2.Inv X pins σ H s)(hN:X.N.Nodup)(hi:X.N[i]?=some x)(hk:X.env.kindOf x=some .local)
  (h:∀s',L2.Inv X pins (σ.set i none) H s'->Q () s'):wpAny M A (do bindName X.env x .none;unbindBehindTheSuite X.env x pos) Q E s:=by
 obtain⟨m,hn,hl⟩:=id I.loc;have qZ:(X.env.scope.kind == .class||(X.env.scope.kind == .module&&X.env.locals != X.env.globals))=false:=by rw [I.ok.kind];rfl
 have Rf:i<σ.length:=by rw [I.len];exact(List.getElem?_eq_some_iff.mp hi).1
 have Fs:=I.Fs;obtain⟨oL,_,_,Yi,_⟩:=id hn;refine wpAny_nameGoes_keeps hk hn qZ fun h' v Sg hs=>?_;have tr:mm X.prog X.w H h':=fun b ob e=>by
  refine(I.cR b ob e).wu (fun c w' hc q=>(hs.2 c ?_).trans q) (fun _ q=>q) fun _ _ q=>q;rintro rfl;rcases hc with rfl|hc
  ·rw [I.free]at e;cases e
  ·rw [I.free]at hc;cases hc
 refine h _ ⟨I.ok,I.os,I.bare,⟨fun b o e n hb hx=>?_,fun b o e n hb hx=>?_,I.base.free,fun b o e hx=>?_,I.base.jR,I.base.jE,I.base.jS⟩,⟨_,Sg,fun j y v' e1 e2 e3=>?_⟩,fun y c e=>?_,I.free,I.iK,fun p hp=>?_,tr,by simpa using I.len⟩
 ·exact(hs.2 b (ne_of_lt (lt_of_lt_of_le (Heap.lt_size e) I.ok.above))).trans (I.base.keep b o e n hb hx)
 ·obtain⟨sl,e1⟩:=I.base.slot b o e n hb hx;exact⟨sl,(hs.2 b (ne_of_lt (lt_of_lt_of_le (Heap.lt_size e) I.ok.above))).trans e1⟩
 ·obtain⟨o',e1⟩:=I.base.there b o e hx;exact⟨o',(hs.2 b (ne_of_lt (lt_of_lt_of_le (Heap.lt_size e) I.ok.above))).trans e1⟩
 ·by_cases hj:j=i
  ·subst hj;rw [getElem?_set_self Rf]at e2
   cases e2
  ·rw [getElem?_set_ne (Ne.symm hj)]at e2;obtain⟨u',r',q⟩:=hl j y v' e1 e2 e3;refine⟨u',r',?_⟩;rcases q with⟨k,e⟩|⟨k,c,e,z⟩
   ·refine .inl ⟨k,?_⟩;have:y≠x:=fun e=>hj (uu hN e1 (e▸hi));simp [this,e]
   ·exact .inr ⟨k,c,e,z.sameBut hs (Fs y c e)⟩
 ·obtain⟨w',z⟩:=I.cell y c e;exact⟨w',z.sameBut hs (Fs y c e)⟩
 ·obtain⟨e,n,ne,nf,d⟩:=I.pin p hp;exact⟨(hs.2 p.1 ne).trans e,n,ne,nf,d⟩
end
def PX(X:Cx)(C:Addr)(st:List Stmt)(t:Ends->(Hp->Prop)->St->Hp->Prop):Prop :=
 ∀(pins:List (Addr×Obj))(s:Shared)(σ:St)(H:Hp)(D:Ends)(W:Hp->Prop)(E':Value->Shared->Prop),L2.Inv X pins σ H s->t D W σ H ->
  (∀(H1:Hp)(s1:Shared)(e:Value)(s':Shared),L2.Inv X pins σ H1 s1->Ot X.prog X.w C X.stack H1 s1 (fun _ _ H'=>W H') e s'->E' e s')->wpAny (model X.prog X.w) X.A (execs st X.env) (SP X pins D) E' s
theorem NA{X:Cx}{C CJ:Addr}{body LJ:List Stmt}{b₀:Stmt}{x n:Str}{ni:Nat}{np Kq pos:Pos}{t:Ends->(Hp->Prop)->St->Hp->Prop}{ts:TS}
  (iw:X.stack=X.env::X.outer) (hf:X.env.frame=some X.env.locals) (hN:X.N.Nodup) (hn:X.N[ni]?=some n) (hl:X.env.kindOf n=some .local)
  (hg:Gl X x) (hm:X.mg x=some (.ref CJ)) (hx:exmOne X.K (.ref C) (.ref CJ)=some true) (hb:PX X C body t)
  (hs:∀(e:Value)(E:Value->Shared->Prop),pV (marked X e E) (b₀::LJ) ts) (kJ:(x==("__debug__" : Str))=false:=by decide) :
  PS X (.Try body [.ExceptHandler (some (.Name x np)) (some n) (b₀::LJ) Kq] [] [] pos) (fun D σ H=>t D (fun H'=>∀a,H' a=none ->
   ts {nx:=fun σ2 H2=>D.nx (σ2.set ni none) H2,rt:=fun _ _=>False} (σ.set ni (some (.ref a))) (upd H' a (.ext (BQ a C)))) σ H):=by
 intro pins s σ H D I h;refine wpAny_Try_except (wpAny_mono (hb pins s σ H D _ _ I h fun H1 s1 e s' I1 cx=>?_) (fun f s1 z=>?_) fun _ _ z=>z)
 ·obtain⟨a,H',B,a0,rfl,A3,lR,U,cR,fl,hB,an,BS,w⟩:=cx;have NB:∀b∈pU X.stack,H' b=none:=fun b hb=>by
   obtain⟨_,o,ho,_⟩:=I1.stack.mem hb;exact U.free b o ho (I1.tY b hb) (by simp)
  have qX:X.A.frames=some (X.env::X.outer):=by rw [I1.ok.frames,iw]
  rw [iw]at fl;have ff:∀{h:Heap},h.FunFrames B (X.env::X.outer)->∀b∈pU X.stack,H' b=none/\∀o,h.get? b=some o->∀vs,o.data ≠ .fields vs:=fun{h} F b hb=>⟨NB b hb,fun o ho=>by
   rw [iw]at hb;obtain⟨_,o',nK,hd⟩:=F.mem hb;rw [ho]at nK
   cases nK
   exact hd⟩
  refine wpAny_looks_onW qX hf fl fun h4 sL NC=>?_;obtain⟨U4,ok4,B4⟩:=rG U cR hB sL.1 NC (ff fl.2.2.1);refine wpAny_landsW sL fun h5 Ov T3=>?_;obtain⟨U5,YR,B5⟩:=rG U4 ok4 B4 Ov.1 T3 (ff sL.2.2.1);have I5:L2.Inv X pins σ H' {s' with heap:=h5}:=I1.uw (s':={s' with heap:=h5}) A3 U5 YR lR fun b z=>absurd z (by simp);have J5:L2.Inv (marked X (.ref a) fun _ _=>False) pins σ H' {s' with heap:=h5}:=z9 I5;obtain⟨ob,hob,T4⟩:=Ov.there;refine wpAny_handleBy_cons (codeAny_handlers_test (h7 J5 hg hm ?_ kJ)) (by intro q;cases q);have LT:PySem.W.Looks (model X.prog X.w) h5 (typeOf (.ref a)) (.ref C):=T4▸(PySem.W.Looks.ld hob).andThen .now;refine(PySem.W.exm_one (M:=model X.prog X.w) J5.wo LT hx).here ?_;show codeAny _ _ _ _ _;refine codeAny_handlers_suite_as (lands_againW Ov fun h6 YS Ru=>?_);obtain⟨U6,ok6,B6⟩:=rG U5 YR B5 YS.1 Ru (ff Ov.2.2.1);obtain⟨YT,PV,PY⟩:=YS.there;have I6:L2.Inv X pins σ (upd H' a (.ext (BQ a C))) {s' with heap:=h6}:=I1.uw (s':={s' with heap:=h6}) A3 (Nz U6 an BS) (Kn ok6 BS
   ⟨⟨YT,PV,PY⟩,⟨YT,PV⟩,fun h1 h2 ⟨o,q1,q2⟩ k=>⟨o,k o q1,q2⟩⟩) lR fun b z=>absurd z (by simp)
  refine uv I6 hN hn (.inl hl) (v:=.ref a) rfl (fun s7 I7=>?_) (.inr hl);refine wpAny_mono (hs (.ref a) _ pins s7 _ _ _ (z9 I7) (w a BS)) (fun f s8 z=>?_) fun _ _ z=>z
  cases f with
  |next =>
   obtain⟨σ2,H2,I8,q⟩:=z;exact Kp (BR I1.ok I8) hN hn hl fun s9 I9=>⟨_,_,I9,q⟩
  |brk=>obtain⟨_,_,_,q⟩:=z;exact False.elim q
  |cont=>obtain⟨_,_,_,q⟩:=z;exact False.elim q
  |ret u=>obtain⟨_,_,_,_,_,q⟩:=z;exact False.elim q
 ·cases f with
  |next=>exact wpAny_pure z
  |brk=>exact z
  |cont=>exact z
  |ret u=>exact z
section
variable {X:Cx}{P:Fx}{e:Expr}{p p2 pos:Pos}
def T5(K:PySem.W.Frag)(C:Addr)(c:V)(b:Bool):List V->Hp->VK->Prop:=fun xs H Q=>∃a,xs=[.ref a,c]/\H a=some (.ext (BQ a C))/\Q (.bl b) H
theorem Aa{C:Addr}{c:V}{cv:Value}{b:Bool}(Z:Ga X.K C)(rc:∀u,RelV c u->u=cv)(hk:kitOne X.K (.ref C) cv=some b):fF X (.builtin "isinstance") (T5 X.K C c b):=by
 intro pins s σ H xs us Q I r ⟨a,ex,ha,q⟩;subst ex;obtain⟨u,w,rfl,r1,r2⟩:=vals2 r
 cases(show u=Value.ref a from r1)
 cases rc w r2
 have ok:=I.cR a _ ha;exact PySem.W.kia_one (Gb Z attr_ValueError.ga) I.wo ok.1 hk (fun z=>nomatch z) fun tk=>⟨.bl b,H,I.tok tk,rfl,q⟩
theorem fH{x:Str}{i:Nat}{a C D:Addr}{b:Bool}(hF:P.F i=some (.ref a))(hH:P.H0 a=some (.ext (BQ a C)))(Z:Ga X.K C)(hk:kitOne X.K (.ref C) (.ref D)=some b)
  (hg:Gl X "isinstance") (hm:X.mg "isinstance" = none) (T6:Gl X x) (PZ:X.mg x=some (.ref D)) (hv:PE X e (gq i)) (hd:(x==("__debug__" : Str))=false:=by decide)
  (wV:starEach [e,.Name x p2] X.env=(false,eval e X.env)::starEach [.Name x p2] X.env:=by rfl) (ND:starEach [.Name x p2] X.env=(false,eval (.Name x p2) X.env)::starEach [] X.env:=by rfl) (jV:(backTo pos (starEach [.Name x p2] X.env)).any (·.1)=false:=by rfl) :
  aW X P (.Call (.Name "isinstance" p) [e,.Name x p2] [] pos) (mC (.bl b)):=fun Γ r Γ' P0=>by
 cases P0
 refine(pW (Aa (c:=.ref D) (cv:=.ref D) Z (fun u r=>r) hk) hg hm (by decide +kernel) (bE hv (bE (xW (v:=.ref D) T6 PZ rfl hd) d0 ND) wV) (by decide) (by decide) wV jV).imp fun σ H Q ⟨Hs,S,k⟩=>?_;exact⟨_,S.fix i _ hF,a,rfl,S.kept a _ hH,k _ H Hs (ax.refl _) (ax.refl _) S rfl⟩
theorem G3{x:Str}{i:Nat}{a C:Addr}{c:String}{b:Bool}(hF:P.F i=some (.ref a))(hH:P.H0 a=some (.ext (BQ a C)))(Z:Ga X.K C)(hk:kitOne X.K (.ref C) (.type c)=some b)
  (hg:Gl X "isinstance") (hm:X.mg "isinstance" = none) (T6:Gl X x) (PZ:X.mg x=none) (NF:bootBuiltins x=some (.type c)) (hv:PE X e (gq i)) (hn:x ≠ "__name__" := by decide) (hd:(x==("__debug__" : Str))=false:=by decide)
  (wV:starEach [e,.Name x p2] X.env=(false,eval e X.env)::starEach [.Name x p2] X.env:=by rfl) (ND:starEach [.Name x p2] X.env=(false,eval (.Name x p2) X.env)::starEach [] X.env:=by rfl) (jV:(backTo pos (starEach [.Name x p2] X.env)).any (·.1)=false:=by rfl) :
  aW X P (.Call (.Name "isinstance" p) [e,.Name x p2] [] pos) (mC (.bl b)):=fun Γ r Γ' P0=>by
 cases P0
 refine(pW (Aa (c:=.ty c) (cv:=.type c) Z (fun u r=>r) hk) hg hm (by decide +kernel) (bE hv (bE (Jg (v:=.ty c) T6 PZ NF rfl hn hd) d0 ND) wV) (by decide) (by decide) wV jV).imp fun σ H Q ⟨Hs,S,k⟩=>?_;exact⟨_,S.fix i _ hF,a,rfl,S.kept a _ hH,k _ H Hs (ax.refl _) (ax.refl _) S rfl⟩
end
structure ql(k:Nat)(A:Around):Prop where
 dp:A.depth+3*k+5<recursionLimit
 un:A.units+16*k+200<cLine
 gd:A.guards=some []
theorem ql.deeper{k:Nat}{A:Around}(r:ql (k+1) A)(env:Env):ql k (A.deeper env) :=
 ⟨by have:=r.dp;show A.depth+1+3*k+5<_;omega,by have:=r.un;show A.units+3+16*k+200<_;omega,r.gd⟩
theorem ql.of{k:Nat}{A:Around}{e:Option Value}(r:dP k A):ql k (A.mark e):=⟨r.dp,r.un,r.gd⟩
abbrev G4(P:Program)(w:World)(K:PySem.W.Frag)(mg:Str->Option Value)(base:Heap)(N:List Str)(qual:Str)(scope:Scope)(f:Addr)(cd:Value)(A:Around)(outer:List Env)(s:Shared)(H:Hp):Cx :=
 {lX gU P w K mg base N qual scope f cd A outer s H E0 with calm:=false,xe:=fun _ _=>False}
section
variable {P:Program}{w:World}{K:PySem.W.Frag}{mg:Str->Option Value}{base:Heap}
theorem BU{N ps:List Str}{qual:Str}{scope:Scope}{f:Addr}{cd:Value}{A:Around}{outer:List Env}{s s1:Shared}{H:Hp}{us:List Value}{vs:List V}
  (S:aN N ps scope) (e0:rk P w K mg base A outer s H) (hl:vs.length=ps.length) (r:Vals vs us)
  (x:InCallC s s.heap.objs.size (bindL (envOfC qual scope s.heap.objs.size f cd).kindOf (ps.zip us) fun _=>none) (cellsFrom (s.heap.objs.size+1) scope.names []) (bindC (envOfC qual scope s.heap.objs.size f cd).kindOf (ps.zip us) fun _=>none) s1) :
  L2.Inv (G4 P w K mg base N qual scope f cd A outer s H) [] (start N vs) H s1:=by
 have e1:rk P w K mg base {A with handled:=none} outer s H:=⟨e0.frames,e0.mod,e0.bs,e0.zl,e0.iC,e0.zm,e0.cR,e0.bare⟩;have I:=w5 (CX:=gU) (E:=E0) S (A:={A with handled:=none}) rfl e1 hl r x;exact⟨⟨I.ok.mod,I.ok.kind,I.ok.glob,I.ok.blt,I.ok.above,I.ok.inj,I.ok.has,I.ok.IL,fun z=>(by cases z),Around.frames_deeper e0.frames,I.ok.Je,I.ok.Mh,I.ok.bs,I.ok.zl,I.ok.wx,I.ok.xU,I.ok.iC,I.ok.zm⟩,I.os,I.bare,I.base,I.loc,I.cell,I.free,I.iK,I.pin,I.cR,I.len⟩
structure Dp(P:Program)(w:World)(K:PySem.W.Frag)(mg:Str->Option Value)(base:Heap)(k:Nat)(f:Addr)(fd:FuncData)(ps:List Str)(sp:List V->Hp->VK->Prop):Prop where
 len:∀vs H Q,sp vs H Q->vs.length=ps.length
 run:∀(A:Around)(outer:List Env)(s:Shared)(H:Hp)(args:Args)(us:List Value)(vs:List V)(Q:VK),ql k A->rk P w K mg base A outer s H->BindsTo s fd args (ps.zip us)->Vals vs us->sp vs H Q ->
  codeAny (model P w) A (.call (.ref f) args) (CR gU outer P w H s Q E0) s
theorem NG{k:Nat}{f:Addr}{x qual:Str}{st:Stmt}{fd:FuncData}{N ps:List Str}{sp:List V->Hp->VK->Prop}(F:jW K x qual st f fd)(S:aN N ps (ai st))
  (len:∀vs H Q,sp vs H Q->vs.length=ps.length)
  (zy:∀(cW:Value)(A:Around)(outer:List Env)(s:Shared)(H:Hp)(vs:List V)(Q:VK),ql k (A.deeper (envOfC qual (ai st) s.heap.objs.size f cW))->sp vs H Q ->
   ∃t,pV (G4 P w K mg base N qual (ai st) f cW A outer s H) (aH st) t/\t {nx:=fun _ H'=>Q .cQ H',rt:=Q} (start N vs) H) :
  Dp P w K mg base (k+1) f fd ps sp:=by
 obtain⟨oc,od,kV,doc,pm,an,cW,ct,FO,rfl,lk,zo⟩:=F.ex;refine⟨len,fun A outer s H args us vs Q hr e0 hb r zz=>?_⟩;have hl:=len _ _ _ zz;have KX:K.In s.heap:=e0.mod.Lp.keeps fun b o e=>(e0.bs b o e).1;have lim:s.heap.NoLimit:=e0.mod.nolimit.keeps fun b o e=>(e0.bs b o e).1;have FP:∀y∈ps.zip us,(ai st).names.lookup y.1=some .local\/((ai st).names.lookup y.1=some .cell/\((cellsFrom (s.heap.objs.size+1) (ai st).names []).lookup y.1).isSome=true):=fun⟨n,v⟩ hy=>by
  rcases S.par n (of_mem_zip hy).1 with q|q
  ·exact .inl q
  ·exact .inr ⟨q,cellsFrom_some _ _ _ (.inl q)⟩
 refine codeAny_call_function (by have:=hr.dp;omega) (KX _ _ lk) rfl S.co S.gen rfl (codeRec_of KX zo) (hb _ _ _ _ ?_);refine wpAny_newFunctionEnv_cells S.kind FP fun env he s1 x=>?_;subst he;refine⟨lim.keeps x.toInCall.keep,codeAny_func ?_⟩;obtain⟨t,ht,hq⟩:=zy cW A outer s H vs Q (hr.deeper _) zz;have I:=BU (cd:=cW) (f:=f) (qual:=qual) S e0 hl r x;refine wpAny_mono (ht [] s1 (start N vs) H _ I hq) (fun fl s' hs=>?_) fun e s' hs=>False.elim hs
 cases fl with
 |ret u =>
  obtain⟨v,σ',H',J,rv,q⟩:=hs;exact⟨v,H',J.os,J.bare,J.base,J.cR,rv,q⟩
 |next =>
  obtain⟨σ',H',J,q⟩:=hs;exact⟨V.cQ,H',J.os,J.bare,J.base,J.cR,rfl,q⟩
 |brk=>obtain⟨_,_,_,q⟩:=hs;exact False.elim q
 |cont=>obtain⟨_,_,_,q⟩:=hs;exact False.elim q
end
theorem G5{X:Cx}{k:Nat}{f:Addr}{fd:FuncData}{ps:List Str}{sp:List V->Hp->VK->Prop}{x:Str}{p pos:Pos}{e:Expr}{es:List Expr}{t:TA}(F:Dp X.prog X.w X.K X.mg X.base k f fd ps sp)(hr:ql k X.A)(hg:Gl X x)(hm:X.mg x=some (.ref f))(hk:keepIn X.K (.ref f)=true)(hb:Binds X.K fd ps [])
  (ha:PA X (e::es) t) (kJ:(x==("__debug__" : Str))=false:=by decide) (he:starEach (e::es) X.env=(false,eval e X.env)::starEach es X.env:=by rfl) (jV:(backTo pos (starEach es X.env)).any (·.1)=false:=by rfl) :
  PE X (.Call (.Name x p) (e::es) [] pos) (fun σ H Q=>t σ H fun vs H1=>sp vs H1 Q):=by
 intro pins s σ H Q I h;refine wpAny_Call_Name_kw (h7 I hg hm ?_ kJ);refine callWith_K (h₀:=X.base) I.ok.mod.Lp hk (da (ha pos pins s σ H _ I h) fun us s1 ⟨vs,H1,I1,r,q⟩=>⟨I1.wo,?_⟩) he jV;have hl:(us++[]).length=ps.length:=by rw [append_nil,<-r.length];exact F.len _ _ _ q
 have P4:=hb s1 us I1.wo hl;rw [append_nil]at P4;refine wpAny_call (codeAny_mono (F.run X.A X.stack s1 H1 ⟨us,[]⟩ us vs Q hr I1.JA P4 r q) fun r s' hq=>?_)
 cases r with
 |error e=>exact False.elim hq
 |ok fl =>
  cases fl with
  |ret u=>exact I1.after hq
  |next=>exact False.elim hq
  |brk=>exact False.elim hq
  |cont=>exact False.elim hq
theorem G6{X:Cx}{pins:List (Addr×Obj)}{σ:St}{H:Hp}{s:Shared}{E:Value->Shared->Prop}(I:L2.Inv X pins σ H s):L2.Inv {X with pn:=X.pn++pins,xe:=E} [] σ H s :=
 ⟨⟨I.ok.mod,I.ok.kind,I.ok.glob,I.ok.blt,I.ok.above,I.ok.inj,I.ok.has,I.ok.IL,I.ok.hd,I.ok.frames,I.ok.Je,I.ok.Mh,I.ok.bs,I.ok.zl,I.ok.wx,I.ok.xU,I.ok.iC,I.ok.zm⟩,I.os,I.bare,I.base,I.loc,I.cell,I.free,I.iK,fun p hp=>I.pin p (by rwa [append_nil]at hp),I.cR,I.len⟩
theorem km{X:Cx}{pins ur:List (Addr×Obj)}{σ:St}{H:Hp}{s:Shared}{E:Value->Shared->Prop}(I:L2.Inv {X with pn:=X.pn++pins,xe:=E} ur σ H s):L2.Inv X pins σ H s :=
 ⟨⟨I.ok.mod,I.ok.kind,I.ok.glob,I.ok.blt,I.ok.above,I.ok.inj,I.ok.has,I.ok.IL,I.ok.hd,I.ok.frames,I.ok.Je,I.ok.Mh,I.ok.bs,I.ok.zl,I.ok.wx,I.ok.xU,I.ok.iC,I.ok.zm⟩,I.os,I.bare,I.base,I.loc,I.cell,I.free,I.iK,fun p hp=>I.pin p (mem_append_left _ hp),I.cR,I.len⟩
theorem Kr{K:KC}{P:Fx}{Γ:G}{σ:St}{H Hs:Hp}(S:az K P Γ σ H Hs){i:Nat}(hF:P.F i=none)(o:Option V):az K P (Γ.set i .no) (σ.set i o) H Hs where
 kept:=S.kept
 sub:=S.sub
 new:=S.new
 fix:=fun j v h=>by
  have:j≠i:=fun e=>by
   rw [e,hF]at h
   cases h
  rw [getElem?_set_ne (Ne.symm this)];exact S.fix j v h
 sh:=fun j t h=>by
  rcases get_set h with⟨_,_,z⟩|⟨n,h⟩
  ·cases z
  ·rw [getElem?_set_ne (Ne.symm n)];exact S.sh j t h
 own:=fun j t h=>by
  rcases get_set h with⟨_,_,z⟩|⟨n,h⟩
  ·cases z
  ·rw [getElem?_set_ne (Ne.symm n)];exact S.own j t h
 apart:=fun j k t u a To h1 h2=>by
  rcases get_set h1 with⟨_,_,z⟩|⟨n,h1⟩
  ·cases z
  ·rcases get_set h2 with⟨_,_,z⟩|⟨n',h2⟩
   ·cases z
   ·rw [getElem?_set_ne (Ne.symm n),getElem?_set_ne (Ne.symm n')];exact S.apart j k t u a To h1 h2
 len:=by rw [length_set,length_set];exact S.len
def P5(C:Addr)(bs:List Bool):List V->Hp->VK->Prop:=fun vs H Q=>∃a,vs=[.ref a]/\H a=some (.ext (BQ a C))/\∀p H',H p=none->ax H H'->H' p=some (.lst (bs.map V.bl))->Q (.ref p) H'
theorem Dq{K:KC}{H:Hp}:∀(bs:List Bool),iu K H (bs.map V.bl) (bs.map T.bl)
 |[]=>cu
 |b::bs=>dh rfl (Dq bs)
section
variable {X:Cx}{P:Fx}{cl:Nat->Addr}{a b e:Expr}{pos:Pos}{ma mb:MX}
theorem xu:∀(l:List (Str×Tok)),Vals ((l.map (·.1)).map V.str) (strValues l)
 |[]=>.nil
 |p::l=>.cons ⟨p.2,rfl⟩ (xu l)
def d5(x y:Str):Option (List Str):=if(y.length==0)=false/\x.length+2<=sizeLine then some (Txt.split x y)else none
def P6(g:Str->Str->Option (List Str)):V->List V->Hp->VK->Prop:=fun x xs H Q=>∃a b ys,x=.str a/\xs=[.str b]/\g a b=some ys/\∀p,H p=none->Q (.ref p) (upd H p (.lst (ys.map V.str)))
theorem u9:Fh X "str.split" (P6 d5):=by
 intro pins s σ H x xs v us Q I rx rs h;obtain⟨a,b,ys,rfl,rfl,hg,q⟩:=h;obtain⟨ta,rfl⟩:=rx;obtain⟨u,rfl,ru⟩:=Vals.one rs;obtain⟨tb,rfl⟩:=ru;unfold d5 at hg;split at hg
 case isFalse=>cases hg
 rename_i hc;obtain⟨hy,zh⟩:=hc
 cases hg
 have fin:∀(l:List (Str×Tok))(k:Nat),l.map (·.1)=Txt.split a b->EP X pins σ Q (.ref s.heap.objs.size) {s with heap:=s.heap.push {cls:=.type "list", data:=.seq (strValues l).toArray},toks:=k}:=fun l k hl=>by
  refine⟨.ref s.heap.objs.size,upd H s.heap.objs.size (.lst ((Txt.split a b).map V.str)),I.laid (fun b o e=>Heap.get?_push_of_some _ e) (le_refl _) ⟨?_,strValues l,0,?_,Heap.get?_push_size _ rfl⟩,rfl,q _ (I.cR.fresh (le_refl _))⟩
  ·rw [length_map];have:=split_le a b;omega
  ·rw [<-hl];exact xu l
 have hn:(Builtin.Str.partsBetween a (Builtin.Str.occurrences a b 0 a.length (a.length+1)) b.length).length<=sizeLine:=by
  have e1:=StrLaws.occ_length_le a b 0 a.length (a.length+1);rw [length_partsBetween];omega
 cases h1:(decide (a.length<b.length)||decide (Builtin.Str.strKind a<Builtin.Str.strKind b))
 ·cases hf:(Builtin.Str.occurrences a b 0 a.length (a.length+1)).isEmpty
  ·refine call_meets F.slot_str_split (typeIs_str _ _ _) F.entry_str_split (F.args_str_split_2 _ _) (meets_str_split_sep a b ta tb h1 hy hf (by omega) hn) ?_;show wants _ _ _ {s with toks:=_,heap:=s.heap.push {cls:=.type "list", data:=.seq (strsFrom s.toks (Builtin.Str.partsBetween a (Builtin.Str.occurrences a b 0 a.length (a.length+1)) b.length)).toArray}};rw [strsFrom_eq];exact fin (numbered s.toks _) _ ((numbered_texts _ _).trans ((if_neg (ne_true_of_eq_false h1)).trans (if_neg (ne_true_of_eq_false hf))).symm)
  ·exact call_meets F.slot_str_split (typeIs_str _ _ _) F.entry_str_split (F.args_str_split_2 _ _) (meets_str_split_not_found a b ta tb h1 hy hf)
    (fin [(a,ta)] s.toks ((if_neg (ne_true_of_eq_false h1)).trans (if_pos hf)).symm)
 ·exact call_meets F.slot_str_split (typeIs_str _ _ _) F.entry_str_split (F.args_str_split_2 _ _) (meets_str_split_cannot_occur a b ta tb h1)
   (fin [(a,ta)] s.toks (if_pos h1).symm)
def rJoin(K:PySem.W.Frag):V->List V->Hp->VK->Prop:=fun x xs H Q=>∃a D ys,x=.str a/\xs=[.ref D]/\lM K H D (ys.map V.str)/\(ys.map (·.length)).sum+ys.length*a.length<=16777216/\Q (.str (Txt.join a ys)) H
theorem va:∀{ys:List Str}{bh:List Value},Vals (ys.map V.str) bh->StrsAre bh ys
 |[],bh,h=>by cases h;exact .nil
 |y::ys,bh,h=>by
  cases h with
  |cons r t =>
   obtain⟨k,rfl⟩:=r;exact .cons y k (va t)
theorem Ks:Fh X "str.join" (rJoin X.K):=by
 intro pins s σ H x xs v us Q I rx rs h;obtain⟨a,D,ys,rfl,rfl,sq,cR,q⟩:=h;obtain⟨ta,rfl⟩:=rx;obtain⟨u,rfl,ru⟩:=Vals.one rs
 cases(show u=Value.ref D from ru)
 obtain⟨bh,r,pl,_⟩:=I.list sq;refine join_list (items:=bh.toArray) ?_ (va r) cR fun t' k=>⟨.str _,H,I.tok _,⟨_,rfl⟩,q⟩;obtain⟨o,n,e1,e2,e3,e4⟩:=pl;exact⟨o,e1,e2,n,e4⟩
def vb(g:Str->Str->Option (List Str))(mo:MX)(ma:MA):MX:=fun Γ=>(mo Γ).bind fun p=>(ma p.2).bind fun q=>match p.1.tree,q.1 with
 |.str x,[.str y]=>(g x y).map fun ys=>(.own (.lst (ys.map T.str)),q.2)
 |_,_=>none
theorem mL{K:KC}{H:Hp}:∀ys:List Str,iu K H (ys.map V.str) (ys.map T.str)
 |[]=>cu
 |y::ys=>dh rfl (mL ys)
theorem yy{o:Expr}{es:List Expr}{name:Str}{id:String}{apos bQ:Pos}{g:Str->Str->Option (List Str)}{mo:MX}{n:MA}(slot:PySem.Slot "str" name id)(CV:typeOf (.builtin id)=pure (.type "method_descriptor"))(hm:Fh X id (P6 g))(ho:aW X P o mo)(ha:wD X P (e::es) n)
  (gu:attributeBase o name X.env (eval o X.env)=eval o X.env:=by rfl)
  (rq:((backTo bQ (starEach (e::es) X.env)).all (fun x=>!x.1)&&(backToKw bQ (keywordEach [] X.env)).all (fun x=>x.1.isSome)
   && decide ((e::es).length+([]:List Keyword).length+(if([]:List Keyword).isEmpty then 0 else 1)<30))=true:=by rfl)
  (ir:(apos.endLine==bQ.line)=true:=by rfl) (hs:starEach (e::es) X.env=(false,eval e X.env)::starEach es X.env:=by rfl) (gX:(backTo bQ (starEach es X.env)).any (·.1)=false:=by rfl) :
  aW X P (.Call (.Attribute o name apos) (e::es) [] bQ) (vb g mo n):=fun Γ r Γ' h=>by
 obtain⟨r1,Γ1,h1,h⟩:=cE h;obtain⟨ts,Γ2,h2,h⟩:=cE h;have h:∃x y ys,r1.tree=.str x/\ts=[.str y]/\g x y=some ys/\r=.own (.lst (ys.map T.str))/\Γ'=Γ2:=by
  dsimp only at h;split at h
  ·obtain⟨t,ht,h⟩:=iE h
   cases h
   exact⟨_,_,t,by assumption,rfl,ht,rfl,rfl⟩
  ·cases h
 obtain⟨x,y,ys,hx,rfl,ht,rfl,rfl⟩:=h;refine(w6 PySem.F.plainAttrs_str slot CV hm (ho _ _ _ h1) (ha _ _ _ h2) gu rq ir hs gX).imp fun σ H Q ⟨Hs,S,k⟩=>⟨Hs,S,fun v H1 bJ e1 dr S1 f1=>?_⟩;have tb:=S1.uM f1;rw [hx]at tb
 cases(show v=V.str x from tb)
 refine⟨rfl,bJ,S1,fun vs H2 bX e2 fb S2 PR=>?_⟩
 cases PR with
 |cons q1 q2 =>
 cases q2
 rename_i v2
 cases(show v2=V.str y from q1)
 refine⟨x,y,ys,rfl,rfl,ht,fun p hp=>?_⟩;obtain⟨GD,e4,Fm,S4,f4⟩:=Out.fin (.zH hp (mL ys)) S2;exact k _ _ GD (e1.trans (e2.trans e4)) (dr.trans (fb.trans Fm)) S4 f4
def oy(mo:MX)(ma:MA):MX:=fun Γ=>(mo Γ).bind fun p=>(ma p.2).bind fun q=>match p.1.tree,q.1 with
 |.str x,[.lst ts]=>(strsOf ts).bind fun ys=>if(ys.map (·.length)).sum+ys.length*x.length<=16777216 then some (.sh (.str (Txt.join x ys)),q.2)else none
 |_,_=>none
theorem Ab{o:Expr}{es:List Expr}{apos bQ:Pos}{mo:MX}{n:MA}(ho:aW X P o mo)(ha:wD X P (e::es) n)
  (gu:attributeBase o "join" X.env (eval o X.env)=eval o X.env:=by rfl)
  (rq:((backTo bQ (starEach (e::es) X.env)).all (fun x=>!x.1)&&(backToKw bQ (keywordEach [] X.env)).all (fun x=>x.1.isSome)
   && decide ((e::es).length+([]:List Keyword).length+(if([]:List Keyword).isEmpty then 0 else 1)<30))=true:=by rfl)
  (ir:(apos.endLine==bQ.line)=true:=by rfl) (hs:starEach (e::es) X.env=(false,eval e X.env)::starEach es X.env:=by rfl) (gX:(backTo bQ (starEach es X.env)).any (·.1)=false:=by rfl) :
  aW X P (.Call (.Attribute o "join" apos) (e::es) [] bQ) (oy mo n):=fun Γ r Γ' h=>by
 obtain⟨r1,Γ1,h1,h⟩:=cE h;obtain⟨ts,Γ2,h2,h⟩:=cE h;have h:∃x us ys,r1.tree=.str x/\ts=[.lst us]/\strsOf us=some ys/\(ys.map (·.length)).sum+ys.length*x.length<=16777216/\r=.sh (.str (Txt.join x ys))/\Γ'=Γ2:=by
  dsimp only at h;split at h
  ·rename_i x us hx
   cases hy:strsOf us with
   |none=>rw [hy]at h;cases h
   |some ys =>
    rw [hy]at h;dsimp only [Option.bind]at h;split at h
    ·rename_i hb
     cases h
     exact⟨x,us,ys,hx,rfl,hy,hb,rfl,rfl⟩
    ·cases h
  ·cases h
 obtain⟨x,us,ys,hx,rfl,hy,hb,rfl,rfl⟩:=h;refine(w6 PySem.F.plainAttrs_str PySem.F.slot_str_join PySem.F.type_str_join Ks (ho _ _ _ h1) (ha _ _ _ h2) gu rq ir hs gX).imp fun σ H Q ⟨Hs,S,k⟩=>⟨Hs,S,fun v H1 bJ e1 dr S1 f1=>?_⟩;have tb:=S1.uM f1;rw [hx]at tb
 cases(show v=V.str x from tb)
 refine⟨rfl,bJ,S1,fun vs H2 bX e2 fb S2 PR=>?_⟩
 cases PR with
 |cons q1 q2 =>
 cases q2
 obtain⟨a,xs,rfl,sq,rs⟩:=q1;rw [nV hy]at rs;have ex:=fX rs;subst ex;refine⟨x,a,ys,rfl,rfl,sq,hb,?_⟩;exact k _ _ bX (e1.trans e2) (dr.trans fb) S2 rfl
def LK:List T->Option R
 |[.int n]=>if n.natAbs.log2<1920 then some (.sh (.str (toString n)))else none
 |_=>none
theorem Kt:ki X cl (.type "str") LK:=by
 intro pins s σ H vs us Q I r ⟨Hs,ts,res,sm,h1,hg,k⟩;unfold LK at hg;split at hg
 ·rename_i n;split at hg
  ·rename_i hl
   cases hg
   obtain⟨v,rfl,e⟩:=lQ h1
   cases(show v=V.int n from e)
   obtain⟨u,rfl,ru⟩:=vals1 r;obtain⟨t,rfl⟩:=ru;exact P.str_of_int hl ⟨.str (toString n),H,I.tok _,⟨_,rfl⟩,k _ H (.val rfl)⟩
  ·cases hg
 ·cases hg
end
section
variable {X:Cx}{cl:Nat->Addr}
end
section
variable {X:Cx}{P:Fx}
def YU:MS:=fun _=>none
theorem G7{st:Stmt}:lY X P st YU:=gY fun Γ res h=>nomatch h
end
structure Eo where
 C:Addr
 r:Addr
 dx:Addr
 L:Addr
 ws:List Str
def Eo.obj(R:Eo)(p:Nat):HO:=.ins R.C R.dx [("things", .ref R.L),("lacking", .str ""),("place", .int p)]
structure RF where
 R:Eo
 H0:Hp
 S0:Hp
 cl:Nat->Addr
 F:Nat->Option V
 lst:H0 R.L=some (.lst (R.ws.map V.str))
 ne:R.L≠R.r
 s0:S0 R.r=none
abbrev RF.at(W:RF)(p:Nat):Fx:=⟨upd W.H0 W.R.r (W.R.obj p),W.S0,W.cl,W.F⟩
abbrev oX(X:Cx)(W:RF):KC:=⟨X.K,W.cl⟩
section
variable {K:KC}{W:RF}{p p':Nat}{Γ:G}{σ:St}{H H' Hs aM:Hp}
theorem az.rd(S:az K (W.at p) Γ σ H Hs):H W.R.r=some (W.R.obj p):=S.kept _ _ aE
theorem az.Ow(S:az K (W.at p) Γ σ H Hs):H W.R.L=some (.lst (W.R.ws.map V.str)):=S.kept _ _ (by show upd W.H0 W.R.r (W.R.obj p) W.R.L=_;rw [aw W.ne];exact W.lst)
theorem az.C1(S:az K (W.at p) Γ σ H Hs):Hs W.R.r=none:=by
 cases z:Hs W.R.r with
 |none=>rfl
 |some o =>
  rcases S.new _ o z with q|q
  ·have:=W.s0;rw [show W.S0 W.R.r=some o from q]at this
   cases this
  ·have e:upd W.H0 W.R.r (W.R.obj p) W.R.r=some (W.R.obj p):=aE;rw [show upd W.H0 W.R.r (W.R.obj p) W.R.r=none from q]at e
   cases e
theorem az.TN(S:az K (W.at p) Γ σ H Hs){i:Nat}{t:T}{a:Addr}(h:Γ[i]?=some (.own t))(ha:σ[i]?=some (some (.ref a))):a≠W.R.r:=by
 obtain⟨b,h1,h2,_⟩:=S.own i t h;rw [ha]at h1
 cases h1
 intro e;subst e;have e:upd W.H0 W.R.r (W.R.obj p) W.R.r=some (W.R.obj p):=aE;rw [show upd W.H0 W.R.r (W.R.obj p) W.R.r=none from h2]at e
 cases e
theorem same_self{a:Addr}{o:HO}(h:H a=some o):upd H a o=H:=by
 funext b;by_cases z:b=a
 ·rw [z,aE,h]
 ·rw [aw z]
theorem az.moved{Γ2:G}{σ2:St}{F2:Nat->Option V}(S:az K (W.at p) Γ σ H Hs)(e:ax Hs aM)(S2:az K ⟨upd H W.R.r (W.R.obj p'),Hs,W.cl,F2⟩ Γ2 σ2 H' aM):az K (W.at p') Γ σ H' aM where
 kept:=fun a o h=>by
  by_cases z:a=W.R.r
  ·subst z;have h:upd W.H0 W.R.r (W.R.obj p') W.R.r=some o:=h;rw [aE]at h;exact S2.kept _ _ (by show upd H W.R.r (W.R.obj p') W.R.r=_;rw [aE];exact h)
  ·have h:upd W.H0 W.R.r (W.R.obj p') a=some o:=h;rw [aw z]at h;refine S2.kept _ _ (by show upd H W.R.r (W.R.obj p') a=_;rw [aw z];exact S.kept _ _ (by show upd W.H0 W.R.r (W.R.obj p) a=_;rw [aw z];exact h))
 sub:=S2.sub
 new:=fun a o h=>by
  by_cases z:a=W.R.r
  ·subst z;rcases S2.new _ o h with q|q
   ·have:=S.C1;rw [show Hs W.R.r=some o from q]at this
    cases this
   ·have e:upd H W.R.r (W.R.obj p') W.R.r=some (W.R.obj p'):=aE;rw [show upd H W.R.r (W.R.obj p') W.R.r=none from q]at e
    cases e
  ·rcases S2.new a o h with q|q
   ·rcases S.new a o q with q|q
    ·exact .inl q
    ·refine .inr ?_;show upd W.H0 W.R.r (W.R.obj p') a=none;have q:upd W.H0 W.R.r (W.R.obj p) a=none:=q;rw [aw z]at q ⊢;exact q
   ·refine .inr ?_;show upd W.H0 W.R.r (W.R.obj p') a=none;have q:upd H W.R.r (W.R.obj p') a=none:=q;rw [aw z]at q ⊢;have:=S.kept.free q;have this:upd W.H0 W.R.r (W.R.obj p) a=none:=this;rw [aw z]at this;exact this
 fix:=S.fix
 sh:=fun i t h=>by
  obtain⟨v,h1,h2⟩:=S.sh i t h;exact⟨v,h1,cX e _ _ h2⟩
 own:=fun i t h=>by
  obtain⟨a,h1,h2,h3⟩:=S.own i t h;have z:=S.TN h h1;have h2:upd W.H0 W.R.r (W.R.obj p) a=none:=h2;refine⟨a,h1,?_,h3.mono (fun o q=>?_) e ?_⟩
  ·show upd W.H0 W.R.r (W.R.obj p') a=none;rw [aw z]at h2 ⊢;exact h2
  ·exact S2.kept _ _ (by show upd H W.R.r (W.R.obj p') a=_;rw [aw z];exact q)
  ·cases y:aM a with
   |none=>rfl
   |some o =>
    rcases S2.new a o y with q|q
    ·have q4:=h3.free;rw [show Hs a=some o from q]at q4
     cases q4
    ·obtain⟨o',ho,_⟩:=h3.there;have q:upd H W.R.r (W.R.obj p') a=none:=q;rw [aw z,ho]at q
     cases q
 apart:=S.apart
 len:=S.len
theorem iD.moved{Γ2:G}{σ2:St}{F2:Nat->Option V}{v:V}{r:R}(S:az K (W.at p) Γ σ H Hs)(hr:(∃t,r=.sh t)\/∃t,r=.own t)(f:iD K ⟨upd H W.R.r (W.R.obj p'),Hs,W.cl,F2⟩ Γ2 σ2 H' aM v r):iD K (W.at p') Γ σ H' aM v r:=by
 rcases hr with⟨t,rfl⟩|⟨t,rfl⟩
 ·exact f
 ·obtain⟨a,rfl,n,q,_⟩:=f;have n:upd H W.R.r (W.R.obj p') a=none:=n;have z:a≠W.R.r:=fun e=>by rw [e,aE]at n;cases n
  rw [aw z]at n;refine⟨a,rfl,?_,q,S.mz n⟩;show upd W.H0 W.R.r (W.R.obj p') a=none;have:=S.kept.free n;have this:upd W.H0 W.R.r (W.R.obj p) a=none:=this;rw [aw z]at this ⊢;exact this
end
abbrev RX:=List Str->Nat->G->Option (R×Nat×G)
abbrev RT:=List Str->Nat->G->Option (Bool×Nat×G)
abbrev RS:=List Str->Nat->G->Option (Nat×Res)
def rdX(K:KC)(W:RF)(p:Nat)(Γ:G)(r:R)(p':Nat)(Γ':G):TE:=fun σ H Q=>∃Hs,az K (W.at p) Γ σ H Hs/\∀v H' aM,ax Hs aM->az K (W.at p') Γ' σ H' aM->iD K (W.at p') Γ' σ H' aM v r->Q v H'
def T7(K:KC)(W:RF)(p:Nat)(Γ:G)(b:Bool)(p':Nat)(Γ':G):TT:=fun σ H Q=>∃Hs,az K (W.at p) Γ σ H Hs/\∀H' aM,ax Hs aM->az K (W.at p') Γ' σ H' aM->Q b H'
def T8(K:KC)(W:RF)(p:Nat)(Γ:G)(p':Nat)(res:Res):TS:=fun D σ H=>∃Hs,az K (W.at p) Γ σ H Hs/\∀σ' H' aM,ax Hs aM->M8 K (W.at p') D σ' H' aM res
def ko(X:Cx)(W:RF)(e:Expr)(m:RX):Prop:=∀p Γ r p' Γ',m W.R.ws p Γ=some (r,p',Γ')->PE X e (rdX (oX X W) W p Γ r p' Γ')
def sM(X:Cx)(W:RF)(e:Expr)(m:RT):Prop:=∀p Γ b p' Γ',m W.R.ws p Γ=some (b,p',Γ')->PT X e (T7 (oX X W) W p Γ b p' Γ')
def wG(X:Cx)(W:RF)(e:Stmt)(m:RS):Prop:=∀p Γ p' res,m W.R.ws p Γ=some (p',res)->PS X e (T8 (oX X W) W p Γ p' res)
def sN(X:Cx)(W:RF)(e:List Stmt)(m:RS):Prop:=∀p Γ p' res,m W.R.ws p Γ=some (p',res)->pV X e (T8 (oX X W) W p Γ p' res)
section
variable {X:Cx}{W:RF}{a b c e:Expr}{es:List Expr}{pos pos':Pos}{st:Stmt}{rest:List Stmt}
def xP(m:MX):RX:=fun _ p Γ=>(m Γ).map fun q=>(q.1,p,q.2)
theorem qm{m:MX}(h:∀p,aW X (W.at p) e m):ko X W e (xP m):=fun p Γ r p' Γ' hm=>by
 obtain⟨q,h1,h2⟩:=iE hm
 cases h2
 exact(h p _ _ _ h1).imp fun σ H Q ⟨Hs,S,k⟩=>⟨Hs,S,fun v H' aM _ e' S' f=>k v H' aM e' S' f⟩
def xQ(m:List Str->Nat->MX):RX:=fun ws p Γ=>(m ws p Γ).map fun q=>(q.1,p,q.2)
theorem LL{m:List Str->Nat->MX}(h:∀p,aW X (W.at p) e (m W.R.ws p)):ko X W e (xQ m):=fun p Γ r p' Γ' hm=>by
 obtain⟨q,h1,h2⟩:=iE hm
 cases h2
 exact(h p _ _ _ h1).imp fun σ H Q ⟨Hs,S,k⟩=>⟨Hs,S,fun v H' aM _ e' S' f=>k v H' aM e' S' f⟩
def tP(m:MT):RT:=fun _ p Γ=>(m Γ).map fun q=>(q.1,p,q.2)
theorem eI{m:MT}(h:∀p,oN X (W.at p) e m):sM X W e (tP m):=fun p Γ r p' Γ' hm=>by
 obtain⟨q,h1,h2⟩:=iE hm
 cases h2
 exact(h p _ _ _ h1).imp fun σ H Q ⟨Hs,S,k⟩=>⟨Hs,S,fun H' aM _ e' S'=>k H' aM e' S'⟩
def tX(m:RX):RT:=fun ws p Γ=>(m ws p Γ).bind fun q=>match q.1 with
 |.sh (.bl k)=>some (k,q.2)
 |_=>none
theorem yz{m:RX}(h:ko X W e m)(he:∀whole,isTrue e X.env whole=(do let v<-whole;standAt e.pos;holding [v] (truthy v)):=by intro _;rfl):sM X W e (tX m):=fun p Γ b p' Γ' hm=>by
 obtain⟨r,q,h1,h2⟩:=cE hm;dsimp only at h2;split at h2
 ·rename_i k
  cases h2
  exact(Fu (h _ _ _ _ _ h1) he).imp fun σ H Q ⟨Hs,S,k'⟩=>⟨Hs,S,fun v H' aM e' S' f=>⟨_,f,k' H' aM e' S'⟩⟩
 ·cases h2
def tN(m:RT):RT:=fun ws p Γ=>(m ws p Γ).map fun q=>(!q.1,q.2)
theorem Dr{m:RT}(h:sM X W a m):sM X W (.UnaryOp .Not a pos) (tN m):=fun p Γ b p' Γ' hm=>by
 obtain⟨q,h1,h2⟩:=iE hm;obtain⟨q1,q2,q3⟩:=q
 cases h2
 exact(Fw (h _ _ _ _ _ h1)).imp fun σ H Q ⟨Hs,S,k'⟩=>⟨Hs,S,k'⟩
def G8(g:T->T->Option R)(ma:MX)(mb:RX):RX:=fun ws p Γ=>(ma Γ).bind fun q=>match q.1 with
 |.sh t=>(mb ws p q.2).bind fun z=>(g t z.1.tree).map fun r=>(r,z.2)
 |_=>none
theorem G9{op:Operator}{g:T->T->Option R}{ma:MX}{mb:RX}(ho:kd X W.cl (binaryOp op) g)(ha:∀p,aW X (W.at p) a ma)(hb:ko X W b mb):ko X W (.BinOp a op b pos) (G8 g ma mb):=fun p Γ r p' Γ' hm=>by
 obtain⟨r1,Γ1,h1,hm⟩:=cE hm;dsimp only at hm;split at hm
 ·rename_i t;obtain⟨r2,z,h2,hm⟩:=cE hm;obtain⟨r3,h3,hm⟩:=iE hm
  cases hm
  refine(CM ho (ha p _ _ _ h1) (hb _ _ _ _ _ h2)).imp fun σ H Q ⟨Hs,S,k⟩=>⟨Hs,S,fun v H1 bJ e1 dr S1 f1=>⟨bJ,S1,fun w H2 bX fb S2 f2=>⟨bX,t,r2.tree,_,S2.sub,wC.of S2.sub (cX fb _ _ f1),S2.uM f2,h3,fun y H3 o=>?_⟩⟩⟩;obtain⟨jI,e3,tK,S3,f3⟩:=o.fin S2;exact k y H3 jI (dr.trans (fb.trans tK)) S3 f3
 ·cases hm
def Ds(g:List T->Option R)(m:RX):RX:=fun ws p Γ=>(m ws p Γ).bind fun z=>(g [z.1.tree]).map fun r=>(r,z.2)
theorem Ep{x:Str}{p0:Pos}{T':String}{g:List T->Option R}{m:RX}(hc:ki X W.cl (.type T') g)(hg:Gl X x)(hm:X.mg x=none)(hv:bootBuiltins x=some (.type T'))(ha:ko X W e m)(hn:x ≠ "__name__" := by decide)(kJ:(x==("__debug__" : Str))=false:=by decide)
  (he:starEach [e] X.env=[(false,eval e X.env)]:=by rfl) (jV:(backTo pos (starEach [] X.env)).any (·.1)=false:=by rfl):ko X W (.Call (.Name x p0) [e] [] pos) (Ds g m):=fun p Γ r p' Γ' h=>by
 obtain⟨r1,z,h1,h⟩:=cE h;obtain⟨r2,h2,h⟩:=iE h
 cases h
 refine(nO hc hg hm hv (bE (ha _ _ _ _ _ h1) d0 he) hn kJ he jV).imp fun σ H Q ⟨Hs,S,k⟩=>⟨Hs,S,fun v H1 bJ dr S1 f1=>?_⟩;refine⟨bJ,[r1.tree],_,S1.sub,.cons (S1.uM f1) .nil,h2,fun y H3 o=>?_⟩;obtain⟨jI,e3,tK,S3,f3⟩:=o.fin S1;exact k y H3 jI (dr.trans tK) S3 f3
def IZ:RS:=fun _ _ _=>none
theorem Ha:wG X W st IZ:=fun p Γ p' res h=>nomatch h
def lS:RS:=fun _ p Γ=>some (p,.nx Γ)
theorem jM:sN X W [] lS:=fun p Γ p' res h=>by
 cases h
 exact xX.imp fun D σ H ⟨Hs,S,k⟩=>k σ H Hs (ax.refl _) S
def kS(m n:RS):RS:=fun ws p Γ=>(m ws p Γ).bind fun q=>match q.2 with
 |.nx Γ1=>n ws q.1 Γ1
 |r=>some (q.1,r)
theorem eZ{m:RS}(h:wG X W st m):sN X W [st] m:=fun p Γ p' res hm=>kI (h _ _ _ _ hm)
theorem fh{m n:RS}(h1:wG X W st m)(h2:sN X W rest n):sN X W (st::rest) (kS m n):=fun p Γ p' res h=>by
 obtain⟨p1,r1,q1,h⟩:=cE h;dsimp only at h
 cases r1 with
 |nx Γ1 =>
  refine(ed (h1 _ _ _ _ q1) (h2 _ _ _ _ h)).imp fun D σ H ⟨Hs,S,k⟩=>⟨Hs,S,fun σ' H' aM e S'=>⟨aM,S',fun σ2 H2 bX e2=>k σ2 H2 bX (e.trans e2)⟩⟩
 |rt r Γ1 =>
  cases h
  exact(ed (h1 _ _ _ _ q1) eK).imp fun D σ H ⟨Hs,S,k⟩=>⟨Hs,S,fun σ' H' aM e=>k σ' H' aM e⟩
 |bk Γ1 =>
  cases h
  exact(ed (h1 _ _ _ _ q1) eK).imp fun D σ H ⟨Hs,S,k⟩=>⟨Hs,S,fun σ' H' aM e=>k σ' H' aM e⟩
 |ct Γ1 =>
  cases h
  exact(ed (h1 _ _ _ _ q1) eK).imp fun D σ H ⟨Hs,S,k⟩=>⟨Hs,S,fun σ' H' aM e=>k σ' H' aM e⟩
def mM(i:Nat)(m:RX):RS:=fun ws p Γ=>(m ws p Γ).bind fun q=>match q.1 with
 |.sh t=>some (q.2.1,.nx (q.2.2.set i (.sh t)))
 |.own t=>some (q.2.1,.nx (q.2.2.set i (.own t)))
 |.bor _ _=>none
theorem j0{i:Nat}{x:Str}{m:RX}(hN:X.N.Nodup)(hi:X.N[i]?=some x)(hx:Loc X.env.scope x)(hF:W.F i=none)(he:ko X W e m)(hs:swapsWith e (some (.Name x pos')) pos.line X.env=pure false:=by rfl)(hf:X.fn x=true\/X.env.scope.names.lookup x=some .local:=by first|exact .inl rfl|exact .inr rfl|assumption):
  wG X W (.Assign [.Name x pos'] e pos) (mM i m):=fun p Γ p' res h=>by
 obtain⟨r,q,h1,h⟩:=cE h;obtain⟨p1,Γ1⟩:=q;dsimp only at h;refine(mv hN hi hx (he _ _ _ _ _ h1) hs hf).imp fun D σ H ⟨Hs,S,k⟩=>⟨Hs,S,fun v H1 bJ dr S1 f1=>?_⟩;show D.nx (σ.set i (some v)) H1
 cases r with
 |sh t =>
  cases h
  exact k _ H1 bJ dr (S1.xa hF f1)
 |own t =>
  cases h
  exact k _ H1 bJ dr (S1.BJ hF f1)
 |bor j t=>cases h
def kT(m:RX):RS:=fun ws p Γ=>(m ws p Γ).bind fun q=>match q.1 with
 |.bor _ _=>none
 |r=>some (q.2.1,.rt r q.2.2)
theorem j3{m:RX}(he:ko X W e m):wG X W (.Return (some e) pos) (kT m):=fun p Γ p' res h=>by
 obtain⟨r,q,h1,h⟩:=cE h;obtain⟨p1,Γ1⟩:=q;dsimp only at h;refine(xY (he _ _ _ _ _ h1)).imp fun D σ H ⟨Hs,S,k⟩=>⟨Hs,S,fun v H1 bJ dr S1 f1=>?_⟩
 cases r with
 |sh t =>
  cases h
  exact k σ H1 bJ dr v S1 f1
 |own t =>
  cases h
  exact k σ H1 bJ dr v S1 f1
 |bor j t=>cases h
def Hb(m:RX):RS:=fun ws p Γ=>(m ws p Γ).map fun q=>(q.2.1,.nx q.2.2)
theorem Ku{m:RX}(he:ko X W e m)(hs:swapsWith e none pos.line X.env=pure false:=by rfl):wG X W (.Expr e pos) (Hb m):=fun p Γ p' res h=>by
 obtain⟨q,h1,h⟩:=iE h;obtain⟨r,p1,Γ1⟩:=q
 cases h
 exact(nM (he _ _ _ _ _ h1) hs).imp fun D σ H ⟨Hs,S,k⟩=>⟨Hs,S,fun v H1 bJ dr S1 f1=>k σ H1 bJ dr S1⟩
def A8(c:RT)(m n:RS):RS:=fun ws p Γ=>(c ws p Γ).bind fun q=>if q.1=true then m ws q.2.1 q.2.2 else n ws q.2.1 q.2.2
theorem sO{t:RT}{m n:RS}{x y:List Stmt}(hc:sM X W c t)(ha:sN X W x m)(hb:sN X W y n):wG X W (.If c x y pos) (A8 t m n):=fun p Γ p' res h=>by
 obtain⟨k,q,h1,h⟩:=cE h;obtain⟨p1,Γ1⟩:=q
 cases k with
 |true =>
  have h:m W.R.ws p1 Γ1=some (p',res):=h;refine(wU (hc _ _ _ _ _ h1) (ha _ _ _ _ h) eK).imp fun D σ H ⟨Hs,S,k'⟩=>⟨Hs,S,fun H1 bJ e' S1=>?_⟩;refine rA ?_;exact⟨bJ,S1,fun σ2 H2 bX e2=>k' σ2 H2 bX (e'.trans e2)⟩
 |false =>
  have h:n W.R.ws p1 Γ1=some (p',res):=h;refine(wU (hc _ _ _ _ _ h1) eK (hb _ _ _ _ h)).imp fun D σ H ⟨Hs,S,k'⟩=>⟨Hs,S,fun H1 bJ e' S1=>?_⟩;refine uI ?_;exact⟨bJ,S1,fun σ2 H2 bX e2=>k' σ2 H2 bX (e'.trans e2)⟩
def Rv(c:RT)(m n:RX):RX:=fun ws p Γ=>(c ws p Γ).bind fun q=>if q.1=true then m ws q.2.1 q.2.2 else n ws q.2.1 q.2.2
theorem P7{t:RT}{m n:RX}(hc:sM X W c t)(ha:ko X W a m)(hb:ko X W b n):ko X W (.IfExp c a b pos) (Rv t m n):=fun p Γ r p' Γ' h=>by
 obtain⟨k,q,h1,h⟩:=cE h;obtain⟨p1,Γ1⟩:=q
 cases k with
 |true =>
  have h:m W.R.ws p1 Γ1=some (r,p',Γ'):=h;refine(mr (hc _ _ _ _ _ h1) (ha _ _ _ _ _ h) gz).imp fun σ H Q ⟨Hs,S,k'⟩=>⟨Hs,S,fun H1 bJ e' S1=>?_⟩;refine rA ?_;exact⟨bJ,S1,fun w H2 bX fb S2 f2=>k' w H2 bX (e'.trans fb) S2 f2⟩
 |false =>
  have h:n W.R.ws p1 Γ1=some (r,p',Γ'):=h;refine(mr (hc _ _ _ _ _ h1) gz (hb _ _ _ _ _ h)).imp fun σ H Q ⟨Hs,S,k'⟩=>⟨Hs,S,fun H1 bJ e' S1=>?_⟩;refine uI ?_;exact⟨bJ,S1,fun w H2 bX fb S2 f2=>k' w H2 bX (e'.trans fb) S2 f2⟩
end
abbrev yA:=List Str->Nat->G->Option (R×Nat×G)
def A9(K:KC)(C:Addr)(np:Nat)(cf:yA):Sp:=fun vs H Q _=>vs.length=np/\∃(R:Eo) (H0 Hs:Hp) (as:G) (r:M.R) (p p':Nat) (Γ':G),R.C=C/\H0 R.L=some (.lst (R.ws.map V.str))/\R.L≠R.r/\Hs R.r=none/\vs[0]?=some (.ref R.r)/\cf R.ws p as=some (r,p',Γ') /\
 az K ⟨upd H0 R.r (R.obj p),Hs,K.cl,ud⟩ as (vs.map some) H Hs/\∀v H' aM,ax Hs aM->az K ⟨upd H0 R.r (R.obj p'),Hs,K.cl,ud⟩ (Γ'.take np) (vs.map some) H' aM->iD K ⟨upd H0 R.r (R.obj p'),Hs,K.cl,ud⟩ (Γ'.take np) (vs.map some) H' aM v r->Q v H'
def rH(n:Nat)(m:RS):yA:=fun ws p as=>match m ws p (as++List.replicate (n-as.length) Slot.no)with
 |some (p',.nx Γ)=>some (.sh .cQ,p',Γ)
 |some (p',.rt (.sh t) Γ)=>some (.sh t,p',Γ)
 |some (p',.rt (.own t) Γ)=>some (.own t,p',Γ)
 |_=>none
theorem Kv{n:Nat}{m:RS}{ws:List Str}{p p':Nat}{as Γ:G}{r:R}(h:rH n m ws p as=some (r,p',Γ)):(m ws p (as++List.replicate (n-as.length) Slot.no)=some (p',.nx Γ)/\r=.sh .cQ)\/(m ws p (as++List.replicate (n-as.length) Slot.no)=some (p',.rt r Γ)/\((∃t,r=.sh t)\/∃t,r=.own t)):=by
 unfold rH at h;split at h
 ·rename_i q
  cases h
  exact .inl ⟨q,rfl⟩
 ·rename_i q
  cases h
  exact .inr ⟨q,.inl ⟨_,rfl⟩⟩
 ·rename_i q
  cases h
  exact .inr ⟨q,.inr ⟨_,rfl⟩⟩
 ·cases h
section
variable {Pr:Program}{w:World}{K:PySem.W.Frag}{mg:Str->Option Value}{base:Heap}
theorem Ac{cl:Nat->Addr}{x qual:Str}{st:Stmt}{f C:Addr}{fd:FuncData}{N ps:List Str}{k n np:Nat}{m:RS}(F:jW K x qual st f fd)(Sc:aN N ps (ai st))(hn:N.length=n)(hp:ps.length=np)
  (hb:∀(cW:Value)(A:Around)(outer:List Env)(s:Shared)(H:Hp)(E:XK)(W:RF),W.cl=cl->W.R.C=C->W.F 0=some (.ref W.R.r)->(∀i,np<=i->W.F i=none)->dP k (A.deeper (envOfC qual (ai st) s.heap.objs.size f cW)) ->
   sN (lX gU Pr w K mg base N qual (ai st) f cW A outer s H E).Ff W (aH st) m) :
  bc Pr w K mg base gU (k+1) f fd ps (A9 ⟨K,cl⟩ C np (rH n m)):=by
 subst hn hp;refine F.ok Sc (fun vs H Q E h=>h.1) (fun cW A outer s H vs Q E hr h=>?_);obtain⟨hl,R,H0,Hs,as,r,p,p',Γ',hC,hL,zj,T9,Ua,hc,S,kq⟩:=h;have jV:ps.length<=N.length:=by
  have:=congrArg List.length Sc.pre;rw [length_take]at this;omega
 have hv:∀i,ps.length<=i->p9 vs i=none:=fun i hi=>by
  unfold p9;rw [List.getElem?_eq_none_iff];omega
 have S0:=je (N:=N) S;have B:=hb cW A outer s H E ⟨R,H0,Hs,cl,p9 vs,hL,zj,T9⟩ rfl hC Ua hv hr;rcases Kv hc with⟨hm,rfl⟩|⟨hm,zO⟩
 ·refine⟨_,B _ _ _ _ hm,Hs,S0,fun σ' H' aM e S'=>?_⟩;refine kq _ H' aM e ?_ rfl;rw [<-hl];exact qb S'
 ·refine⟨_,B _ _ _ _ hm,Hs,S0,fun σ' H' aM e v S' f=>?_⟩;have S2:=qb S';rw [hl]at S2;refine kq v H' aM e S2 ?_;rcases zO with⟨t,rfl⟩|⟨t,rfl⟩
  ·exact f
  ·obtain⟨a,rfl,n,q,no⟩:=f;refine⟨a,rfl,n,q,fun i u hi=>?_⟩;have Tz:i<vs.length:=by
    have:=(List.getElem?_eq_some_iff.mp hi).1;rw [length_take]at this;omega
   rw [List.getElem?_take_of_lt (by omega)]at hi;have e:vs[i]?=some vs[i]:=by simp [Tz]
   have e2:=S'.fix i vs[i] e;rw [getElem?_map,e];have e3:=no i u hi;rw [e2]at e3;exact e3
end
theorem vc{K:KC}{R:Eo}{p:Nat}{H Hs:Hp}{vs:List V}{ts:List T}(s:ax Hs H)(hr:H R.r=some (R.obj p))(r:iu K Hs vs ts):az K ⟨upd H R.r (R.obj p),Hs,K.cl,ud⟩ (.no::ts.map Slot.sh) ((V.ref R.r::vs).map some) H Hs:=by
 rw [same_self hr];have S:=nR s r;refine{kept:=S.kept,sub:=S.sub,new:=S.new,fix:=(fun i v h=>nomatch h),sh:=fun i t h=>?_,own:=fun i t h=>?_,apart:=fun i j t u a n h1 h2=>?_,len:=by rw [length_cons,S.len];rfl}
 ·cases i with
  |zero=>cases h
  |succ i=>exact S.sh i t h
 ·cases i with
  |zero=>cases h
  |succ i=>exact S.own i t h
 ·cases i with
  |zero=>cases h1
  |succ i =>
   cases j with
   |zero=>cases h2
   |succ j=>exact S.apart i j t u a (fun e=>n (by rw [e])) h1 h2
section
variable {X:Cx}{W:RF}{e:Expr}{es:List Expr}{pos apos:Pos}{x m:Str}{p0:Pos}{k np j:Nat}{f:Addr}{fd:FuncData}{ps:List Str}{cf:yA}{n:MA}
theorem Hc{K:KC}(fm:K.cl=W.cl){p p':Nat}{Γ Γ2:G}{σ:St}{H Hs:Hp}{vs:List V}{ts:List T}{r:R}{Q:VK}{E:XK}(hl:ts.length+1=np)(hc:cf W.R.ws p (.no::ts.map Slot.sh)=some (r,p',Γ2))(hr:(∃t,r=.sh t)\/∃t,r=.own t)(S:az K (W.at p) Γ σ H Hs)(tr:iu K Hs vs ts)
  (k:∀v H' aM,ax Hs aM->az K (W.at p') Γ σ H' aM->iD K (W.at p') Γ σ H' aM v r->Q v H'):A9 K W.R.C np cf (.ref W.R.r::vs) H Q E:=by
 refine⟨by rw [length_cons,aF tr,hl],W.R,H,Hs,_,r,p,p',Γ2,rfl,S.Ow,W.ne,S.C1,rfl,hc,vc S.sub S.rd tr,fun v H' aM e S2 f2=>?_⟩;rw [fm]at S2 f2;exact k v H' aM e (S.moved e S2) (iD.moved S hr f2)
def aR(np:Nat)(cf:yA)(n:MA):RX:=fun ws p Γ=>(n Γ).bind fun q=>if q.1.length+1=np then match cf ws p (.no::q.1.map Slot.sh)with
 |some (.sh t,p',_)=>some (.sh t,p',q.2)
 |some (.own t,p',_)=>some (.own t,p',q.2)
 |_=>none else none
theorem vd{ws:List Str}{p p':Nat}{Γ Γ':G}{r:R}(h:aR np cf n ws p Γ=some (r,p',Γ')):∃ts Γ2,n Γ=some (ts,Γ')/\ts.length+1=np/\cf ws p (.no::ts.map Slot.sh)=some (r,p',Γ2)/\((∃t,r=.sh t)\/∃t,r=.own t):=by
 obtain⟨ts,Γ1,h1,h⟩:=cE h;dsimp only at h;split at h
 ·rename_i hl;split at h
  ·rename_i t p2 Γ2 q
   cases h
   exact⟨ts,Γ2,h1,hl,q,.inl ⟨t,rfl⟩⟩
  ·rename_i t p2 Γ2 q
   cases h
   exact⟨ts,Γ2,h1,hl,q,.inr ⟨t,rfl⟩⟩
  ·cases h
 ·cases h
theorem ia(F:bc X.prog X.w X.K X.mg X.base gU k f fd ps (A9 (oX X W) W.R.C np cf))(hr:dP k X.A)(hg:Gl X x)(hm:X.mg x=some (.ref f))(hk:keepIn X.K (.ref f)=true)(hb:Binds X.K fd ps [])(hj:W.F j=some (.ref W.R.r))(hv:PE X e (gq j))
  (ha:∀p,yi X (W.at p) es n) (kJ:(x==("__debug__" : Str))=false:=by decide) (he:starEach (e::es) X.env=(false,eval e X.env)::starEach es X.env:=by rfl) (jV:(backTo pos (starEach es X.env)).any (·.1)=false:=by rfl) :
  ko X W (.Call (.Name x p0) (e::es) [] pos) (aR np cf n):=fun p Γ r p' Γ' h=>by
 obtain⟨ts,Γ2,h1,hl,h2,zO⟩:=vd h;refine(nN (dvs:=[]) (E:=E0) F hr hg hm hk hb .nil uH (bE hv (ha p _ _ _ h1) he) kJ he jV).imp fun σ H Q ⟨Hs,S,k⟩=>?_;refine⟨_,S.fix _ _ hj,Hs,S,fun vs H1 bJ e1 dr S1 f1=>?_⟩;show A9 (oX X W) W.R.C np cf ((.ref W.R.r::vs)++[]) H1 Q E0;rw [append_nil];exact Hc rfl hl h2 zO S1 f1 fun v H' aM e S' f'=>k v H' aM (dr.trans e) S' f'
theorem iV{pl:Sem Bool}(c:FI X.K W.R.C)(hm:Meth X.K W.R.C m f)(F:bc X.prog X.w X.K X.mg X.base gU k f fd ps (A9 (oX X W) W.R.C 1 cf))(hr:dP k X.A)(hb:Binds X.K fd ps [])(hj:W.F j=some (.ref W.R.r))(hv:PE X e (gq j))(Ub:∀(a b c:V),([("things", a),("lacking", b),("place", c)]:List (Str×V)).lookup m=none)
  (ht:eval (.Call (.Attribute e m apos) [] [] pos) X.env=(do
   let ov<-eval e X.env
   standAt apos.atName
   let(f,first)<-holding [ov] (getMethod ov m pl)
   callWith pos f first (backTo pos (starEach [] X.env)) (backToKw pos (keywordEach [] X.env))):=by rfl) :
  ko X W (.Call (.Attribute e m apos) [] [] pos) (aR 1 cf aD):=fun p Γ r p' Γ' h=>by
 obtain⟨ts,Γ2,h1,hl,h2,zO⟩:=vd h
 cases h1
 refine(FK (dvs:=[]) (E:=E0) hv c hm F hr hb .nil uH ht).imp fun σ H Q ⟨Hs,S,k⟩=>?_;refine⟨_,S.fix _ _ hj,_,_,_,rfl,S.rd,Ub _ _ _,?_⟩;exact Hc (E:=E0) rfl hl h2 zO S cu fun v H' aM e S' f'=>k v H' aM e S' f'
end
structure NH(K:PySem.W.Frag)(C:Addr):Prop where
 cls:FI K C
 n1:jU K C "things"
 n2:jU K C "lacking"
 n3:jU K C "place"
section
variable {X:Cx}{W:RF}{p j:Nat}{e e' o i:Expr}{pos pos' p2:Pos}
theorem P8(R:Eo)(p:Nat):(List.lookup ("things" : Str) [("things", V.ref R.L),("lacking", .str ""),("place", .int p)])=some (.ref R.L):=rfl
theorem Uc(R:Eo)(p:Nat):(List.lookup ("lacking" : Str) [("things", V.ref R.L),("lacking", .str ""),("place", .int p)])=some (.str ""):=rfl
theorem NI(R:Eo)(p:Nat):(List.lookup ("place" : Str) [("things", V.ref R.L),("lacking", .str ""),("place", .int p)])=some (.int p):=rfl
theorem Er(c:NH X.K W.R.C)(hj:W.F j=some (.ref W.R.r))(hv:PE X e (gq j))(hb:attributeBase e "place" X.env (eval e X.env)=eval e X.env:=by rfl):aW X (W.at p) (.Attribute e "place" pos) (mC (.int p)):=fun Γ r Γ' h=>by
 cases h
 exact(uC hv hb).imp fun σ H Q ⟨Hs,S,k⟩=>⟨_,S.fix _ _ hj,_,_,_,_,_,rfl,S.rd,c.cls,c.n3,NI _ _,k _ H Hs (ax.refl _) (ax.refl _) S rfl⟩
theorem Ae(c:NH X.K W.R.C)(hj:W.F j=some (.ref W.R.r))(hv:PE X e (gq j))(hb:attributeBase e "lacking" X.env (eval e X.env)=eval e X.env:=by rfl):aW X (W.at p) (.Attribute e "lacking" pos) (mC (.str "")):=fun Γ r Γ' h=>by
 cases h
 exact(uC hv hb).imp fun σ H Q ⟨Hs,S,k⟩=>⟨_,S.fix _ _ hj,_,_,_,_,_,rfl,S.rd,c.cls,c.n2,Uc _ _,k _ H Hs (ax.refl _) (ax.refl _) S rfl⟩
theorem BV(c:NH X.K W.R.C)(hj:W.F j=some (.ref W.R.r))(hv:PE X e (gq j))(hb:attributeBase e "things" X.env (eval e X.env)=eval e X.env:=by rfl)(hs:starEach [.Attribute e "things" pos] X.env=[(false,eval (.Attribute e "things" pos) X.env)]:=by rfl):
  wD X (W.at p) [.Attribute e "things" pos] (fun Γ=>some ([.lst (W.R.ws.map T.str)],Γ)):=fun Γ r Γ' h=>by
 cases h
 exact(bE (uC hv hb) d0 hs).imp fun σ H Q ⟨Hs,S,k⟩=>⟨_,S.fix _ _ hj,_,_,_,_,_,rfl,S.rd,c.cls,c.n1,P8 _ _,k _ H Hs (ax.refl _) (ax.refl _) S (.cons ⟨_,_,rfl,lM.of S.Ow,mL _⟩ .nil)⟩
def Ud(ws:List Str)(p:Nat):MX:=fun Γ=>(ws[p]?).map fun x=>(.sh (.str x),Γ)
theorem kK{α:Type}(l:List α)(p:Nat):lN l (p:Int)=l[p]?:=by
 unfold lN BA;rw [if_pos (Int.natCast_nonneg p)];by_cases h:p<l.length
 ·rw [if_pos (Int.ofNat_lt.mpr h)];rfl
 ·rw [if_neg (fun z=>h (Int.ofNat_lt.mp z)),List.getElem?_eq_none (le_of_not_lt h)];rfl
theorem Hd(c:NH X.K W.R.C)(hj:W.F j=some (.ref W.R.r))(hv:PE X e (gq j))(SF:PE X e' (gq j))(hb:attributeBase e "things" X.env (eval e X.env)=eval e X.env:=by rfl)(He:attributeBase e' "place" X.env (eval e' X.env)=eval e' X.env:=by rfl)(hs:tZ (.Attribute e' "place" pos'):=by intro _ _;rfl):
  aW X (W.at p) (.Subscript (.Attribute e "things" pos) (.Attribute e' "place" pos') p2) (Ud W.R.ws p):=fun Γ r Γ' h=>by
 obtain⟨x,hx,h⟩:=iE h
 cases h
 refine(FT (TM (cl:=W.cl)) (uC hv hb) (uC SF He) hs).imp fun σ H Q ⟨Hs,S,k⟩=>⟨_,S.fix _ _ hj,_,_,_,_,_,rfl,S.rd,c.cls,c.n1,P8 _ _,_,S.fix _ _ hj,_,_,_,_,_,rfl,S.rd,c.cls,c.n3,NI _ _,?_⟩;refine⟨Hs,.lst (W.R.ws.map T.str),.int p,.sh (.str x),S.sub,⟨_,_,rfl,lM.of S.Ow,mL _⟩,rfl,?_,fun v H' o=>?_⟩
 ·show(lN (W.R.ws.map T.str) (p:Int)).map R.sh=_;rw [kK,getElem?_map,hx];rfl
 ·obtain⟨bX,e2,fb,S2,f2⟩:=o.fin S;exact k v H' bX e2 fb S2 f2
theorem Hf{K:KC}{Γ:G}{σ:St}{H Hs:Hp}{p p':Nat}(S:az K (W.at p) Γ σ H Hs):az K (W.at p') Γ σ (upd H W.R.r (W.R.obj p')) Hs:=by
 refine S.moved (Γ2:=[]) (σ2:=[]) (F2:=ud) (ax.refl _) ⟨ax.refl _,fun a o h=>?_,fun a o h=>.inl h,(fun i v h=>nomatch h),(fun i t h=>by simp at h),(fun i t h=>by simp at h),(fun i j t u a _ h=>by simp at h),rfl⟩;have z:a≠W.R.r:=fun e=>by rw [e,S.C1]at h;cases h
 rw [aw z];exact S.sub a o h
def Dt:RS:=fun _ p Γ=>some (p+1,.nx Γ)
theorem Kw{k:Nat}{c1:Pos}(c:NH X.K W.R.C)(hj:W.F j=some (.ref W.R.r))(hv:PE X e (gq j)):wG X W (.AugAssign (.Attribute e "place" pos') .Add (.Constant (.int 1) k c1) pos) Dt:=fun p Γ p' res h=>by
 cases h
 refine(D3 hv Bm MH).imp fun D σ H ⟨Hs,S,q⟩=>⟨_,S.fix _ _ hj,_,_,_,_,_,rfl,S.rd,c.cls,c.n3,NI _ _,_,_,rfl,rfl,_,_,S.rd,(by show 3<1000;decide),?_⟩;exact q σ _ Hs (ax.refl _) (Hf S)
end
def YV(K:KC)(C:Addr):Sp:=fun vs H Q _=>∃(x dx a:Addr) (ws:List Str),vs=[.ref x,.ref a,.str ""]/\H x=some (.ins C dx [])/\H a=some (.lst (ws.map V.str)) /\
 ∀(L:Addr)(H':Hp),H L=none->H' x=some ((⟨C,x,dx,L,ws⟩:Eo).obj 0)->H' L=some (.lst (ws.map V.str))->(∀b o,b≠x->H b=some o->H' b=some o)->Q .cQ H'
section
variable {X:Cx}{e0 e1 e2 e3 e4:Expr}{es:List Expr}{pos q0 q1 q2 q3 q4 q5 q6 q7:Pos}
theorem Hg{cl:Nat->Addr}{C:Addr}{k:Nat}(c:NH X.K C)(v0:PE X e0 (gq 0))(v0':PE X e2 (gq 0))(Ue:PE X e4 (gq 0))(v1:PE X e1 (gq 1))(v2:PE X e3 (gq 2))(hg:Gl X "list")(hm:X.mg "list" = none)
  (h1:starEach [e1] X.env=[(false,eval e1 X.env)]:=by rfl) (jV:(backTo q0 (starEach [] X.env)).any (·.1)=false:=by rfl)
  (s1:swapsWith (.Call (.Name "list" q7) [e1] [] q0) (some (.Attribute e0 "things" q1)) q2.line X.env=pure false:=by rfl) (s2:swapsWith e3 (some (.Attribute e2 "lacking" q3)) q4.line X.env=pure false:=by rfl) (s3:swapsWith (.Constant (.int 0) k q5) (some (.Attribute e4 "place" pos)) q6.line X.env=pure false:=by rfl)
  {vs:List V} {H:Hp} {Q:VK} {E:XK} {σ:St} {D:Ends} (hD:∀σ' H',Q .cQ H'->D.nx σ' H') (g0:∀(i:Nat)(v:V),vs[i]?=some v->σ[i]?=some (some v)) (h:YV ⟨X.K,cl⟩ C vs H Q E) :
  ∃t,pV X [.Assign [.Attribute e0 "things" q1] (.Call (.Name "list" q7) [e1] [] q0) q2,.Assign [.Attribute e2 "lacking" q3] e3 q4,.Assign [.Attribute e4 "place" pos] (.Constant (.int 0) k q5) q6] t/\t D σ H:=by
 refine⟨_,ed (Bt v0 (nO (Kb (cl:=cl)) hg hm rfl (bE v1 d0 h1) (by decide) (by decide) h1 jV) s1) (ed (Bt v0' v2 s2) (kI (Bt Ue Bm s3))),?_⟩;obtain⟨x,dx,a,ws,rfl,hx,ha,q⟩:=h;refine⟨_,g0 1 _ rfl,fun _=>none,[.lst (ws.map T.str)],_,(fun _ _ z=>nomatch z),.cons ⟨a,_,rfl,lM.of ha,mL _⟩ .nil,rfl,fun v H1 o=>?_⟩;have S0:az ⟨X.K,cl⟩ ⟨H,fun _=>none,cl,ud⟩ [] [] H (fun _=>none):=⟨ax.refl _,(fun _ _ z=>nomatch z),(fun _ _ z=>nomatch z),(fun i v h=>nomatch h),(fun i t h=>by simp at h),(fun i t h=>by simp at h),(fun i j t u a _ h=>by simp at h),rfl⟩;obtain⟨bJ,g1,g2,S1,L,rfl,nL,⟨_,xs,hL,rs⟩,_⟩:=o.fin S0;have nL:H L=none:=nL
 cases fX rs
 have zL:L≠x:=fun z=>by rw [z,hx]at nL;cases nL
 refine⟨_,g0 0 _ rfl,x,C,dx,[],rfl,g1 _ _ hx,c.cls,c.n1,by decide,?_⟩;refine⟨_,g0 2 _ rfl,_,g0 0 _ rfl,x,C,dx,_,rfl,aE,c.cls,c.n2,(by show 1<1000;decide),?_⟩;refine⟨_,g0 0 _ rfl,x,C,dx,_,rfl,aE,c.cls,c.n3,(by show 2<1000;decide),?_⟩;refine hD _ _ (q L _ nL ?_ ?_ fun b o hb e=>?_)
 ·rw [aE];rfl
 ·rw [aw zL,aw zL,aw zL];exact hL
 ·rw [aw hb,aw hb,aw hb];exact g1 _ _ e
end
def spO(C:Addr):Sp:=fun vs H Q _=>∃(x:Str) (ws:List Str),vs=[.str x]/\d5 x " " = some ws /\
 ∀(R:Eo)(H':Hp),R.C=C->R.ws=ws->ax H H'->H R.r=none->H' R.r=some (R.obj 0)->H' R.L=some (.lst (ws.map V.str))->R.L≠R.r->Q (.ref R.r) H'
theorem Hh{X:Cx}{st:List Stmt}{ι:Type}{c:ι->Prop}{t:ι->TS}(h:∀i,c i->pV X st (t i)):pV X st (fun D σ H=>∃i,c i/\t i D σ H):=fun pins s σ H D I ⟨i,hc,q⟩=>h i hc pins s σ H D I q
def g4(b:BG)(me:RX)(ws:List Str)(Γ:G):Nat->List T->List T->Option (List T×Nat)
 |p,[],acc=>some (acc,p)
 |p,t::ts,acc=>(b t Γ).bind fun Γ1=>(me ws p Γ1).bind fun q=>if acc.length<sizeLine then g4 b me ws Γ q.2.1 ts (acc++[(eM q.1 q.2.2).1])else none
def xw(cap:List (Option Nat))(mi:MI)(b:BG)(me:RX):RX:=fun ws p Γ=>(mi Γ).bind fun q=>(g4 b me ws (jg cap (aJ cap q.2)) p q.1 []).map fun z=>(.own (.lst z.1),z.2,aJ cap q.2)
theorem Af{b:BG}{me:RX}{ws:List Str}{Γ:G}{p p':Nat}{t:T}{ts acc out:List T}(h:g4 b me ws Γ p (t::ts) acc=some (out,p')):∃Γ1 r p1 Γ2,b t Γ=some Γ1/\me ws p Γ1=some (r,p1,Γ2)/\acc.length<sizeLine/\g4 b me ws Γ p1 ts (acc++[(eM r Γ2).1])=some (out,p'):=by
 unfold g4 at h
 cases h1:b t Γ with
 |none=>rw [h1]at h;cases h
 |some Γ1 =>
  rw [h1]at h;have h:((me ws p Γ1).bind fun q=>if acc.length<sizeLine then g4 b me ws Γ q.2.1 ts (acc++[(eM q.1 q.2.2).1])else none)=some (out,p'):=h
  cases h2:me ws p Γ1 with
  |none=>rw [h2]at h;cases h
  |some q =>
   rw [h2]at h;obtain⟨r,p1,Γ2⟩:=q;have h:(if acc.length<sizeLine then g4 b me ws Γ p1 ts (acc++[(eM r Γ2).1])else none)=some (out,p'):=h;split at h
   ·rename_i hl;exact⟨Γ1,r,p1,Γ2,rfl,h2,hl,h⟩
   ·cases h
def iL(cap:List (Option Nat))(Γ:G)(σ:St)(F:Nat->Option V):St:=cap.map fun c=>match c with
 |none=>none
 |some i=>match F i with
  |some v=>some v
  |none=>match Γ[i]? with
   |some (.sh _)=>(σ[i]?).getD none
   |_=>none
def fv(cap:List (Option Nat))(Γ:G)(σ:St)(F:Nat->Option V):Nat->Option V:=fun j=>((iL cap Γ σ F)[j]?).getD none
theorem BW{cap:List (Option Nat)}{Γ:G}{σ:St}{F:Nat->Option V}(fx:∀(i:Nat)(v:V),F i=some v->σ[i]?=some (some v)){j i:Nat}{t:T}{v:V}(h1:cap[j]?=some (some i))(h2:Γ[i]?=some (.sh t))(h3:σ[i]?=some (some v)):fv cap Γ σ F j=some v:=by
 unfold fv iL;rw [getElem?_map,h1]
 cases q:F i with
 |none=>simp [q,h2,h3]
 |some w =>
  have:=fx i w q;rw [h3]at this
  cases this
  simp [q]
theorem xx{cap:List (Option Nat)}{Γ:G}{σ:St}{F:Nat->Option V}{j i:Nat}{v:V}(h1:cap[j]?=some (some i))(h2:F i=some v):fv cap Γ σ F j=some v:=by
 unfold fv iL;rw [getElem?_map,h1];simp [h2]
theorem vf{cap:List (Option Nat)}{Γ:G}{σ:St}{F:Nat->Option V}{j:Nat}(h:cap[j]?=some none):fv cap Γ σ F j=none:=by
 unfold fv iL;rw [getElem?_map,h];rfl
theorem xy{cap:List (Option Nat)}{Γ:G}{σ:St}{F:Nat->Option V}(fx:∀(i:Nat)(v:V),F i=some v->σ[i]?=some (some v)){j:Nat}{v:V}(h:(iL cap Γ σ F)[j]?=some (some v)):∃(i:Nat),cap[j]?=some (some i)/\σ[i]?=some (some v):=by
 unfold iL at h;rw [getElem?_map]at h
 cases hc:cap[j]? with
 |none=>rw [hc]at h;cases h
 |some c =>
  rw [hc]at h
  cases c with
  |none=>cases h
  |some i =>
   have h:(match F i with|some v=>some v|none=>match Γ[i]? with|some (.sh _)=>(σ[i]?).getD none|_=>none)=some v:=Option.some.inj h
   cases q:F i with
   |some w =>
    rw [q]at h
    cases h
    exact⟨i,rfl,fx i _ q⟩
   |none =>
    rw [q]at h;dsimp only at h;split at h
    ·cases q:σ[i]? with
     |none=>rw [q]at h;cases h
     |some z =>
      rw [q]at h;have h:z=some v:=h;subst h;exact⟨i,rfl,q⟩
    ·cases h
theorem sP{K:KC}{W:RF}{p0 p:Nat}{cap:List (Option Nat)}{Γ:G}{σ σ':St}{H2 bX H Hs:Hp}(S2:az K (W.at p0) Γ σ H2 bX)(e:ax bX Hs)(sub:ax Hs H)(hr:H W.R.r=some (W.R.obj p))(fix:∀j v,fv cap Γ σ W.F j=some v->σ'[j]?=some (some v))(hl:σ'.length=cap.length):
  az K ⟨upd H W.R.r (W.R.obj p),Hs,W.cl,fv cap Γ σ W.F⟩ (jg cap Γ) σ' H Hs:=by
 rw [same_self hr];refine{kept:=ax.refl _,sub:=sub,new:=fun a o h=>.inl h,fix:=fix,sh:=fun j t h=>?_,own:=fun j t h=>?_,apart:=fun i j t u a n h _=>?_,len:=?_}
 ·rcases kj h with z|⟨i,u,h1,h2,h3⟩
  ·cases z
  ·cases h3
   obtain⟨v,q1,q2⟩:=S2.sh i t h2;exact⟨v,fix j v (BW S2.fix h1 h2 q1),cX e _ _ q2⟩
 ·rcases kj h with z|⟨i,u,h1,h2,h3⟩
  ·cases z
  ·cases h3
 ·rcases kj h with z|⟨i,u,h1,h2,h3⟩
  ·cases z
  ·cases h3
 ·rw [hl];simp [jg]
section
variable {X:Cx}{W:RF}{elt tg iter:Expr}{scope:Scope}{pos:Pos}{N':List Str}{cap:List (Option Nat)}{mi:MI}{b:BG}{me:RX}
inductive YW(Y:Cx)(K:KC)(R:Eo)(cap:List (Option Nat))(b:BG)(me:RX)(Γ1:G)(ts out:List T)(pe:Nat)(σ:St)(F:Nat->Option V)(H2 bX:Hp)(tn:Nat->Heap->Prop)(D:Addr)(fp:List Addr):Nat->Shared->Prop
 |mk {s':Shared} (i p:Nat) (Hi fW:Hp) (acc:List T) (ys:List V) (σ':St) (le:i<=ts.length) (run:g4 b me R.ws (jg cap Γ1) p (ts.drop i) acc=some (out,pe)) (inv:Inv Y [] σ' Hi s') (at_:tn i s'.heap) (h2:ax (upd H2 R.r (R.obj p)) Hi) (MG:ax bX fW)
   (sub:ax fW Hi) (new:∀a o,fW a=some o->bX a=some o\/H2 a=none) (own:Hi D=some (.lst ys)) (xS:fW D=none) (YG:iu K fW ys acc) (fix:∀j v,fv cap Γ1 σ F j=some v->σ'[j]?=some (some v)) (IT:∀b∈fp,Hi b=none):YW Y K R cap b me Γ1 ts out pe σ F H2 bX tn D fp (ts.length-i) s'
theorem Hj(hc:X.calm=true)(hi:∀p,tO X (W.at p) tg iter mi)(cp:X.Ok->∃cs,qd X scope cs)(kO:rE X scope N' cap)
  (uU:∀(cs:List (Str×Addr))(C:Addr)(s₂:Shared)(H₂:Hp)(fp:List Addr)(W':RF),W'.cl=W.cl->W'.R=W.R->(∀j,cap[j]?=some none->W'.F j=none)->(∀j i v,cap[j]?=some (some i)->W.F i=some v->W'.F j=some v) ->
   (∀p,uO (bq X N' scope cs C s₂ H₂ fp) (W'.at p) tg b)/\ko (bq X N' scope cs C s₂ H₂ fp) W' elt me)
  (hs:∀x,foldedSetIterable iter X.env x=pure x) {use:Option (Value->Sem Unit)} {Q0:Value->Shared->Prop} {Gw:Pos} {p pe:Nat} {Γ Γ1:G} {ts out:List T} {pins:List (Addr×Obj)} {s:Shared} {σ:St} {H Hs:Hp}
  (h1:mi Γ=some (ts,Γ1)) (h2:g4 b me W.R.ws (jg cap (aJ cap Γ1)) p ts []=some (out,pe)) (I:Inv X pins σ H s) (S:az (oX X W) (W.at p) Γ σ H Hs)
  (Nj:∀(D C:Addr)(s3:Shared)(H' aM:Hp)(m3:Str->Option Value),Inv X pins σ H' s3->s3.heap.Ns C m3->oM X pins H' C->ax Hs aM->az (oX X W) (W.at pe) (aJ cap Γ1) σ H' aM->iD (oX X W) (W.at pe) (aJ cap Γ1) σ H' aM (.ref D) (.own (.lst out))->compPost (model X.prog X.w) X.A X.xe use Q0 (.ref D) C (.ok .next) s3) :
  wpAny (model X.prog X.w) X.A (comprehension (.ListComp elt [⟨tg,iter,[],0⟩] scope pos) scope X.env Gw (newList []) false (eval iter X.env) use) Q0 X.xe s:=by
 obtain⟨cs,cp⟩:=cp I.ok;refine wpAny_comprehension_free (use:=use) rfl hs cp.Nh cp.kind cp.names ?_;refine da (hi p Γ ts Γ1 h1 pins s σ H (fun J H'=>∃aM,ax H H'/\ax Hs aM/\az (oX X W) (W.at p) Γ1 σ H' aM/\JW (oX X W) J ts aM) I ⟨Hs,S,fun J H' aM e e' S' ok=>⟨aM,e,e',S',ok⟩⟩) fun xv s1 g1=>da g1 fun OM s2 g2=>?_;obtain⟨it,fp,tn,J,H2,rfl,I2,turn,zU,qe,Po,e2,fb,Pp,ok⟩:=g2;obtain⟨bX,e3,S2⟩:=Pp.aJ (cap:=cap);have BN:∀b∈fp,b<s2.heap.objs.size:=fun b hb=>by
  obtain⟨o,ho,_⟩:=turn.obj 0 _ zU b hb;exact Heap.lt_size ho
 refine wpAny_newObj_type (wpAny_newFunctionEnv cp.oR (by intro y hy;simp at hy) (fun hB Dd zV=>?_) cp.kind);dsimp only at Dd zV ⊢;generalize hA:s2.heap.push {cls:=.type "list", dict:=none,data:=.seq ([]:List Value).toArray}=Gx at Dd zV ⊢;have Gy:Gx.objs.size=s2.heap.objs.size+1:=by rw [<-hA,Heap.size_push]
 have hD:H2 s2.heap.objs.size=none:=I2.cR.fresh (le_refl _);have A5:Gx.objs.size≠s2.heap.objs.size:=by rw [Gy];exact Nat.succ_ne_self _
 have lP:∀b o,s2.heap.get? b=some o->hB.get? b=some o:=fun b o e=>by
  have lt:=Heap.lt_size e;refine zV.extBut b o ?_ ?_
  ·intro z;rw [z,Gy]at lt;exact absurd lt (not_lt.mpr (le_succ _))
  ·exact Heap.get?_push_of_some _ (by rw [<-hA];exact Heap.get?_push_of_some _ e)
 have sF:hB.get? s2.heap.objs.size=some {cls:=.type "list", data:=.seq #[] 0}:=zV.extBut _ _ A5.symm (Heap.get?_push_of_some _ (by rw [<-hA];exact Heap.get?_push_size _ rfl));generalize Pq:s2.heap.objs.size=D at hD A5 sF ⊢;generalize Pt:Gx.objs.size=C at Dd zV A5 ⊢;have Fi:s2.heap.objs.size<=C:=by rw [<-Pt,Gy];exact le_succ _
 have LF:s2.heap.objs.size<=D:=by rw [Pq];exact le_refl _
 have LM:D≠W.R.r:=fun z=>by rw [z,S2.rd]at hD;cases hD
 have Gz:(iL cap (aJ cap Γ1) σ W.F).length=N'.length:=by
  rw [<-kO.length];simp [iL]
 have J0:Inv (bq X N' scope cs C s2 H2 fp) [] (iL cap (aJ cap Γ1) σ W.F) (upd H2 D (.lst [])) {s2 with heap:=hB,toks:=s2.toks+([]:List (Str×Value)).length} :=
  uS I2 cp LF Fi A5 qe BN lP Dd ⟨0,sF⟩ (fun j x v q1 q2=>by
   obtain⟨i,z1,z2⟩:=xy S2.fix q2;obtain⟨y1,y2,y3⟩:=kO.get q1 z1;exact⟨i,y1,z2,y2,y3⟩) Gz
 have IU:∀(pl:List (Addr×Obj))(H':Hp),(∀b∈fp,H' b=none)->pl=[]->∀b∈fp,oM (bq X N' scope cs C s2 H2 fp) pl H' b:=fun pl H' hn e b hb=>by
  subst e;obtain⟨_,f2,f3,_,f5,_⟩:=qe b hb;refine⟨hn b hb,fun e=>?_,fun Ni=>?_,.inl hb,fun x c q=>f5 x c (cp.same x c q),fun p hp=>absurd (show p∈([]:List (Addr×Obj)) from hp) (by simp)⟩
  ·have:=BN b hb;rw [show b=C from e]at this;exact absurd (lt_of_lt_of_le this Fi) (lt_irrefl _)
  ·rcases mem_cons.mp (I2.mq b Ni)with z|z
   ·exact f2 z
   ·exact f3 z
 have GA:∀j v,fv cap (aJ cap Γ1) σ W.F j=some v->(iL cap (aJ cap Γ1) σ W.F)[j]?=some (some v):=fun j v q=>by
  unfold fv at q
  cases z:(iL cap (aJ cap Γ1) σ W.F)[j]? with
  |none=>rw [z]at q;cases q
  |some y =>
   rw [z]at q;have q:y=some v:=q;rw [q]
 have loop:codeAny (model X.prog X.w) X.A (.compLoop (.ListComp elt [⟨tg,iter,[],0⟩] scope pos) 0 (.ref it) (.ref D) (compEnvC scope cs C X.env)) (compPost (model X.prog X.w) X.A X.xe use Q0 (.ref D) C)
   {s2 with heap:=hB,toks:=s2.toks+([]:List (Str×Value)).length}:=by
  refine xh (YW (bq X N' scope cs C s2 H2 fp) (oX X W) W.R cap b me (aJ cap Γ1) ts out pe σ W.F H2 bX tn D fp) ?_ ts.length ?_
  ·rintro n s' ⟨i,pi,Hi,fW,acc,ys,σ',Ge,q2,J1,Nk,sH,zW,sub,nw,Fj,IV,rs,fix,IT⟩;have hlen:σ'.length=cap.length:=by rw [kO.length];exact J1.len
   have Ug:Hi W.R.r=some (W.R.obj pi):=sH _ _ aE;have Uh:Hi W.R.L=some (.lst (W.R.ws.map V.str)):=sH _ _ (by rw [aw W.ne];exact S2.Ow);have P9:fW W.R.r=none:=by
    cases z:fW W.R.r with
    |none=>rfl
    |some o =>
     rcases nw _ o z with w1|w1
     ·rw [S2.C1]at w1;cases w1
     ·rw [S2.rd]at w1;cases w1
   have SB:=sP (cap:=cap) (p:=pi) S2 zW sub Ug fix hlen;by_cases yr:i<ts.length
   ·have ht:ts[i]?=some ts[i]:=by simp [yr]
    obtain⟨g1,g2⟩:=(ok i Hi fW (e3.trans zW) sub).1 _ ht;rw [drop_cons ht]at q2;obtain⟨Γ2,r7,p7,Γ4,Pu,Pw,Px,m7⟩:=Af q2;obtain⟨bg,be⟩:=uU cs C s2 H2 fp ⟨W.R,Hi,fW,W.cl,fv cap (aJ cap Γ1) σ W.F,Uh,W.ne,P9⟩ rfl rfl (fun j hj=>vf hj) (fun j i v h1 h2=>xx h1 h2);refine da (turn.item (bq X N' scope cs C s2 H2 fp) rfl rfl rfl hc i [] s' σ' Hi (fun _ _=>False) J1 (IU [] Hi IT rfl) Nk g1) fun r3 s3 ⟨u,er,g3⟩=>?_;subst er;refine da g3 fun _ s4 ⟨x,H',J2,rx,hy,GB,GC⟩=>?_;obtain⟨jI,y1,y2,S3,tr⟩:=(g2 x H' hy).fin SB;have J3:=J2.pinned (IU [] H' GC rfl) fun b hb=>turn.obj _ _ GB b hb;refine da (bg pi _ s4 σ' H' x u (fun σ5 H5=>H5=H'/\az (oX X W) ⟨upd Hi W.R.r (W.R.obj pi),fW,W.cl,fv cap (aJ cap Γ1) σ W.F⟩ Γ2 σ5 H' jI) J3 rx ⟨_,_,Γ2,jI,Pu,S3,tr,fun σ5 S5=>⟨rfl,S5⟩⟩) fun _ s5 ⟨σ5,H5,J5,eH,S5⟩=>?_;subst eH;refine wpAny_tests_nil ?_;refine rA ?_;refine da (be pi Γ2 r7 p7 Γ4 Pw _ s5 σ5 H5 (fun v7 H7=>∃xn,ax jI xn/\az (oX X W) ⟨upd Hi W.R.r (W.R.obj p7),fW,W.cl,fv cap (aJ cap Γ1) σ W.F⟩ Γ4 σ5 H7 xn/\iD (oX X W) ⟨upd Hi W.R.r (W.R.obj p7),fW,W.cl,fv cap (aJ cap Γ1) σ W.F⟩ Γ4 σ5 H7 xn v7 r7) J5 ⟨jI,S5,fun v7 H7 xn z2 S7 f7=>⟨xn,z2,S7,f7⟩⟩) fun u7 s7 ⟨v7,H7,J7,Py,xn,z2,S7,f7⟩=>?_;obtain⟨Fl,y3,S8,Pz⟩:=S7.eM f7;have PB:H7 D=some (.lst ys):=S7.kept D _ (by show upd Hi W.R.r (W.R.obj p7) D=_;rw [aw LM];exact Fj);refine da (kg (X:=bq X N' scope cs C s2 H2 fp) _ s7 σ5 H7 (.ref D) [v7] (.ref D) [u7] (fun v9 H9=>H9=upd H7 D (.lst (ys++[v7]))) J7 rfl (.cons Py .nil) ⟨D,ys,v7,rfl,rfl,PB,by rw [aF rs];exact Px,rfl⟩) fun _ s9 ⟨v9,H9,J9,_,eH⟩=>?_;subst eH;have es:ax fW Fl:=y2.trans (z2.trans y3);have LG:Fl D=none:=by
     cases z:Fl D with
     |none=>rfl
     |some o =>
      rcases S8.new D o z with w1|w1
      ·rw [show fW D=some o from w1]at IV
       cases IV
      ·have w1:upd Hi W.R.r (W.R.obj p7) D=none:=w1;rw [aw LM,Fj]at w1
       cases w1
    refine⟨ts.length-(i+1),by omega,.mk (i+1) p7 _ Fl _ _ σ5 yr m7 J9.kf (turn.keep _ _ _ GB fun b hb o ho=>(J9.pin (b,o) (mem_append_right _ (mem_append_right _ (fc hb ho)))).1) (fun b o q=>?_) (zW.trans es) (fun b o q=>?_) (fun a o q=>?_) aE LG (d4 (cT es _ _ rs) (dh Pz cu)) (fun j v q=>S8.fix j v q) (fun b hb=>?_)⟩
    ·by_cases zr:b=W.R.r
     ·subst zr;rw [aw LM.symm];rw [aE]at q;exact S7.kept _ _ (by show upd Hi W.R.r (W.R.obj p7) W.R.r=_;rw [aE];exact q)
     ·rw [aw zr]at q;rw [aw (bM q hD)];exact S7.kept _ _ (by show upd Hi W.R.r (W.R.obj p7) b=_;rw [aw zr];exact sH b o (by rw [aw zr];exact q))
    ·have z:b≠D:=fun e=>by rw [e,LG]at q;cases q
     rw [aw z];exact S8.sub b o q
    ·rcases S8.new a o q with w1|w1
     ·exact nw a o w1
     ·have w1:upd Hi W.R.r (W.R.obj p7) a=none:=w1;have zr:a≠W.R.r:=fun e=>by rw [e,aE]at w1;cases w1
      rw [aw zr]at w1;have w2:=sH.free w1;rw [aw zr]at w2;exact .inr w2
    ·obtain⟨o,ho,_⟩:=turn.obj _ _ GB b hb;exact(J9.pin (b,o) (mem_append_right _ (mem_append_right _ (fc hb ho)))).2.1
   ·have e:i=ts.length:=by omega
    subst e;rw [drop_length]at q2
    cases q2
    refine da (turn.done (bq X N' scope cs C s2 H2 fp) rfl rfl rfl hc _ [] s' σ' Hi (fun _ _=>False) J1 (IU [] Hi IT rfl) Nk ((ok _ Hi fW (e3.trans zW) sub).2 (le_refl _))) fun r3 s3 ⟨er,J3⟩=>?_;subst er;obtain⟨m3,TK,_⟩:=J3.loc;have nC:Hi C=none:=J3.free;have I9:Inv X pins σ Hi s3:=I2.uw (ch:=fp) J3.os
     ⟨fun b o q n1 n2 n3=>J3.base.keep b o q n1 n2 n3,fun b o q n1 n2 n3=>J3.base.slot b o q n1 n2 n3,J3.base.free,fun b o q n1=>J3.base.there b o q n1,J3.base.jR,J3.base.jE,J3.base.jS⟩ J3.cR J3.bare fun b hb=>by
      obtain⟨_,f2,_,f4,f5,f6⟩:=qe b hb;exact⟨f4,f2,f5,f6⟩
    have SZ:az (oX X W) ⟨upd H2 W.R.r (W.R.obj pe),bX,W.cl,ud⟩ [] [] Hi fW:=⟨sH,sub,(fun a o q=>by
     rcases nw a o q with w|w
     ·exact .inl w
     ·refine .inr ?_;have zr:a≠W.R.r:=fun e=>by rw [e,S2.rd]at w;cases w
      show upd H2 W.R.r (W.R.obj pe) a=none;rw [aw zr];exact w),(fun i v q=>nomatch q),(fun i t q=>by simp at q),(fun i t q=>by simp at q),(fun i j t u a _ q=>by simp at q),rfl⟩
    have SM:=S2.moved zW SZ;refine Nj D C s3 Hi fW m3 I9 TK (I2.zq Fi nC) (fb.trans (e3.trans zW)) SM ⟨D,rfl,?_,⟨IV,ys,Fj,rs⟩,S2.mz hD⟩;have:=S2.kept.free hD;have this:upd W.H0 W.R.r (W.R.obj p) D=none:=this;show upd W.H0 W.R.r (W.R.obj pe) D=none;rw [aw LM]at this ⊢;exact this
  ·refine .mk 0 p (upd H2 D (.lst [])) bX [] [] _ (zero_le _) (by simpa using h2) J0 (turn.keep 0 _ _ zU fun b hb o ho=>lP b o ho) (by rw [same_self S2.rd];exact ee hD) (ax.refl _) (S2.sub.trans (ee hD)) (fun a o q=>.inl q) aE (S2.sub.free hD) cu GA fun b hb=>?_;have z:b≠D:=fun e=>by
    have:=BN b hb;rw [e]at this;exact absurd (lt_of_lt_of_le this LF) (lt_irrefl _)
   rw [aw z];exact(qe b hb).1
 exact codeAny_compStart_list loop (turn.self _ 0 _ _ _ (turn.keep 0 _ _ zU fun b hb o ho=>lP b o ho) loop)
theorem Kx(hc:X.calm=true)(hi:∀p,tO X (W.at p) tg iter mi)(cp:X.Ok->∃cs,qd X scope cs)(kO:rE X scope N' cap)
  (uU:∀(cs:List (Str×Addr))(C:Addr)(s₂:Shared)(H₂:Hp)(fp:List Addr)(W':RF),W'.cl=W.cl->W'.R=W.R->(∀j,cap[j]?=some none->W'.F j=none)->(∀j i v,cap[j]?=some (some i)->W.F i=some v->W'.F j=some v) ->
   (∀p,uO (bq X N' scope cs C s₂ H₂ fp) (W'.at p) tg b)/\ko (bq X N' scope cs C s₂ H₂ fp) W' elt me)
  (hs:∀x,foldedSetIterable iter X.env x=pure x:=by intro _;rfl):ko X W (.ListComp elt [⟨tg,iter,[],0⟩] scope pos) (xw cap mi b me):=fun p Γ r p' Γ' h=>by
 obtain⟨ts,Γ1,h1,h⟩:=cE h;obtain⟨z,h2,h⟩:=iE h;obtain⟨out,pe⟩:=z
 cases h
 intro pins s σ H Q I ⟨Hs,S,k⟩;rw [eval_ListComp];refine Hj (use:=none) hc hi cp kO uU hs h1 h2 I S fun D C s3 H' aM m3 I3 hn BN e' S' f=>⟨m3,hn,fun h' TL=>⟨.ref D,H',?_,rfl,k _ H' aM e' S' f⟩⟩;exact I3.yt (t':=s3.toks) (fp:=[C]) (fun b hb=>by rw [mem_singleton.mp hb];exact BN) fun b o hb q=>TL.extBut b o (fun z=>hb (by simp [z])) q
end
section
variable {prog:Program}{w:World}{A:Around}{E:Value->Shared->Prop}{s:Shared}
end
section
variable {prog:Program}{w:World}{A:Around}{E:Value->Shared->Prop}{s:Shared}{z TI TO i1 i2:Addr}{f1 f2:List Addr}{n k:Nat}{P1 P2:Nat->Value->Prop}{S1 S2:Nat->Heap->Prop}{a b:Value}
theorem _root_.PySem.Draws.lP{it c:Addr}{fp:List Addr}{P:Nat->Value->Prop}{S:Nat->Heap->Prop}{h h':Heap}(D:Draws prog w A it fp n P S)(st:S k h)(sb:Heap.SameBut c h h')(hc:c∉fp):S k h':=D.frame _ _ _ st fun b hb o e=>sb.extBut b o (fun q=>hc (q▸hb)) e
end
section
variable {prog:Program}{w:World}{A:Around}{E:Value->Shared->Prop}{s:Shared}
end
section
variable {X:Cx}{P:Fx}{elts:List Expr}{kk:Nat}{Jz:Pos}
end
def Ag(w:World):List DictEntry->List (Str×Int)->Prop
 |[],[]=>True
 |e::es,kv::bp=>(e.hash=OB w (.inr kv.1)/\(∃t,e.key=.str kv.1 t)/\∃t,e.val=.int kv.2 t)/\Ag w es bp
 |_,_=>False
def Rw(bp:List (Str×Int)):List (Key×V):=bp.map fun p=>(.inr p.1,.int p.2)
def dc(bp:List (Str×Int))(x:Str):Option Int:=(bp.find? fun p=>decide (p.1=x)).map (·.2)
theorem yB(x:Str):∀bp:List (Str×Int),p4 (Rw bp) (.inr x)=(dc bp x).map V.int
 |[]=>rfl
 |(y,i)::bp=>by
  have ih:=yB x bp;unfold p4 Rw dc at ih ⊢;rw [map_cons,find?_cons,find?_cons];by_cases h:y=x
  ·simp [h]
  ·have h1:decide ((Sum.inr y:Key)=Sum.inr x)=false:=decide_eq_false (fun q=>h (Sum.inr.inj q));have h2:decide (y=x)=false:=decide_eq_false h;simp only [h1,h2];exact ih
theorem Hk{P:Program}{w:World}:∀{es:List DictEntry}{bp:List (Str×Int)},Ag w es bp->∃vs:List (Key×Value),KV (Rw bp) vs/\Pairs (gm P w) es vs/\vs.map (·.1)=bp.map (fun p=>(Sum.inr p.1:Key))/\∀e∈es,∃k,(gm P w).is k e.key=true/\e.hash=(gm P w).hash k
 |[],[],_=>⟨[],.nil,.nil,rfl,fun e h=>by simp at h⟩
 |e::es,(x,i)::bp,h=>by
  obtain⟨⟨h1,⟨t,h2⟩,u,h3⟩,h4⟩:=h;obtain⟨vs,a1,a2,a3,a4⟩:=Hk (P:=P) h4;have hk:(gm P w).is (.inr x) e.key=true:=by rw [h2];exact sv P w x t
  refine⟨(.inr x,e.val)::vs,.cons ⟨rfl,u,h3⟩ a1,.cons hk rfl a2,by simp [a3],fun e' he=>?_⟩;rcases mem_cons.mp he with z|z
  ·subst z;exact⟨.inr x,hk,h1⟩
  ·exact a4 e' z
 |[],_::_,h=>h.elim
 |_::_,[],h=>h.elim
structure BX(w:World)(K:PySem.W.Frag)(a:Addr)(bp:List (Str×Int)):Prop where
 ne:(a==sysModules)=false
 ob:∃es n,K.lookup a=some ⟨.type "dict", none,.dict es n,#[]⟩/\Ag w es.toList bp
 nd:(bp.map (·.1)).Nodup
theorem BX.of{P:Program}{w:World}{K:PySem.W.Frag}{a:Addr}{bp:List (Str×Int)}{h:Heap}(g:BX w K a bp)(X:K.In h):∃vs,KV (Rw bp) vs/\h.DictOf (gm P w) a vs:=by
 obtain⟨es,n,e,d⟩:=g.ob;obtain⟨vs,a1,a2,a3,a4⟩:=Hk (P:=P) d;refine⟨vs,a1,_,es,n,X a _ e,⟨rfl,rfl,rfl⟩,rfl,fun e he=>a4 e (by simpa using he),a2,?_⟩;rw [a3];have:=g.nd;have e2:bp.map (fun p=>(Sum.inr p.1:Key))=(bp.map (·.1)).map (Sum.inr:Str->Key):=by rw [map_map];rfl
 rw [e2];exact List.Pairwise.map _ (fun a b q z=>q (Sum.inr.inj z)) this
section
variable {X:Cx}{P:Fx}{e:Expr}{x:Str}{pos p0:Pos}{a:Addr}{bp:List (Str×Int)}{m:MX}
def md(bp:List (Str×Int))(m:MX):MX:=fun Γ=>(m Γ).bind fun p=>match p.1.tree with
 |.str x=>some (.sh (.bl (dc bp x).isSome),p.2)
 |_=>none
def qo(bp:List (Str×Int))(m:MX):MX:=fun Γ=>(m Γ).bind fun p=>match p.1.tree with
 |.str x=>(dc bp x).map fun i=>(.sh (.int i),p.2)
 |_=>none
theorem NJ{te:TE}(g:BX X.w X.K a bp)(he:PE X e te)(hg:Gl X x)(hm:X.mg x=some (.ref a))(hd:(x==("__debug__" : Str))=false:=by decide):PC X .In e (.Name x p0) (fun σ H Q=>te σ H fun v H1=>∃y,v=.str y/\Q (.bl (dc bp y).isSome) H1):=by
 intro pins s σ H Q I h;refine da (he pins s σ H _ I h) fun u s1 ⟨v,H1,I1,rv,y,ev,q⟩=>h7 I1 hg hm ?_ hd;subst ev;obtain⟨vs,rel,dd⟩:=g.of (P:=X.prog) I1.wo;refine wpAny_in_of (LA (k:=.inr y) rv) g.ne dd.mapOf ?_;rw [<-(rel.val (.inr y)).w8,yB,isSome_map];exact⟨.bl _,H1,I1.tok _,rfl,q⟩
theorem iW(g:BX X.w X.K a bp)(he:aW X P e m)(hg:Gl X x)(hm:X.mg x=some (.ref a))(hd:(x==("__debug__" : Str))=false:=by decide)(h1:behindInMarks .In (.Name x p0)=false:=by rfl):oN X P (.Compare e [.In] [.Name x p0] pos) (ar (md bp m)):=fun Γ b Γ' h=>by
 have h:=nP h;obtain⟨r1,Γ1,q1,h⟩:=cE h;dsimp only at h;split at h
 ·rename_i y ht
  cases h
  refine(Mj (NJ g (he _ _ _ q1) hg hm hd) h1).imp fun σ H Q ⟨Hs,S,k⟩=>⟨Hs,S,fun v H1 bJ e1 dr S1 f1=>⟨y,?_,_,rfl,k H1 bJ e1 dr S1⟩⟩;have:=S1.uM f1;rw [ht]at this;exact this
 ·cases h
theorem qp(g:BX X.w X.K a bp)(he:aW X P e m)(hg:Gl X x)(hm:X.mg x=some (.ref a))(hs:Pg e:=by intro _ _;rfl)(hd:(x==("__debug__" : Str))=false:=by decide):aW X P (.Subscript (.Name x p0) e pos) (qo bp m):=fun Γ r Γ' h=>by
 obtain⟨r1,Γ1,q1,h⟩:=cE h;dsimp only at h;split at h
 ·rename_i y ht;obtain⟨i,q2,h⟩:=iE h
  cases h
  intro pins s σ H Q I ⟨Hs,S,k⟩;refine JO PySem.F.slot_dict_getitem.lookup hs (h7 I hg hm (da (he _ _ _ q1 pins s σ H (fun v H1=>v=.str y/\Q (.int i) H1) I ⟨Hs,S,fun v H1 bJ e1 dr S1 f1=>⟨?_,k _ H1 bJ e1 dr S1 rfl⟩⟩) fun u s1 ⟨v,H1,I1,rv,ev,q⟩=>?_) hd)
  ·have:=S1.uM f1;rw [ht]at this;exact this
  ·subst ev;obtain⟨vs,rel,dd⟩:=g.of (P:=X.prog) I1.wo;have rr:=rel.val (.inr y);rw [yB,q2]at rr;obtain⟨u',hu,ru⟩:=mn.some_of rr;exact⟨dd.typeIs,wpAny_getItem_of (LA (k:=.inr y) rv) dd.mapOf hu ⟨.int i,H1,I1.tok _,ru,q⟩⟩
 ·cases h
variable {cl:Nat->Addr}
def Ah:T->T->Option R:=fun t u=>match t,u with
 |.tup ts,.tup us=>if ts≠[]/\ts.length+us.length<=1000 then some (.sh (.tup (ts++us)))else none
 |_,_=>none
theorem qq:kd X cl (binaryOp .Add) Ah:=by
 intro pins s σ H x y v u Q I rx ry ⟨Hs,t,w,r,sm,h1,h2,hg,k⟩;unfold Ah at hg;split at hg
 ·rename_i ts us;split at hg
  ·rename_i hl
   cases hg
   obtain⟨a1,xs,rfl,q1,r1⟩:=h1;obtain⟨b1,ys,rfl,q2,r2⟩:=h2;have l1:=aF r1;have l2:=aF r2;refine JG pins s σ H _ _ v u Q I rx ry ⟨a1,b1,xs,ys,rfl,rfl,my sm q1,my sm q2,fun z=>hl.1 ?_,?_,fun z=>?_,fun _ p hp=>k _ _ (.Ed hp (d4 r1 r2))⟩
   ·rw [z]at l1;exact List.eq_nil_of_length_eq_zero l1.symm
   ·rw [l1,l2];exact le_of_lt (eL hl.2)
   ·have:us=[]:=List.eq_nil_of_length_eq_zero (by rw [<-l2,z];rfl);subst this;exact k _ _ (.val ⟨a1,xs,rfl,q1,by rw [append_nil];exact r1⟩)
  ·cases hg
 ·cases hg
def Hl(m:MX)(lo hi:MO):MX:=fun Γ=>(m Γ).bind fun p=>(lo p.2).bind fun q=>(hi q.2).bind fun z=>match p.1.tree with
 |.tup ts=>if ¬(HT.fV ts.length 0 q.1=0/\HT.fV ts.length ts.length z.1=ts.length)then some (.sh (.tup (cut ts q.1 z.1)),z.2)else none
 |_=>none
theorem vg{lo hi:Option Expr}{p2:Pos}{m:MX}{ml mh:MO}(he:aW X P e m)(hl:Ek X P lo ml)(hh:Ek X P hi mh):aW X P (.Subscript e (.Slice lo hi none p2) pos) (Hl m ml mh):=fun Γ r Γ' h=>by
 obtain⟨r1,Γ1,h1,h⟩:=cE h;obtain⟨o1,Γ2,h2,h⟩:=cE h;obtain⟨o2,Γ3,h3,h⟩:=cE h;dsimp only at h;split at h
 ·rename_i ts ht;split at h
  ·rename_i hw
   cases h
   refine(zB MN (he _ _ _ h1) (hl _ _ _ h2) (hh _ _ _ h3)).imp fun σ H Q ⟨Hs,S,k⟩=>⟨Hs,S,fun v H1 bJ e1 dr S1 f1=>⟨bJ,S1,fun H2 bX e2 fb S2=>⟨bX,S2,fun H3 jI e3 tK S3=>?_⟩⟩⟩;have tb:=((S1.uM f1).mono (e2.trans e3) (fb.trans tK));rw [ht]at tb;obtain⟨a,xs,rfl,sq,rs⟩:=tb;refine⟨a,xs,rfl,my S3.sub sq,by rw [aF rs];exact hw,fun p n=>?_⟩;obtain⟨GD,e4,Fm,S4,f4⟩:=Out.fin (.Ed n (De rs o1 o2)) S3;exact k _ _ GD (e1.trans (e2.trans (e3.trans e4))) (dr.trans (fb.trans (tK.trans Fm))) S4 f4
  ·cases h
 ·cases h
def xA:List T->Option R
 |[.str x]=>some (.sh (.str x))
 |[.int n]=>if n.natAbs.log2<1920 then some (.sh (.str (toString n)))else none
 |_=>none
theorem Du:ki X cl (.type "str") xA:=by
 intro pins s σ H vs us Q I r ⟨Hs,ts,res,sm,h1,hg,k⟩;unfold xA at hg;split at hg
 ·rename_i x
  cases hg
  obtain⟨v,rfl,e⟩:=lQ h1
  cases(show v=V.str x from e)
  obtain⟨u,rfl,ru⟩:=vals1 r;obtain⟨t,rfl⟩:=ru;exact callType_new F.called_str (by decide) (F.typeCall_str_1 _) (F.newCall_str_1 _) (fun obj=>F.args_object_init_2 obj _) F.entry_str_new
   (meets_str_new (S:=fun _ R s=>R (.ok (.ret (.str x t))) s) fun _ _ _ _ s hq=>wpAny_pure hq) ⟨typeIs_str _ _ _,⟨.str x,H,I,⟨t,rfl⟩,k _ H (.val rfl)⟩⟩
 ·rename_i n;exact Kt (cl:=cl) pins s σ H vs us Q I r ⟨Hs,_,res,sm,h1,hg,k⟩
 ·cases hg
def kU(i:Nat)(m:MX):MS:=fun Γ=>match Γ[i]? with
 |some (.own (.lst _))=>(m Γ).bind fun p=>match p.1,p.2[i]? with
  |.own (.lst zs),some (.own (.lst ts))=>if ts.length+zs.length<=sizeLine then some (.nx (p.2.set i (.own (.lst (ts++zs)))))else none
  |_,_=>none
 |_=>none
theorem Ai{i:Nat}{m:MX}{Γ:G}{res:Res}(h:kU i m Γ=some res):∃us Γ1 ts zs,Γ[i]?=some (.own (.lst us))/\m Γ=some (.own (.lst zs),Γ1)/\Γ1[i]?=some (.own (.lst ts))/\ts.length+zs.length<=sizeLine/\res=.nx (Γ1.set i (.own (.lst (ts++zs)))):=by
 unfold kU at h;split at h
 ·rename_i us hu
  cases h1:m Γ with
  |none=>rw [h1]at h;cases h
  |some p =>
   rw [h1]at h;obtain⟨r,Γ1⟩:=p;dsimp only [Option.bind]at h;split at h
   ·rename_i zs ts ht;split at h
    ·rename_i hl
     cases h
     exact⟨us,Γ1,ts,zs,hu,rfl,ht,hl,rfl⟩
    ·cases h
   ·cases h
 ·cases h
theorem BY{i:Nat}{o:Expr}{apos bQ:Pos}{m:MX}(ho:PE X o (gq i))(he:aW X P e m)
  (gu:attributeBase o "extend" X.env (eval o X.env)=eval o X.env:=by rfl)
  (rq:((backTo bQ (starEach [e] X.env)).all (fun x=>!x.1)&&(backToKw bQ (keywordEach [] X.env)).all (fun x=>x.1.isSome)
   && decide ([e].length+([]:List Keyword).length+(if([]:List Keyword).isEmpty then 0 else 1)<30))=true:=by rfl)
  (ir:(apos.endLine==bQ.line)=true:=by rfl) (hs:starEach [e] X.env=(false,eval e X.env)::starEach [] X.env:=by rfl) (gX:(backTo bQ (starEach [] X.env)).any (·.1)=false:=by rfl)
  (Nb:swapsWith (.Call (.Attribute o "extend" apos) [e] [] bQ) none pos.line X.env=pure false:=by rfl) :
  lY X P (.Expr (.Call (.Attribute o "extend" apos) [e] [] bQ) pos) (kU i m):=gY fun Γ res h=>by
 obtain⟨us,Γ1,ts,zs,hu,h1,ht,hl,rfl⟩:=Ai h;refine(nM (w6 PySem.F.plainAttrs_list PySem.F.slot_list_extend PySem.F.type_list_extend D5 ho (bE (he _ _ _ h1) d0 hs) gu rq ir hs gX) Nb).imp fun D σ H ⟨Hs,S,k⟩=>?_;obtain⟨a,q1,_,q3⟩:=S.own i _ hu;obtain⟨_,YF,Oq,_⟩:=q3;refine⟨_,q1,.inl ⟨rfl,_,lM.of Oq⟩,Hs,S,fun v H1 bJ e1 dr S1 f1=>?_⟩;obtain⟨b,rfl,g0,⟨gn,ys,gy,gs⟩,gno⟩:=f1;obtain⟨b',p1,p2,p3⟩:=S1.own i _ ht;rw [q1]at p1
 cases p1
 obtain⟨pf,xs,hx,rs⟩:=p3;refine⟨a,b,xs,ys,rfl,rfl,hx,gy,by rw [aF rs,aF gs];exact hl,?_⟩;exact k σ _ bJ dr (S1.rewrite ht q1 ⟨pf,_,aE,d4 rs gs⟩)
end
theorem NK{α γ:Type}{o:Option α}{f:α->Option γ}{r:γ}(h:o.bind f=some r):∃a,o=some a/\f a=some r:=by
 cases o with
 |none=>cases h
 |some p=>exact⟨p,rfl,h⟩
theorem Qa{vs:List V}(h:vs.length=1):∃v,vs=[v]:=List.length_eq_one_iff.mp h
theorem qr{K:KC}{P:Fx}{H Hs:Hp}(x:Str)(n:Nat){σ:St}(hF:∀(i:Nat)(v:V),P.F i=some v->(some (V.str x)::σ)[i]?=some (some v))(hl:σ.length=n)(kept:ax P.H0 H)(sub:ax Hs H)(new:∀a o,Hs a=some o->P.S0 a=some o\/P.H0 a=none):az K P (.sh (.str x)::List.replicate n .no) (some (.str x)::σ) H Hs where
 kept:=kept
 sub:=sub
 new:=new
 fix:=hF
 sh:=fun i t h=>by
  cases i with
  |zero =>
   cases h
   exact⟨_,rfl,rfl⟩
  |succ i =>
   rw [List.getElem?_cons_succ,getElem?_replicate]at h;split at h<;>cases h
 own:=fun i t h=>by
  cases i with
  |zero=>cases h
  |succ i =>
   rw [List.getElem?_cons_succ,getElem?_replicate]at h;split at h<;>cases h
 apart:=fun i j t u a _ h=>by
  cases i with
  |zero=>cases h
  |succ i =>
   rw [List.getElem?_cons_succ,getElem?_replicate]at h;split at h<;>cases h
 len:=by simp [hl]
open PySem
noncomputable def runs0 (M : Model) (Γ : PySem.Ctx) (p : Pos) (s : Shared) (e : End) (s' : Shared) (t : Sem Fin) : Prop :=
  Sem.casesOn t
    (fun f => PySem.Fin.casesOn f (fun f => e = .ret (.ok f) ∧ s' = s) (fun c => Runs M (Γ.goto c) p (M.den c) [] s e s'))
    (fun x => e = .ret (.error x) ∧ s' = s)
    (fun _ => False)
    (fun _ => False)
    (fun _ k => Runs M Γ p (k ()) [] s e s')
    (fun p' k => Runs M Γ p' (k ()) [] s e s')
    (fun a _ k => ∃ o, s.heap.get? a = some o ∧ Runs M Γ p (k o) [] s e s')
    (fun a _ f k => Runs M Γ p (k ()) [] { s with heap := s.heap.update a f } e s')
    (fun o k => Runs M Γ p (k s.heap.objs.size) [] { s with heap := s.heap.push o } e s')
    (fun a k => Runs M Γ p (k (s.heap.get? a)) [] s e s')
    (fun _ k => Runs M Γ p (k ()) [] s e s')
    (fun _ _ => False)
    (fun k => Runs M Γ p (k s.toks) [] { s with toks := s.toks + 1 } e s')
    (fun k => Runs M Γ p (k ⟨M.prog, M.w.params⟩) [] s e s')
    (fun src n k => Runs M Γ p (k (M.w.draws src (s.drawn.get src) % n)) [] { s with drawn := s.drawn.bump src } e s')
    (fun q l k => Runs M Γ p (k (Os.step s.os q).2) [] { s with os := (Os.step s.os q).1 } e s')
    (fun c h g l k => ∃ e1 s1, Runs M (Γ.enter c h p) p (M.den c) [] s e1 s1 ∧ End.casesOn e1 (fun r => Runs M Γ p (k r) [] s1 e s') (fun v g₀ l₀ k₀ c₀ p₀ fs => e = .susp v g₀ l₀ k₀ c₀ p₀ (fs ++ [.ret k h g l Γ.code p []]) ∧ s' = s1))
    (fun own k => Runs M Γ p (k (if own then Γ.own else Γ.handled)) [] s e s')
    (fun c k => Runs M Γ p (k s.gens.size) [] { s with gens := s.gens.push (.fresh c) } e s')
    (fun g k => ∃ st, s.gens[g]? = some st ∧ Runs M Γ p (k st.seen) [] s e s')
    (fun g r l k => ∃ res s1, Wakes M Γ p g r s res s1 ∧ Runs M Γ p (k res) [] s1 e s')
    (fun v g l k => e = .susp v g l k Γ.code p [] ∧ s' = s)
    (fun k => Runs M Γ p (k ((Γ.code, p) :: Γ.below)) [] s e s')
    (fun _ _ => False)
    (fun k => Runs M Γ p (k 0) [] s e s')
    (fun _ _ _ _ _ => False)
noncomputable def runsN (M : Model) (Γ : PySem.Ctx) (F : Frame) (fs : List Frame) (s1 : Shared) (e : End) (s' : Shared) (e1 : End) : Prop :=
  End.casesOn e1 (fun r => Frame.casesOn F (fun k _ _ _ c₁ p₁ _ => Runs M (Γ.goto c₁) p₁ (k r) fs s1 e s') (fun g k _ c₁ p₁ => Runs M (Γ.goto c₁) p₁ (k (End.ret r).result) fs (s1.setGen g .finished) e s'))
    (fun v g₀ l₀ k₀ c₀ p₀ fs₀ => (splitAtGen (F :: fs) = none ∧ e = .susp v g₀ l₀ k₀ c₀ p₀ (fs₀ ++ F :: fs) ∧ s' = s1) ∨ ∃ pre g k c₁ p₁ rest, splitAtGen (F :: fs) = some (pre, (g, k, c₁, p₁), rest) ∧ Runs M (Γ.goto c₁) p₁ (k (.yielded v)) rest (s1.setGen g (End.susp v g₀ l₀ k₀ c₀ p₀ (fs₀ ++ pre)).genState) e s')
noncomputable def runsI (M : Model) (Γ : PySem.Ctx) (p : Pos) (s : Shared) (e : End) (s' : Shared) (t : Sem Fin) (fs : List Frame) : Prop :=
  List.casesOn fs (runs0 M Γ p s e s' t) (fun F fs => ∃ e1 s1, Runs M (Γ.over (F :: fs)) p t [] s e1 s1 ∧ runsN M Γ F fs s1 e s' e1)
theorem runs_inv {M : Model} {Γ : PySem.Ctx} {p : Pos} {t : Sem Fin} {fs : List Frame} {s : Shared} {e : End} {s' : Shared} (h : Runs M Γ p t fs s e s') : runsI M Γ p s e s' t fs := by
  induction h with
  | done => exact ⟨rfl, rfl⟩
  | raise => exact ⟨rfl, rfl⟩
  | again _ h _ => exact h
  | rule h _ => exact h
  | «at» h _ => exact h
  | load h1 h _ => exact ⟨_, h1, h⟩
  | update _ h _ => exact h
  | loadIfAlive h _ => exact h
  | point h _ => exact h
  | alloc h _ => exact h
  | fresh h _ => exact h
  | ask h _ => exact h
  | choose _ h _ => exact h
  | os h _ => exact h
  | handled h _ => exact h
  | genState h1 h _ => exact ⟨_, h1, h⟩
  | stack h _ => exact h
  | thread h _ => exact h
  | newGen h _ => exact h
  | call h1 h2 _ _ => exact ⟨_, _, h1, h2⟩
  | callSusp h1 _ => exact ⟨_, _, h1, rfl, rfl⟩
  | yield => exact ⟨rfl, rfl⟩
  | resumeFresh h1 h2 h3 h4 _ _ => exact ⟨_, _, by unfold Wakes; rw [h1]; exact ⟨_, _, h2, h3, rfl, rfl⟩, h4⟩
  | resumeSuspended h1 h2 h3 h4 _ _ => exact ⟨_, _, by unfold Wakes; rw [h1]; exact ⟨_, _, h2, h3, rfl, rfl⟩, h4⟩
  | @resumeJustStarted _ v _ _ _ s0 _ _ _ _ h1 h2 h3 _ => exact ⟨_, _, by unfold Wakes; rw [h1]; cases v <;> first | exact absurd rfl h2 | exact ⟨rfl, rfl⟩, h3⟩
  | resumeThrowFresh h1 h2 _ => exact ⟨_, _, by unfold Wakes; rw [h1]; exact ⟨rfl, rfl⟩, h2⟩
  | resumeRunning h1 h2 _ => exact ⟨_, _, by unfold Wakes; rw [h1]; exact ⟨rfl, rfl⟩, h2⟩
  | resumeFinished h1 h2 _ => exact ⟨_, _, by unfold Wakes; rw [h1]; exact ⟨rfl, rfl⟩, h2⟩
  | segRet h1 h2 _ _ => exact ⟨_, _, h1, h2⟩
  | segGen h1 h2 _ _ => exact ⟨_, _, h1, h2⟩
  | segSuspOut h1 h2 _ => exact ⟨_, _, h2, .inl ⟨h1, rfl, rfl⟩⟩
  | segSuspGen h1 h2 _ h4 _ _ => exact ⟨_, _, h2, .inr ⟨_, _, _, _, _, _, h1, h4⟩⟩
theorem Aj {M : Model} {Γ : PySem.Ctx} {p : Pos} {t : Sem Fin} {fs : List Frame} {s : Shared} {e : End} {s' : Shared} (h : Runs M Γ p t fs s e s') : ∀ e2 s2, Runs M Γ p t fs s e2 s2 → e = e2 ∧ s' = s2 := by
  induction h with
  | done => exact fun e2 s2 h2 => let ⟨a, b⟩ := runs_inv h2; ⟨a.symm, b.symm⟩
  | raise => exact fun e2 s2 h2 => let ⟨a, b⟩ := runs_inv h2; ⟨a.symm, b.symm⟩
  | yield => exact fun e2 s2 h2 => let ⟨a, b⟩ := runs_inv h2; ⟨a.symm, b.symm⟩
  | again _ _ ih => exact fun e2 s2 h2 => ih e2 s2 (runs_inv h2)
  | rule _ ih => exact fun e2 s2 h2 => ih e2 s2 (runs_inv h2)
  | «at» _ ih => exact fun e2 s2 h2 => ih e2 s2 (runs_inv h2)
  | load h1 _ ih => exact fun e2 s2 h2 => let ⟨o, a, b⟩ := runs_inv h2; ih e2 s2 (by rw [h1] at a; cases a; exact b)
  | update _ _ ih => exact fun e2 s2 h2 => ih e2 s2 (runs_inv h2)
  | loadIfAlive _ ih => exact fun e2 s2 h2 => ih e2 s2 (runs_inv h2)
  | point _ ih => exact fun e2 s2 h2 => ih e2 s2 (runs_inv h2)
  | alloc _ ih => exact fun e2 s2 h2 => ih e2 s2 (runs_inv h2)
  | fresh _ ih => exact fun e2 s2 h2 => ih e2 s2 (runs_inv h2)
  | ask _ ih => exact fun e2 s2 h2 => ih e2 s2 (runs_inv h2)
  | choose _ _ ih => exact fun e2 s2 h2 => ih e2 s2 (runs_inv h2)
  | os _ ih => exact fun e2 s2 h2 => ih e2 s2 (runs_inv h2)
  | handled _ ih => exact fun e2 s2 h2 => ih e2 s2 (runs_inv h2)
  | genState h1 _ ih => exact fun e2 s2 h2 => let ⟨o, a, b⟩ := runs_inv h2; ih e2 s2 (by rw [h1] at a; cases a; exact b)
  | stack _ ih => exact fun e2 s2 h2 => ih e2 s2 (runs_inv h2)
  | thread _ ih => exact fun e2 s2 h2 => ih e2 s2 (runs_inv h2)
  | newGen _ ih => exact fun e2 s2 h2 => ih e2 s2 (runs_inv h2)
  | call _ _ ih1 ih2 =>
    intro e2 s2 h2
    obtain ⟨e1, s1, a, b⟩ := runs_inv h2
    obtain ⟨rfl, rfl⟩ := ih1 _ _ a
    exact ih2 _ _ b
  | callSusp _ ih1 =>
    intro e2 s2 h2
    obtain ⟨e1, s1, a, b⟩ := runs_inv h2
    obtain ⟨rfl, rfl⟩ := ih1 _ _ a
    exact ⟨b.1.symm, b.2.symm⟩
  | resumeFresh h1 _ _ _ ih1 ih2 =>
    intro e2 s2 h2
    obtain ⟨e1, s1, a, b⟩ := runs_inv h2
    unfold Wakes at a
    rw [h1] at a
    obtain ⟨e3, s3, a1, a2, a3, a4⟩ := a
    obtain ⟨rfl, rfl⟩ := ih1 _ _ a1
    subst a3
    subst a4
    exact ih2 _ _ b
  | resumeSuspended h1 _ _ _ ih1 ih2 =>
    intro e2 s2 h2
    obtain ⟨e1, s1, a, b⟩ := runs_inv h2
    unfold Wakes at a
    rw [h1] at a
    obtain ⟨e3, s3, a1, a2, a3, a4⟩ := a
    obtain ⟨rfl, rfl⟩ := ih1 _ _ a1
    subst a3
    subst a4
    exact ih2 _ _ b
  | @resumeJustStarted _ v _ _ _ s0 _ _ _ _ h1 hv _ ih =>
    intro e2 s2 h2
    obtain ⟨e1, s1, a, b⟩ := runs_inv h2
    unfold Wakes at a
    rw [h1] at a
    have a : e1 = .justStarted ∧ s1 = s0 := by
      cases v <;> first | exact absurd rfl hv | exact a
    obtain ⟨rfl, rfl⟩ := a
    exact ih _ _ b
  | resumeThrowFresh h1 _ ih =>
    intro e2 s2 h2
    obtain ⟨e1, s1, a, b⟩ := runs_inv h2
    unfold Wakes at a
    rw [h1] at a
    obtain ⟨rfl, rfl⟩ := a
    exact ih _ _ b
  | resumeRunning h1 _ ih =>
    intro e2 s2 h2
    obtain ⟨e1, s1, a, b⟩ := runs_inv h2
    unfold Wakes at a
    rw [h1] at a
    obtain ⟨rfl, rfl⟩ := a
    exact ih _ _ b
  | resumeFinished h1 _ ih =>
    intro e2 s2 h2
    obtain ⟨e1, s1, a, b⟩ := runs_inv h2
    unfold Wakes at a
    rw [h1] at a
    obtain ⟨rfl, rfl⟩ := a
    exact ih _ _ b
  | segRet _ _ ih1 ih2 =>
    intro e2 s2 h2
    obtain ⟨e1, s1, a, b⟩ := runs_inv h2
    obtain ⟨rfl, rfl⟩ := ih1 _ _ a
    exact ih2 _ _ b
  | segGen _ _ ih1 ih2 =>
    intro e2 s2 h2
    obtain ⟨e1, s1, a, b⟩ := runs_inv h2
    obtain ⟨rfl, rfl⟩ := ih1 _ _ a
    exact ih2 _ _ b
  | segSuspOut h1 _ ih1 =>
    intro e2 s2 h2
    obtain ⟨e1, s1, a, b⟩ := runs_inv h2
    obtain ⟨rfl, rfl⟩ := ih1 _ _ a
    rcases b with ⟨_, b1, b2⟩ | ⟨pre, g, k, c1, p1, rest, b1, _⟩
    · exact ⟨b1.symm, b2.symm⟩
    · rw [h1] at b1
      cases b1
  | segSuspGen h1 _ _ _ ih1 ih2 =>
    intro e2 s2 h2
    obtain ⟨e1, s1, a, b⟩ := runs_inv h2
    obtain ⟨rfl, rfl⟩ := ih1 _ _ a
    rcases b with ⟨b1, _⟩ | ⟨pre, g, k, c1, p1, rest, b1, b2⟩
    · rw [h1] at b1
      cases b1
    · rw [h1] at b1
      cases b1
      exact ih2 _ _ b2
theorem Ak{M:Model}{Γ:PySem.Ctx}{p:Pos}{s:Shared}{r r2:Result}{s' s2:Shared}(h:Returns M Γ p s r s')(h2:Returns M Γ p s r2 s2):r=r2/\s'=s2:=by
 obtain⟨e,e'⟩:=Aj h _ _ h2
 cases e
 exact⟨rfl,e'⟩
theorem Es{M:Model}{Γ:PySem.Ctx}{p:Pos}{g:Nat}{r:Resume}{s:Shared}{a b:GenResult}{s' s2:Shared}(h:Wakes M Γ p g r s a s')(h2:Wakes M Γ p g r s b s2):a=b/\s'=s2:=by
 unfold Wakes at h h2;have two:∀{Γ':PySem.Ctx}{p':Pos}{t:Sem Fin}{fs:List Frame}{s0:Shared},(∃e₁ s₁,Runs M Γ' p' t fs s0 e₁ s₁/\e₁.quiet=true/\a=e₁.result/\s'=s₁.setGen g e₁.genState)->(∃e₁ s₁,Runs M Γ' p' t fs s0 e₁ s₁/\e₁.quiet=true/\b=e₁.result/\s2=s₁.setGen g e₁.genState)->a=b/\s'=s2:=by
  rintro Γ' p' t fs s0 ⟨e1,t1,q1,_,z1,z2⟩ ⟨e2,t2,q2,_,z3,z4⟩;obtain⟨y1,y2⟩:=Aj q1 _ _ q2;rw [z1,z2,z3,z4,y1,y2];exact⟨rfl,rfl⟩
 have one:∀{x:GenResult}{y:Shared},a=x/\s'=y->b=x/\s2=y->a=b/\s'=s2:=by
  rintro x y ⟨z1,z2⟩ ⟨z3,z4⟩;rw [z1,z2,z3,z4];exact⟨rfl,rfl⟩
 cases hg:s.gens[g]? with
 |none=>rw [hg]at h;exact h.elim
 |some st =>
  rw [hg]at h h2
  cases st with
  |fresh c =>
   cases r with
   |send v=>cases v<;>first|exact two h h2|exact one h h2
   |throw x=>exact one h h2
  |suspended k0 l c0 p0 fs cl=>exact two h h2
  |running=>exact one h h2
  |finished=>exact one h h2
theorem NL{α:Type}{M:Model}{Γ:PySem.Ctx}{Q Q':α->Pos->Shared->Prop}{E E':Value->Pos->Shared->Prop}(t:Sem α):∀(p:Pos)(s:Shared),Sem.wp M Γ t Q E p s->Sem.wp M Γ t Q' E' p s->Sem.wp M Γ t (fun a p s=>Q a p s/\Q' a p s) (fun a p s=>E a p s/\E' a p s) p s:=by
 induction t with
 |pure x=>exact fun p s h h'=>⟨h,h'⟩
 |raise v=>exact fun p s h h'=>⟨h,h'⟩
 |unsupported=>exact fun p s h h'=>h
 |finish=>exact fun p s h h'=>h
 |yield=>exact fun p s h h'=>h
 |fork=>exact fun p s h h'=>h
 |await=>exact fun p s h h'=>h
 |register=>exact fun p s h h'=>h
 |rule t k ih=>exact fun p s h h'=>ih () p s h h'
 |«at» p' k ih=>exact fun p s h h'=>ih () p' s h h'
 |load a pt k ih =>
  rintro p s ⟨o,h1,h2⟩ ⟨o',Ky,NM⟩;rw [h1]at Ky
  cases Ky
  exact⟨o,h1,ih o p s h2 NM⟩
 |update a pt f k ih=>exact fun p s h h'=>⟨h.1,ih () p _ h.2 h'.2⟩
 |loadIfAlive a k ih=>exact fun p s h h'=>ih _ p s h h'
 |point l k ih=>exact fun p s h h'=>ih () p s h h'
 |alloc o k ih=>exact fun p s h h'=>ih _ p _ h h'
 |fresh k ih=>exact fun p s h h'=>ih _ p _ h h'
 |ask k ih=>exact fun p s h h'=>ih _ p s h h'
 |choose src n k ih=>exact fun p s h h'=>⟨h.1,ih _ p _ h.2 h'.2⟩
 |os q l k ih=>exact fun p s h h'=>ih _ p _ h h'
 |call c h g l k ih =>
  rintro p s ⟨r,s',h1,h2⟩ ⟨r2,s2,Ky,NM⟩;obtain⟨rfl,rfl⟩:=Ak h1 Ky;exact⟨r,s',h1,ih r p s' h2 NM⟩
 |handled o k ih=>exact fun p s h h'=>ih _ p s h h'
 |genState g k ih =>
  rintro p s ⟨st,h1,h2⟩ ⟨wy,Ky,NM⟩;rw [h1]at Ky
  cases Ky
  exact⟨st,h1,ih _ p s h2 NM⟩
 |newGen c k ih=>exact fun p s h h'=>ih _ p _ h h'
 |resume g r l k ih =>
  rintro p s ⟨a,s',h1,h2⟩ ⟨b,s2,Ky,NM⟩;obtain⟨rfl,rfl⟩:=Es h1 Ky;exact⟨a,s',h1,ih a p s' h2 NM⟩
 |stack k ih=>exact fun p s h h'=>ih _ p s h h'
 |thread k ih=>exact fun p s h h'=>ih _ p s h h'
theorem fY{α:Type}{M:Model}{A:Around}{t:Sem α}{Q Q':α->Shared->Prop}{E E':Value->Shared->Prop}{s:Shared}(h:wpAny M A t Q E s)(h':wpAny M A t Q' E' s):wpAny M A t (fun a s=>Q a s/\Q' a s) (fun a s=>E a s/\E' a s) s :=
 fun Γ p hΓ=>NL t p s (h Γ p hΓ) (h' Γ p hΓ)
def iX(k:Nat)(v:Value)(e:Addr)(h:Heap):Prop:=∃o vs,h.get? e=some o/\o.data=.fields vs/\vs[k]?=some v
abbrev Kz(e:Addr)(h:Heap):Prop:=iX 2 .none e h
section
variable {M:Model}{A:Around}{s:Shared}{k:Nat}{v:Value}
theorem qt{h:Heap}{e T:Addr}{f:Obj->Obj}(hc:iX k v e h)(n:e≠T):iX k v e (h.update T f):=by
 obtain⟨o,vs,h1,h2,h3⟩:=hc;exact⟨o,vs,(Heap.get?_update_other _ _ (Ne.symm n)).trans h1,h2,h3⟩
theorem Hm{h:Heap}{e:Addr}{o':Obj}(hc:iX k v e h):iX k v e (h.push o'):=by
 obtain⟨o,vs,h1,h2,h3⟩:=hc;exact⟨o,vs,Heap.get?_push_of_some _ h1,h2,h3⟩
theorem Hn{h:Heap}{e:Addr}{u:Value}(hk:1≠k)(hc:iX k v e h):iX k v e (h.update e (Obj.mapFields (·.setIfInBounds 1 u))):=by
 obtain⟨o,vs,h1,h2,h3⟩:=hc;have hd:=Obj.data_mapFields h2 (·.setIfInBounds 1 u);exact⟨_,_,Heap.get?_update_self _ h1 (Obj.isFreed_of_fields hd),hd,by rw [Array.getElem?_setIfInBounds_ne hk];exact h3⟩
theorem vh{base:Heap}{e:Addr}{cls a0 fl:Value}(ht:s.heap.TracedAtW base e cls a0 fl)(hc:iX k v e s.heap):wpAny M A (setFlight (.ref e) none) (fun _ s'=>iX k v e s'.heap) (fun _ _=>False) s:=by
 obtain⟨oe,vs,T,oT,ts,he,qZ,hd,h1,I0,Ba,hT,Bb,h3⟩:=ht;unfold setFlight;refine wpAny_bind (wpAny_field he hd h1 ?_);rw [if_pos (show(Value.ref T != Value.none)=true from by simp)];exact wpAny_setField hT Bb (Array.getElem?_eq_some_iff.mp h3).1 (qt hc (Ne.symm Ba))
theorem rJ{base:Heap}{env:Env}{outer:List Env}{L e:Addr}{oe:Obj}{vs:Array Value}{head:Value}{yC:Bool}
  (qX:A.frames=some (env::outer)) (hl:s.heap.FunFrames base (env::outer)) (hf:env.frame=some L) (he:s.heap.get? e=some oe) (hd:oe.data=.fields vs) (zh:1<vs.size) (hk:1≠k) (hc:iX k v e s.heap) :
  wpAny M A (do let a<-frameOf env;let pl<-entryPlaceOf L yC;let b<-EntryCells.newEntry head a .none (rawInt L) .none pl;setField (.ref e) 1 b) (fun _ s'=>iX k v e s'.heap) (fun _ _=>False) s:=by
 have KA:e∉(env::outer).filterMap (·.frame):=fun hm=>by
  obtain⟨_,o,ho,xB⟩:=hl.mem hm;rw [he]at ho
  cases ho
  exact xB vs hd
 refine wpAny_bind (wpAny_frameOf_fun qX hl hf fun h₁ Rx=>?_);refine wpAny_bind (wpAny_entryPlaceOf fun pl jV=>?_);unfold EntryCells.newEntry newFields;refine wpAny_bind (wpAny_newObj_type ?_ (jV.sizeOk5 _ _ _ _ _));have Qb:h₁.get? e=some oe:=(Rx.2.1 e KA).trans he;have hc₁:iX k v e h₁:=by
  obtain⟨o,ws,q1,q2,q3⟩:=hc;exact⟨o,ws,(Rx.2.1 e KA).trans q1,q2,q3⟩
 exact wpAny_setField (Heap.get?_push_of_some _ Qb) hd zh (Hn hk (Hm hc₁))
theorem Al{base:Heap}{env:Env}{outer:List Env}{L e:Addr}{cls a0:Value}(qX:A.frames=some (env::outer))(hf:env.frame=some L)(Ry:Heap.FlyingW base (env::outer) e cls a0 s.heap)(hk:1≠k)(hc:iX k v e s.heap):
  wpAny M A (noteFrame (.ref e) env) (fun _ s'=>iX k v e s'.heap) (fun _ _=>False) s:=by
 obtain⟨_,_,hl,oe,vs,T,oT,ts,he,qZ,hd,h1,I0,Ba,hT,Bb,h3⟩:=Ry;unfold noteFrame;simp only [hf];refine wpAny_bind (wpAny_field he hd h1 ?_);rw [if_pos (show(Value.ref T != Value.none)=true from by simp)];refine wpAny_bind (wpAny_field hT Bb h3 ?_);rw [if_neg (show ¬((Value.none==rawInt L)=true) from by simp [rawInt])];refine wpAny_bind (wpAny_setField hT Bb (Array.getElem?_eq_some_iff.mp h3).1 ?_);have other:∀b,b≠T->(s.heap.update T (Obj.mapFields (·.setIfInBounds 3 Value.none))).get? b=s.heap.get? b:=fun b hb=>Heap.get?_update_other _ _ (Ne.symm hb);have jl:∀b o,s.heap.get? b=some o->(∀vs,o.data ≠ .fields vs)->b≠T:=fun b o hb xB q=>by
  rw [q,hT]at hb
  cases hb
  exact xB ts Bb
 exact rJ qX (hl.of_keeps fun b o hb xB=>⟨o,(other b (jl b o hb xB)).trans hb,rfl⟩) hf ((other e (Ne.symm Ba)).trans he) hd (Array.getElem?_eq_some_iff.mp h1).1 hk (qt hc (Ne.symm Ba))
theorem yD{base:Heap}{env:Env}{outer:List Env}{L e:Addr}{cls a0:Value}(qX:A.frames=some (env::outer))(hf:env.frame=some L)(Ry:Heap.FlyingW base (env::outer) e cls a0 s.heap)(hk:1≠k)(hc:iX k v e s.heap):
  wpAny M A (leaving env (.ref e)) (fun _ s'=>iX k v e s'.heap) (fun _ _=>False) s:=by
 unfold leaving;refine wpAny_bind (wpAny_mono (fY (wpAny_looks_onW (Q:=fun _ s'=>Heap.HeldW base (env::outer) e cls a0 L s'.heap) (E:=fun _ _=>False) qX hf Ry fun h' x _=>x) (Al qX hf Ry hk hc)) (fun _ s1 z=>?_) fun _ _ z=>z.1);exact vh z.1.2.2.2 z.2
theorem vi{base:Heap}{env:Env}{outer:List Env}{L e:Addr}{oe:Obj}{vs:Array Value}{head:Value}{yC:Bool}
  (qX:A.frames=some (env::outer)) (hl:s.heap.FunFrames base (env::outer)) (hf:env.frame=some L) (he:s.heap.get? e=some oe) (hd:oe.data=.fields vs) (zh:1<vs.size) :
  wpAny M A (do let a<-frameOf env;let pl<-entryPlaceOf L yC;let b<-EntryCells.newEntry head a .none (rawInt L) .none pl;setField (.ref e) 1 b) (fun _ s'=>∃o ws T oT ts,s'.heap.get? e=some o/\o.data=.fields ws/\ws[1]?=some (.ref T)/\T≠e/\s'.heap.get? T=some oT/\oT.data=.fields ts/\3<ts.size) (fun _ _=>False) s:=by
 have KA:e∉(env::outer).filterMap (·.frame):=fun hm=>by
  obtain⟨_,o,ho,xB⟩:=hl.mem hm;rw [he]at ho
  cases ho
  exact xB vs hd
 refine wpAny_bind (wpAny_frameOf_fun qX hl hf fun h₁ Rx=>?_);refine wpAny_bind (wpAny_entryPlaceOf fun pl jV=>?_);unfold EntryCells.newEntry newFields;refine wpAny_bind (wpAny_newObj_type ?_ (jV.sizeOk5 _ _ _ _ _));have Qb:h₁.get? e=some oe:=(Rx.2.1 e KA).trans he;have Ba:h₁.objs.size≠e:=Nat.ne_of_gt (Heap.lt_size Qb);refine wpAny_setField (Heap.get?_push_of_some _ Qb) hd zh ?_;have YX:=Obj.data_mapFields hd (·.setIfInBounds 1 (Value.ref h₁.objs.size));refine⟨_,_,h₁.objs.size,_,_,Heap.get?_update_self _ (Heap.get?_push_of_some _ Qb) (Obj.isFreed_of_fields YX),YX,by simp [zh],Ba,(Heap.get?_update_other _ _ (Ne.symm Ba)).trans (Heap.get?_push_size h₁ rfl),rfl,?_⟩;simp only [size_toArray,length_append,length_cons,List.length_nil];omega
theorem mO{base h:Heap}{env:Env}{outer:List Env}{L e:Addr}{cls:Value}{args:List Value}(qX:A.frames=some (env::outer))(hf:env.frame=some L)(hl:h.FunFrames base (env::outer))(hx:Heap.MadeExcOf h s.heap e cls args)(hk:1≠k)(hc:iX k v e s.heap):
  wpAny M A (leaving env (.ref e)) (fun _ s'=>iX k v e s'.heap) (fun _ _=>False) s:=by
 obtain⟨t,he,YY,ht⟩:=hx.there;have YZ:s.heap.FunFrames base (env::outer):=hl.of_keeps fun b o hb _=>⟨o,hx.keeps b o hb,rfl⟩;unfold leaving noteFrame;simp only [hf];refine wpAny_bind (wpAny_bind (wpAny_field (x:=.none) he rfl rfl ?_));rw [if_neg (by decide)];refine wpAny_mono (fY (rJ qX YZ hf he rfl (by show 1<6;decide) hk hc) (vi qX YZ hf he rfl (by show 1<6;decide))) (fun _ s1 z=>?_) fun _ _ z=>z.1;obtain⟨hc1,o,ws,T,oT,ts,q1,q2,q3,q4,q5,q6,q7⟩:=z;unfold setFlight;refine wpAny_bind (wpAny_field q1 q2 q3 ?_);rw [if_pos (show(Value.ref T != Value.none)=true from by simp)];exact wpAny_setField q5 q6 q7 (qt hc1 (Ne.symm q4))
end
section
variable {prog:Program}{w:World}{A:Around}{E:Value->Shared->Prop}{env:Env}
variable {nm q:Str}{C N:Addr}{bs bm:List Value}{hdct:Bool}{sn:List Str}{sub:List Value}{ab:Bool}{col:Option Bool}{dd:Option Addr}{k0 k1 k2 k3 k5:Option Value}{newId:String}
end
def NN(X:Cx)(e:Expr)(n:Nat)(c:St->Hp->Prop):Prop:=∀(pins:List (Addr×Obj))(s:Shared)(σ:St)(H:Hp)(Q:Value->Shared->Prop),L2.Inv X pins σ H s->c σ H->(∀x t s',L2.Inv X pins σ H s'->x.length<=n->Q (.str x t) s')->wpAny (model X.prog X.w) X.A (eval e X.env) Q X.xe s
section
variable {X:Cx}{e:Expr}{es:List Expr}{n m:Nat}{c d:St->Hp->Prop}{p p1 p2:Pos}{j i:Nat}
theorem Am{y:Str}:NN X (.Constant (.str y) j p) y.length (fun _ _=>True):=fun pins s σ H Q I _ k=>by
 refine da (xV pins s σ H (fun v H2=>v=.str y/\H2=H) I ⟨rfl,rfl⟩) fun v s2 ⟨v2,H2,I2,r2,NF⟩=>?_;obtain⟨rfl,rfl⟩:=NF;obtain⟨t2,rfl⟩:=r2;exact k y t2 s2 I2 (le_refl _)
theorem vj(h:PE X e (gq i))(hn:n<=100000):NN X (.FormattedValue e 114 none p) n (fun σ _=>∃x,σ[i]?=some (some (.str x))/\(reprText x).length<=n):=fun pins s σ H Q I ⟨x,hx,hl⟩ k=>by
 have big:100000<=sizeLine:=by decide
 refine wpAny_FormattedValue_repr (da (h pins s σ H (fun v H2=>v=.str x/\H2=H) I ⟨_,hx,rfl,rfl⟩) fun v s1 z=>?_);obtain⟨v',H1,I1,r,hv⟩:=z;obtain⟨rfl,rfl⟩:v'=.str x/\H1=H:=hv;obtain⟨t,rfl⟩:=r;refine wpAny_pyReprObj_str ?_ (by omega);exact wpAny_formatField_str (k _ _ _ (I1.tok _) hl) (k _ _ _ ((I1.tok _).tok _) hl) (by omega)
theorem KD{a:Int}(h:PE X e (tC (.int a)))(ha:a.natAbs.log2<1920):NN X (.FormattedValue e (-1) none p) (toString a:Str).length (fun _ _=>True):=fun pins s σ H Q I _ k=>by
 refine wpAny_FormattedValue_plain (da (h pins s σ H (fun v H2=>v=.int a/\H2=H) I ⟨rfl,rfl⟩) fun v s1 z=>?_);obtain⟨v',H1,I1,r,hv⟩:=z;obtain⟨rfl,rfl⟩:=hv;obtain⟨t,rfl⟩:=r;exact wpAny_formatField_int ha (k _ _ _ (I1.tok _) (le_refl _))
inductive mf(X:Cx):List Expr->Nat->(St->Hp->Prop)->Prop where
 |nil:mf X [] 0 fun _ _=>True
 |cons {e:Expr} {es:List Expr} {n m:Nat} {c d:St->Hp->Prop} (h:NN X e n c) (hs:mf X es m d) (he:evalEach (e::es) X.env=eval e X.env::evalEach es X.env):mf X (e::es) (n+m) fun σ H=>c σ H/\d σ H
theorem Ho{es:List Expr}{m:Nat}{d:St->Hp->Prop}(hs:mf X es m d):∀(pins:List (Addr×Obj))(s:Shared)(σ:St)(H:Hp)(Q:Value->Shared->Prop)(acc:Str)(k:Nat),acc.length<=k->k+m<=sizeLine->L2.Inv X pins σ H s->d σ H->(∀x t s',L2.Inv X pins σ H s'->x.length<=k+m->Q (.str x t) s') ->
  Joins (model X.prog X.w) X.A X.xe (evalEach es X.env) acc (fun out s₁=>out.length<=sizeLine/\Q (.str out s₁.toks) {s₁ with toks:=s₁.toks+1}) s:=by
 induction hs with
 |nil =>
  intro pins s σ H Q acc k hk hm I _ q;exact⟨by omega,q _ _ _ (I.tok _) (by omega)⟩
 |@cons e es n m c d h hs he ih =>
  intro pins s σ H Q acc k hk hm I hd q;rw [he];refine h pins s σ H _ I hd.1 fun x t s1 I1 hx=>⟨x,t,rfl,by rw [strLen_append];omega,?_⟩;refine ih pins s1 σ H Q (acc++x) (k+n) (by rw [strLen_append];omega) (by omega) I1 hd.2 fun y t2 s2 I2 hy=>q y t2 s2 I2 (by omega)
theorem qu{a b:Expr}{m:Nat}{d:St->Hp->Prop}(hs:mf X (a::b::es) m d)(hm:m<=100000):NN X (.JoinedStr (a::b::es) p) m d:=fun pins s σ H Q I hd k =>
 wpAny_JoinedStr (Ho hs pins s σ H Q Str.empty 0 (le_refl _) (by have:100000<=sizeLine:=(by decide);omega) I hd fun x t s' I' hx=>k x t s' I' (by omega))
theorem LN{m:Nat}{d:St->Hp->Prop}(h:NN X e m d)(hs:starEach [e] X.env=[(false,eval e X.env)]:=by rfl):PA X [e] (fun σ H Q=>d σ H/\∀x,x.length<=m->Q [.str x] H):=by
 have pe:PE X e (fun σ H Q=>d σ H/\∀x,x.length<=m->Q (.str x) H):=fun pins s σ H Q I ⟨hd,q⟩=>h pins s σ H _ I hd fun x t s' I' hx=>⟨.str x,H,I',⟨t,rfl⟩,q x hx⟩;intro pos pins s σ H Q I ⟨hd,q⟩;exact bE pe d0 hs pos pins s σ H Q I ⟨hd,fun x hx=>q x hx⟩
end
section Zs
open PySem PySem.Spec PySem.Calls PySem.W PyProof.Rows Builtin Builtin.ObjectAttr Builtin.BaseException Builtin.Exceptions
section
variable {prog:Program}{w:World}{A:Around}{E:Value->Shared->Prop}{K:Frag}{h:Heap}{g:Array GenState}{d:Drawn}{t:Nat}{os:OsState}{a C t0:Addr}{o:Obj}{vs:Array Value}{m:Str}{tk:Tok}
end
end Zs
section Zs
open PySem PySem.Spec PySem.Calls PySem.W PyProof.Rows Builtin
section
variable {prog:Program}{w:World}{A:Around}{E:Value->Shared->Prop}{K:Frag}{h:Heap}{g:Array GenState}{d:Drawn}{t:Nat}{os:OsState}{a C t0:Addr}{o:Obj}{vs:Array Value}{m:Str}{tk:Tok}
end
end Zs
def qY(P:Program)(w:World)(C:Addr):wq:=fun outer H s E e s'=>∃(a t:Addr) (m:Str) (tk:Tok) (H':Hp) (B:Heap),
 e=.ref a/\s'.os=s.os/\AllBare s'.gens/\Un (pU outer) [] H H' s.heap s'.heap/\mm P w H' s'.heap/\Heap.FlyingW B outer a (.ref C) (.ref t) s'.heap /\
 (∀b o,s'.heap.get? b=some o->(H' b≠none\/∃u,s.heap.get? b=some u)->b∉pU outer->B.get? b=some o)/\s.heap.get? a=none/\H' a=none /\
 s'.heap.TupAt t [.str m tk]/\s.heap.get? t=none/\H' t=none/\B.get? t=none/\m.length<=2000/\Kz a s'.heap/\E e none H'
theorem xC{X:Cx}{C:Addr}{E:XK}{x:Str}{np bQ pos:Pos}{e:Expr}{es:List Expr}{t:TA}
  (Et:∀e s',wpAny (model X.prog X.w) X.A (leaving X.env e) (fun _ qU=>qY X.prog X.w C X.outer X.H₀ X.s₀ E e qU) (fun _ _=>False) s'->X.xe e s')
  (iw:X.stack=X.env::X.outer) (hf:X.env.frame=some X.env.locals) (hex:X.ex=[]) (Hq:X.calm=true)
  (hg:Gl X x) (hm:X.mg x=some (.ref C)) (hq:excIn X.K C Rt "ValueError.__new__" = true) (ha:PA X (e::es) t)
  (kJ:(x==("__debug__" : Str))=false:=by decide) (he:starEach (e::es) X.env=(false,eval e X.env)::starEach es X.env:=by rfl) (jV:(backTo bQ (starEach es X.env)).any (·.1)=false:=by rfl) :
  PS X (.Raise (some (.Call (.Name x np) (e::es) [] bQ)) none pos) (fun D σ H=>t σ H fun vs H1=>(∃m,vs=[.str m]/\m.length<=2000)/\∀a,E (.ref a) none H1):=by
 intro pins s σ H D I h;obtain⟨bm,N,nm,qn,bs,hdct,sn,sub,ab,col,dd,k0,k1,k2,k3,k5,mN,hC,hN,Ou,hT⟩:=Ny I.mod.Lp hq;have gu:bm.contains (.type "BaseException")=true:=hT.hasType (by rfl);refine wpAny_Raise_call_subU (C:=C) (nm:=nm) (q:=qn) (N:=N) (bs:=bs) (bm:=bm) (hdct:=hdct) (sn:=sn) (sub:=sub) (ab:=ab) (col:=col) (dd:=dd) (k0:=k0) (k1:=k1) (k2:=k2) (k3:=k3) (k5:=k5) excBase_ValueError (by rfl) excBase_ValueError gu (I.ok.hd Hq) (by rw [he];show(false||(backTo bQ (starEach es X.env)).any (·.1))=false;rw [jV];rfl) Ou (h7 I hg hm ⟨rfl,?_⟩ kJ);rw [he];have h2:=ha bQ pins s σ H _ I h;rw [he]at h2;refine Calls.evalArgs_plain (da h2 fun us s2 z=>?_);obtain⟨vs,H1,I2,r,⟨m,rfl,hm⟩,hE⟩:=z;obtain⟨u,rfl,ru⟩:=Vals.one r;obtain⟨tk,rfl⟩:=ru;have Ui:=I2.bk;refine⟨rfl,by show 1<=sizeLine;decide,Ui _ _ hC,hN.keeps Ui,hT.keeps Ui,fun h' a hx=>Et _ _ ?_⟩;have qX:X.A.frames=some (X.env::X.outer):=by rw [I2.ok.frames,iw]
 have Y0:=I2.stack;rw [iw]at Y0;have hin:∀env∈(X.env::X.outer),∀b,env.frame=some b->b∈(X.env::X.outer).filterMap (·.frame):=fun env he b hb=>mem_filterMap.mpr ⟨env,he,hb⟩;have Qc:∀b∈(X.env::X.outer).filterMap (·.frame),b=X.env.locals\/b∈X.fs:=fun b hb=>by
  obtain⟨env,he,hb⟩:=mem_filterMap.mp hb;rcases mem_cons.mp he with rfl|he
  ·rw [hf]at hb
   cases hb
   exact .inl rfl
  ·exact .inr (mem_filterMap.mpr ⟨env,he,hb⟩)
 have Uj:=PySem.W.funFrames_hide Y0 hin;obtain⟨t',het,YY,_⟩:=hx.there;refine wpAny_mono (fY (wpAny_leaves_madeW (E:=fun _ _=>False) (Q:=fun _ qU=>∃h2 t,qU={s2 with heap:=h2}/\Heap.FlyingW (hideAll s2.heap ((X.env::X.outer).filterMap (·.frame))) X.outer a (.ref C) (.ref t) h2/\h2.TupAt t [.str m tk]/\(hideAll s2.heap ((X.env::X.outer).filterMap (·.frame))).get? t=none/\Heap.UpToSlots h' h2) qX hf (fun b o q=>of_hideAll _ q) Uj hx fun h2 t x1 x2 x3 x4=>⟨h2,t,rfl,x1,x2,x3,x4⟩) (fY (mO (k:=2) (v:=.none) qX hf Uj hx (by decide) ⟨_,_,het,rfl,rfl⟩) (mO (k:=0) (v:=.ref t') qX hf Uj hx (by decide) ⟨_,_,het,rfl,rfl⟩))) (fun _ qU z=>?_) fun _ _ z=>z.1;obtain⟨⟨h2,t,rfl,x1,x2,x3,x4⟩,An,hf0⟩:=z;have ett:t=t':=by
  obtain⟨_,_,_,oe,ws,_,_,_,y1,y2,y3,_⟩:=id x1;obtain⟨o,us,z1,z2,z3⟩:=hf0;have z1:h2.get? a=some o:=z1;rw [y1]at z1
  cases z1
  rw [y3]at z2
  cases z2
  rw [y2.2]at z3
  cases z3
  rfl
 subst ett;have U:Un X.fs [] X.H₀ H1 X.s₀.heap s2.heap:=by
  have:=I2.base;rwa [hex]at this
 have up:s2.heap.UpToSlots h2:=(Heap.UpToSlots.of_keeps hx.keeps).trans x4;have st:=x1.1;have hi:∀b o,s2.heap.get? b=some o->(H1 b≠none\/∃u,X.s₀.heap.get? b=some u)->b∉X.fs->(hideAll s2.heap ((X.env::X.outer).filterMap (·.frame))).get? b=some o:=fun b o e z n=>by
  refine hideAll_get _ e fun hm=>?_;rcases Qc b hm with rfl|hm
  ·rcases z with z|⟨u,z⟩
   ·exact z I2.free
   ·exact absurd (lt_of_lt_of_le (Heap.lt_size z) I2.ok.above) (lt_irrefl _)
  ·exact n hm
 obtain⟨c1,c2,c3⟩:=rG U I2.cR hi st up fun b hb=>⟨by
  obtain⟨_,o,ho,_⟩:=I2.ok.iC.mem hb;exact U.free b o ho (I2.ok.zm b hb) (by simp),fun o ho=>by
  obtain⟨_,o',nK,hd⟩:=I2.iC.mem hb;rw [ho]at nK
  cases nK
  exact hd⟩
 have an:X.s₀.heap.get? a=none:=by
  cases q:X.s₀.heap.get? a with
  |none=>rfl
  |some o =>
   obtain⟨o',e1⟩:=U.there a o q (by simp);rw [hx.new]at e1
   cases e1
 have BS:H1 a=none:=by
  cases q:H1 a with
  |none=>rfl
  |some v =>
   obtain⟨o,e1⟩:=jL (I2.cR a v q);rw [hx.new]at e1
   cases e1
 have tn:s2.heap.get? t=none:=YY;have zU:X.s₀.heap.get? t=none:=by
  cases q:X.s₀.heap.get? t with
  |none=>rfl
  |some o =>
   obtain⟨o',e1⟩:=U.there t o q (by simp);rw [tn]at e1
   cases e1
 have LO:H1 t=none:=by
  cases q:H1 t with
  |none=>rfl
  |some v =>
   obtain⟨o,e1⟩:=jL (I2.cR t v q);rw [tn]at e1
   cases e1
 exact⟨a,t,m,tk,H1,_,rfl,I2.os,I2.bare,c1,c2,x1,c3,an,BS,x2,zU,LO,x3,hm,An,hE a⟩
theorem Hr{X:Cx}{C:Addr}{E:XK}
  (Et:∀e s',wpAny (model X.prog X.w) X.A (leaving X.env e) (fun _ qU=>qY X.prog X.w C X.outer X.H₀ X.s₀ E e qU) (fun _ _=>False) s'->X.xe e s')
  (iw:X.stack=X.env::X.outer) (hf:X.env.frame=some X.env.locals) (hex:X.ex=[]):Passes (qY X.prog X.w C) X E:=by
 intro pins σ H s e s' I cx;obtain⟨a,t,m,tk,H',B,rfl,A3,lR,U,cR,fl,hB,an,BS,tup,tn,LO,tB,hm,An,w⟩:=cx;refine Et _ _ ?_;have qX:X.A.frames=some (X.env::X.outer):=by rw [I.ok.frames,iw]
 rw [iw]at fl;have I':L2.Inv X pins σ H' s':=I.uw A3 U cR lR fun b z=>absurd z (by simp);refine wpAny_mono (fY (wpAny_leaves_onW (E:=fun _ _=>False) (Q:=fun _ qU=>∃h',qU={s' with heap:=h'}/\Heap.FlyingW B X.outer a (.ref C) (.ref t) h'/\s'.heap.UpToSlots h') qX hf fl fun h' x1 x2=>⟨h',rfl,x1,x2⟩) (yD (k:=2) (v:=.none) qX hf fl (by decide) An)) (fun _ qU z=>?_) fun _ _ z=>z.1;obtain⟨⟨h',rfl,Ja,up⟩,Ht⟩:=z;have U0:Un X.fs [] X.H₀ H' X.s₀.heap s'.heap:=by
  have:=I'.base;rwa [hex]at this
 have U1:Un X.fs [] X.H₀ H X.s₀.heap s.heap:=by
  have:=I.base;rwa [hex]at this
 have Qc:∀b∈pU X.stack,b=X.env.locals\/b∈X.fs:=fun b hb=>by
  rcases mem_cons.mp (I.mq b hb)with z|z
  ·exact .inl z
  ·exact .inr z
 have hi:∀b o,s'.heap.get? b=some o->(H' b≠none\/∃u,X.s₀.heap.get? b=some u)->b∉X.fs->B.get? b=some o:=fun b o e z n=>by
  refine hB b o e ?_ fun hm=>?_
  ·rcases z with z|⟨u,z⟩
   ·exact .inl z
   ·obtain⟨o',e1⟩:=U1.there b u z (by simp);exact .inr ⟨o',e1⟩
  ·rcases Qc b hm with rfl|hm
   ·rcases z with z|⟨u,z⟩
    ·exact z I'.free
    ·exact absurd (lt_of_lt_of_le (Heap.lt_size z) I.ok.above) (lt_irrefl _)
   ·exact n hm
 obtain⟨c1,c2,c3⟩:=rG U0 cR hi Ja.1 up fun b hb=>⟨by
  obtain⟨_,o,ho,_⟩:=I.ok.iC.mem hb;exact U0.free b o ho (I.ok.zm b hb) (by simp),fun o ho=>by
  obtain⟨_,o',nK,hd⟩:=I'.iC.mem hb;rw [ho]at nK
  cases nK
  exact hd⟩
 have Qd:X.s₀.heap.get? a=none:=by
  cases q:X.s₀.heap.get? a with
  |none=>rfl
  |some o =>
   obtain⟨o',e1⟩:=U1.there a o q (by simp);rw [an]at e1
   cases e1
 have zU:X.s₀.heap.get? t=none:=by
  cases q:X.s₀.heap.get? t with
  |none=>rfl
  |some o =>
   obtain⟨o',e1⟩:=U1.there t o q (by simp);rw [tn]at e1
   cases e1
 exact⟨a,t,m,tk,H',B,rfl,I'.os,lR,c1,c2,Ja,c3,Qd,BS,tup.of_slots up,zU,LO,tB,hm,Ht,w⟩
theorem qY.one{P:Program}{w:World}{C:Addr}{outer:List Env}{H:Hp}{s:Shared}{E:XK}{e:Value}{s':Shared}(h:qY P w C outer H s E e s'):Ot P w C outer H s E e s':=by
 obtain⟨a,t,m,tk,H',B,rfl,A3,lR,U,cR,fl,hB,an,BS,tup,tn,LO,tB,hm,An,w⟩:=h;exact⟨a,H',B,_,rfl,A3,lR,U,cR,fl,hB,an,BS,w⟩
theorem bc.one{P:Program}{w:World}{K:PySem.W.Frag}{mg:Str->Option Value}{base:Heap}{C:Addr}{k:Nat}{f:Addr}{fd:FuncData}{ps:List Str}{sp:Sp}(F:bc P w K mg base (qY P w C) k f fd ps sp):bc P w K mg base (Ot P w C) k f fd ps sp :=
 ⟨F.len,fun A outer s H args us vs Q E hr he hb hv hs=>codeAny_mono (F.run A outer s H args us vs Q E hr he hb hv hs) fun r s' h=>by
  cases r with
  |error e=>exact qY.one h
  |ok fl=>cases fl<;>exact h⟩
section
variable {M:Model}{A:Around}{E:Value->Shared->Prop}{s:Shared}{base:Heap}{l:List Env}{e L:Addr}{cls a0 fl:Value}
end
def sQ(L:Addr)(h h':Heap):Prop:=∀c o,c≠L->h.get? c=some o->(∀vs,o.data ≠ .fields vs)->∃sl,h'.get? c=some {o with slots:=sl}
theorem sQ.of{L:Addr}{h h':Heap}(u:h.UpToSlots h'):sQ L h h':=fun c o _ e n=>u c o e n
theorem sQ.trans{L:Addr}{h h1 h2:Heap}(a:sQ L h h1)(b:sQ L h1 h2):sQ L h h2:=fun c o hc e n=>by
 obtain⟨sl,e1⟩:=a c o hc e n;obtain⟨Bj,e2⟩:=b c _ hc e1 n;exact⟨Bj,e2⟩
theorem sQ.same{L:Addr}{h h':Heap}(sb:Heap.SameBut L h h'):sQ L h h':=fun c o hc e n=>⟨o.slots,(sb.2 c hc).trans e⟩
section
variable {M:Model}{A A':Around}{E EE EE2:Value->Shared->Prop}{s:Shared}{env:Env}{outer:List Env}{B:Heap}{b L:Addr}{cls a0:Value}{oe:Obj}{vs:Array Value}{m:Str->Option Value}{n:Str}{pos:Pos}
end
section
variable {M:Model}{A:Around}{E:Value->Shared->Prop}{s:Shared}{base:Heap}{l:List Env}{e L:Addr}{cls a0 fl:Value}
end
theorem KG{P:Program}{w:World}{fs:List Addr}{H H':Hp}{h0 h h' B:Heap}(U:Un fs [] H H' h0 h)(ok:mm P w H' h)(hi:∀b o,h.get? b=some o->(H' b≠none\/∃u,h0.get? b=some u)->b∉fs->B.get? b=some o)
  (st:B.StaysIn h') (ff:∀b∈fs,H' b=none/\∀o,h.get? b=some o->∃sl,h'.get? b=some {o with slots:=sl}) :
  Un fs [] H H' h0 h'/\mm P w H' h'/\(∀b o,h'.get? b=some o->(H' b≠none\/∃u,h0.get? b=some u)->b∉fs->B.get? b=some o):=by
 have kp:∀b o,h.get? b=some o->(H' b≠none\/∃u,h0.get? b=some u)->b∉fs->h'.get? b=some o:=fun b o e z n=>st b o (hi b o e z n);refine⟨⟨fun b o e n hb hx=>kp b o (U.keep b o e n hb hx) (.inr ⟨o,e⟩) hb,fun b o e n hb hx=>?_,U.free,fun b o e hx=>?_,U.jR,U.jE,U.jS⟩,fun a o e=>?_,fun b o e z n=>?_⟩
 ·obtain⟨sl,e1⟩:=U.slot b o e n hb hx;obtain⟨Bj,e2⟩:=(ff b hb).2 _ e1;exact⟨Bj,e2⟩
 ·obtain⟨o',e1⟩:=U.there b o e hx;by_cases hb:b∈fs
  ·obtain⟨Bj,e2⟩:=(ff b hb).2 _ e1;exact⟨_,e2⟩
  ·exact⟨o',kp b o' e1 (.inr ⟨o,e⟩) hb⟩
 ·have nf:∀c u,H' c=some u->c∉fs:=fun c u q hc=>by
   rw [(ff c hc).1]at q
   cases q
  refine(ok a o e).wu (fun b u hb q=>?_) (fun _ q=>q) fun _ _ q=>q;rcases hb with rfl|hb
  ·exact kp b u q (.inl (by rw [e];exact fun z=>nomatch z)) (nf b o e)
  ·exact kp b u q (.inl (by rw [hb];exact fun z=>nomatch z)) (nf b _ hb)
 ·have⟨o2,e2⟩:∃o2,h.get? b=some o2:=by
   rcases z with z|⟨u,z⟩
   ·cases q:H' b with
    |none=>exact absurd q z
    |some v =>
     exact jL (ok b v q)
   ·exact U.there b u z (by simp)
  have e3:=hi b o2 e2 z n;have e4:=st b o2 e3;rw [e]at e4
  cases e4
  exact e3
def oY(B:Heap)(l:List Env)(a:Addr)(cls a0:Value)(h:Heap):Prop:=B.StaysIn h/\B.get? a=none/\h.FunFrames B l/\∃fl,h.TracedAtW B a cls a0 fl
def Rz(P:Program)(w:World)(C:Addr):wq:=fun outer H s E e s'=>∃(a t:Addr) (m:Str) (tk:Tok) (H':Hp) (B:Heap),
 e=.ref a/\s'.os=s.os/\AllBare s'.gens/\Un (pU outer) [] H H' s.heap s'.heap/\mm P w H' s'.heap/\oY B outer a (.ref C) (.ref t) s'.heap /\
 (∀b o,s'.heap.get? b=some o->(H' b≠none\/∃u,s.heap.get? b=some u)->b∉pU outer->B.get? b=some o)/\s.heap.get? a=none/\H' a=none /\
 s'.heap.TupAt t [.str m tk]/\s.heap.get? t=none/\H' t=none/\B.get? t=none/\m.length<=2000/\Kz a s'.heap/\E e none H'
theorem Ao{B B' h h':Heap}:∀{l:List Env},h.FunFrames B l->(∀b,B.get? b=none->B'.get? b=none)->(∀b o,h.get? b=some o->b∈pU l->(∀vs,o.data ≠ .fields vs)->∃o',h'.get? b=some o'/\∀vs,o'.data ≠ .fields vs)->h'.FunFrames B' l
 |[],_,_,_=>trivial
 |env::r,⟨hk,⟨L,o,hf,hn,ho,hd⟩,hr⟩,n,k=>by
  have hm:L∈pU (env::r):=mem_filterMap.mpr ⟨env,mem_cons_self,hf⟩;obtain⟨o',nK,OC⟩:=k L o ho hm hd;refine⟨hk,⟨L,o',hf,n L hn,nK,OC⟩,Ao hr n fun b o e hb=>k b o e ?_⟩;obtain⟨en,he,hb⟩:=mem_filterMap.mp hb;exact mem_filterMap.mpr ⟨en,mem_cons_of_mem _ he,hb⟩
section
variable {M:Model}{A:Around}{E:Value->Shared->Prop}{s:Shared}{base:Heap}{l:List Env}{e L:Addr}{cls a0 fl:Value}
theorem BZ{fr:Option Addr}{Q:Unit->Shared->Prop}(hh:oY base l e cls a0 s.heap)
  (h:∀h',oY base l e cls a0 h'->s.heap.UpToSlots h'->(∀k v,iX k v e s.heap->iX k v e h')->Q () {s with heap:=h'}):wpAny M A (setFlight (.ref e) fr) Q E s:=by
 obtain⟨RA,Qe,hl,fl,ht⟩:=hh;obtain⟨oe,vs,T,oT,ts,he,qZ,hd,h1,I0,Ba,hT,Bb,h3⟩:=ht;have KH:3<ts.size:=(Array.getElem?_eq_some_iff.mp h3).1;have other:∀v b,b≠T->(s.heap.update T (Obj.mapFields (·.setIfInBounds 3 v))).get? b=s.heap.get? b:=fun v b hb=>Heap.get?_update_other _ _ (Ne.symm hb);have jl:∀b o,s.heap.get? b=some o->(∀vs,o.data ≠ .fields vs)->b≠T:=fun b o hb xB q=>by
  rw [q,hT]at hb
  cases hb
  exact xB ts Bb
 unfold setFlight;refine wpAny_bind (wpAny_field he hd h1 ?_);rw [if_pos (show(Value.ref T != Value.none)=true from by simp)];refine wpAny_setField hT Bb KH (h _ ⟨fun b o NO=>(other _ b fun q=>by rw [q,I0]at NO;cases NO).trans (RA b o NO),Qe,hl.of_keeps fun b o hb xB=>⟨o,(other _ b (jl b o hb xB)).trans hb,rfl⟩,⟨fr.elim Value.none fun f=>rawInt f,?_⟩⟩ (fun b o hb xB=>⟨o.slots,(other _ b (jl b o hb xB)).trans hb⟩) fun k v hc=>qt hc (Ne.symm Ba));exact⟨oe,vs,T,_,_,(other _ e (Ne.symm Ba)).trans he,qZ,hd,h1,I0,Ba,Heap.get?_update_self _ hT (Obj.isFreed_of_fields (Obj.data_mapFields Bb _)),Obj.data_mapFields Bb _,by simp [KH]⟩
theorem Hu{α:Type}{Jn:String}{env:Env}{Q:α->Shared->Prop}(hh:oY base l e cls a0 s.heap)
  (h:∀h',oY base l e cls a0 h'->s.heap.UpToSlots h'->(∀k v,iX k v e s.heap->iX k v e h')->E (.ref e) {s with heap:=h'}):wpAny M A (PySem.passOn Jn (.ref e) env:Sem α) Q E s:=by
 obtain⟨k1,k2,k3,fl,k4⟩:=id hh;obtain⟨oe,vs,T,oT,ts,he,qZ,hd,h1,r⟩:=id k4;unfold PySem.passOn;refine wpAny_bind (wpAny_field he hd h1 ?_);rw [if_neg (by simp)];exact wpAny_bind (BZ hh fun h' x1 x2 x3=>wpAny_throw (h h' x1 x2 x3))
end
theorem Hv{env Hw:Env}{e:Value}(h:Hw.frame=env.frame):noteFrame e Hw=noteFrame e env:=by
 unfold noteFrame PySem.frameOf;rw [h]
theorem Ap{h:Heap}{c:Addr}:(hideAll h [c]).get? c=none:=hideAll_none [c] (mem_singleton.mpr rfl)
theorem Aq{X:Cx}{Ce C:Addr}{pins:List (Addr×Obj)}{σ:St}{H7:Hp}{s7 s':Shared}{e acc:Value}{W:Hp->Prop}{E':Value->Shared->Prop}{use:Option (Value->Sem Unit)}{Q0:Value->Shared->Prop}{Hw:Env}{mC:Str->Option Value}
  (iw:X.stack=X.env::X.outer) (hf:X.env.frame=some X.env.locals) (Uk:Hw.frame=X.env.frame) (I7:L2.Inv X pins σ H7 s7) (hC:oM X pins H7 C) (Qf:C∉pU X.stack) (hCn:s7.heap.Ns C mC)
  (hq:qY X.prog X.w Ce X.stack H7 s7 (fun _ _ H'=>W H') e s')
  (hE:∀(H1:Hp)(s1:Shared)(e:Value)(s':Shared),L2.Inv X pins σ H1 s1->Rz X.prog X.w Ce X.stack H1 s1 (fun _ _ H'=>W H') e s'->E' e s') :
  notedBy (model X.prog X.w) X.A Hw (fun x s'=>compPost (model X.prog X.w) X.A E' use Q0 acc C (.error x) s') e s':=by
 obtain⟨a,t,m,tk,H',B,rfl,A3,lR,U,cR,fl,hB,an,BS,tup,tn,LO,tB,hml,An,w⟩:=hq;have qX:X.A.frames=some (X.env::X.outer):=by rw [I7.ok.frames,iw]
 have Ja:=fl;rw [iw]at Ja;unfold notedBy;rw [Hv Uk];refine wpAny_mono (fY (wpAny_looks_onW (E:=fun _ _=>False) (Q:=fun _ qU=>∃h4,qU={s' with heap:=h4}/\Heap.HeldW B (X.env::X.outer) a (.ref Ce) (.ref t) X.env.locals h4/\s'.heap.UpToSlots h4) qX hf Ja fun h' x1 x2=>⟨h',rfl,x1,x2⟩) (Al (k:=2) (v:=.none) qX hf Ja (by decide) An)) (fun _ s4 z=>?_) fun _ _ z=>z.1.elim;obtain⟨⟨h4,rfl,sL,NC⟩,Ar⟩:=z;have Ar:Kz a h4:=Ar;obtain⟨oC,esC,epC,gC,dC,rC⟩:=id hCn;have nfC:∀vs,oC.data ≠ .fields vs:=fun vs z=>by rw [dC]at z;cases z
 have Y1:s'.heap.get? C=some oC:=U.keep C oC gC hC.1 Qf (by simp);have BC:B.get? C=some oC:=hB C oC Y1 (.inr ⟨oC,gC⟩) Qf;have h'C:H' C=none:=U.free C oC gC hC.1 (by simp);have aC:a≠C:=fun z=>by rw [z,gC]at an;cases an
 have tC:t≠C:=fun z=>by rw [z,gC]at tn;cases tn
 refine⟨mC,NC.ns ⟨oC,esC,epC,Y1,dC,rC⟩,fun h5 sb ah2 _=>?_⟩;obtain⟨k1,k2,k3,k4⟩:=sL;have xD:∀{h:Heap}{b:Addr},h.get? b=none->(hideAll h [C]).get? b=none:=fun{h b} q=>by
  cases z:(hideAll h [C]).get? b with
  |none=>rfl
  |some o =>
   have:=of_hideAll _ z;rw [q]at this
   cases this
 have Y2:∀b∈pU (X.env::X.outer),b≠C:=fun b hb z=>by
  rw [z,<-iw]at hb;exact Qf hb
 have fa5:oY (hideAll B [C]) (X.env::X.outer) a (.ref Ce) (.ref t) h5:=by
  refine⟨fun b o q=>?_,xD k2,Ao k3 (fun b q=>xD q) (fun b o q hb hd=>⟨o,(sb.2 b (Y2 b hb)).trans q,hd⟩),rawInt X.env.locals,?_⟩
  ·have nb:b≠C:=fun z=>by rw [z,Ap]at q;cases q
   exact(sb.2 b nb).trans (k1 b o (of_hideAll _ q))
  ·obtain⟨oe,vs,T,oT,ts,he,qZ,hd,h1,I0,Ba,hT,Bb,h3⟩:=k4;have TC:T≠C:=fun z=>by rw [z,BC]at I0;cases I0
   exact⟨oe,vs,T,oT,ts,(sb.2 a aC).trans he,qZ,hd,h1,xD I0,Ba,(sb.2 T TC).trans hT,Bb,h3⟩
 refine Hu fa5 fun h6 Ul Ru Um=>?_;have I8:L2.Inv X pins σ H7 {s7 with heap:=hideAll s7.heap [C],toks:=s7.toks}:=I7.yt (t':=s7.toks) (fp:=[C]) (fun b hb=>by rw [mem_singleton.mp hb];exact hC) fun b o hb q=>hideAll_get _ q hb;have U8:Un (pU X.stack) [] H7 H' (hideAll s7.heap [C]) s'.heap:=⟨fun b o q=>U.keep b o (of_hideAll _ q),fun b o q=>U.slot b o (of_hideAll _ q),fun b o q=>U.free b o (of_hideAll _ q),fun b o q=>U.there b o (of_hideAll _ q),U.jR,U.jE,U.jS⟩;have hi:∀b o,s'.heap.get? b=some o->(H' b≠none\/∃u,(hideAll s7.heap [C]).get? b=some u)->b∉pU X.stack->(hideAll B [C]).get? b=some o:=fun b o q z n=>by
  have nb:b≠C:=fun y=>by
   rw [y]at z;rcases z with z|⟨u,z⟩
   ·exact z h'C
   ·rw [Ap]at z
    cases z
  refine hideAll_get _ (hB b o q ?_ n) fun y=>nb (mem_singleton.mp y);rcases z with z|⟨u,z⟩
  ·exact .inl z
  ·exact .inr ⟨u,of_hideAll _ z⟩
 have NB:∀b∈pU X.stack,H' b=none:=fun b hb=>by
  obtain⟨_,o,ho,_⟩:=I7.stack.mem hb;exact U.free b o ho (I7.tY b hb) (by simp)
 obtain⟨c1,c2,c3⟩:=KG U8 cR hi Ul.1 fun b hb=>⟨NB b hb,fun o ho=>by
  have He:=hb;rw [iw]at He;obtain⟨_,o',nK,hd⟩:=Ja.2.2.1.mem He;rw [ho]at nK
  cases nK
  obtain⟨sl,e1⟩:=NC b o ho hd;obtain⟨Bj,e2⟩:=Ru b _ ((sb.2 b (Y2 b He)).trans e1) hd;exact⟨Bj,e2⟩⟩
 have Uo:=tup.of_slots NC;have Up:h5.TupAt t [.str m tk]:=by
  obtain⟨ot,nn,w1,w2,w3⟩:=Uo;exact⟨ot,nn,(sb.2 t tC).trans w1,w2,w3⟩
 have Uq:Kz a h5:=by
  obtain⟨o,ws,z1,z2,z3⟩:=Ar;exact⟨o,ws,(sb.2 a aC).trans z1,z2,z3⟩
 rw [<-iw]at Ul;exact hE H7 _ _ _ I8 ⟨a,t,m,tk,H',_,rfl,A3,lR,c1,c2,Ul,c3,xD an,BS,Up.of_slots Ru,xD tn,LO,xD tB,hml,Um _ _ Uq,w⟩
section
variable {prog:Program}{w:World}{A:Around}{R:Result->Shared->Prop}{s:Shared}
theorem B0{elt target iter:Expr}{scope:Scope}{pos:Pos}{it acc:Value}{env:Env}(I:Nat->Shared->Prop)
  (turn:∀n s,I n s->wpAny (model prog w) A (pyNext it) (fun r s₁=>match r with
   |none=>R (.ok .next) s₁
   |some v=>wpAny (model prog w) A (letOwnedTupleGo target it v) (fun _ s₀=>wpAny (model prog w) A (assign target env v) (fun _ s₂ =>
     wpAny (model prog w) A (eval elt env) (fun x s₄ =>
       wpAny (model prog w) A (call (.builtin "list.append") [acc,x]) (fun _ s₅=>∃m,m<n/\I m s₅) (fun _ _=>False) s₄) (notedBy (model prog w) A env fun x s'=>R (.error x) s') s₂) (fun _ _=>False) s₀) (fun _ _=>False) s₁) (fun _ _=>False) s)
  (n:Nat) (h:I n s) :
  codeAny (model prog w) A (.compLoop (.ListComp elt [⟨target,iter,[],0⟩] scope pos) 0 it acc env) R s:=by
 refine codeAny_loop rfl I (fun n s hI=>?_) n h;show wpAny _ A ((compTurn (.ListComp elt [⟨target,iter,[],0⟩] scope pos) 0 it acc env).onRaise (fun x=>do noteFrame x env;theTreesLotGoes x)) _ _ s;refine wpAny_noted ?_;rw [compTurn_list];refine wpAny_bind (wpAny_standAt (wpAny_bind (wpAny_mono (turn n s hI) (fun r s₁ h₁=>?_) fun _ _ h'=>h'.elim)))
 cases r with
 |none=>exact wpAny_pure h₁
 |some v =>
  refine wpAny_bind (wpAny_mono h₁ (fun _ s₀ h₀=>wpAny_bind (wpAny_mono h₀ (fun _ s₂ h₂=>wpAny_bind ?_) fun _ _ h'=>h'.elim)) fun _ _ h'=>h'.elim);refine wpAny_pure ?_;exact wpAny_bind (wpAny_bind (wpAny_mono h₂ (fun x s₄ h₄=>wpAny_bind (wpAny_mono h₄ (fun _ s₅ h₅=>wpAny_pure (wpAny_pure ⟨rfl,h₅⟩)) fun _ _ h'=>h'.elim)) fun _ _ h'=>h'))
end
theorem Hx{M:Model}{A:Around}{E:Value->Shared->Prop}{s:Shared}{base:Heap}{env:Env}{outer:List Env}{L e:Addr}{cls a0:Value}{Q:Unit->Shared->Prop}(qX:A.frames=some (env::outer))(hf:env.frame=some L){k:Nat}{v:Value}(hh:oY base (env::outer) e cls a0 s.heap)(hk:1≠k)(hc:iX k v e s.heap)
  (h:∀h',Heap.HeldW base (env::outer) e cls a0 L h'->s.heap.UpToSlots h'->iX k v e h'->Q () {s with heap:=h'}):wpAny M A (noteFrame (.ref e) env) Q E s:=by
 obtain⟨RA,Qe,hl,fl,ht⟩:=hh;obtain⟨oe,vs,T,oT,ts,he,qZ,hd,h1,I0,Ba,hT,Bb,h3⟩:=id ht;have KH:3<ts.size:=(Array.getElem?_eq_some_iff.mp h3).1;have Qg:1<vs.size:=(Array.getElem?_eq_some_iff.mp h1).1;unfold noteFrame;simp only [hf];refine wpAny_bind (wpAny_field he hd h1 ?_);rw [if_pos (show(Value.ref T != Value.none)=true from by simp)];refine wpAny_bind (wpAny_field hT Bb h3 ?_);by_cases hq:(fl==rawInt L)=true
 ·rw [if_pos hq];have e1:fl=rawInt L:=by simpa using hq
  subst e1;exact wpAny_pure (h s.heap ⟨RA,Qe,hl,ht⟩ (fun b o hb _=>⟨o.slots,hb⟩) hc)
 ·rw [if_neg hq];have other:∀b,b≠T->(s.heap.update T (Obj.mapFields (·.setIfInBounds 3 Value.none))).get? b=s.heap.get? b:=fun b hb=>Heap.get?_update_other _ _ (Ne.symm hb);have jl:∀b o,s.heap.get? b=some o->(∀vs,o.data ≠ .fields vs)->b≠T:=fun b o hb xB q=>by
   rw [q,hT]at hb
   cases hb
   exact xB ts Bb
  refine wpAny_bind (wpAny_setField hT Bb KH ?_);have Ox:=(other e (Ne.symm Ba)).trans he;have D6:(s.heap.update T (Obj.mapFields (·.setIfInBounds 3 Value.none))).FunFrames base (env::outer):=hl.of_keeps fun b o hb xB=>⟨o,(other b (jl b o hb xB)).trans hb,rfl⟩;refine wpAny_mono (fY (wpAny_entryW (E:=fun _ _=>False) (Q:=fun _ qU=>∃h',qU={s with heap:=h'}/\base.NotedW (env::outer) e oe.cls a0 (rawInt L) (s.heap.update T (Obj.mapFields (·.setIfInBounds 3 Value.none))) h') qX D6 hf Ox (fun b o NO=>(other b fun q=>by rw [q,I0]at NO;cases NO).trans (RA b o NO)) Qe hd Qg qZ.2 fun h' N=>⟨h',rfl,N⟩) (rJ qX D6 hf Ox hd Qg hk (qt hc (Ne.symm Ba)))) (fun _ qU z=>?_) fun _ _ z=>z.1.elim;obtain⟨⟨h',rfl,n1,n2,n3,n4⟩,z2⟩:=z;refine h h' ⟨n1,Qe,n2,qZ.1▸n3⟩ (fun b o hb xB=>?_) z2;exact n4 b o ((other b (jl b o hb xB)).trans hb) xB
theorem bc.orV{P:Program}{w:World}{K:PySem.W.Frag}{mg:Str->Option Value}{base:Heap}{CX:wq}{j k:Nat}{f:Addr}{fd:FuncData}{ps:List Str}{sp O2:Sp}(F:bc P w K mg base gU j f fd ps sp)(F':bc P w K mg base CX k f fd ps O2)(h:j<=k):bc P w K mg base CX k f fd ps (fun vs H Q E=>sp vs H Q E\/O2 vs H Q E) :=
 ⟨fun vs H Q E z=>z.elim (F.len vs H Q E) (F'.len vs H Q E),fun A outer s H args us vs Q E hr e0 hb r z=>by
  rcases z with z|z
  ·refine codeAny_mono (F.run A outer s H args us vs Q E (hr.mono h) e0 hb r z) fun rr s' q=>?_
   cases rr with
   |error e=>exact False.elim q
   |ok fl=>cases fl<;>exact q
  ·exact F'.run A outer s H args us vs Q E hr e0 hb r z⟩
theorem Eu{K:PySem.W.Frag}{cl:Nat->Addr}{H:Hp}(xs:List Str):az ⟨K,cl⟩ ⟨H,fun _=>none,cl,ud⟩ (xs.map fun x=>Slot.sh (.str x)) ((xs.map V.str).map some) H (fun _=>none)where
 kept:=ax.refl _
 sub:=fun _ _ h=>nomatch h
 new:=fun _ _ h=>nomatch h
 fix:=fun _ _ h=>nomatch h
 sh:=fun i t h=>by
  rw [getElem?_map]at h
  cases q:xs[i]? with
  |none=>rw [q]at h;cases h
  |some x =>
   rw [q]at h
   cases h
   refine⟨.str x,?_,rfl⟩;rw [getElem?_map,getElem?_map,q];rfl
 own:=fun i t h=>by
  rw [getElem?_map]at h
  cases q:xs[i]? with
  |none=>rw [q]at h;cases h
  |some x=>rw [q]at h;cases h
 apart:=fun i j t u a n h=>by
  rw [getElem?_map]at h
  cases q:xs[i]? with
  |none=>rw [q]at h;cases h
  |some x=>rw [q]at h;cases h
 len:=by rw [length_map,length_map,length_map]
def Oy(g:List Str->Prop):Sp:=fun vs H Q E=>∃xs:List Str,vs=xs.map V.str/\g xs/\∀a H',ax H H'->E (.ref a) none H'
theorem Qh{Pr:Program}{w:World}{K:PySem.W.Frag}{mg:Str->Option Value}{base:Heap}{CX:wq}{cl:Nat->Addr}{x qual:Str}{st:Stmt}{f:Addr}{fd:FuncData}{N ps:List Str}{k:Nat}{g:List Str->Prop}(F:jW K x qual st f fd)(Sc:aN N ps (ai st))(hl:∀xs,g xs->xs.length=ps.length)
  (hb:∀(cW:Value)(A:Around)(outer:List Env)(s:Shared)(H:Hp)(xs:List Str)(D:Ends)(E:XK),g xs->dP k (A.deeper (envOfC qual (ai st) s.heap.objs.size f cW))->(∀a H',ax H H'->E (.ref a) none H') ->
   ∃t,pV (lX CX Pr w K mg base N qual (ai st) f cW A outer s H E) (aH st) t/\(az ⟨K,cl⟩ ⟨H,fun _=>none,cl,p9 (xs.map V.str)⟩ ((xs.map fun x=>Slot.sh (.str x))++List.replicate (N.length-(xs.map fun x=>Slot.sh (.str x)).length) Slot.no) (L2.start N (xs.map V.str)) H (fun _=>none)->t D (L2.start N (xs.map V.str)) H)) :
  bc Pr w K mg base CX (k+1) f fd ps (Oy g):=by
 obtain⟨oc,od,kV,doc,pm,an,cW,ct,FO,rfl,lk,zo⟩:=F.ex;refine FN lk zo Sc (fun vs H Q E h=>by obtain⟨xs,rfl,h,_⟩:=h;rw [length_map];exact hl xs h) fun A outer s H vs Q E hr zz=>?_;obtain⟨xs,rfl,h1,h2⟩:=zz;obtain⟨t,q1,q2⟩:=hb cW A outer s H xs {nx:=fun _ H'=>Q .cQ H',rt:=Q} E h1 hr h2;exact⟨t,q1,q2 (je (Eu xs))⟩
theorem Qi{X:Cx}{C:Addr}{E:XK}
  (Et:∀e s',wpAny (model X.prog X.w) X.A (leaving X.env e) (fun _ qU=>qY X.prog X.w C X.outer X.H₀ X.s₀ E e qU) (fun _ _=>False) s'->X.xe e s')
  (iw:X.stack=X.env::X.outer) (hf:X.env.frame=some X.env.locals) (hex:X.ex=[]):Passes (Rz X.prog X.w C) X E:=by
 intro pins σ H s e s' I cx;obtain⟨a,t,m,tk,H',B,rfl,A3,lR,U,cR,fl,hB,an,BS,tup,tn,LO,tB,hm,An,w⟩:=cx;refine Et _ _ ?_;have qX:X.A.frames=some (X.env::X.outer):=by rw [I.ok.frames,iw]
 rw [iw]at fl;have I':L2.Inv X pins σ H' s':=I.uw A3 U cR lR fun b z=>absurd z (by simp);unfold leaving;refine wpAny_bind (Hx (k:=2) (v:=.none) qX hf fl (by decide) An fun h4 sL NC Ar=>?_);refine wpAny_mono (fY (wpAny_landsW (E:=fun _ _=>False) (Q:=fun _ qU=>∃h5,qU={s' with heap:=h5}/\Heap.FlyingW B (X.env::X.outer) a (.ref C) (.ref t) h5/\h4.UpToSlots h5) sL fun h' x1 x2=>⟨h',rfl,x1,x2⟩) (vh (k:=2) (v:=.none) sL.2.2.2 Ar)) (fun _ s5 z=>?_) fun _ _ z=>z.1;obtain⟨⟨h',rfl,Ov,T3⟩,Ht⟩:=z;have up:s'.heap.UpToSlots h':=NC.trans T3;have Ja:Heap.FlyingW B X.outer a (.ref C) (.ref t) h':=by
  obtain⟨k1,k2,⟨_,_,k3⟩,k4⟩:=Ov;exact⟨k1,k2,k3,k4⟩
 have U0:Un X.fs [] X.H₀ H' X.s₀.heap s'.heap:=by
  have:=I'.base;rwa [hex]at this
 have U1:Un X.fs [] X.H₀ H X.s₀.heap s.heap:=by
  have:=I.base;rwa [hex]at this
 have Qc:∀b∈pU X.stack,b=X.env.locals\/b∈X.fs:=fun b hb=>by
  rcases mem_cons.mp (I.mq b hb)with z|z
  ·exact .inl z
  ·exact .inr z
 have hi:∀b o,s'.heap.get? b=some o->(H' b≠none\/∃u,X.s₀.heap.get? b=some u)->b∉X.fs->B.get? b=some o:=fun b o e z n=>by
  refine hB b o e ?_ fun hm=>?_
  ·rcases z with z|⟨u,z⟩
   ·exact .inl z
   ·obtain⟨o',e1⟩:=U1.there b u z (by simp);exact .inr ⟨o',e1⟩
  ·rcases Qc b hm with rfl|hm
   ·rcases z with z|⟨u,z⟩
    ·exact z I'.free
    ·exact absurd (lt_of_lt_of_le (Heap.lt_size z) I.ok.above) (lt_irrefl _)
   ·exact n hm
 obtain⟨c1,c2,c3⟩:=rG U0 cR hi Ja.1 up fun b hb=>⟨by
  obtain⟨_,o,ho,_⟩:=I.ok.iC.mem hb;exact U0.free b o ho (I.ok.zm b hb) (by simp),fun o ho=>by
  obtain⟨_,o',nK,hd⟩:=I'.iC.mem hb;rw [ho]at nK
  cases nK
  exact hd⟩
 have Qd:X.s₀.heap.get? a=none:=by
  cases q:X.s₀.heap.get? a with
  |none=>rfl
  |some o =>
   obtain⟨o',e1⟩:=U1.there a o q (by simp);rw [an]at e1
   cases e1
 have zU:X.s₀.heap.get? t=none:=by
  cases q:X.s₀.heap.get? t with
  |none=>rfl
  |some o =>
   obtain⟨o',e1⟩:=U1.there t o q (by simp);rw [tn]at e1
   cases e1
 exact⟨a,t,m,tk,H',B,rfl,I'.os,lR,c1,c2,Ja,c3,Qd,BS,tup.of_slots up,zU,LO,tB,hm,Ht,w⟩
abbrev RG:=List Str->Nat->G->Prop
def B1(r:Addr)(H H':Hp):Prop:=∀b o,b≠r->H b=some o->H' b=some o
def Ur(K:KC)(W:RF)(p:Nat)(Γ:G)(E:XK):TE:=fun σ H _=>(∃Hs,az K (W.at p) Γ σ H Hs)/\∀a H',B1 W.R.r W.H0 H'->E (.ref a) none H'
def NP(K:KC)(W:RF)(p:Nat)(Γ:G)(E:XK):TS:=fun _ σ H=>(∃Hs,az K (W.at p) Γ σ H Hs)/\∀a H',B1 W.R.r W.H0 H'->E (.ref a) none H'
def Bc(X:Cx)(W:RF)(E:XK)(e:Expr)(g:RG):Prop:=∀p Γ,g W.R.ws p Γ->PE X e (Ur (oX X W) W p Γ E)
def NQ(X:Cx)(W:RF)(E:XK)(e:Stmt)(g:RG):Prop:=∀p Γ,g W.R.ws p Γ->PS X e (NP (oX X W) W p Γ E)
def wH(X:Cx)(W:RF)(E:XK)(e:List Stmt)(g:RG):Prop:=∀p Γ,g W.R.ws p Γ->pV X e (NP (oX X W) W p Γ E)
theorem az.but{K:KC}{W:RF}{p:Nat}{Γ:G}{σ:St}{H Hs:Hp}(S:az K (W.at p) Γ σ H Hs):B1 W.R.r W.H0 H:=fun b o n h=>S.kept b o (by show upd W.H0 W.R.r (W.R.obj p) b=_;rw [aw n];exact h)
theorem B1.trans{r:Addr}{H H1 H2:Hp}(h:B1 r H H1)(h':B1 r H1 H2):B1 r H H2:=fun b o n e=>h' b o n (h b o n e)
theorem B1.same{r:Addr}{H H1 H2:Hp}(h:B1 r H H1)(h':ax H1 H2):B1 r H H2:=fun b o n e=>h' b o (h b o n e)
section
variable {X:Cx}{W:RF}{E:XK}{a b c e:Expr}{es:List Expr}{pos pos':Pos}{st:Stmt}{rest:List Stmt}{g g1 g2:RG}
def Jb(g1 g2:RG):RG:=fun ws p Γ=>g1 ws p Γ\/g2 ws p Γ
def rK(m:RS)(g:RG):RG:=fun ws p Γ=>∃p1 Γ1,m ws p Γ=some (p1,.nx Γ1)/\g ws p1 Γ1
def Hy(b:Bool)(t:RT)(g:RG):RG:=fun ws p Γ=>∃p1 Γ1,t ws p Γ=some (b,p1,Γ1)/\g ws p1 Γ1
theorem eJ(h:NQ X W E st g):wH X W E (st::rest) g:=fun p Γ hg=>(ed (h p Γ hg) eK).imp fun D σ H z=>z
theorem nX{m:RS}(h1:wG X W st m)(h2:wH X W E rest g):wH X W E (st::rest) (rK m g):=fun p Γ ⟨p1,Γ1,q1,q2⟩ =>
 (ed (h1 _ _ _ _ q1) (h2 _ _ q2)).imp fun D σ H ⟨⟨Hs,S⟩,k⟩=>⟨Hs,S,fun σ' H' aM e S'=>⟨⟨aM,S'⟩,k⟩⟩
theorem NR(h1:wH X W E rest g1)(h2:wH X W E rest g2):wH X W E rest (Jb g1 g2):=fun p Γ h=>h.elim (h1 p Γ) (h2 p Γ)
theorem qv{m:RS}(h0:NQ X W E st g)(h1:wG X W st m)(h2:wH X W E rest g2):wH X W E (st::rest) (Jb g (rK m g2)):=NR (eJ h0) (nX h1 h2)
theorem vk{t:RT}{x y:List Stmt}(hc:sM X W c t)(ha:wH X W E x g):NQ X W E (.If c x y pos) (Hy true t g):=fun p Γ ⟨p1,Γ1,h1,h⟩ =>
 (wU (hc _ _ _ _ _ h1) (ha _ _ h) eK).imp fun D σ H ⟨⟨Hs,S⟩,k⟩=>⟨Hs,S,fun H1 bJ e' S1=>rA ⟨⟨bJ,S1⟩,k⟩⟩
theorem HA{i:Nat}{x:Str}(hN:X.N.Nodup)(hi:X.N[i]?=some x)(hx:Loc X.env.scope x)(he:Bc X W E e g)(hs:swapsWith e (some (.Name x pos')) pos.line X.env=pure false:=by rfl)(hf:X.fn x=true\/X.env.scope.names.lookup x=some .local:=by first|exact .inl rfl|exact .inr rfl|assumption):
  NQ X W E (.Assign [.Name x pos'] e pos) g:=fun p Γ h=>(mv hN hi hx (he p Γ h) hs hf).imp fun D σ H z=>z
theorem vm(he:Bc X W E e g):NQ X W E (.Return (some e) pos) g:=fun p Γ h=>(xY (he p Γ h)).imp fun D σ H z=>z
theorem KI(he:Bc X W E e g)(hs:swapsWith e none pos.line X.env=pure false:=by rfl):NQ X W E (.Expr e pos) g:=fun p Γ h=>(nM (he p Γ h) hs).imp fun D σ H z=>z
theorem vn{C:Addr}{x:Str}{np bQ:Pos}{m:Nat}{d:St->Hp->Prop}
  (Et:∀e s',wpAny (model X.prog X.w) X.A (leaving X.env e) (fun _ qU=>qY X.prog X.w C X.outer X.H₀ X.s₀ E e qU) (fun _ _=>False) s'->X.xe e s')
  (iw:X.stack=X.env::X.outer) (hf:X.env.frame=some X.env.locals) (hex:X.ex=[]) (Hq:X.calm=true)
  (hg:Gl X x) (hm:X.mg x=some (.ref C)) (hq:excIn X.K C Rt "ValueError.__new__" = true) (ha:NN X e m d) (PZ:m<=2000) (hd:∀p Γ σ H Hs,g W.R.ws p Γ->az (oX X W) (W.at p) Γ σ H Hs->d σ H)
  (kJ:(x==("__debug__" : Str))=false:=by decide) (he:starEach [e] X.env=[(false,eval e X.env)]:=by rfl):NQ X W E (.Raise (some (.Call (.Name x np) [e] [] bQ)) none pos) g:=fun p Γ h =>
 (xC (E:=E) Et iw hf hex Hq hg hm hq (LN ha he) kJ he rfl).imp fun D σ H ⟨⟨Hs,S⟩,k⟩=>⟨hd p Γ σ H Hs h S,fun y hy=>⟨⟨y,rfl,le_trans hy PZ⟩,fun b=>k b H S.but⟩⟩
def HB(ma:MX)(g:RG):RG:=fun ws p Γ=>∃r Γ1,ma Γ=some (r,Γ1)/\g ws p Γ1
theorem HC{op:Operator}{g0:T->T->Option R}{ma:MX}(ho:kd X W.cl (binaryOp op) g0)(ha:∀p,aW X (W.at p) a ma)(hb:Bc X W E b g):Bc X W E (.BinOp a op b pos) (HB ma g):=fun p Γ ⟨r,Γ1,h1,h⟩ =>
 (CM ho (ha p _ _ _ h1) (hb _ _ h)).imp fun σ H Q ⟨⟨Hs,S⟩,k⟩=>⟨Hs,S,fun v H1 bJ e1 dr S1 f1=>⟨⟨bJ,S1⟩,k⟩⟩
theorem Ew{x:Str}{p0:Pos}{T':String}{g0:List T->Option R}(hc:ki X W.cl (.type T') g0)(hg:Gl X x)(hm:X.mg x=none)(hv:bootBuiltins x=some (.type T'))(ha:Bc X W E e g)(hn:x ≠ "__name__" := by decide)(kJ:(x==("__debug__" : Str))=false:=by decide)
  (he:starEach [e] X.env=[(false,eval e X.env)]:=by rfl) (jV:(backTo pos (starEach [] X.env)).any (·.1)=false:=by rfl):Bc X W E (.Call (.Name x p0) [e] [] pos) g:=fun p Γ h =>
 (nO hc hg hm hv (bE (ha _ _ h) d0 he) hn kJ he jV).imp fun σ H Q z=>z
theorem KJ{x:Str}{j i1:Nat}{p1:Pos}(hb:Bc X W E b g)(he:starEach [.Constant (.str x) j p1,b] X.env=(false,eval (.Constant (.str x) j p1) X.env)::starEach [b] X.env:=by rfl)(Ox:starEach [b] X.env=[(false,eval b X.env)]:=by rfl):Bc X W E (.Tuple [.Constant (.str x) j p1,b] i1 pos) g:=fun p Γ h =>
 (Bw (bE (xV (X:=X)) (bE (hb _ _ h) d0 Ox) he)).imp fun σ H Q z=>z
theorem NS{t:RT}(hc:sM X W c t)(hb:Bc X W E b g):Bc X W E (.IfExp c a b pos) (Hy false t g):=fun p Γ ⟨p1,Γ1,h1,h⟩ =>
 (mr (hc _ _ _ _ _ h1) gz (hb _ _ h)).imp fun σ H Q ⟨⟨Hs,S⟩,k⟩=>⟨Hs,S,fun H1 bJ e' S1=>uI ⟨⟨bJ,S1⟩,k⟩⟩
end
def wI(K:KC)(C:Addr)(np:Nat)(g:RG):Sp:=fun vs H _ E=>vs.length=np/\∃(R:Eo) (H0 Hs:Hp) (as:G) (p:Nat),R.C=C/\H0 R.L=some (.lst (R.ws.map V.str))/\R.L≠R.r/\Hs R.r=none/\vs[0]?=some (.ref R.r)/\g R.ws p as /\
 az K ⟨upd H0 R.r (R.obj p),Hs,K.cl,ud⟩ as (vs.map some) H Hs/\∀a H',B1 R.r H0 H'->E (.ref a) none H'
def B2(n:Nat)(g:RG):RG:=fun ws p as=>g ws p (as++List.replicate (n-as.length) Slot.no)
section
variable {Pr:Program}{w:World}{K:PySem.W.Frag}{mg:Str->Option Value}{base:Heap}
theorem As{cl:Nat->Addr}{CX:wq}{x qual:Str}{st:Stmt}{f C:Addr}{fd:FuncData}{N ps:List Str}{k n np:Nat}{g:RG}(F:jW K x qual st f fd)(Sc:aN N ps (ai st))(hn:N.length=n)(hp:ps.length=np)
  (hb:∀(cW:Value)(A:Around)(outer:List Env)(s:Shared)(H:Hp)(E:XK)(W:RF),W.cl=cl->W.R.C=C->W.F 0=some (.ref W.R.r)->(∀i,np<=i->W.F i=none)->dP k (A.deeper (envOfC qual (ai st) s.heap.objs.size f cW)) ->
   wH (lX CX Pr w K mg base N qual (ai st) f cW A outer s H E) W E (aH st) g) :
  bc Pr w K mg base CX (k+1) f fd ps (wI ⟨K,cl⟩ C np (B2 n g)):=by
 subst hn hp;obtain⟨oc,od,kV,doc,pm,an,cW,ct,FO,rfl,lk,zo⟩:=F.ex;refine FN lk zo Sc (fun vs H Q E h=>h.1) fun A outer s H vs Q E hr h=>?_;obtain⟨hl,R,H0,Hs,as,p,hC,hL,zj,T9,Ua,hc,S,kq⟩:=h;have jV:ps.length<=N.length:=by
  have:=congrArg List.length Sc.pre;rw [length_take]at this;omega
 have hv:∀i,ps.length<=i->p9 vs i=none:=fun i hi=>by
  unfold p9;rw [List.getElem?_eq_none_iff];omega
 have S0:=je (N:=N) S;exact⟨_,hb cW A outer s H E ⟨R,H0,Hs,cl,p9 vs,hL,zj,T9⟩ rfl hC Ua hv hr _ _ hc,⟨Hs,S0⟩,kq⟩
end
section
variable {X:Cx}{W:RF}{E:XK}{e:Expr}{es:List Expr}{pos apos:Pos}{x:Str}{p0:Pos}{k np j:Nat}{f:Addr}{fd:FuncData}{ps:List Str}{CX:wq}{g:RG}{n:MA}
def iG(np:Nat)(g:RG)(n:MA):RG:=fun ws p Γ=>∃ts Γ1,n Γ=some (ts,Γ1)/\ts.length+1=np/\g ws p (.no::ts.map Slot.sh)
theorem kW(F:bc X.prog X.w X.K X.mg X.base CX k f fd ps (wI (oX X W) W.R.C np g))(hr:dP k X.A)(hg:Gl X x)(hm:X.mg x=some (.ref f))(hk:keepIn X.K (.ref f)=true)(hb:Binds X.K fd ps [])(HD:Passes CX X E)(hj:W.F j=some (.ref W.R.r))(hv:PE X e (gq j))
  (ha:∀p,yi X (W.at p) es n) (kJ:(x==("__debug__" : Str))=false:=by decide) (he:starEach (e::es) X.env=(false,eval e X.env)::starEach es X.env:=by rfl) (jV:(backTo pos (starEach es X.env)).any (·.1)=false:=by rfl) :
  Bc X W E (.Call (.Name x p0) (e::es) [] pos) (iG np g n):=fun p Γ ⟨ts,Γ1,h1,hl,h2⟩=>by
 refine(nN (dvs:=[]) (E:=E) F hr hg hm hk hb .nil HD (bE hv (ha p _ _ _ h1) he) kJ he jV).imp fun σ H Q ⟨⟨Hs,S⟩,k⟩=>?_;refine⟨_,S.fix _ _ hj,Hs,S,fun vs H1 bJ e1 dr S1 f1=>?_⟩;show wI (oX X W) W.R.C np g ((.ref W.R.r::vs)++[]) H1 Q E;rw [append_nil];exact⟨by rw [length_cons,aF f1,hl],W.R,H1,bJ,_,p,rfl,S1.Ow,W.ne,S1.C1,rfl,h2,vc S1.sub S1.rd f1,fun a H' h=>k a H' (S1.but.trans h)⟩
theorem HE{gr:List Str->Prop}{i:Nat}(F:bc X.prog X.w X.K X.mg X.base CX k f fd ps (Oy gr))(hr:dP k X.A)(hg:Gl X x)(hm:X.mg x=some (.ref f))(hk:keepIn X.K (.ref f)=true)(hb:Binds X.K fd ps [])(HD:Passes CX X E)(hv:PE X e (gq i))
  (kJ:(x==("__debug__" : Str))=false:=by decide) (he:starEach [e] X.env=[(false,eval e X.env)]:=by rfl) (jV:(backTo pos (starEach [] X.env)).any (·.1)=false:=by rfl) :
  Bc X W E (.Call (.Name x p0) [e] [] pos) (fun _ _ Γ=>∃t,Γ[i]?=some (.sh (.str t))/\gr [t]):=fun p Γ ⟨t,h1,h2⟩=>by
 refine(nN (dvs:=[]) (E:=E) F hr hg hm hk hb .nil HD (bE hv d0 he) kJ he jV).imp fun σ H Q ⟨⟨Hs,S⟩,k⟩=>?_;obtain⟨v,Us,NF⟩:=S.sh i _ h1
 cases(show v=V.str t from NF)
 exact⟨_,Us,[t],rfl,h2,fun a H' h=>k a H' (S.but.same h)⟩
end
def rL(b:BG)(me:RX)(g:RG)(ws:List Str)(Γ:G):Nat->List T->List T->Prop
 |_,[],_=>False
 |p,t::ts,acc=>∃Γ1,b t Γ=some Γ1/\(g ws p Γ1\/∃r p1 Γ2,me ws p Γ1=some (r,p1,Γ2)/\acc.length<sizeLine/\rL b me g ws Γ p1 ts (acc++[(eM r Γ2).1]))
def LP(cap:List (Option Nat))(mi:MI)(b:BG)(me:RX)(g:RG):RG:=fun ws p Γ=>∃ts Γ1,mi Γ=some (ts,Γ1)/\rL b me g ws (jg cap (aJ cap Γ1)) p ts []
section
variable {X:Cx}{W:RF}{elt tg iter:Expr}{scope:Scope}{pos:Pos}{N':List Str}{cap:List (Option Nat)}{mi:MI}{b:BG}{me:RX}{g:RG}{E:XK}
inductive Y3(Y:Cx)(K:KC)(R:Eo)(cap:List (Option Nat))(b:BG)(me:RX)(g:RG)(Γ1:G)(ts:List T)(σ:St)(F:Nat->Option V)(H2 bX:Hp)(tn:Nat->Heap->Prop)(D:Addr)(fp:List Addr):Nat->Shared->Prop
 |mk {s':Shared} (i p:Nat) (Hi fW:Hp) (acc:List T) (ys:List V) (σ':St) (le:i<=ts.length) (run:rL b me g R.ws (jg cap Γ1) p (ts.drop i) acc) (inv:Inv Y [] σ' Hi s') (at_:tn i s'.heap) (h2:ax (upd H2 R.r (R.obj p)) Hi) (MG:ax bX fW)
   (sub:ax fW Hi) (new:∀a o,fW a=some o->bX a=some o\/H2 a=none) (own:Hi D=some (.lst ys)) (xS:fW D=none) (YG:iu K fW ys acc) (fix:∀j v,fv cap Γ1 σ F j=some v->σ'[j]?=some (some v)) (IT:∀b∈fp,Hi b=none):Y3 Y K R cap b me g Γ1 ts σ F H2 bX tn D fp (ts.length-i) s'
theorem HF{Ce:Addr}(iw:X.stack=X.env::X.outer)(hf:X.env.frame=some X.env.locals)(Ut:Passes (Rz X.prog X.w Ce) X E)(hc:X.calm=true)(hi:∀p,tO X (W.at p) tg iter mi)(cp:X.Ok->∃cs,qd X scope cs)(kO:rE X scope N' cap)
  (uU:∀(cs:List (Str×Addr))(C:Addr)(s₂:Shared)(H₂:Hp)(fp:List Addr)(W':RF),W'.cl=W.cl->W'.R=W.R->(∀j,cap[j]?=some none->W'.F j=none)->(∀j i v,cap[j]?=some (some i)->W.F i=some v->W'.F j=some v) ->
   (∀p,uO (bq X N' scope cs C s₂ H₂ fp) (W'.at p) tg b)/\ko (bq X N' scope cs C s₂ H₂ fp) W' elt me/\∀(pn:List (Addr×Obj))(EE:Value->Shared->Prop)(E':XK),Passes (qY X.prog X.w Ce) {bq X N' scope cs C s₂ H₂ fp with pn:=pn,xe:=EE} E'->Bc {bq X N' scope cs C s₂ H₂ fp with pn:=pn,xe:=EE} W' E' elt g)
  (hs:∀x,foldedSetIterable iter X.env x=pure x) {use:Option (Value->Sem Unit)} {Q0:Value->Shared->Prop} {Gw:Pos} {p:Nat} {Γ Γ1:G} {ts:List T} {pins:List (Addr×Obj)} {s:Shared} {σ:St} {H Hs:Hp}
  (h1:mi Γ=some (ts,Γ1)) (h2:rL b me g W.R.ws (jg cap (aJ cap Γ1)) p ts []) (I:Inv X pins σ H s) (S:az (oX X W) (W.at p) Γ σ H Hs)
  (hE:∀a H',B1 W.R.r W.H0 H'->E (.ref a) none H') :
  wpAny (model X.prog X.w) X.A (comprehension (.ListComp elt [⟨tg,iter,[],0⟩] scope pos) scope X.env Gw (newList []) false (eval iter X.env) use) Q0 X.xe s:=by
 obtain⟨cs,cp⟩:=cp I.ok;refine wpAny_comprehension_free (use:=use) rfl hs cp.Nh cp.kind cp.names ?_;refine da (hi p Γ ts Γ1 h1 pins s σ H (fun J H'=>∃aM,ax H H'/\ax Hs aM/\az (oX X W) (W.at p) Γ1 σ H' aM/\JW (oX X W) J ts aM) I ⟨Hs,S,fun J H' aM e e' S' ok=>⟨aM,e,e',S',ok⟩⟩) fun xv s1 g1=>da g1 fun OM s2 g2=>?_;obtain⟨it,fp,tn,J,H2,rfl,I2,turn,zU,qe,Po,e2,fb,Pp,ok⟩:=g2;obtain⟨bX,e3,S2⟩:=Pp.aJ (cap:=cap);have BN:∀b∈fp,b<s2.heap.objs.size:=fun b hb=>by
  obtain⟨o,ho,_⟩:=turn.obj 0 _ zU b hb;exact Heap.lt_size ho
 refine wpAny_newObj_type (wpAny_newFunctionEnv cp.oR (by intro y hy;simp at hy) (fun hB Dd zV=>?_) cp.kind);dsimp only at Dd zV ⊢;generalize hA:s2.heap.push {cls:=.type "list", dict:=none,data:=.seq ([]:List Value).toArray}=Gx at Dd zV ⊢;have Gy:Gx.objs.size=s2.heap.objs.size+1:=by rw [<-hA,Heap.size_push]
 have hD:H2 s2.heap.objs.size=none:=I2.cR.fresh (le_refl _);have A5:Gx.objs.size≠s2.heap.objs.size:=by rw [Gy];exact Nat.succ_ne_self _
 have lP:∀b o,s2.heap.get? b=some o->hB.get? b=some o:=fun b o e=>by
  have lt:=Heap.lt_size e;refine zV.extBut b o ?_ ?_
  ·intro z;rw [z,Gy]at lt;exact absurd lt (not_lt.mpr (le_succ _))
  ·exact Heap.get?_push_of_some _ (by rw [<-hA];exact Heap.get?_push_of_some _ e)
 have sF:hB.get? s2.heap.objs.size=some {cls:=.type "list", data:=.seq #[] 0}:=zV.extBut _ _ A5.symm (Heap.get?_push_of_some _ (by rw [<-hA];exact Heap.get?_push_size _ rfl));generalize Pq:s2.heap.objs.size=D at hD A5 sF ⊢;generalize Pt:Gx.objs.size=C at Dd zV A5 ⊢;have Fi:s2.heap.objs.size<=C:=by rw [<-Pt,Gy];exact le_succ _
 have LF:s2.heap.objs.size<=D:=by rw [Pq];exact le_refl _
 have LM:D≠W.R.r:=fun z=>by rw [z,S2.rd]at hD;cases hD
 have Gz:(iL cap (aJ cap Γ1) σ W.F).length=N'.length:=by
  rw [<-kO.length];simp [iL]
 have J0:Inv (bq X N' scope cs C s2 H2 fp) [] (iL cap (aJ cap Γ1) σ W.F) (upd H2 D (.lst [])) {s2 with heap:=hB,toks:=s2.toks+([]:List (Str×Value)).length} :=
  uS I2 cp LF Fi A5 qe BN lP Dd ⟨0,sF⟩ (fun j x v q1 q2=>by
   obtain⟨i,z1,z2⟩:=xy S2.fix q2;obtain⟨y1,y2,y3⟩:=kO.get q1 z1;exact⟨i,y1,z2,y2,y3⟩) Gz
 have IU:∀(pl:List (Addr×Obj))(H':Hp),(∀b∈fp,H' b=none)->pl=[]->∀b∈fp,oM (bq X N' scope cs C s2 H2 fp) pl H' b:=fun pl H' hn e b hb=>by
  subst e;obtain⟨_,f2,f3,_,f5,_⟩:=qe b hb;refine⟨hn b hb,fun e=>?_,fun Ni=>?_,.inl hb,fun x c q=>f5 x c (cp.same x c q),fun p hp=>absurd (show p∈([]:List (Addr×Obj)) from hp) (by simp)⟩
  ·have:=BN b hb;rw [show b=C from e]at this;exact absurd (lt_of_lt_of_le this Fi) (lt_irrefl _)
  ·rcases mem_cons.mp (I2.mq b Ni)with z|z
   ·exact f2 z
   ·exact f3 z
 have GA:∀j v,fv cap (aJ cap Γ1) σ W.F j=some v->(iL cap (aJ cap Γ1) σ W.F)[j]?=some (some v):=fun j v q=>by
  unfold fv at q
  cases z:(iL cap (aJ cap Γ1) σ W.F)[j]? with
  |none=>rw [z]at q;cases q
  |some y =>
   rw [z]at q;have q:y=some v:=q;rw [q]
 have toX:∀{pl:List (Addr×Obj)}{σz:St}{Hz:Hp}{sz:Shared},Inv (bq X N' scope cs C s2 H2 fp) pl σz Hz sz->Inv X pins σ Hz sz:=fun{pl σz Hz sz} J3=>I2.uw (ch:=fp) J3.os
   ⟨fun b o q n1 n2 n3=>J3.base.keep b o q n1 n2 n3,fun b o q n1 n2 n3=>J3.base.slot b o q n1 n2 n3,J3.base.free,fun b o q n1=>J3.base.there b o q n1,J3.base.jR,J3.base.jE,J3.base.jS⟩ J3.cR J3.bare fun b hb=>by
    obtain⟨_,f2,_,f4,f5,f6⟩:=qe b hb;exact⟨f4,f2,f5,f6⟩
 have Qf:C∉pU X.stack:=fun hm=>by
  obtain⟨_,o,ho,_⟩:=I2.stack.mem hm;exact absurd (lt_of_lt_of_le (Heap.lt_size ho) Fi) (lt_irrefl _)
 have loop:codeAny (model X.prog X.w) X.A (.compLoop (.ListComp elt [⟨tg,iter,[],0⟩] scope pos) 0 (.ref it) (.ref D) (compEnvC scope cs C X.env)) (compPost (model X.prog X.w) X.A X.xe use Q0 (.ref D) C)
   {s2 with heap:=hB,toks:=s2.toks+([]:List (Str×Value)).length}:=by
  refine B0 (Y3 (bq X N' scope cs C s2 H2 fp) (oX X W) W.R cap b me g (aJ cap Γ1) ts σ W.F H2 bX tn D fp) ?_ ts.length ?_
  ·rintro n s' ⟨i,pi,Hi,fW,acc,ys,σ',Ge,q2,J1,Nk,sH,zW,sub,nw,Fj,IV,rs,fix,IT⟩;have hlen:σ'.length=cap.length:=by rw [kO.length];exact J1.len
   have Ug:Hi W.R.r=some (W.R.obj pi):=sH _ _ aE;have Uh:Hi W.R.L=some (.lst (W.R.ws.map V.str)):=sH _ _ (by rw [aw W.ne];exact S2.Ow);have P9:fW W.R.r=none:=by
    cases z:fW W.R.r with
    |none=>rfl
    |some o =>
     rcases nw _ o z with w1|w1
     ·rw [S2.C1]at w1;cases w1
     ·rw [S2.rd]at w1;cases w1
   have SB:=sP (cap:=cap) (p:=pi) S2 zW sub Ug fix hlen;by_cases yr:i<ts.length
   ·have ht:ts[i]?=some ts[i]:=by simp [yr]
    obtain⟨g1,g2⟩:=(ok i Hi fW (e3.trans zW) sub).1 _ ht;rw [drop_cons ht]at q2;obtain⟨Γ2,Pu,q3⟩:=q2;obtain⟨bg,be,br⟩:=uU cs C s2 H2 fp ⟨W.R,Hi,fW,W.cl,fv cap (aJ cap Γ1) σ W.F,Uh,W.ne,P9⟩ rfl rfl (fun j hj=>vf hj) (fun j i v h1 h2=>xx h1 h2);refine da (turn.item (bq X N' scope cs C s2 H2 fp) rfl rfl rfl hc i [] s' σ' Hi (fun _ _=>False) J1 (IU [] Hi IT rfl) Nk g1) fun r3 s3 ⟨u,er,g3⟩=>?_;subst er;refine da g3 fun _ s4 ⟨x,H',J2,rx,hy,GB,GC⟩=>?_;obtain⟨jI,y1,y2,S3,tr⟩:=(g2 x H' hy).fin SB;have J3:=J2.pinned (IU [] H' GC rfl) fun b hb=>turn.obj _ _ GB b hb;refine da (bg pi _ s4 σ' H' x u (fun σ5 H5=>H5=H'/\az (oX X W) ⟨upd Hi W.R.r (W.R.obj pi),fW,W.cl,fv cap (aJ cap Γ1) σ W.F⟩ Γ2 σ5 H' jI) J3 rx ⟨_,_,Γ2,jI,Pu,S3,tr,fun σ5 S5=>⟨rfl,S5⟩⟩) fun _ s5 ⟨σ5,H5,J5,eH,S5⟩=>?_;subst eH;rcases q3 with hg|⟨r7,p7,Γ4,Pw,Px,m7⟩
    ·have Uu:B1 W.R.r W.H0 Hi:=S2.but.trans fun b o n e=>sH b o (by rw [aw n];exact e);generalize hEE:(notedBy (model X.prog X.w) X.A (compEnvC scope cs C X.env) fun x s'=>compPost (model X.prog X.w) X.A X.xe use Q0 (.ref D) C (.error x) s')=EE;refine wpAny_mono (br _ EE (fun _ _ H'=>B1 W.R.r Hi H') (fun ur σ' H' s6 e s' I' cx=>?_) pi Γ2 hg [] s5 σ5 H5 (fun _ _=>False) (G6 (E:=EE) J5) ⟨⟨jI,S5⟩,fun a H' h=>h⟩) (fun v s' z=>?_) fun e s' z=>z
     ·subst hEE;have J6:=km I';have IX:=toX J6;obtain⟨mC,hmC,_⟩:=id J6.loc;refine Aq (W:=fun H'=>B1 W.R.r Hi H') iw hf rfl IX (I2.zq Fi J6.free) Qf hmC cx fun H1 s1 e s' I1 cx2=>Ut _ _ _ _ _ _ I1 ?_;obtain⟨a,t,m,tk,H',B,rfl,c2,c3,c4,c5,c6,c7,c8,c9,Uv,Uw,Ux,Uy,Uz,UA,w⟩:=cx2;exact⟨a,t,m,tk,H',B,rfl,c2,c3,c4,c5,c6,c7,c8,c9,Uv,Uw,Ux,Uy,Uz,UA,hE a H' (Uu.trans w)⟩
     ·obtain⟨_,_,_,_,q⟩:=z;exact q.elim
    refine wpAny_mono (be pi Γ2 r7 p7 Γ4 Pw _ s5 σ5 H5 (fun v7 H7=>∃xn,ax jI xn/\az (oX X W) ⟨upd Hi W.R.r (W.R.obj p7),fW,W.cl,fv cap (aJ cap Γ1) σ W.F⟩ Γ4 σ5 H7 xn/\iD (oX X W) ⟨upd Hi W.R.r (W.R.obj p7),fW,W.cl,fv cap (aJ cap Γ1) σ W.F⟩ Γ4 σ5 H7 xn v7 r7) J5 ⟨jI,S5,fun v7 H7 xn z2 S7 f7=>⟨xn,z2,S7,f7⟩⟩) (fun u7 s7 ⟨v7,H7,J7,Py,xn,z2,S7,f7⟩=>?_) fun _ _ z=>False.elim z;obtain⟨Fl,y3,S8,Pz⟩:=S7.eM f7;have PB:H7 D=some (.lst ys):=S7.kept D _ (by show upd Hi W.R.r (W.R.obj p7) D=_;rw [aw LM];exact Fj);refine da (kg (X:=bq X N' scope cs C s2 H2 fp) _ s7 σ5 H7 (.ref D) [v7] (.ref D) [u7] (fun v9 H9=>H9=upd H7 D (.lst (ys++[v7]))) J7 rfl (.cons Py .nil) ⟨D,ys,v7,rfl,rfl,PB,by rw [aF rs];exact Px,rfl⟩) fun _ s9 ⟨v9,H9,J9,_,eH⟩=>?_;subst eH;have es:ax fW Fl:=y2.trans (z2.trans y3);have LG:Fl D=none:=by
     cases z:Fl D with
     |none=>rfl
     |some o =>
      rcases S8.new D o z with w1|w1
      ·rw [show fW D=some o from w1]at IV
       cases IV
      ·have w1:upd Hi W.R.r (W.R.obj p7) D=none:=w1;rw [aw LM,Fj]at w1
       cases w1
    refine⟨ts.length-(i+1),by omega,.mk (i+1) p7 _ Fl _ _ σ5 yr m7 J9.kf (turn.keep _ _ _ GB fun b hb o ho=>(J9.pin (b,o) (mem_append_right _ (mem_append_right _ (fc hb ho)))).1) (fun b o q=>?_) (zW.trans es) (fun b o q=>?_) (fun a o q=>?_) aE LG (d4 (cT es _ _ rs) (dh Pz cu)) (fun j v q=>S8.fix j v q) (fun b hb=>?_)⟩
    ·by_cases zr:b=W.R.r
     ·subst zr;rw [aw LM.symm];rw [aE]at q;exact S7.kept _ _ (by show upd Hi W.R.r (W.R.obj p7) W.R.r=_;rw [aE];exact q)
     ·rw [aw zr]at q;rw [aw (bM q hD)];exact S7.kept _ _ (by show upd Hi W.R.r (W.R.obj p7) b=_;rw [aw zr];exact sH b o (by rw [aw zr];exact q))
    ·have z:b≠D:=fun e=>by rw [e,LG]at q;cases q
     rw [aw z];exact S8.sub b o q
    ·rcases S8.new a o q with w1|w1
     ·exact nw a o w1
     ·have w1:upd Hi W.R.r (W.R.obj p7) a=none:=w1;have zr:a≠W.R.r:=fun e=>by rw [e,aE]at w1;cases w1
      rw [aw zr]at w1;have w2:=sH.free w1;rw [aw zr]at w2;exact .inr w2
    ·obtain⟨o,ho,_⟩:=turn.obj _ _ GB b hb;exact(J9.pin (b,o) (mem_append_right _ (mem_append_right _ (fc hb ho)))).2.1
   ·have e:i=ts.length:=by omega
    subst e;rw [drop_length]at q2;exact q2.elim
  ·refine .mk 0 p (upd H2 D (.lst [])) bX [] [] _ (zero_le _) (by simpa using h2) J0 (turn.keep 0 _ _ zU fun b hb o ho=>lP b o ho) (by rw [same_self S2.rd];exact ee hD) (ax.refl _) (S2.sub.trans (ee hD)) (fun a o q=>.inl q) aE (S2.sub.free hD) cu GA fun b hb=>?_;have z:b≠D:=fun e=>by
    have:=BN b hb;rw [e]at this;exact absurd (lt_of_lt_of_le this LF) (lt_irrefl _)
   rw [aw z];exact(qe b hb).1
 exact codeAny_compStart_list loop (turn.self _ 0 _ _ _ (turn.keep 0 _ _ zU fun b hb o ho=>lP b o ho) loop)
theorem KL{Ce:Addr}(iw:X.stack=X.env::X.outer)(hf:X.env.frame=some X.env.locals)(Ut:Passes (Rz X.prog X.w Ce) X E)(hc:X.calm=true)(hi:∀p,tO X (W.at p) tg iter mi)(cp:X.Ok->∃cs,qd X scope cs)(kO:rE X scope N' cap)
  (uU:∀(cs:List (Str×Addr))(C:Addr)(s₂:Shared)(H₂:Hp)(fp:List Addr)(W':RF),W'.cl=W.cl->W'.R=W.R->(∀j,cap[j]?=some none->W'.F j=none)->(∀j i v,cap[j]?=some (some i)->W.F i=some v->W'.F j=some v) ->
   (∀p,uO (bq X N' scope cs C s₂ H₂ fp) (W'.at p) tg b)/\ko (bq X N' scope cs C s₂ H₂ fp) W' elt me/\∀(pn:List (Addr×Obj))(EE:Value->Shared->Prop)(E':XK),Passes (qY X.prog X.w Ce) {bq X N' scope cs C s₂ H₂ fp with pn:=pn,xe:=EE} E'->Bc {bq X N' scope cs C s₂ H₂ fp with pn:=pn,xe:=EE} W' E' elt g)
  (hs:∀x,foldedSetIterable iter X.env x=pure x:=by intro _;rfl):Bc X W E (.ListComp elt [⟨tg,iter,[],0⟩] scope pos) (LP cap mi b me g):=fun p Γ ⟨ts,Γ1,h1,h2⟩=>by
 intro pins s σ H Q I ⟨⟨Hs,S⟩,k⟩;rw [eval_ListComp];exact HF (use:=none) iw hf Ut hc hi cp kO uU hs h1 h2 I S k
end
def UB(K:KC)(P:Fx)(Γ:G)(r:R)(Γ':G):TE:=fun σ H Q=>∃Hs,az K P Γ σ H Hs/\∀v H' aM,ax Hs aM->az K P Γ' σ H' aM->iD K P Γ' σ H' aM v r->Q v H'
def oZ(X:Cx)(P:Fx)(e:Expr)(m:MX):Prop:=∀Γ r Γ',m Γ=some (r,Γ')->PE X e (UB (kc X P) P Γ r Γ')
section
variable {X:Cx}{P:Fx}{a b e o:Expr}{es:List Expr}{pos pos' apos bQ:Pos}{i:Nat}
theorem sR{m:MX}(h:aW X P e m):oZ X P e m:=fun Γ r Γ' hm=>(h Γ r Γ' hm).imp fun σ H Q ⟨Hs,S,k⟩=>⟨Hs,S,fun v H' aM _ e' S' f=>k v H' aM e' S' f⟩
def jH(i:Nat):MX:=fun Γ=>match Γ[i]? with
 |some (.own (.lst ts))=>(ts[ts.length-1]?).map fun t=>(.sh t,Γ.set i (.own (.lst ts.dropLast)))
 |_=>none
theorem yE{K:KC}{H:Hp}{xs:List V}{ts:List T}(h:iu K H xs ts):iu K H xs.dropLast ts.dropLast:=by
 rw [List.dropLast_eq_take,List.dropLast_eq_take,aF h];exact uK _ h
theorem yF(ho:PE X o (gq i))(gu:attributeBase o "pop" X.env (eval o X.env)=eval o X.env:=by rfl)(ir:(apos.endLine==bQ.line)=true:=by rfl):oZ X P (.Call (.Attribute o "pop" apos) [] [] bQ) (jH i):=fun Γ r Γ' hm=>by
 unfold jH at hm;split at hm
 ·rename_i ts ht;obtain⟨t,h1,h2⟩:=iE hm
  cases h2
  refine(MV PySem.F.plainAttrs_list PySem.F.slot_list_pop PySem.F.type_list_pop MY ho gu ir).imp fun σ H Q ⟨Hs,S,k⟩=>?_;obtain⟨p,q1,_,q3⟩:=S.own i _ ht;obtain⟨pf,xs,hx,rs⟩:=q3;obtain⟨y,hy,ty⟩:=kL rs h1;refine⟨_,q1,.inl ⟨rfl,_,lM.of hx⟩,p,xs,y,rfl,rfl,hx,by rw [aF rs];exact hy,?_⟩;exact k y _ Hs (ax.refl _) (S.rewrite ht q1 ⟨pf,_,aE,yE rs⟩) ty
 ·cases hm
def d9(g:T->T->Option R)(ma mb:MX):MX:=fun Γ=>(ma Γ).bind fun p=>match p.1 with
 |.sh t=>(mb p.2).bind fun q=>(g t q.1.tree).map fun r=>(r,q.2)
 |_=>none
theorem xE{g:T->T->Option R}{ma mb:MX}{Γ Γ':G}{r:R}(h:d9 g ma mb Γ=some (r,Γ')):∃t Γ1 r2,ma Γ=some (.sh t,Γ1)/\mb Γ1=some (r2,Γ')/\g t r2.tree=some r:=by
 obtain⟨r1,Γ1,h1,h⟩:=cE h;dsimp only at h;split at h
 ·rename_i t;obtain⟨r2,Γ2,h2,h⟩:=cE h;obtain⟨r3,h3,h⟩:=iE h
  cases h
  exact⟨t,Γ1,r2,h1,h2,h3⟩
 ·cases h
theorem HG{op:Operator}{g:T->T->Option R}{ma mb:MX}(ho:kd X P.cl (binaryOp op) g)(ha:oZ X P a ma)(hb:oZ X P b mb):oZ X P (.BinOp a op b pos) (d9 g ma mb):=fun Γ r Γ' h=>by
 obtain⟨t,Γ1,r2,h1,h2,h3⟩:=xE h;refine(CM ho (ha _ _ _ h1) (hb _ _ _ h2)).imp fun σ H Q ⟨Hs,S,k⟩=>⟨Hs,S,fun v H1 bJ dr S1 f1=>⟨bJ,S1,fun w H2 bX fb S2 f2=>⟨bX,t,r2.tree,_,S2.sub,wC.of S2.sub (cX fb _ _ f1),S2.uM f2,h3,fun y H3 o=>?_⟩⟩⟩;obtain⟨jI,e3,tK,S3,f3⟩:=o.fin S2;exact k y H3 jI (dr.trans (fb.trans tK)) S3 f3
theorem HH{ma mb:MX}(ha:oZ X P a ma)(hb:oZ X P b mb)(hs:tZ b:=by intro _ _;rfl):oZ X P (.Subscript a b pos) (d9 wt ma mb):=fun Γ r Γ' h=>by
 obtain⟨t,Γ1,r2,h1,h2,h3⟩:=xE h;refine(FT (TM (cl:=P.cl)) (ha _ _ _ h1) (hb _ _ _ h2) hs).imp fun σ H Q ⟨Hs,S,k⟩=>⟨Hs,S,fun v H1 bJ dr S1 f1=>⟨bJ,S1,fun w H2 bX fb S2 f2=>⟨bX,t,r2.tree,_,S2.sub,wC.of S2.sub (cX fb _ _ f1),S2.uM f2,h3,fun y H3 o=>?_⟩⟩⟩;obtain⟨jI,e3,tK,S3,f3⟩:=o.fin S2;exact k y H3 jI (dr.trans (fb.trans tK)) S3 f3
def tQ(ma mb:MX):MA:=fun Γ=>(ma Γ).bind fun p=>match p.1 with
 |.sh t=>(mb p.2).bind fun q=>match q.1 with
  |.sh u=>some ([t,u],q.2)
  |_=>none
 |_=>none
theorem HI{ma mb:MX}{Γ Γ':G}{ts:List T}(h:tQ ma mb Γ=some (ts,Γ')):∃t u Γ1,ma Γ=some (.sh t,Γ1)/\mb Γ1=some (.sh u,Γ')/\ts=[t,u]:=by
 obtain⟨r1,Γ1,h1,h⟩:=cE h;dsimp only at h;split at h
 ·rename_i t;obtain⟨r2,Γ2,h2,h⟩:=cE h;dsimp only at h;split at h
  ·rename_i u
   cases h
   exact⟨t,u,Γ1,h1,h2,rfl⟩
  ·cases h
 ·cases h
def Qj(K:KC)(P:Fx)(Γ:G)(ts:List T)(Γ':G):TA:=fun σ H Q=>∃Hs,az K P Γ σ H Hs/\∀vs H' aM,ax Hs aM->az K P Γ' σ H' aM->iu K aM vs ts->Q vs H'
def HJ(X:Cx)(P:Fx)(es:List Expr)(m:MA):Prop:=∀Γ ts Γ',m Γ=some (ts,Γ')->PA X es (Qj (kc X P) P Γ ts Γ')
theorem yG{ma mb:MX}(ha:oZ X P a ma)(hb:oZ X P b mb)(he:starEach [a,b] X.env=(false,eval a X.env)::starEach [b] X.env:=by rfl)(Ox:starEach [b] X.env=[(false,eval b X.env)]:=by rfl):HJ X P [a,b] (tQ ma mb):=fun Γ ts Γ' h=>by
 obtain⟨t,u,Γ1,h1,h2,rfl⟩:=HI h;refine(bE (ha _ _ _ h1) (bE (hb _ _ _ h2) d0 Ox) he).imp fun σ H Q ⟨Hs,S,k⟩=>⟨Hs,S,fun v H1 bJ dr S1 f1=>⟨bJ,S1,fun w H2 bX fb S2 f2=>?_⟩⟩;exact k _ H2 bX (dr.trans fb) S2 (dh (cX fb _ _ f1) (dh f2 cu))
theorem HK{m:MA}{x1:Nat}(h:HJ X P es m):oZ X P (.Tuple es x1 pos) (dS m):=fun Γ r Γ' hm=>by
 obtain⟨ts,Γ1,h1,hm⟩:=cE hm;dsimp only at hm;split at hm
 ·rename_i hl
  cases hm
  refine(Bw (h _ _ _ h1)).imp fun σ H Q ⟨Hs,S,k⟩=>⟨Hs,S,fun vs H1 bJ dr S1 f1=>⟨by rw [aF f1];exact le_trans hl (by decide),fun p np=>?_⟩⟩;obtain⟨jI,e3,tK,S3,f3⟩:=(Out.Ed np f1).fin S1;exact k _ _ jI (dr.trans tK) S3 f3
 ·cases hm
theorem HL{x:Str}{p:Pos}{id:String}{g:List T->Option R}{n:MA}(hc:ki X P.cl (.builtin id) g)(hg:Gl X x)(hm:X.mg x=none)(hv:bootBuiltins x=some (.builtin id))(ha:HJ X P (e::es) n)(hn:x ≠ "__name__" := by decide)(kJ:(x==("__debug__" : Str))=false:=by decide)
  (he:starEach (e::es) X.env=(false,eval e X.env)::starEach es X.env:=by rfl) (jV:(backTo pos (starEach es X.env)).any (·.1)=false:=by rfl):oZ X P (.Call (.Name x p) (e::es) [] pos) (bR g n):=fun Γ r Γ' h=>by
 obtain⟨ts,h1,h2⟩:=rB h;refine(pW hc hg hm hv (ha _ _ _ h1) hn kJ he jV).imp fun σ H Q ⟨Hs,S,k⟩=>⟨Hs,S,fun vs H1 bJ dr S1 f1=>⟨bJ,ts,_,S1.sub,?_,h2,fun y H3 o=>?_⟩⟩
 ·clear h1 h2;have:∀(ts:List T)(vs:List V),iu (kc X P) bJ vs ts->uL (kc X P) H1 bJ vs ts:=by
   intro ts
   induction ts with
   |nil=>intro vs h;cases(show vs=[] from h);exact .nil
   |cons t ts ih =>
    intro vs h;obtain⟨v,vs',rfl,h1,h2⟩:=h;exact .cons (wC.of S1.sub h1) (ih _ h2)
  exact this ts vs f1
 ·obtain⟨jI,e3,tK,S3,f3⟩:=o.fin S1;exact k y H3 jI (dr.trans tK) S3 f3
theorem HM{x:Str}{m:MX}(hN:X.N.Nodup)(hi:X.N[i]?=some x)(hx:Loc X.env.scope x)(hF:P.F i=none)(he:oZ X P e m)(hs:swapsWith e (some (.Name x pos')) pos.line X.env=pure false:=by rfl)(hf:X.fn x=true\/X.env.scope.names.lookup x=some .local:=by first|exact .inl rfl|exact .inr rfl|assumption):
  lY X P (.Assign [.Name x pos'] e pos) (fun Γ=>(m Γ).bind fun p=>match p.1 with | .sh t=>some (.nx (p.2.set i (.sh t)))|_=>none):=gY fun Γ res h=>by
 obtain⟨r,Γ1,h1,h⟩:=cE h;dsimp only at h;split at h
 ·rename_i t
  cases h
  refine(mv hN hi hx (he _ _ _ h1) hs hf).imp fun D σ H ⟨Hs,S,k⟩=>⟨Hs,S,fun v H1 bJ dr S1 f1=>?_⟩;exact k _ H1 bJ dr (S1.xa hF f1)
 ·cases h
theorem Ey{m:MX}(he:oZ X P e m)(hs:swapsWith e none pos.line X.env=pure false:=by rfl):lY X P (.Expr e pos) (C2 m):=gY fun Γ res h=>by
 obtain⟨q,h1,h⟩:=iE h;obtain⟨r,Γ1⟩:=q
 cases h
 exact(nM (he _ _ _ h1) hs).imp fun D σ H ⟨Hs,S,k⟩=>⟨Hs,S,fun v H1 bJ dr S1 f1=>k σ H1 bJ dr S1⟩
theorem sS{m:MX}(ho:PE X o (gq i))(he:oZ X P e m)
  (gu:attributeBase o "append" X.env (eval o X.env)=eval o X.env:=by rfl)
  (rq:((backTo bQ (starEach [e] X.env)).all (fun x=>!x.1)&&(backToKw bQ (keywordEach [] X.env)).all (fun x=>x.1.isSome)
   && decide ([e].length+([]:List Keyword).length+(if([]:List Keyword).isEmpty then 0 else 1)<30))=true:=by rfl)
  (ir:(apos.endLine==bQ.line)=true:=by rfl) (hs:starEach [e] X.env=(false,eval e X.env)::starEach [] X.env:=by rfl) (gX:(backTo bQ (starEach [] X.env)).any (·.1)=false:=by rfl)
  (Nb:swapsWith (.Call (.Attribute o "append" apos) [e] [] bQ) none pos.line X.env=pure false:=by rfl) :
  lY X P (.Expr (.Call (.Attribute o "append" apos) [e] [] bQ) pos) (dN i m):=gY fun Γ res h=>by
 obtain⟨us,r,Γ1,ts,hu,h1,ht,hl,rfl⟩:=sD h;refine(nM (w6 PySem.F.plainAttrs_list PySem.F.slot_list_append PySem.F.type_list_append kg ho (bE (he _ _ _ h1) d0 hs) gu rq ir hs gX) Nb).imp fun D σ H ⟨Hs,S,k⟩=>?_;obtain⟨a,q1,_,q3⟩:=S.own i _ hu;obtain⟨_,YF,Oq,_⟩:=q3;refine⟨_,q1,.inl ⟨rfl,_,lM.of Oq⟩,Hs,S,fun v H1 bJ dr S1 f1=>?_⟩;obtain⟨bX,g,S2,tr⟩:=S1.eM f1;obtain⟨b,p1,p2,p3⟩:=S2.own i _ ht;rw [q1]at p1
 cases p1
 obtain⟨pf,xs,hx,rs⟩:=p3;refine⟨a,xs,v,rfl,rfl,hx,by rw [aF rs];exact hl,?_⟩;refine k σ _ bX (dr.trans g) (S2.rewrite ht q1 ⟨pf,_,aE,d4 rs (dh tr cu)⟩)
theorem Dv{K:KC}{H:Hp}{v:V}{t:T}(h:Tr K H v t):∀(j:Nat){xs:List V}{ts:List T},iu K H xs ts->iu K H (xs.set j v) (ts.set j t)
 |j,xs,[],hs=>by
  cases(show xs=[] from hs)
  exact cu
 |0,xs,u::ts,⟨w,ws,e,_,r⟩=>by
  subst e;exact dh h r
 |j+1,xs,u::ts,⟨w,ws,e,q,r⟩=>by
  subst e;exact dh q (Dv h j r)
def B3(i:Nat)(k:Int)(m:MX):MS:=fun Γ=>(m Γ).bind fun p=>match p.1 with
 |.sh t=>(match p.2[i]? with
  |some (.own (.lst ts))=>(BA ts.length k).map fun j=>.nx (p.2.set i (.own (.lst (ts.set j t))))
  |_=>none)
 |_=>none
theorem Ez{b:Expr}{p2:Pos}{k:Int}{mk m:MX}(ho:PE X o (gq i))(hk:aW X P b mk)(hmk:∀Γ,mk Γ=some (.sh (.int k),Γ))(he:aW X P e m)
  (ha:∀v,assign (.Subscript o b p2) X.env v=(do
   let ov<-holding [v] (eval o X.env)
   let iv<-holding [v,ov] (eval b X.env)
   standAt p2
   holding [v,ov,iv] (setItem ov iv v)
   release [v,ov,iv] []):=by intro _;rfl) (Nb:swapsWith e (some (.Subscript o b p2)) pos.line X.env=pure false:=by rfl) :
  lY X P (.Assign [.Subscript o b p2] e pos) (B3 i k m):=gY fun Γ res h=>by
 obtain⟨r,Γ1,h1,h⟩:=cE h;dsimp only at h;split at h
 ·rename_i t;split at h
  ·rename_i ts ht;obtain⟨j,hj,h⟩:=iE h
   cases h
   refine(FC (he _ _ _ h1) (Mq ho (hk _ _ _ (hmk Γ1)) set_list ha) Nb).imp fun D σ H ⟨Hs,S,q⟩=>⟨Hs,S,fun v H1 bJ e1 dr S1 f1=>?_⟩;obtain⟨p,q1,_,q3⟩:=S1.own i _ ht;refine⟨_,q1,bJ,S1,fun v2 H2 bX e2 fb S2 f2=>?_⟩
   cases(show v2=V.int k from f2)
   obtain⟨p',Y4,_,q3⟩:=S2.own i _ ht;rw [q1]at Y4
   cases Y4
   obtain⟨pf,xs,hx,rs⟩:=q3;refine⟨p,xs,k,j,rfl,rfl,hx,by rw [aF rs];exact hj,?_⟩;exact q σ _ bX (dr.trans fb) (S2.rewrite ht q1 ⟨pf,_,aE,Dv (cX fb _ _ f1) j rs⟩)
  ·cases h
 ·cases h
end
def UC(n:Nat)(m:MS):CF:=fun as=>if(as.all fun s=>match s with | .sh _=>true|_=>false)=true then match m (as++List.replicate (n-as.length) Slot.no)with
 |some (.rt (.sh t) _)=>some (.sh t,as)
 |some (.rt (.own t) _)=>some (.own t,as)
 |_=>none else none
section
variable {Pr:Program}{w:World}{K:PySem.W.Frag}{mg:Str->Option Value}{base:Heap}
theorem UD{cl:Nat->Addr}{x qual:Str}{st:Stmt}{f:Addr}{fd:FuncData}{N ps:List Str}{k n np:Nat}{m:MS}(F:jW K x qual st f fd)(Sc:aN N ps (ai st))(hn:N.length=n)(hp:ps.length=np)
  (hb:∀(cW:Value)(A:Around)(outer:List Env)(s:Shared)(H:Hp)(E:XK)(P:Fx),P.cl=cl->(∀i,P.F i=none)->dP k (A.deeper (envOfC qual (ai st) s.heap.objs.size f cW)) ->
   jJ (lX gU Pr w K mg base N qual (ai st) f cW A outer s H E).Ff P (aH st) m) :
  bc Pr w K mg base gU (k+1) f fd ps (oq ⟨K,cl⟩ np (UC n m)):=by
 subst hn hp;refine F.ok Sc (fun vs H Q E h=>h.1) (fun cW A outer s H vs Q E hr h=>?_);obtain⟨hl,as,r,Γ',Hs,H0,hc,S,kq⟩:=h;unfold UC at hc;split at hc
 ·rename_i M0;have xS:∀(i:Nat)(u:T),as[i]?≠some (Slot.own u):=fun i u z=>by
   have:=all_eq_true.mp M0 _ (mem_of_getElem? z)
   cases this
  have NT:=je (N:=N) S;have S0:az ⟨K,cl⟩ ⟨H0,Hs,cl,ud⟩ (as++List.replicate (N.length-as.length) Slot.no) (L2.start N vs) H Hs:=⟨NT.kept,NT.sub,NT.new,(fun i v h=>nomatch h),NT.sh,NT.own,NT.apart,NT.len⟩;have hal:as.length=ps.length:=by have:=S.len;rw [length_map]at this;omega
  have fin:∀{Γz:G}{σ':St}{H' aM:Hp},ax Hs aM->az ⟨K,cl⟩ ⟨H0,Hs,cl,ud⟩ Γz σ' H' aM->az ⟨K,cl⟩ ⟨H0,Hs,cl,ud⟩ (as.take ps.length) (vs.map some) H' aM:=fun{Γz σ' H' aM} e S'=>by
   rw [take_of_length_le (by omega)];refine⟨S'.kept,S'.sub,S'.new,(fun i v h=>nomatch h),fun i t h=>?_,fun i t h=>absurd h (xS i t),fun i j t u a _ h=>absurd h (xS i t),S.len⟩;obtain⟨v,h1,h2⟩:=S.sh i t h;exact⟨v,h1,cX e _ _ h2⟩
  have B:=hb cW A outer s H E ⟨H0,Hs,cl,ud⟩ rfl (fun _=>rfl) hr;split at hc
  ·rename_i t Γz hm
   cases hc
   refine⟨_,B,_,_,hm,Hs,S0,fun σ' H' aM e v S' f=>?_⟩;exact kq v H' aM e (fin e S') f
  ·rename_i t Γz hm
   cases hc
   refine⟨_,B,_,_,hm,Hs,S0,fun σ' H' aM e v S' f=>?_⟩;refine kq v H' aM e (fin e S') ?_;obtain⟨a,rfl,n,q,_⟩:=f;refine⟨a,rfl,n,q,fun i u h=>?_⟩;rw [take_of_length_le (by omega)]at h;exact absurd h (xS i u)
  ·cases hc
 ·cases hc
end
theorem HN{X:Cx}{C:Addr}{k i j:Nat}{f:Addr}{fd:FuncData}{ps:List Str}{sp:Sp}{x y z:Str}{p p2 p3 pos bQ:Pos}(F:bc X.prog X.w X.K X.mg X.base (Ot X.prog X.w C) k f fd ps sp)(hr:dP k X.A)(hg:Gl X x)(hm:X.mg x=some (.ref f))(hk:keepIn X.K (.ref f)=true)(hb:Binds X.K fd ps [])
  (hv:∀X2:Cx,X2.N=X.N->X2.env=X.env->PE X2 (.Name z p2) (gq i)) (hN:X.N.Nodup) (hj:X.N[j]?=some y) (hy:Loc X.env.scope y) (kJ:(x==("__debug__" : Str))=false:=by decide)
  (hs:swapsWith (.Call (.Name x p) [.Name z p2] [] bQ) (some (.Name y p3)) pos.line X.env=pure false:=by rfl) (hf:X.fn y=true\/X.env.scope.names.lookup y=some .local:=by first|exact .inl rfl|exact .inr rfl|assumption) :
  PX X C [.Assign [.Name y p3] (.Call (.Name x p) [.Name z p2] [] bQ) pos] (fun D W σ H=>∃t,σ[i]?=some (some (.str t))/\sp [.str t] H (fun v H'=>D.nx (σ.set j (some v)) H') fun _ _ H'=>W H'):=by
 intro pins s σ H D W E' I h hE;obtain⟨t,ht,h⟩:=h;have PEc:PE {X with pn:=X.pn++pins,xe:=E'} (.Call (.Name x p) [.Name z p2] [] bQ) (fun σ' H' Q=>σ'=σ/\H'=H/\sp [.str t] H Q fun _ _ H'=>W H'):=by
  intro ur s' σ' H' Q I' ⟨e1,e2,q⟩;subst e1 e2;refine wpAny_Call_Name_kw (h7 I' hg hm ?_ kJ);refine callWith_K (h₀:=X.base) I'.ok.mod.Lp hk (da ((bE (X:={X with pn:=X.pn++pins,xe:=E'}) (hv _ rfl rfl) d0) bQ ur s' σ' H' (fun vs H1=>vs=[.str t]/\H1=H') I' ⟨_,ht,rfl,rfl⟩) fun us s1 ⟨vs,H1,I1,r,hvs⟩=>⟨I1.wo,?_⟩) rfl rfl;obtain⟨rfl,rfl⟩:=hvs;have hl:(us++[]).length=ps.length:=by rw [append_nil,<-r.length];exact F.len _ _ _ _ q
  have P4:=hb s1 us I1.wo hl;rw [append_nil]at P4;refine wpAny_call (codeAny_mono (F.run X.A X.stack s1 H1 ⟨us,[]⟩ us _ Q (fun _ _ H'=>W H') hr I1.JA P4 r q) fun r qU hq=>?_)
  cases r with
  |error e=>exact hE H1 s1 e qU (km I1) hq
  |ok fl =>
   cases fl with
   |ret u=>exact I1.after hq
   |next=>exact False.elim hq
   |brk=>exact False.elim hq
   |cont=>exact False.elim hq
 have st:=kI (mv (X:={X with pn:=X.pn++pins,xe:=E'}) (i:=j) hN hj hy PEc hs hf);refine wpAny_mono (st [] s σ H D (G6 I) ⟨rfl,rfl,h⟩) (fun f s' z=>?_) fun _ _ z=>z
 cases f with
 |next=>obtain⟨σ',H',I',q⟩:=z;exact⟨σ',H',km I',q⟩
 |brk=>obtain⟨σ',H',I',q⟩:=z;exact⟨σ',H',km I',q⟩
 |cont=>obtain⟨σ',H',I',q⟩:=z;exact⟨σ',H',km I',q⟩
 |ret u=>obtain⟨v,σ',H',I',r,q⟩:=z;exact⟨v,σ',H',km I',r,q⟩
open Classical in
def sT(cf:CF)(g:List Str->Prop)(dec:Str->Bool)(bs:List Bool)(i jf ji ni:Nat):MS:=fun Γ=>match Γ[i]? with
 |some (.sh (.str x))=>if ni<Γ.length then(if dec x=true then match cf [.sh (.str x)]with
   |some (.sh t,_)=>some (.nx (Γ.set jf (.sh t)))
   |_=>none
  else if g [x]then some (.nx ((Γ.set ni .no).set ji (.own (.lst (bs.map T.bl)))))else none)
  else none
 |_=>none
theorem EA{cf:CF}{g:List Str->Prop}{dec:Str->Bool}{bs:List Bool}{i jf ji ni:Nat}{Γ:G}{res:Res}(h:sT cf g dec bs i jf ji ni Γ=some res):∃x,Γ[i]?=some (.sh (.str x))/\ni<Γ.length/\((∃t Γ',cf [.sh (.str x)]=some (.sh t,Γ')/\res=.nx (Γ.set jf (.sh t)))\/(g [x]/\res=.nx ((Γ.set ni .no).set ji (.own (.lst (bs.map T.bl)))))):=by
 unfold sT at h;split at h
 ·rename_i x hx;split at h
  ·rename_i hl;split at h
   ·split at h
    ·rename_i t Γ' hc
     cases h
     exact⟨x,hx,hl,.inl ⟨t,Γ',hc,rfl⟩⟩
    ·cases h
   ·split at h
    ·rename_i hg
     cases h
     exact⟨x,hx,hl,.inr ⟨hg,rfl⟩⟩
    ·cases h
  ·cases h
 ·cases h
theorem HP{X:Cx}{P:Fx}{C CJ:Addr}{k kk i jf ji ni:Nat}{f g:Addr}{fd gd:FuncData}{ps gs:List Str}{cf:CF}{gr:List Str->Prop}{dec:Str->Bool}{bs:List Bool}{rn tx yf kn yk en jx:Str}{p p2 p3 Qk bQ q q2 q3 NU HR np Kq pos:Pos}
  (iw:X.stack=X.env::X.outer) (hf:X.env.frame=some X.env.locals) (hN:X.N.Nodup) (Ou:X.N[ni]?=some en) (Ub:X.env.kindOf en=some .local)
  (hg:Gl X jx) (hm:X.mg jx=some (.ref CJ)) (hx:exmOne X.K (.ref C) (.ref CJ)=some true)
  (F:bc X.prog X.w X.K X.mg X.base (Ot X.prog X.w C) k f fd ps (fun vs H Q E=>oq (kc X P) 1 cf vs H Q E\/Oy gr vs H Q E)) (hr:dP k X.A) (hgf:Gl X rn) (hmf:X.mg rn=some (.ref f)) (hkf:keepIn X.K (.ref f)=true) (hbf:Binds X.K fd ps [])
  (Gd:Dp X.prog X.w X.K X.mg X.base kk g gd gs (P5 C bs)) (zO:dP kk X.A) (hgg:Gl X kn) (FY:X.mg kn=some (.ref g)) (hkg:keepIn X.K (.ref g)=true) (hbg:Binds X.K gd gs [])
  (hv:∀X2:Cx,X2.N=X.N->X2.env=X.env->PE X2 (.Name tx p2) (gq i)) (hve:∀X2:Cx,X2.N=X.N->X2.env=X.env->PE X2 (.Name en q2) (gq ni))
  (hjf:X.N[jf]?=some yf) (hyf:Loc X.env.scope yf) (hji:X.N[ji]?=some yk) (hyk:Loc X.env.scope yk) (zj:ni≠ji)
  (hF1:P.F jf=none) (EB:P.F ji=none) (hF3:P.F ni=none)
  (hf1:X.fn yf=true) (hf2:X.fn yk=true) (d1:(rn==("__debug__" : Str))=false:=by decide) (d2:(kn==("__debug__" : Str))=false:=by decide) (d3:(jx==("__debug__" : Str))=false:=by decide)
  (hs1:swapsWith (.Call (.Name rn p) [.Name tx p2] [] bQ) (some (.Name yf p3)) Qk.line X.env=pure false:=by rfl) (MG:swapsWith (.Call (.Name kn q) [.Name en q2] [] NU) (some (.Name yk q3)) HR.line X.env=pure false:=by rfl) :
  lY X P (.Try [.Assign [.Name yf p3] (.Call (.Name rn p) [.Name tx p2] [] bQ) Qk] [.ExceptHandler (some (.Name jx np)) (some en) [.Assign [.Name yk q3] (.Call (.Name kn q) [.Name en q2] [] NU) HR] Kq] [] [] pos) (sT cf gr dec bs i jf ji ni):=gY fun Γ res P0=>by
 have NV:∀(e:Value)(E:Value->Shared->Prop),pV (marked X e E) [.Assign [.Name yk q3] (.Call (.Name kn q) [.Name en q2] [] NU) HR] _:=fun e E =>
  kI (mv (X:=marked X e E) (i:=ji) hN hji hyk (G5 (X:=marked X e E) Gd (ql.of zO) hgg FY hkg hbg (bE (X:=marked X e E) (hve _ rfl rfl) d0 rfl) d2 rfl rfl) MG (.inl hf2))
 refine(NA iw hf hN Ou Ub hg hm hx (HN F hr hgf hmf hkf hbf hv hN hjf hyf d1 hs1 (.inl hf1)) NV d3).imp fun D σ H ⟨Hs,S,k⟩=>?_;obtain⟨x,h1,hlen,Ql⟩:=EA P0;obtain⟨v,Us,NF⟩:=S.sh i _ h1
 cases(show v=V.str x from NF)
 refine⟨x,Us,?_⟩;rcases Ql with⟨t,Γ',hc,rfl⟩|⟨hgx,rfl⟩
 ·refine .inl ⟨rfl,[.sh (.str x)],.sh t,Γ',Hs,H,hc,nR (vs:=[.str x]) (ts:=[.str x]) S.sub (dh rfl cu),fun v H' aM e S2 f2=>?_⟩;exact k _ H' aM e ((S.after e S2).xa hF1 f2)
 ·refine .inr ⟨[x],rfl,hgx,fun _ H' e a na=>?_⟩;have hl:ni<σ.length:=by rw [<-S.len];exact hlen
  refine⟨.ref a,getElem?_set_self hl,a,rfl,aE,fun pp H2 np sm hp=>?_⟩;have e2:ax H (upd H' a (.ext (BQ a C))):=e.trans (ee na);have e3:ax H H2:=e2.trans sm;have UE:H pp=none:=e2.free np;have S2:=Kr S hF3 none;have no:=S2.mz UE;have S3:=S2.grow e3;have S4:=S3.BJ (i:=ji) (v:=.ref pp) (t:=.lst (bs.map T.bl)) EB ⟨pp,rfl,S.kept.free UE,⟨S.sub.free UE,_,hp,Dq bs⟩,no⟩;have eσ:((σ.set ni (some (.ref a))).set ji (some (.ref pp))).set ni none=(σ.set ni none).set ji (some (.ref pp)):=by
   rw [set_comm _ _ zj,List.set_set,set_comm _ _ (Ne.symm zj)]
  show D.nx (((σ.set ni (some (.ref a))).set ji (some (.ref pp))).set ni none) H2;rw [eσ];exact k _ H2 Hs (ax.refl _) S4
def Itv(K:PySem.W.Frag)(a:Addr)(n:Nat):It :=
 ⟨fun i H=>∃xs x,lM K H a xs/\xs.length=n/\xs[n-1-i]?=some x/\i<n,fun i H x H'=>H'=H/\∀xs,lM K H a xs->xs[n-1-i]?=some x,fun i H=>n<=i⟩
theorem HS{P:Program}{w:World}{K:PySem.W.Frag}{tg:Expr}(a it:Addr)(n:Nat):Turn P w K tg (Itv K a n) [it] it (fun i h=>i<=n/\h.IsRevIter it a ((n:Int)-1-(i:Int)))where
 mem:=by simp
 obj:=fun i h st b hb=>by
  have e:b=it:=by simpa using hb
  subst e;obtain⟨_,o,e,c,d⟩:=st;exact⟨o,e,fun v z=>by rw [d]at z;cases z⟩
 keep:=fun i h h' st k=>⟨st.1,st.2.at fun o e=>k it (by simp) o e⟩
 item:=by
  intro X hP hw hK hc i pins s σ H E I hf st hg;subst hP hw hK;obtain⟨xs,x,hq,hn,hx,hi⟩:=hg;obtain⟨bh,rv,p,hz⟩:=I.list hq;obtain⟨u,hu,ru⟩:=rv.get hx;obtain⟨f0,f1,f2,f3,f4,f5⟩:=hf it (by simp);have e1:(n:Int)-1-(i:Int)=((n-1-i:Nat):Int):=by omega
  have tH:=st.2;rw [e1]at tH;refine wpAny_pyNext_rev_item tH p.isList (x:=u) (by simpa using hu) fun h' wy sb=>?_;have I1:Inv X pins σ H {s with heap:=h'}:=I.turned (t':=s.toks) (fun b o hb e=>(sb.2 b hb).trans e) f0 f1 f3 f4 f5;have e2:((n-1-i:Nat):Int)-1=(n:Int)-1-((i+1:Nat):Int):=by omega
  rw [e2]at wy;obtain⟨o,e,c,d⟩:=id wy;exact⟨u,rfl,zt (s:={s with heap:=h'}) e c d (by decide) ⟨x,H,I1,ru,⟨rfl,fun ys hy=>by rw [I.zp hy hq];exact hx⟩,⟨hi,wy⟩,fun b hb=>(hf b hb).1⟩⟩
 done:=by
  intro X hP hw hK hc i pins s σ H E I hf st hg;subst hP hw hK;obtain⟨f0,f1,f2,f3,f4,f5⟩:=hf it (by simp);have e:i=n:=Nat.le_antisymm st.1 hg;subst e;have tH:=st.2;rw [show(i:Int)-1-(i:Int)=-1 by omega]at tH;exact wpAny_pyNext_rev_end (I.ok.hd hc) tH fun h' eb=>⟨rfl,I.turned (t':=s.toks) (fun b o hb e=>eb b o hb e) f0 f1 f3 f4 f5⟩
 self:=fun _ _ _ _ _ st h=>wpAny_pyIter_revIter st.2 h
def KN(m:MX):MI:=fun Γ=>(JX m Γ).map fun p=>(p.1.reverse,p.2)
section
variable {X:Cx}{P:Fx}{tg:Expr}
theorem KO{e:Expr}{m:MX}{p pos:Pos}(hg:Gl X "reversed")(hm:X.mg "reversed" = none)(he:aW X P e m)(hs:starEach [e] X.env=[(false,eval e X.env)]:=by rfl):tO X P tg (.Call (.Name "reversed" p) [e] [] pos) (KN m):=fun Γ ts' Γ' h=>by
 obtain⟨⟨ts,Γ2⟩,hL,h'⟩:=iE h;obtain⟨rfl,rfl⟩:ts.reverse=ts'/\Γ2=Γ':=⟨congrArg Prod.fst h',congrArg Prod.snd h'⟩;obtain⟨r,Γ1,h1,h2⟩:=Dc hL;intro pins s σ H R I ⟨Hs,S,k⟩;refine wpAny_Call_Name_kw (ux I hg hm GR ?_ (by decide) (by decide));refine PyProof.Rows.callWith_type1 (da ((bE (he _ _ _ h1) d0 hs) pos pins s σ H (fun vs H1=>∃v bJ,vs=[v]/\ax H H1/\ax Hs bJ/\az (kc X P) P Γ1 σ H1 bJ/\iD (kc X P) P Γ1 σ H1 bJ v r) I ⟨Hs,S,fun v H1 bJ e1 e2 S1 f1=>⟨v,bJ,rfl,e1,e2,S1,f1⟩⟩) fun ws s1 ⟨vs,H1,I1,r1,v,bJ,ev,e1,dr,S1,f1⟩=>?_) hs rfl;subst ev;obtain⟨bX,g,S2,tr⟩:=S1.eM f1;rw [h2]at S2 tr;obtain⟨a,xs,rfl,sq,rs⟩:=tr;obtain⟨u,rfl,ru⟩:=vals1 r1
 cases(show u=Value.ref a from ru)
 have sqH:lM X.K H1 a xs:=S2.sub.seq sq;obtain⟨bh,vv,pl,hz⟩:=I1.list sqH;have hl:=vv.length;refine PySem.call_reversed_list pl.isList ?_;have kp:∀b o,s1.heap.get? b=some o->(s1.heap.push (revObj a ((bh.toArray.size:Int)-1))).get? b=some o:=fun b o e=>Heap.get?_push_of_some _ e;have I2:Inv X pins σ H1 {s1 with heap:=s1.heap.push (revObj a ((bh.toArray.size:Int)-1))}:=I1.kept (t':=s1.toks) kp;have hit:(s1.heap.push (revObj a ((bh.toArray.size:Int)-1))).IsRevIter s1.heap.objs.size a ((bh.toArray.size:Int)-1):=⟨_,Heap.get?_push_size _ rfl,rfl,rfl⟩;refine wpAny_pyIter_revIter hit ?_;refine⟨s1.heap.objs.size,[s1.heap.objs.size],_,_,H1,rfl,I2,HS a _ xs.length,⟨zero_le _,?_⟩,fun b hb=>?_,k _ H1 bX e1 (dr.trans g) S2 fun i H jI e3 e4=>?_⟩
 ·have e:((bh.toArray.size:Nat):Int)-1=(xs.length:Int)-1-((0:Nat):Int):=by rw [size_toArray];omega
  rw [<-e];exact hit
 ·have e:b=s1.heap.objs.size:=by simpa using hb
  subst e;exact I1.zq (le_refl _) (I1.cR.fresh (le_refl _))
 ·have IS:lM X.K H a xs:=(e3.trans e4).seq sq;have hlen:=aF rs;refine⟨fun t ht=>?_,fun hl=>?_⟩
  ·have hi:i<ts.length:=by
    have:=(List.getElem?_eq_some_iff.mp ht).1;rwa [length_reverse]at this
   rw [List.getElem?_reverse hi]at ht;obtain⟨v,hv,tv⟩:=kL rs ht;rw [<-hlen]at hv;refine⟨⟨xs,v,IS,rfl,hv,by omega⟩,fun x H' hy=>?_⟩;obtain⟨rfl,hy⟩:=hy;have:=hy xs IS;rw [hv]at this
   cases this
   exact .val (cX e3 _ _ tv)
  ·show xs.length<=i;rw [length_reverse]at hl;omega
end
end M
namespace LW
open PySem PySem.Spec PyProof.Rows L2 M
def kX:List Bool:=[true,true,false,false,false,false,false,false,false,false,false]
def LQ(i:Nat)(m:MX):MS:=fun Γ=>(m Γ).bind fun p=>match p.1 with | .sh t=>some (.nx (p.2.set i (.sh t)))|_=>none
def iY:List Str:=["most", "set", "once", "row", "map", "job", "let", "put", "wait", "get", "tell", "if", "else", "while", "end", "begin", "stop", "ask", "least", "has", "many", "size", "held", "item", "div", "rem"]
def aL:List (Str×Int):=[("+", 2),("-", 2),("*", 2),("div", 2),("rem", 2),("<", 2),("=", 2)]
def aU:List (Str×Int):=[("size", 0),("held", 0),("has", 1),("item", 1)]
def g5:RS:=kT (xQ fun ws p=>ag TB (mC (.int p)) (bR gA (fun Γ=>some ([.lst (ws.map M.T.str)],Γ))))
def aS:yA:=rH 1 g5
def gF:RS:=kT (Rv (tX (aR 1 aS aD)) (xP (mC (.str ""))) (xQ Ud))
def bU:yA:=rH 1 gF
def ib:RS:=kS (mM 1 (aR 1 bU aD)) (kS Dt (kT (xP (mV 1))))
def bx:yA:=rH 2 ib
def mP:MS:=dt 2 (bR En (fE (jh [none,some 1] (LI (mV 0)) (aZ 0) jK (ag kQ (mV 0) (mV 1))) aD))
def bV:CF:=gZ 2 mP
def xF:MS:=dt 1 (jd (oU JS JS (mC (.int 1)) (bR gA (fE (mV 0) aD)) (mC (.int 8))) (jd (av 2 bV (aB (mV 0) (aB (mC (.str "abcdefghijklmnopqrstuvwxyz")) aD))) (ag xt (mV 0) (mC (.tup (iY.map M.T.str))))))
def fi:CF:=gZ 1 xF
def iM:MS:=bo (jG (kh (dD (ar (oU JS JS (mC (.int 1)) (bR gA (fE (mV 0) aD)) (mC (.int 9)))) (ar (av 2 bV (aB (mV 0) (aB (mC (.str "0123456789")) aD)))))) (dt 1 (mC (.bl false))) dO) (dt 1 (zK (ag gW (mV 0) (mC (.str "0"))) (ag zP (ag bC (mV 0) (mC (.int 0))) (mC (.str "0")))))
def ba:CF:=gZ 1 iM
def oz:MS:=bo (jG (kh (ar (av 1 ba (aB (mV 0) aD)))) YU dO) (dt 1 (bR Dm (fE (mV 0) aD)))
def gG:CF:=gZ 1 oz
def kY:RS:=kS (mM 1 (aR 1 bx aD)) (kS (A8 (tP (kh (ar (av 1 fi (aB (mV 1) aD))))) IZ lS) (kT (xP (mV 1))))
def d6:yA:=rH 2 kY
def UG(i:Nat):RG:=fun _ _ Γ=>∃x,Γ[i]?=some (.sh (.str x))/\(reprText x).length<=1000
def Y5(x:Str):Prop:=ba [.sh (.str x)]=some (.sh (.bl false),[.sh (.str x)])/\(reprText x).length<=1000
def Qm(i:Nat):RG:=fun _ _ Γ=>∃t,Γ[i]?=some (.sh (.str t))/\∃x,[t]=[x]/\Y5 x
def dU:RG:=rK (mM 1 (aR 1 bx aD)) (Hy true (tP (kh (ar (av 1 fi (aB (mV 1) aD))))) (UG 1))
def dv(rc:yA):RS:=kS (A8 (tP (dD (ar (ag sE (mV 1) (mC (.int 0)))) (ar (ag gW (mV 2) (mC (.int 0)))))) IZ lS) (kT (Ds yv (xw [none,some 0,some 2] (A6 (fE (mV 1) aD)) (aZ 0) (aR 2 rc (aB (ag jF (mV 2) (mC (.int 1))) aD)))))
def mQ(pr:yA):RS:=kS (mM 2 (aR 1 bx aD)) (kS (A8 (tP (ar (md aU (mV 2)))) (kS (mM 3 (aR 1 d6 aD)) (kT (G8 Ah (dS (aB (mV 2) (aB (mV 3) aD))) (aR 3 pr (aB (qo aU (mV 2)) (aB (mV 1) aD)))))) lS)
 (kS (A8 (tP (ar (md aL (mV 2)))) (kT (G8 Ah (dS (aB (mV 2) aD)) (aR 3 pr (aB (qo aL (mV 2)) (aB (mV 1) aD))))) lS)
 (kT (xP (zM (ar (av 1 fi (aB (mV 2) aD))) (dS (aB (mC (.str "name")) (aB (mV 2) aD))) (dS (aB (mC (.str "num")) (aB (av 1 gG (aB (mV 2) aD)) aD))))))))
def cC:Nat->yA
 |0=>fun _ _ _=>none
 |d+1=>rH 4 (mQ (rH 3 (dv (cC d))))
def cO(rc:yA)(g:RG):RG:=Jb (Hy true (tP (dD (ar (ag sE (mV 1) (mC (.int 0)))) (ar (ag gW (mV 2) (mC (.int 0)))))) (fun _ _ _=>True)) (rK (A8 (tP (dD (ar (ag sE (mV 1) (mC (.int 0)))) (ar (ag gW (mV 2) (mC (.int 0)))))) IZ lS) (LP [none,some 0,some 2] (A6 (fE (mV 1) aD)) (aZ 0) (aR 2 rc (aB (ag jF (mV 2) (mC (.int 1))) aD)) (iG 2 g (aB (ag jF (mV 2) (mC (.int 1))) aD))))
def cU(pg:RG):RG:=rK (mM 2 (aR 1 bx aD)) (Jb (Hy true (tP (ar (md aU (mV 2)))) (Jb (iG 1 (B2 2 dU) aD) (rK (mM 3 (aR 1 d6 aD)) (HB (dS (aB (mV 2) (aB (mV 3) aD))) (iG 3 pg (aB (qo aU (mV 2)) (aB (mV 1) aD)))))))
 (rK (A8 (tP (ar (md aU (mV 2)))) IZ lS) (Jb (Hy true (tP (ar (md aL (mV 2)))) (HB (dS (aB (mV 2) aD)) (iG 3 pg (aB (qo aL (mV 2)) (aB (mV 1) aD)))))
 (rK (A8 (tP (ar (md aL (mV 2)))) IZ lS) (Hy false (tP (ar (av 1 fi (aB (mV 2) aD)))) (Qm 2))))))
def ix:Nat->RG
 |0=>fun _ _ _=>False
 |d+1=>B2 4 (cU (B2 3 (cO (cC d) (ix d))))
def jm:RS:=kT (aR 2 (cC 6) (aB (mC (.int 5)) aD))
def dn:yA:=rH 1 jm
def cJ:RG:=iG 2 (ix 6) (aB (mC (.int 5)) aD)
def qw:RS:=A8 (tN (tX (aR 1 aS aD))) IZ lS
def fI:yA:=rH 2 qw
def gH:RG:=Hy true (tN (tX (aR 1 aS aD))) (rK (mM 1 (aR 1 bU aD)) (UG 1))
def mR:RS:=kS (mM 2 (aR 1 dn aD)) (kS (Hb (aR 1 fI aD)) (kT (xP (mV 2))))
def bG:CF:=fun as=>match as with
 |[.sh (.str x)]=>(d5 x " ").bind fun ws=>match mR ws 0 [.sh (.str x),.no,.no]with
  |some (_,.rt (.sh t) _)=>some (.sh t,[.sh (.str x)])
  |_=>none
 |_=>none
def Au:RG:=Jb (iG 1 (B2 1 cJ) aD) (rK (mM 2 (aR 1 dn aD)) (iG 1 (B2 2 gH) aD))
def o3:List Str->Prop:=fun xs=>∃x ws,xs=[x]/\d5 x " " = some ws/\Au ws 0 [.sh (.str x),.no,.no]
def vo:MS:=bo (jG (ar (md aU (ag bC (mV 0) (mC (.int 0))))) (dt 1 (Hl (mV 0) (qW (mC (.int 2))) qV)) dO) (dt 1 (zM (ar (md aL (ag bC (mV 0) (mC (.int 0))))) (Hl (mV 0) (qW (mC (.int 1))) qV) (dS aD)))
def dW:CF:=gZ 1 vo
def jn(rc:CF):MS:=bo (jG (jX (ar (ag gW (ag bC (mV 0) (mC (.int 0))) (mC (.str "num")))) (ar (ag gW (ag bC (mV 0) (mC (.int 0))) (mC (.str "name"))))) (dt 1 (bR xA (fE (ag bC (mV 0) (mC (.int 1))) aD))) dO) (bo (bD 1 (zM (ar (md aU (ag bC (mV 0) (mC (.int 0))))) (di (aB (ag bC (mV 0) (mC (.int 0))) (aB (ag bC (mV 0) (mC (.int 1))) aD))) (di (aB (ag bC (mV 0) (mC (.int 0))) aD)))) (bo (kU 1 (jh [none] (IW (av 1 dW (aB (mV 0) aD))) (aZ 0) jK (av 1 rc (aB (mV 0) aD)))) (dt 1 (oy (mC (.str " ")) (fE (mV 1) aD)))))
def aG:Nat->CF
 |0=>fun _=>none
 |d+1=>gZ 2 (jn (aG d))
def sU:MS:=dt 2 (jh [none] (JX (iF (mV 0) qV (qW (mV 1)))) (aZ 0) jK (ag du (mV 0) (ag Gk (mC (.int 10)) (mC (.int 40)))))
def gJ:CF:=gZ 2 sU
def qx:MS:=bo (bD 2 (ag du (mV 0) (mC (.int 1000000007)))) (bo (bD 3 (di aD)) (bo (ox (A6 (fE (ag bf (mV 1) (mC (.int 2))) aD)) (aZ 4) (bo (bD 5 (ag bf (ag bf (ag fg (mV 2) (mC (.int 11))) (ag fg (mC (.int 3)) (mV 4))) (mC (.int 17)))) (bo (bD 2 (ag du (ag bf (ag fg (ag fg (mV 2) (mV 2)) (mC (.int 5))) (mV 5)) (mC (.int 1000000007)))) (dN 3 (ag fO (mV 2) (mC (.int 11))))))) (dt 2 (iF (mV 3) (qW (mC (.int 2))) qV))))
def cP:CF:=gZ 6 qx
def vp:MS:=bo (bD 0 (di (kl ["most", "set", "once", "row", "map", "job", "let", "put", "wait", "get", "tell", "if", "else"]))) (bo (bD 0 (ag bf (mV 0) (di (kl ["while", "end", "begin", "stop", "ask", "least", "has", "many", "size", "held", "item"])))) (dt 0 (ag bf (mV 0) (di (aB (mC (.str "div")) (aB (mC (.str "rem")) aD))))))
def cF:CF:=gZ 1 vp
def Av:MS:=bo (bD 1 (di (aB (mC (.bl true)) (aB (mC (.bl true)) (aB (mC (.bl false)) (aB (mC (.bl false)) aD)))))) (bo (bD 1 (ag bf (mV 1) (di (aB (mC (.bl false)) (aB (mC (.bl false)) (aB (mC (.bl false)) (aB (mC (.bl false)) aD))))))) (dt 1 (ag bf (mV 1) (di (aB (mC (.bl false)) (aB (mC (.bl false)) (aB (mC (.bl false)) aD)))))))
def oA:MS:=bo (jG (jX (ar (ag zi (bR gA (fE (mV 0) aD)) (mC (.int 1)))) (jX (ar (ag sE (bR gA (fE (mV 0) aD)) (mC (.int 8)))) (ar (ag kQ (mV 0) (av 0 cF aD))))) (dt 1 (mC (.bl false))) dO) (dt 1 (bR En (fE (jh [none] (LI (mV 0)) (aZ 0) jK (ag kQ (mV 0) (mC (.str "abcdefghijklmnopqrstuvwxyz")))) aD)))
def bz:CF:=gZ 1 oA
def lT:MS:=bo (jG (jX (ar (ag zi (bR gA (fE (mV 0) aD)) (mC (.int 1)))) (jX (ar (ag sE (bR gA (fE (mV 0) aD)) (mC (.int 9)))) (dD (ar (ag gW (ag bC (mV 0) (mC (.int 0))) (mC (.str "0")))) (ar (ag zP (mV 0) (mC (.str "0"))))))) (dt 1 (mC .cQ)) dO) (bo (bD 1 (mC (.int 0))) (bo (ox (LI (mV 0)) (aZ 2) (bo (jG (ar (ag xt (mV 2) (mC (.str "0123456789")))) (dt 1 (mC .cQ)) dO) (bD 1 (ag bf (ag fg (mC (.int 10)) (mV 1)) (T2 oW (mC (.str "0123456789")) (fE (mV 2) aD)))))) (dt 1 (mV 1))))
def cj:CF:=gZ 3 lT
def vq:MS:=bo (bD 1 (mC (.str ""))) (bo (bD 2 (ag fO (mV 0) (mC (.int 8)))) (bo (ox (A6 (fE (ag bf (mC (.int 1)) (ag du (mV 0) (mC (.int 8)))) aD)) (aZ 3) (bo (bD 1 (ag bf (mV 1) (ag bC (mC (.str "abcdefghijklmnopqrstuvwxyz")) (ag du (mV 2) (mC (.int 26)))))) (bD 2 (ag bf (ag fO (mV 2) (mC (.int 26))) (ag du (ag fg (mC (.int 7)) (mV 0)) (mC (.int 1009))))))) (bo (jG (ar (ag gW (ag du (ag fO (mV 0) (mC (.int 8))) (mC (.int 9))) (mC (.int 4)))) (bD 1 (iF (ag bC (av 0 cF aD) (ag du (ag fO (mV 0) (mC (.int 72))) (mC (.int 26)))) (qW (mC (.int 1))) qV)) dO) (bo (jG (ar (ag kQ (mV 1) (av 0 cF aD))) (bD 1 (ag bf (mC (.str "q")) (iF (mV 1) (qW (mC (.int 1))) qV))) dO) (dt 1 (mV 1))))))
def iy:CF:=gZ 4 vq
def vt:MS:=bo (jG (ar (ag gW (ag du (mV 0) (mC (.int 2))) (mC (.int 1)))) (bo (bD 1 (av 1 iy (aB (ag fO (mV 0) (mC (.int 2))) aD))) (dt 1 (dS (aB (dS (aB (mC (.str "name")) (aB (mV 1) aD))) (aB (mV 1) aD))))) dO) (bo (bD 2 (ag bC (di (aB (mC (.int 0)) (aB (mC (.int 1)) (aB (mC (.int 999999999)) (aB (mC (.int 10)) (aB (ag du (ag fO (mV 0) (mC (.int 8))) (mC (.int 100))) (aB (ag du (ag fg (mV 0) (mC (.int 7919))) (ag Gk (mC (.int 10)) (mC (.int 9)))) aD))))))) (ag du (ag fO (mV 0) (mC (.int 2))) (mC (.int 6))))) (dt 1 (dS (aB (dS (aB (mC (.str "num")) (aB (mV 2) aD))) (aB (bR xA (fE (mV 2) aD)) aD)))))
def jN:CF:=gZ 3 vt
def vw(rc:CF):MS:=bo (bD 3 (ag bC (mV 0) (ag du (mV 1) (mC (.int 40))))) (bo (bD 4 (ag du (mV 3) (mC (.int 12)))) (bo (jG (dD (ar (ag gW (ag du (ag bC (mV 0) (mC (.int 40))) (mC (.int 4))) (mC (.int 1)))) (ar (ag zi (mV 4) (mC (.int 6))))) (bD 4 (ag bf (mV 4) (mC (.int 6)))) dO) (bo (jG (jX (ar (ag zi (mV 4) (mC (.int 4)))) (dD (ar (ag sE (mV 4) (mC (.int 5)))) (ar (ag gW (mV 2) (mC (.int 0)))))) (bo (tL (uQ 2 (ef (aZ 5) (ef (aZ 6) uP))) (av 1 jN (aB (ag fO (mV 3) (mC (.int 12))) aD))) (dt 3 (dS (aB (mV 5) (aB (mV 6) (aB (ag bf (mV 1) (mC (.int 1))) aD)))))) dO) (bo (bD 7 (av 1 iy (aB (ag fO (mV 3) (mC (.int 13))) aD))) (bo (jG (ar (ag zi (mV 4) (mC (.int 6)))) (bo (bD 8 (ag bC (di (aB (mC (.str "size")) (aB (mC (.str "held")) aD))) (ag jF (mV 4) (mC (.int 4))))) (dt 3 (dS (aB (dS (aB (mV 8) (aB (mV 7) aD))) (aB (ag bf (ag bf (mV 8) (mC (.str " "))) (mV 7)) (aB (ag bf (mV 1) (mC (.int 1))) aD)))))) dO) (bo (tL (uQ 3 (ef (aZ 9) (ef (aZ 10) (ef (aZ 11) uP)))) (av 3 rc (aB (mV 0) (aB (ag bf (mV 1) (mC (.int 1))) (aB (ag jF (mV 2) (mC (.int 1))) aD))))) (bo (jG (ar (ag zi (mV 4) (mC (.int 8)))) (bo (bD 8 (ag bC (di (aB (mC (.str "has")) (aB (mC (.str "item")) aD))) (ag jF (mV 4) (mC (.int 6))))) (dt 3 (dS (aB (dS (aB (mV 8) (aB (mV 7) (aB (mV 9) aD)))) (aB (ag bf (ag bf (ag bf (ag bf (mV 8) (mC (.str " "))) (mV 7)) (mC (.str " "))) (mV 10)) (aB (mV 11) aD)))))) dO) (bo (bD 8 (ag bC (di (kl ["+", "-", "*", "div", "rem", "<", "="])) (ag du (ag fO (mV 3) (mC (.int 12))) (mC (.int 7))))) (bo (tL (uQ 3 (ef (aZ 12) (ef (aZ 13) (ef (aZ 14) uP)))) (av 3 rc (aB (mV 0) (aB (mV 11) (aB (ag jF (mV 2) (mC (.int 1))) aD))))) (dt 3 (dS (aB (dS (aB (mV 8) (aB (mV 9) (aB (mV 12) aD)))) (aB (ag bf (ag bf (ag bf (ag bf (mV 8) (mC (.str " "))) (mV 10)) (mC (.str " "))) (mV 13)) (aB (mV 14) aD))))))))))))))
def dX:Nat->CF
 |0=>fun _=>none
 |d+1=>gZ 15 (vw (dX d))
def qy:MS:=bo (bD 1 (di aD)) (bo (ox (KN (vb d5 (mV 0) (fE (mC (.str " ")) aD))) (aZ 2) (bo (bD 3 (jd (ag zP (mV 1) (di aD)) (ag bC (ag bC (mV 1) (GF (mC (.int 1)))) (mC (.int 1))))) (jG (dD (ar (ag kQ (mV 2) (dS (aB (mC (.str "size")) (aB (mC (.str "held")) aD))))) (ar (mV 3))) (B3 1 (-1) (dS (aB (mC (.int 0)) (aB (mC (.bl false)) aD)))) (jG (dD (ar (ag kQ (mV 2) (dS (aB (mC (.str "has")) (aB (mC (.str "item")) aD))))) (dD (ar (mV 3)) (ar (ag sE (bR gA (fE (mV 1) aD)) (mC (.int 1)))))) (bo (C2 (jH 1)) (dN 1 (dS (tQ (d9 bf (d9 wt (jH 1) (mC (.int 0))) (mC (.int 1))) (mC (.bl false)))))) (jG (dD (ar (ag kQ (mV 2) (dS (kl ["+", "-", "*", "div", "rem", "<", "="])))) (ar (ag sE (bR gA (fE (mV 1) aD)) (mC (.int 1))))) (bo (LQ 4 (d9 wt (jH 1) (mC (.int 0)))) (dN 1 (dS (tQ (d9 bf (bR sG (tQ (mV 4) (d9 wt (jH 1) (mC (.int 0))))) (mC (.int 1))) (mC (.bl false)))))) (jG (jX (ar (av 1 bz (aB (mV 2) aD))) (ar (ag xf (av 1 cj (aB (mV 2) aD)) (mC .cQ)))) (dN 1 (dS (aB (mC (.int 0)) (aB (av 1 bz (aB (mV 2) aD)) aD)))) (dt 1 (mC (.bl false))))))))) (dt 1 (jd (ag gW (bR gA (fE (mV 1) aD)) (mC (.int 1))) (ag zi (ag bC (ag bC (mV 1) (mC (.int 0))) (mC (.int 0))) (mC (.int 6))))))
def eN:CF:=gZ 5 qy
def vx:MS:=bo (bD 1 (di (kl ["+", "-", "*", "div", "rem", "<", "=", "size", "held", "has", "item", "7", "0", "q"]))) (bo (bD 2 (di (kl ["", "-0", "00", "1234567890", "abcdefghi", "A", "x1", "+1", "--", "1.5", "(", "mosts "]))) (bo (jG (ar (ag gW (ag du (mV 0) (mC (.int 4))) (mC (.int 0)))) (dt 1 (ag bC (av 0 cF aD) (ag du (ag fO (mV 0) (mC (.int 4))) (mC (.int 26))))) dO) (bo (jG (ar (ag gW (ag du (mV 0) (mC (.int 4))) (mC (.int 1)))) (dt 1 (ag bC (mV 2) (ag du (ag fO (mV 0) (mC (.int 4))) (mC (.int 12))))) dO) (dt 1 (ag bC (mV 1) (ag du (ag fO (mV 0) (mC (.int 4))) (mC (.int 14))))))))
def iz:CF:=gZ 3 vx
def iZ:MS:=bo (bD 2 (ag du (ag bC (mV 1) (mC (.int 0))) (bR gA (fE (mV 0) aD)))) (bo (bD 3 (ag du (ag bC (mV 1) (mC (.int 1))) (mC (.int 8)))) (bo (jG (ar (ag gW (mV 3) (mC (.int 0)))) (bD 0 (ag bf (iF (mV 0) qV (qW (mV 2))) (iF (mV 0) (qW (ag bf (mV 2) (mC (.int 1)))) qV))) dO) (bo (jG (ar (ag gW (mV 3) (mC (.int 1)))) (bD 0 (ag bf (iF (mV 0) qV (qW (ag bf (mV 2) (mC (.int 1))))) (iF (mV 0) (qW (mV 2)) qV))) dO) (bo (jG (jX (ar (ag gW (mV 3) (mC (.int 2)))) (ar (ag gW (mV 3) (mC (.int 3))))) (bD 0 (ag bf (ag bf (iF (mV 0) qV (qW (mV 2))) (di (aB (av 1 iz (aB (ag bC (mV 1) (mC (.int 2))) aD)) aD))) (iF (mV 0) (qW (ag bf (mV 2) (mC (.int 1)))) qV))) dO) (bo (jG (ar (ag gW (mV 3) (mC (.int 4)))) (bD 0 (ag bf (ag bf (iF (mV 0) qV (qW (ag bf (mV 2) (mC (.int 1))))) (di (aB (av 1 iz (aB (ag bC (mV 1) (mC (.int 2))) aD)) aD))) (iF (mV 0) (qW (ag bf (mV 2) (mC (.int 1)))) qV))) dO) (bo (jG (ar (ag gW (mV 3) (mC (.int 5)))) (bD 0 (ag bf (ag bf (iF (mV 0) qV (qW (mV 2))) (di (aB (mC (.str "")) aD))) (iF (mV 0) (qW (mV 2)) qV))) dO) (dt 2 (mV 0))))))))
def d7:CF:=UC 4 iZ
def B7(x:Str):Bool:=match eN [.sh (.str x)]with
 |some (.sh (.bl b),_)=>b
 |_=>false
def sV:MS:=bo (bD 1 (di aD)) (bo (bD 2 (mC .cQ)) (bo (sT bG o3 B7 kX 0 2 1 3) (bo (jG (kh (ar (av 1 eN (aB (mV 0) aD)))) (dt 1 (ag gW (mV 1) (ag bf (di (aB (mC (.bl true)) (aB (mC (.bl true)) aD))) (ag fg (di (aB (mC (.bl false)) aD)) (mC (.int 9)))))) dO) (dt 1 (jd (ag gW (mV 1) (di aD)) (ag gW (av 1 (aG 7) (aB (mV 2) aD)) (mV 0)))))))
def fo:CF:=gZ 4 sV
def LR:MS:=bo (ox (JX (av 2 gJ (aB (ag bf (di (aB (mC (.int 0)) (aB (mC (.int 1)) (aB (mC (.int 2)) (aB (mC (.int 3)) aD))))) (mV 0)) (aB (mC (.int 44)) aD)))) (aZ 1) (bo (bD 2 (av 2 cP (aB (ag fO (mV 1) (mC (.int 3))) (aB (mC (.int 4)) aD)))) (bo (tL (uQ 3 (ef (aZ 3) (ef (aZ 4) (ef (aZ 5) uP)))) (av 3 (dX 6) (aB (av 2 cP (aB (mV 1) (aB (mC (.int 41)) aD))) (aB (mC (.int 0)) (aB (mC (.int 5)) aD))))) (bo (bD 6 (ag bf (ag fg (di (aB (mC (.str "+")) (aB (mC (.str "1")) aD))) (ag du (ag bC (mV 2) (mC (.int 3))) (mC (.int 7)))) (vb d5 (mV 4) (fE (mC (.str " ")) aD)))) (jG (kh (ar (av 1 fo (aB (oy (mC (.str " ")) (fE (av 2 d7 (aB (mV 6) (aB (mV 2) aD))) aD)) aD)))) (dt 1 (mC (.bl false))) dO))))) (dt 1 (mC (.bl true)))
def yH:CF:=gZ 7 LR
end LW
namespace M
open PySem PySem.Spec PyProof.Rows L2
section
variable {Γ:G}{t:T}{i np n:Nat}{m m' m'':MX}{c c':MT}{a:MA}{st wy:MS}{g g':T->T->Option R}{b:BG}{d:JP}{mi:MI}{lo hi sp:MO}{cf:CF}
@[simp] theorem Y6:mC t Γ=some (.sh t,Γ):=rfl
@[simp] theorem Y7:mV i Γ=match Γ[i]? with|some (.sh t)=>some (.sh t,Γ)|some (.own t)=>some (.bor i t,Γ)|_=>none:=rfl
@[simp] theorem LS:ag g m m' Γ=(m Γ).bind fun p=>(m' p.2).bind fun q=>(g p.1.tree q.1.tree).map fun r=>(r,q.2):=rfl
@[simp] theorem NW:ar m Γ=(m Γ).bind fun p=>match p.1 with | .sh (.bl k)=>some (k,p.2)|_=>none:=rfl
@[simp] theorem NX:kh c Γ=(c Γ).map fun p=>(!p.1,p.2):=rfl
@[simp] theorem UH:dD c c' Γ=(c Γ).bind fun p=>if p.1=true then c' p.2 else some (false,p.2):=rfl
@[simp] theorem Y8:jX c c' Γ=(c Γ).bind fun p=>if p.1=true then some (true,p.2)else c' p.2:=rfl
@[simp] theorem UI:jd m m' Γ=(m Γ).bind fun p=>match p.1 with | .sh (.bl true)=>m' p.2 | .sh (.bl false)=>some (.sh (.bl false),p.2)|_=>none:=rfl
@[simp] theorem Y9:zK m m' Γ=(m Γ).bind fun p=>match p.1 with | .sh (.bl false)=>m' p.2 | .sh (.bl true)=>some (.sh (.bl true),p.2)|_=>none:=rfl
@[simp] theorem UJ:Pm m Γ=(ar m Γ).map fun p=>(.sh (.bl (!p.1)),p.2):=rfl
@[simp] theorem Za:zM c m m' Γ=(c Γ).bind fun p=>if p.1=true then m p.2 else m' p.2:=rfl
@[simp] theorem Qn:aD Γ=some ([],Γ):=rfl
@[simp] theorem ak3:fE m a Γ=(m Γ).bind fun p=>(a p.2).map fun q=>(p.1.tree::q.1,q.2):=rfl
@[simp] theorem Qo:aB m a Γ=(m Γ).bind fun p=>(a (eM p.1 p.2).2).map fun q=>((eM p.1 p.2).1::q.1,q.2):=rfl
@[simp] theorem NY:eM (.sh t) Γ=(t,Γ):=rfl
@[simp] theorem UK:eM (.own t) Γ=(t,Γ):=rfl
@[simp] theorem UL:eM (.bor i t) Γ=(t,Γ.set i (.sh t)):=rfl
@[simp] theorem Zb:R.tree (.sh t)=t:=rfl
@[simp] theorem Zc:R.tree (.own t)=t:=rfl
@[simp] theorem Zd:R.tree (.bor i t)=t:=rfl
@[simp] theorem Ze:di a Γ=(a Γ).bind fun p=>if p.1.length<=1000 then some (.own (.lst p.1),p.2)else none:=rfl
@[simp] theorem Zf:dS a Γ=(a Γ).bind fun p=>if p.1.length<=1000 then some (.sh (.tup p.1),p.2)else none:=rfl
@[simp] theorem UM{f:List T->Option R}:bR f a Γ=(a Γ).bind fun p=>(f p.1).map fun r=>(r,p.2):=rfl
@[simp] theorem RB:av np cf a Γ=(a Γ).bind fun p=>if p.1.length=np then match cf (p.1.map Slot.sh)with|some (.sh t,_)=>some (.sh t,p.2)|some (.own t,_)=>some (.own t,p.2)|_=>none else none:=rfl
@[simp] theorem UN:dO Γ=some (.nx Γ):=rfl
@[simp] theorem Zg:bo st wy Γ=(st Γ).bind fun r=>match r with | .nx Γ1=>wy Γ1|r=>some r:=rfl
@[simp] theorem Zh:bD i m Γ=(m Γ).map fun p=>match p.1 with | .sh t=>.nx (p.2.set i (.sh t)) | .own t=>.nx (p.2.set i (.own t)) | .bor j t=>.nx ((p.2.set j (.sh t)).set i (.sh t)):=rfl
@[simp] theorem Zi:dt np m Γ=(m Γ).map fun p=>match p.1 with | .bor j t=>if j<np then .rt (.sh t) (p.2.set j (.sh t))else .rt (.own t) (p.2.set j .no)|r=>.rt r p.2:=rfl
@[simp] theorem UO:C2 m Γ=(m Γ).map fun p=>.nx p.2:=rfl
@[simp] theorem ak4:jG c st wy Γ=(c Γ).bind fun p=>if p.1=true then st p.2 else wy p.2:=rfl
@[simp] theorem KP:aZ i t Γ=some (Γ.set i (.sh t)):=rfl
@[simp] theorem UP:uP [] Γ=some Γ:=rfl
@[simp] theorem RC{r:List T}:ef b d (t::r) Γ=(b t Γ).bind fun Γ1=>d r Γ1:=rfl
@[simp] theorem UQ{ts:List T}:uQ n d (.tup ts) Γ=if ts.length=n then d ts Γ else none:=rfl
@[simp] theorem Dw:tL b m Γ=(m Γ).bind fun p=>(b (eM p.1 p.2).1 (eM p.1 p.2).2).map .nx:=rfl
@[simp] theorem NZ:ox mi b st Γ=(mi Γ).bind fun p=>eG b st p.1 p.2:=rfl
@[simp] theorem Qp:JX m Γ=(m Γ).bind fun p=>match (eM p.1 p.2).1 with | .lst ts=>some (ts,(eM p.1 p.2).2)|_=>none:=rfl
@[simp] theorem ak5:IW m Γ=(m Γ).bind fun p=>match (eM p.1 p.2).1 with | .tup ts=>some (ts,(eM p.1 p.2).2)|_=>none:=rfl
@[simp] theorem ak6:miZ a Γ=(a Γ).bind fun p=>match p.1 with | [.lst ts,.lst us]=>some (PJ ts us,p.2)|_=>none:=rfl
@[simp] theorem ak7:qV Γ=some (none,Γ):=rfl
@[simp] theorem Zj{x:String}:TQ x m Γ=(m Γ).bind fun p=>if GG p.1.tree=true then none else some (.sh (.bl (YI (YH p.1.tree) x)),p.2):=rfl
@[simp] theorem Zk:TR n Γ=some (.sh (.obj n),Γ):=rfl
@[simp] theorem UR:PH Γ=some (.own (.ua [] []),Γ):=rfl
@[simp] theorem ak8{as:G}:gZ n st as=match st (as++List.replicate (n-as.length) Slot.no)with|some (.nx Γ)=>some (.sh .cQ,Γ)|some (.rt (.sh t) Γ)=>some (.sh t,Γ)|some (.rt (.own t) Γ)=>some (.own t,Γ)|_=>none:=rfl
@[simp] theorem ak9{f:Int->Int->Int}{i j:Int}:gI f (.int i) (.int j)=some (.sh (.int (f i j))):=rfl
@[simp] theorem al0{f:Int->Int->Bool}{i j:Int}:gB f (.int i) (.int j)=some (.sh (.bl (f i j))):=rfl
@[simp] theorem Zl{i j:Int}:bf (.int i) (.int j)=some (.sh (.int (i+j))):=rfl
@[simp] theorem Zm{i j:Int}:M.jF (.int i) (.int j)=some (.sh (.int (i-j))):=rfl
@[simp] theorem kr{i j:Int}(h:0<j):du (.int i) (.int j)=some (.sh (.int (i % j))):=by
 show(if decide (0<j)=true then _ else _)=_;rw [decide_eq_true h];rfl
@[simp] theorem oB{i j:Int}(h:0<j)(h':j<1073741824):fO (.int i) (.int j)=some (.sh (.int (i / j))):=by
 show(if(decide (0<j)&&decide (j<1073741824))=true then _ else _)=_;rw [decide_eq_true h,decide_eq_true h'];rfl
@[simp] theorem US{i j:Int}:zi (.int i) (.int j)=some (.sh (.bl (decide (i<j)))):=rfl
@[simp] theorem al1{i j:Int}:JS (.int i) (.int j)=some (.sh (.bl (decide (i<=j)))):=rfl
@[simp] theorem HU{i j:Int}:sE (.int i) (.int j)=some (.sh (.bl (decide (j<i)))):=rfl
@[simp] theorem al2{i j:Int}:TB (.int i) (.int j)=some (.sh (.bl (decide (j<=i)))):=rfl
@[simp] theorem Aw{i j:Int}:gW (.int i) (.int j)=some (.sh (.bl (decide (i=j)))):=by
 show some (R.sh (.bl (xor false (i==j))))=_;rw [false_xor,Bool.beq_eq_decide_eq]
@[simp] theorem Zn{i j:Int}:zP (.int i) (.int j)=some (.sh (.bl (!decide (i=j)))):=by
 show some (R.sh (.bl (xor true (i==j))))=_;rw [true_xor,Bool.beq_eq_decide_eq]
@[simp] theorem LU{x y:Str}:gW (.str x) (.str y)=some (.sh (.bl (decide (x=y)))):=by
 show some (R.sh (.bl (xor false (decide (x=y)))))=_;rw [false_xor]
@[simp] theorem Zo{x y:Str}:zP (.str x) (.str y)=some (.sh (.bl (!decide (x=y)))):=by
 show some (R.sh (.bl (xor true (decide (x=y)))))=_;rw [true_xor]
@[simp] theorem Zp{x y:Bool}:gW (.bl x) (.bl y)=some (.sh (.bl (decide (x=y)))):=by
 cases x<;>cases y<;>rfl
@[simp] theorem UT{i j:Int}(h:eW i=true):xb (.int i) (.int j)=some (.sh (.int (i*j))):=by
 show(if(eW i||eW j)=true then some (R.sh (.int (i*j)))else none)=_;rw [h,Bool.true_or,if_pos rfl]
@[simp] theorem N0{i j:Int}(h:eW j=true):xb (.int i) (.int j)=some (.sh (.int (i*j))):=by
 show(if(eW i||eW j)=true then some (R.sh (.int (i*j)))else none)=_;rw [h,Bool.or_true,if_pos rfl]
end
end M
namespace LW
open PySem PySem.Spec PyProof.Rows L2 M
theorem Dx{c:Nat}:∀{x y a b:List Nat},c∉x->c∉y->x++c::a=y++c::b->x=y/\a=b
 |[],[],a,b,_,_,h=>⟨rfl,(List.cons.inj h).2⟩
 |[],d::y,a,b,_,hy,h=>by
  have e:=(List.cons.inj h).1;exact absurd (e▸mem_cons_self ..) hy
 |d::x,[],a,b,hx,_,h=>by
  have e:=(List.cons.inj h).1;exact absurd (e▸mem_cons_self ..) hx
 |d::x,f::y,a,b,hx,hy,h=>by
  obtain⟨e1,e2⟩:=List.cons.inj h;obtain⟨e3,e4⟩:=Dx (fun z=>hx (mem_cons_of_mem _ z)) (fun z=>hy (mem_cons_of_mem _ z)) e2;exact⟨by rw [e1,e3],e4⟩
theorem qz(c:Nat)(x y:Str)(r:List Str):(Str.join ⟨#[c]⟩ (x::y::r)).cps.toList=x.cps.toList++c::(Str.join ⟨#[c]⟩ (y::r)).cps.toList:=by
 have e:Str.join ⟨#[c]⟩ (x::y::r)=x++⟨#[c]⟩++Str.join ⟨#[c]⟩ (y::r):=rfl;rw [e];show((x.cps++#[c])++(Str.join ⟨#[c]⟩ (y::r)).cps).toList=_;rw [toList_append,toList_append,List.append_assoc];rfl
theorem yI{x y:Str}(h:x.cps.toList=y.cps.toList):x=y:=by
 obtain⟨a⟩:=x;obtain⟨b⟩:=y;have e:a=b:=toList_inj.mp h;rw [e]
theorem Ax{c:Nat}:∀{ps qs:List Str},ps≠[]->qs≠[]->(∀p∈ps,c∉p.cps.toList)->(∀q∈qs,c∉q.cps.toList)->Str.join ⟨#[c]⟩ ps=Str.join ⟨#[c]⟩ qs->ps=qs
 |[],_,h,_,_,_,_=>absurd rfl h
 |_,[],_,h,_,_,_=>absurd rfl h
 |[x],[y],_,_,_,_,e=>by
  have e:x=y:=e;rw [e]
 |[x],y::z::r,_,_,hp,_,e=>by
  have e2:=qz c y z r;rw [<-e]at e2;have e2:x.cps.toList=_:=e2;exact absurd (by rw [e2];simp) (hp x (mem_cons_self ..))
 |x::z::r,[y],_,_,_,hq,e=>by
  have e2:=qz c x z r;rw [e]at e2;have e2:y.cps.toList=_:=e2;exact absurd (by rw [e2];simp) (hq y (mem_cons_self ..))
 |x::z::r,y::v::t,_,_,hp,hq,e=>by
  have e1:=qz c x z r;have e2:=qz c y v t;rw [e,e2]at e1;obtain⟨e3,e4⟩:=Dx (hq y (mem_cons_self ..)) (hp x (mem_cons_self ..)) e1;have:=Ax (c:=c) (ps:=z::r) (qs:=v::t) (fun z=>nomatch z) (fun z=>nomatch z) (fun p h=>hp p (mem_cons_of_mem _ h)) (fun p h=>hq p (mem_cons_of_mem _ h)) (yI e4.symm);rw [yI e3,this]
theorem vy{c:Nat}{ps:List Str}(zj:ps≠[])(hf:∀p∈ps,c∉p.cps.toList):Txt.split (Str.join ⟨#[c]⟩ ps) ⟨#[c]⟩=ps:=by
 refine Ax (c:=c) ?_ zj (fun p hp=>StrLaws.split_free _ c p hp) hf (StrLaws.join_split _ _);intro z;have:=split_pos (Str.join ⟨#[c]⟩ ps) ⟨#[c]⟩;rw [z]at this;exact absurd this (by decide)
open PySem.NumText (AllDigits digitsVal)
def gK(x y:Str):Bool:=x.cps.toList.all fun c=>A7 (gD c) y
theorem sW:∀bs:List Bool,boolsOf (bs.map M.T.bl)=some bs
 |[]=>rfl
 |b::bs=>by
  show(boolsOf (bs.map M.T.bl)).map _=_;rw [sW bs];rfl
def KQ(y:Str):M.T->M.T:=fun t=>match t with
 |.str z=>.bl (A7 z y)
 |_=>.cQ
theorem KR(x y:Str):(M.signs x).map (KQ y)=(x.cps.toList.map fun c=>A7 (gD c) y).map M.T.bl:=by
 unfold M.signs;rw [map_map,map_map];rfl
theorem EC(x:Str):(M.signs x).length=x.length:=by
 unfold M.signs;rw [length_map];exact length_toList
theorem xG(x y:Str):En [.lst ((M.signs x).map (KQ y))]=some (.sh (.bl (gK x y))):=by
 rw [KR];unfold En;simp only [sW,map_some];congr 3;unfold gK;rw [all_map];rfl
theorem vz{x y:Str}{cap:List (Option Nat)}{me:MX}{Γ:M.G}(h:x.length<=1000)(hΓ:Γ[0]?=some (.sh (.str x)))
  (hm:∀c:Nat,∃Γ1 Γ2,aZ 0 (.str (gD c)) (jg cap (aJ cap Γ))=some Γ1/\me Γ1=some (.sh (.bl (A7 (gD c) y)),Γ2)) :
  jh cap (LI (mV 0)) (aZ 0) jK me Γ=some (.own (.lst ((M.signs x).map (KQ y))),aJ cap Γ):=by
 refine Dh (ts:=M.signs x) (Γ1:=Γ) ?_ ?_
 ·unfold LI mV;rw [hΓ];rfl
 ·refine uZ (f:=KQ y) (M.signs x) [] (fun t ht=>?_) (by rw [EC];show 0+_<=_;have:1000<=sizeLine:=(by decide);omega);obtain⟨c,_,rfl⟩:=mem_map.mp ht;obtain⟨Γ1,Γ2,h1,h2⟩:=hm c;exact⟨Γ1,_,Γ2,h1,h2,rfl⟩
theorem vA(x y:Str)(h:x.length<=1000):bV [.sh (.str x),.sh (.str y)]=some (.sh (.bl (gK x y)),[.sh (.str x),.sh (.str y)]) :=
 cy (bO (mI (uX (vz (x:=x) (y:=y) h rfl fun c=>⟨_,_,rfl,rfl⟩) rfl) (xG x y)))
theorem len_str{x:Str}{Γ:M.G}(h:x.length<=1000)(hΓ:Γ[0]?=some (.sh (.str x))):bR gA (fE (mV 0) aD) Γ=some (.sh (.int x.length),Γ):=by
 have e:mV 0 Γ=some (.sh (.str x),Γ):=by
  unfold mV;rw [hΓ]
 refine mI (uX e rfl) ?_;unfold gA;have:x.length<=sizeLine:=le_trans h (by decide);show(if x.length<=sizeLine then _ else _)=_;rw [if_pos this]
theorem rM{x:Str}{Γ:M.G}{hi:Int}(h:x.length<=1000)(hΓ:Γ[0]?=some (.sh (.str x))):oU JS JS (mC (.int 1)) (bR gA (fE (mV 0) aD)) (mC (.int hi)) Γ=some (.sh (.bl (decide (1<=(x.length:Int))&&decide ((x.length:Int)<=hi))),Γ):=by
 unfold oU;have e0:mC (.int 1) Γ=some (.sh (.int 1),Γ):=rfl;have e1:JS (.int 1) (.int x.length)=some (.sh (.bl (decide (1<=(x.length:Int))))):=rfl;rw [e0];dsimp only [Option.bind];rw [len_str h hΓ];dsimp only [Option.bind,R.tree];rw [e1];by_cases q:1<=(x.length:Int)
 ·rw [decide_eq_true q];rfl
 ·rw [decide_eq_false q];rfl
def asc(x:Str):Prop:=x.length<=90/\∀c∈x.cps.toList,c<128
theorem yJ:∀c,c<128->A7 (gD c) "0123456789" = decide (48<=c/\c<=57):=by decide +kernel
theorem Zq{x:Str}{c:Nat}{cs:List Nat}(hl:x.length<=90)(hx:x.cps.toList=c::cs):bC (.str x) (.int 0)=some (.sh (.str (gD c))):=by
 have:x.length<=sizeLine:=le_trans hl (by decide);show(if x.length<=sizeLine then(lN x.cps.toList 0).map (fun c=>R.sh (.str ⟨#[c]⟩))else none)=_;rw [if_pos this,hx];have e:lN (c::cs) 0=some c:=by
  unfold lN BA;simp
 rw [e];rfl
theorem repr_len{x:Str}(h:asc x):(reprText x).length<=1000:=by
 have:=PySem.StrLaws.reprText_len x fun c hc=>Nat.lt_trans (h.2 c hc) (by decide);have:=h.1;omega
def tR(k:Nat):List Nat:=(Nat.toDigits 10 k).map Char.toNat
theorem Dy:∀k,k<10->(Nat.digitChar k).toNat=48+k:=by decide
theorem yK{k:Nat}(h:k<10):tR k=[48+k]:=by
 unfold tR;rw [Nat.toDigits_of_lt_base h,List.map_singleton,Dy k h]
theorem Dz{k:Nat}(h:10<=k):tR k=tR (k / 10)++[48+k % 10]:=by
 unfold tR;rw [Nat.toDigits_of_base_le (by decide) h,map_append,List.map_singleton,Dy _ (Nat.mod_lt _ (by decide))]
theorem qA:∀(n k:Nat),k<n->AllDigits (tR k)/\digitsVal (tR k)=k/\∃c r,tR k=c::r/\(c=48->k=0)
 |0,k,h=>absurd h (not_lt_zero _)
 |n+1,k,h=>by
  by_cases q:k<10
  ·rw [yK q];refine⟨fun c hc=>?_,?_,_,_,rfl,fun e=>by omega⟩
   ·rw [mem_singleton.mp hc];omega
   ·show 0*10+(48+k-48)=k;omega
  ·obtain⟨h1,h2,c,r,h3,h4⟩:=qA n (k / 10) (by omega);rw [Dz (by omega)];refine⟨fun d hd=>?_,?_,c,r++[48+k % 10],by rw [h3];rfl,fun e=>?_⟩
   ·rcases mem_append.mp hd with z|z
    ·exact h1 d z
    ·rw [mem_singleton.mp z];omega
   ·rw [PySem.NumText.digitsVal_snoc,h2];omega
   ·have:=h4 e;omega
def cK(k:Nat):Str:=toString (k:Int)
theorem gL(k:Nat):(cK k).cps.toList=tR k:=by
 have e:(toString (k:Int))=String.ofList (Nat.toDigits 10 k):=Nat.repr_eq_ofList_toDigits;show(Str.ofString (toString (k:Int))).cps.toList=_;rw [e,PySem.W.Fast.ofString_ofList];rfl
theorem ku{k:Nat}(h:k<1000000000):(cK k).length<=9/\1<=(cK k).length:=by
 have e:(cK k).cps.toList.length=(cK k).length:=length_toList;rw [gL]at e;unfold tR at e;rw [length_map]at e;have h1:=PySem.toDigits_len_pow (b:=10) (k:=9) (n:=k) (by decide) (by decide) h;have h2:=PySem.toDigits_len_ge 10 k;omega
theorem mS(k:Nat):AllDigits (cK k).cps.toList:=by
 rw [gL];exact(qA (k+1) k (lt_succ_self k)).1
theorem KS{k:Nat}:gK (cK k) "0123456789" = true:=all_eq_true.mpr fun c hc=>by
 have:=mS k c hc;rw [yJ c (by omega)];exact decide_eq_true this
theorem sX{k:Nat}(h:k<1000000000):ba [.sh (.str (cK k))]=some (.sh (.bl true),[.sh (.str (cK k))]):=by
 obtain⟨l1,l2⟩:=ku h;have D6:(cK k).length<=1000:=by omega
 have ch:=rM (x:=cK k) (Γ:=[.sh (.str (cK k))]) (hi:=9) D6 rfl;rw [decide_eq_true (by omega:1<=((cK k).length:Int)),decide_eq_true (by omega:((cK k).length:Int)<=9)]at ch;have s:av 2 bV (aB (mV 0) (aB (mC (.str "0123456789")) aD)) [.sh (.str (cK k))]=some (.sh (.bl (gK (cK k) "0123456789")),[.sh (.str (cK k))]):=cH (np:=2) (cf:=bV) (n:=aB (mV 0) (aB (mC (.str "0123456789")) aD)) (Γ:=[.sh (.str (cK k))]) (ts:=[.str (cK k),.str "0123456789"]) rfl rfl (vA (cK k) "0123456789" D6);rw [KS]at s;refine cy (aj (aA (h8 (b:=true) (ey (aK ch) (aK s))) rfl) (bO ?_));obtain⟨h1,h2,c,r,h3,h4⟩:=qA (k+1) k (lt_succ_self k);rw [<-gL]at h3;have i0:=Zq (by omega:(cK k).length<=90) h3;have a1:ag gW (mV 0) (mC (.str "0")) [.sh (.str (cK k))]=some (.sh (.bl (decide (cK k = "0"))),[.sh (.str (cK k))]):=by
  refine au (r1:=.sh (.str (cK k))) (r2:=.sh (.str "0")) rfl rfl ?_;show some (R.sh (.bl (xor false (decide (cK k = "0")))))=_;rw [false_xor]
 by_cases q:k=0
 ·subst q;rw [decide_eq_true (show cK 0 = "0" from by decide +kernel)]at a1;unfold zK;rw [a1];rfl
 ·have nc:¬gD c = "0" := fun z=>by
   have e:(gD c).cps.toList=[48]:=by rw [z];decide +kernel
   have e:[c]=[48]:=e;exact q (h4 (List.cons.inj e).1)
  have nz:¬cK k = "0" := fun z=>by
   rw [z]at h3;have e:(("0" : Str)).cps.toList=[48]:=by decide +kernel
   rw [e]at h3;exact q (h4 (List.cons.inj h3).1.symm)
  rw [decide_eq_false nz]at a1;have a2:ag zP (ag bC (mV 0) (mC (.int 0))) (mC (.str "0")) [.sh (.str (cK k))]=some (.sh (.bl true),[.sh (.str (cK k))]):=by
   refine au (r1:=.sh (.str (gD c))) (r2:=.sh (.str "0")) (au (r1:=.sh (.str (cK k))) (r2:=.sh (.int 0)) rfl rfl i0) rfl ?_;show some (R.sh (.bl (xor true (decide (gD c = "0")))))=_;rw [decide_eq_false nc];rfl
  unfold zK;rw [a1];exact a2
theorem HV{k:Nat}(h:k<1000000000):gG [.sh (.str (cK k))]=some (.sh (.int k),[.sh (.str (cK k))]):=by
 obtain⟨l1,l2⟩:=ku h;have e:Dm [.str (cK k)]=some (.sh (.int k)):=by
  show(if(cK k).length<=640 then(PySem.intText? (cK k)).map (fun n=>R.sh (.int n))else none)=_;obtain⟨h1,h2,c,r,h3,h4⟩:=qA (k+1) k (lt_succ_self k);rw [if_pos (by omega),PySem.intText_digits (mS k) (by rw [gL,h3];exact cons_ne_nil _ _) (by omega),gL,h2];rfl
 exact cy (aj (aA (h8 (b:=true) (aK (cH (np:=1) (ts:=[.str (cK k)]) rfl rfl (sX h)))) rfl) (bO (mI (ts:=[.str (cK k)]) rfl e)))
def dq:List Str:=["most", "set", "once", "row", "map", "job", "let", "put", "wait", "get", "tell", "if", "else", "while", "end", "begin", "stop", "ask", "least", "has", "many", "size", "held", "item", "div", "rem"]
theorem DA:cF []=some (.own (.lst (dq.map M.T.str)),[.own (.lst ((dq.take 24).map M.T.str))]):=by rfl
theorem jo:∀ys:List Str,strsOf (ys.map M.T.str)=some ys
 |[]=>rfl
 |y::ys=>by
  show(strsOf (ys.map M.T.str)).map (y::·)=_;rw [jo ys];rfl
theorem DB(x:Str)(ys:List Str):kQ (.str x) (.lst (ys.map M.T.str))=some (.sh (.bl (ys.any fun y=>y==x))):=by
 show(strsOf (ys.map M.T.str)).map _=_;rw [jo];rfl
theorem HW(x:Str)(ys:List Str):xt (.str x) (.tup (ys.map M.T.str))=some (.sh (.bl (!ys.any fun y=>y==x))):=by
 show(strsOf (ys.map M.T.str)).map _=_;rw [jo];rfl
def aT(x:Str):Bool:=(decide (1<=(x.length:Int))&&decide ((x.length:Int)<=8))&&(gK x "abcdefghijklmnopqrstuvwxyz" && !(dq.any fun y=>y==x))
theorem B8(x:Str)(h:x.length<=1000):fi [.sh (.str x)]=some (.sh (.bl (aT x)),[.sh (.str x)]):=by
 refine cy (bO ?_);have c:=rM (x:=x) (Γ:=[.sh (.str x)]) (hi:=8) h rfl;have s:=cH (np:=2) (cf:=bV) (n:=aB (mV 0) (aB (mC (.str "abcdefghijklmnopqrstuvwxyz")) aD)) (Γ:=[.sh (.str x)]) (ts:=[.str x,.str "abcdefghijklmnopqrstuvwxyz"]) rfl rfl (vA x "abcdefghijklmnopqrstuvwxyz" h);unfold aT;generalize hb:(decide (1<=(x.length:Int))&&decide ((x.length:Int)<=8))=b at c
 cases b with
 |false=>exact qh c
 |true =>
  refine qg c ?_;generalize hd:gK x "abcdefghijklmnopqrstuvwxyz" = d at s
  cases d with
  |false=>exact qh s
  |true=>exact qg s (au rfl rfl (HW x dq))
open PySem.NumText (AllDigits digitsVal)
theorem xH(g:Str):∀(r:List Str)(a b:Array Nat),r.foldl (fun acc p=>acc++g.cps++p.cps) (a++b)=a++r.foldl (fun acc p=>acc++g.cps++p.cps) b
 |[],a,b=>rfl
 |p::r,a,b=>by
  rw [foldl_cons,foldl_cons,append_assoc,append_assoc,xH g r a,append_assoc]
theorem eB(g:Str):∀ps:List Str,Txt.join g ps=Str.join g ps
 |[]=>rfl
 |[x]=>rfl
 |x::y::r=>by
  have e:Str.join g (x::y::r)=x++g++Str.join g (y::r):=rfl;rw [e,<-eB g (y::r)];show(⟨r.foldl (fun acc p=>acc++g.cps++p.cps) (x.cps++g.cps++y.cps)⟩:Str)=⟨(x.cps++g.cps)++r.foldl (fun acc p=>acc++g.cps++p.cps) y.cps⟩;rw [xH]
theorem qB(c:Nat)(B:Nat):∀ps:List Str,(∀p∈ps,p.length<=B)->(Txt.join ⟨#[c]⟩ ps).length<=ps.length*(B+1)
 |[],_=>zero_le _
 |[x],h=>by
  have:=h x (mem_singleton.mpr rfl);show x.length<=1*(B+1);omega
 |x::y::r,h=>by
  have ih:=qB c B (y::r) fun p hp=>h p (mem_cons_of_mem _ hp);have hx:=h x mem_cons_self;rw [eB]at ih ⊢;have e:Str.join ⟨#[c]⟩ (x::y::r)=x++⟨#[c]⟩++Str.join ⟨#[c]⟩ (y::r):=rfl;rw [e];have l:(x++⟨#[c]⟩++Str.join ⟨#[c]⟩ (y::r)).length=x.length+1+(Str.join ⟨#[c]⟩ (y::r)).length:=by
   show((x.cps++#[c])++(Str.join ⟨#[c]⟩ (y::r)).cps).size=_;rw [Array.size_append,Array.size_append];rfl
  rw [l,length_cons];have:(r.length+1+1)*(B+1)=(r.length+1)*(B+1)+(B+1):=succ_mul _ _;rw [length_cons]at ih ⊢;omega
theorem N1{c:Nat}{ps:List Str}(zj:ps≠[])(hf:∀p∈ps,c∉p.cps.toList)(hB:∀p∈ps,p.length<=400)(hl:ps.length<=100):d5 (Txt.join ⟨#[c]⟩ ps) ⟨#[c]⟩=some ps:=by
 have l:=qB c 400 ps hB;have l2:ps.length*(400+1)<=100*401:=mul_le_mul hl (le_refl _);have hz:sizeLine=16777216:=rfl;unfold d5;rw [if_pos ⟨rfl,by omega⟩,eB,vy zj hf]
theorem N2:(" " : Str)=⟨#[32]⟩:=by kernel_rfl
theorem ED{c:Nat}(h:c<48)(k:Nat):c∉(cK k).cps.toList:=fun z=>by
 have:=mS k c z;omega
theorem Ay{b:BG}{me:MX}{Γ0 Γ1:M.G}{mi:MI}{ts:List M.T}{f:M.T->M.T}{cap:List (Option Nat)}(h:mi Γ0=some (ts,Γ1))(hf:∀t∈ts,∃Γ2 r Γ3,b t (jg cap (aJ cap Γ1))=some Γ2/\me Γ2=some (r,Γ3)/\(eM r Γ3).1=f t)(hl:ts.length<=1000):jh cap mi b jK me Γ0=some (.own (.lst (ts.map f)),aJ cap Γ1) :=
 Dh h (uZ ts [] hf (by show 0+ts.length<=sizeLine;have:1000<=sizeLine:=(by decide);omega))
theorem HX{a:Int}(h0:0<=a)(h1:a<=100000000000):eW a=true:=by
 unfold eW;rw [decide_eq_true (by omega:-(2 ^ 64)<a),decide_eq_true (by omega:a<2 ^ 64)];rfl
theorem B9{a b:Int}:fg (.int a) (.int b)=xb (.int a) (.int b):=by
 unfold fg IQ
 cases xb (.int a) (.int b)<;>rfl
theorem mT{α:Type}(xs:List α)(k:Nat):cut xs (some (k:Int)) none=xs.drop k:=by
 unfold cut;rw [HT.CQ,HT.zA];by_cases h:k<=xs.length
 ·rw [Nat.min_eq_left h];apply take_of_length_le;rw [length_drop];omega
 ·rw [Nat.min_eq_right (by omega)];rw [List.drop_eq_nil_of_le (by omega:xs.length<=k),List.drop_eq_nil_of_le (le_refl _)];simp
theorem Ca{α:Type}(xs:List α)(k:Nat):cut xs none (some (k:Int))=xs.take k:=by
 unfold cut;rw [HT.CQ,HT.zA];by_cases h:k<=xs.length
 ·rw [Nat.min_eq_left h];simp
 ·rw [Nat.min_eq_right (by omega),take_of_length_le (by omega:xs.length<=k)];simp
theorem HY{lo:Int}{n:Nat}{t:M.T}(h:t∈M.upTo lo n):∃i:Int,t=.int i:=by
 unfold M.upTo at h;obtain⟨i,_,rfl⟩:=mem_map.mp h;exact⟨_,rfl⟩
theorem mU{Γ Γ1:M.G}{n:MA}{j:Int}{k:Nat}(h:n Γ=some ([.int j],Γ1))(h0:-1000000<=j)(h1:j<=1000000)(hk:j.toNat=k):A6 n Γ=some (M.upTo 0 k,Γ1):=by
 have c:-(2 ^ 62)<=j/\j<2 ^ 62:=⟨by omega,by omega⟩;unfold A6;rw [h];dsimp only [Option.bind];rw [if_pos c,hk]
theorem uh{b:BG}{m:MS}(Pv:Nat->G->Prop):∀(ts:List M.T)(k:Nat)(Γ:M.G),Pv k Γ->(∀(i:Nat)(t:M.T)(Γ:M.G),ts[i]?=some t->Pv (k+i) Γ->∃Γ1 Γ2,b t Γ=some Γ1/\m Γ1=some (.nx Γ2)/\Pv (k+i+1) Γ2)->∃Γ',eG b m ts Γ=some (.nx Γ')/\Pv (k+ts.length) Γ'
 |[],k,Γ,h,_=>⟨Γ,rfl,h⟩
 |t::ts,k,Γ,h,hs=>by
  obtain⟨Γ1,Γ2,h1,h2,h3⟩:=hs 0 t Γ rfl h;obtain⟨Γ',h4,h5⟩:=uh Pv ts (k+1) Γ2 h3 fun i u Γ' hu hp=>by
   have e:k+(i+1)=k+1+i:=by omega
   have:=hs (i+1) u Γ' (by simpa using hu) (by rw [e];exact hp);rw [e]at this;exact this
  refine⟨Γ',qi h1 h2 h4,?_⟩;have e:k+(t::ts).length=k+1+ts.length:=by rw [length_cons];omega
  rw [e];exact h5
theorem Qq{i:Nat}{m:MX}{Γ:M.G}:dN i m Γ=match Γ[i]? with
 |some (.own (.lst _))=>(m Γ).bind fun p=>match (eM p.1 p.2).2[i]? with
  |some (.own (.lst ts))=>if ts.length<sizeLine then some (.nx ((eM p.1 p.2).2.set i (.own (.lst (ts++[(eM p.1 p.2).1])))))else none
  |_=>none
 |_=>none:=rfl
theorem xI(c:Int)(n:Nat)(hn:n<=900):∃(xs:List Int) (Γ:M.G),xs.length=n/\(∀x∈xs,0<=x/\x<=1000000007)/\cP [.sh (.int c),.sh (.int n)]=some (.own (.lst (xs.map M.T.int)),Γ):=by
 have c0:=emod_nonneg c (by decide:(1000000007:Int)≠0);have c1:=emod_lt_of_pos c (by decide:(0:Int)<1000000007);obtain⟨Γ',h1,h2⟩:=uh (b:=aZ 4) (m:=bo (bD 5 (ag bf (ag bf (ag fg (mV 2) (mC (.int 11))) (ag fg (mC (.int 3)) (mV 4))) (mC (.int 17)))) (bo (bD 2 (ag du (ag bf (ag fg (ag fg (mV 2) (mV 2)) (mC (.int 5))) (mV 5)) (mC (.int 1000000007)))) (dN 3 (ag fO (mV 2) (mC (.int 11))))))
  (fun i Γ=>∃(k:Int) (fs:List Int) (s4 s5:Slot),Γ=[.sh (.int c),.sh (.int n),.sh (.int k),.own (.lst (fs.map M.T.int)),s4,s5]/\0<=k/\k<1000000007/\fs.length=i/\∀x∈fs,0<=x/\x<=1000000007)
  (M.upTo 0 (n+2)) 0 [.sh (.int c),.sh (.int n),.sh (.int (c % 1000000007)),.own (.lst []),.no,.no] ⟨_,[],_,_,rfl,c0,c1,rfl,by simp⟩ (by
   rintro i t Γ ht ⟨k,fs,s4,s5,rfl,k0,k1,hl,hf⟩;obtain⟨j,rfl⟩:=HY (mem_of_getElem? ht);have hi:i<n+2:=by
    have:=(List.getElem?_eq_some_iff.mp ht).1;rw [fe]at this;exact this
   have sk:eW k=true:=HX k0 (by omega);have s3:eW 3=true:=rfl;have s5':eW 5=true:=rfl;have zh:(fs.map M.T.int).length<sizeLine:=by rw [length_map];exact eL (by omega)
   have q0:=emod_nonneg (k*k*5+(k*11+3*j+17)) (by decide:(1000000007:Int)≠0);have q1:=emod_lt_of_pos (k*k*5+(k*11+3*j+17)) (by decide:(0:Int)<1000000007);refine⟨[.sh (.int c),.sh (.int n),.sh (.int k),.own (.lst (fs.map M.T.int)),.sh (.int j),s5],[.sh (.int c),.sh (.int n),.sh (.int ((k*k*5+(k*11+3*j+17)) % 1000000007)),.own (.lst ((fs++[(k*k*5+(k*11+3*j+17)) % 1000000007 / 11]).map M.T.int)),.sh (.int j),.sh (.int (k*11+3*j+17))],rfl,?_,_,fs++[(k*k*5+(k*11+3*j+17)) % 1000000007 / 11],_,_,rfl,q0,q1,?_,?_⟩
   ·rw [length_map]at zh;simp [Qq,B9,sk,s3,s5',zh]
   ·rw [length_append,hl];rfl
   ·intro x hx;rcases mem_append.mp hx with hx|hx
    ·exact hf x hx
    ·rw [mem_singleton.mp hx];omega)
 obtain⟨k,fs,s4,s5,rfl,k0,k1,hl,hf⟩:=h2;rw [fe]at hl;have hr:A6 (fE (ag bf (mV 1) (mC (.int 2))) aD) [.sh (.int c),.sh (.int n),.sh (.int (c % 1000000007)),.own (.lst []),.no,.no]=some (M.upTo 0 (n+2),[.sh (.int c),.sh (.int n),.sh (.int (c % 1000000007)),.own (.lst []),.no,.no]) :=
  mU (j:=(n:Int)+2) (by simp) (by omega) (by omega) (by omega)
 have last:iF (mV 3) (qW (mC (.int 2))) qV [.sh (.int c),.sh (.int n),.sh (.int k),.own (.lst (fs.map M.T.int)),s4,s5]=some (.own (.lst ((fs.drop 2).map M.T.int)),[.sh (.int c),.sh (.int n),.sh (.int k),.own (.lst (fs.map M.T.int)),s4,s5]):=by
  show some (R.own (.lst (cut (fs.map M.T.int) (some ((2:Nat):Int)) none)),_)=_;rw [mT,map_drop]
 refine⟨fs.drop 2,[.sh (.int c),.sh (.int n),.sh (.int k),.own (.lst (fs.map M.T.int)),s4,s5],?_,fun x hx=>hf x (mem_of_mem_drop hx),GI (aj (eY (t:=.int (c % 1000000007)) rfl) (aj (kP rfl) (aj (oV hr h1) (Dg last))))⟩;rw [length_drop];omega
theorem HZ(ns:List Int)(hl:ns.length<=70):∃(cs:List Int) (Γ:M.G),cs.length<=70/\gJ [.sh (.lst (ns.map M.T.int)),.sh (.int 44)]=some (.own (.lst (cs.map M.T.int)),Γ):=by
 refine⟨(ns.take 44).map fun c=>c % 10 ^ 40,[.sh (.lst (ns.map M.T.int)),.sh (.int 44)],by rw [length_map,length_take];omega,GI (Dg (Γ1:=[.sh (.lst (ns.map M.T.int)),.sh (.int 44)]) ?_)⟩;have e1:JX (iF (mV 0) qV (qW (mV 1))) [.sh (.lst (ns.map M.T.int)),.sh (.int 44)]=some ((ns.take 44).map M.T.int,[.sh (.lst (ns.map M.T.int)),.sh (.int 44)]):=by
  have z:=Ca (ns.map M.T.int) 44;rw [<-map_take]at z;rw [<-z];rfl
 have z:=Ay (cap:=[none]) (b:=aZ 0) (me:=ag du (mV 0) (ag Gk (mC (.int 10)) (mC (.int 40)))) (f:=fun t=>match t with | .int x=>M.T.int (x % 10 ^ 40)|t=>t) e1 (fun t ht=>by
  obtain⟨x,hx,rfl⟩:=mem_map.mp ht;exact⟨[.sh (.int x)],.sh (.int (x % 10 ^ 40)),[.sh (.int x)],rfl,au rfl (r2:=.sh (.int (10 ^ 40))) rfl (kr (by decide)),rfl⟩) (by rw [length_map,length_take];omega)
 have e2:(((ns.take 44).map M.T.int).map fun t=>match t with | .int x=>M.T.int (x % 10 ^ 40)|t=>t)=((ns.take 44).map fun c=>c % 10 ^ 40).map M.T.int:=by
  rw [map_map,map_map];rfl
 rw [e2]at z;exact z
def j4(k:Nat)(x:Str):Prop:=x.length<=k/\∀c∈x.cps.toList,c<128
theorem j4.asc{k:Nat}{x:Str}(h:j4 k x)(hk:k<=90):asc x:=⟨le_trans h.1 hk,h.2⟩
theorem j4.mono{j k:Nat}{x:Str}(h:j4 j x)(hk:j<=k):j4 k x:=⟨le_trans h.1 hk,h.2⟩
theorem j4.slice{k:Nat}{x:Str}(h:j4 k x)(l u:Option Int):j4 k (Txt.slice x l u):=by
 refine⟨le_trans (Txt.slice_le x l u) h.1,fun c hc=>?_⟩;unfold Txt.slice at hc;split at hc
 ·exact h.2 c hc
 ·obtain⟨i,_,e⟩:=mem_filterMap.mp hc;exact h.2 c (Array.mem_toList_iff.mpr (Array.mem_of_getElem? e))
theorem j4.sub{k:Nat}{x:Str}(h:j4 k x)(a b:Nat):j4 k (Builtin.Str.strSub x a b):=by
 have e:(Builtin.Str.strSub x a b).cps=x.cps.extract a b:=rfl;refine⟨?_,fun c hc=>?_⟩
 ·show(Builtin.Str.strSub x a b).cps.size<=k;rw [e,Array.size_extract];have:=h.1;have e2:x.length=x.cps.size:=rfl;omega
 ·rw [e]at hc;refine h.2 c ?_;rw [Array.toList_extract]at hc;exact mem_of_mem_drop (List.mem_of_mem_take hc)
theorem j4.one{c:Nat}(h:c<128):j4 1 (gD c):=⟨le_refl _,fun d hd=>by
 have:d=c:=by
  have e:(gD c).cps.toList=[c]:=rfl;rw [e]at hd;exact mem_singleton.mp hd
 rw [this];exact h⟩
theorem j4.nil:j4 0 "" := ⟨by decide,fun c hc=>by
 have e:(Str.ofString "").cps.toList=[]:=by decide
 rw [e]at hc
 cases hc⟩
theorem KU{x y:Str}{j k:Nat}(h:j4 j x)(h':j4 k y)(hj:j+k<=1000):bf (.str x) (.str y)=some (.sh (.str (x++y))):=by
 have:x.length+y.length<=sizeLine:=by
  have:=h.1;have:=h'.1;have:1000<=sizeLine:=by decide
  omega
 show(if x.length+y.length<=sizeLine then some (R.sh (.str (x++y)))else none)=_;rw [if_pos this]
theorem xJ{x:Str}{k:Nat}(h:j4 k x)(hk:k<=1000){Γ Γ1 Γ2 Γ3:M.G}{m:MX}{lo hi:MO}{l u:Option Int}(e1:m Γ=some (.sh (.str x),Γ1))(e2:lo Γ1=some (l,Γ2))(e3:hi Γ2=some (u,Γ3)):
  iF m lo hi Γ=some (.sh (.str (Txt.slice x l u)),Γ3):=by
 have:x.length<=sizeLine:=le_trans h.1 (le_trans hk (by decide));unfold iF;rw [e1];dsimp only [Option.bind];rw [e2];dsimp only;rw [e3];show(if x.length<=sizeLine then some (R.sh (.str (Txt.slice x l u)),Γ3)else none)=_;rw [if_pos this]
theorem ui(ws:List Str)(p:Nat):aS ws p [.no]=some (.sh (.bl (decide (ws.length<=p))),p,[.no]):=by
 simp [aS,rH,g5,kT,xQ,gA]
theorem Az{ws:List Str}{p:Nat}{x:Str}(h:ws[p]?=some x):bU ws p [.no]=some (.sh (.str x),p,[.no]):=by
 have hp:¬ws.length<=p:=Nat.not_le.mpr (List.getElem?_eq_some_iff.mp h).1;have e:aR 1 aS aD ws p [.no]=some (.sh (.bl false),p,[.no]):=by
  have:=ui ws p;rw [decide_eq_false hp]at this;simp [aR,this]
 simp [bU,rH,gF,kT,Rv,tX,e,xQ,Ud,h]
theorem DC{ws:List Str}{p:Nat}{x:Str}(h:ws[p]?=some x):bx ws p [.no]=some (.sh (.str x),p+1,[.no,.sh (.str x)]):=by
 have e:aR 1 bU aD ws p [.no,.no]=some (.sh (.str x),p,[.no,.no]):=by
  simp [aR,Az h]
 simp [bx,rH,ib,kS,mM,e,Dt,kT,xP]
theorem kx{x:Str}(h:aT x=true):x.length<=8/\1<=x.length:=by
 unfold aT at h;simp only [and_eq_true,decide_eq_true_eq]at h;omega
theorem iA{x:Str}(h:x.length<=1000)(s0:List Slot)(i:Nat)(hi:s0[i]?=some (.sh (.str x))):av 1 fi (aB (mV i) aD) s0=some (.sh (.bl (aT x)),s0):=by
 simp [hi,B8 x h]
theorem yL{ws:List Str}{p:Nat}{x:Str}(h:ws[p]?=some x)(hn:aT x=true):d6 ws p [.no]=some (.sh (.str x),p+1,[.no,.sh (.str x)]):=by
 have hl:x.length<=1000:=le_trans (kx hn).1 (by decide);have e:aR 1 bx aD ws p [.no,.no]=some (.sh (.str x),p+1,[.no,.no]):=by
  simp [aR,DC h]
 have e2:=iA hl [.no,.sh (.str x)] 1 rfl;rw [hn]at e2;simp only [d6,rH,kY,kS,mM,A8,tP,List.cons_append,List.nil_append,List.replicate,length_cons,List.length_nil,zero_add,Nat.reduceSub,e,bind_some,List.set_cons_succ,List.set_cons_zero,NX,NW,e2,map_some,Bool.not_true];simp [lS,kT,xP]
inductive Ex where
 |num (n:Nat)|name (x:Str)|fJ (w b:Str)|dw (w b:Str) (e:Ex)|work (w:Str) (e f:Ex)
def Ex.tree:Ex->M.T
 |.num n=>.tup [.str "num", .int n]
 |.name x=>.tup [.str "name", .str x]
 |.fJ w b=>.tup [.str w,.str b]
 |.dw w b e=>.tup [.str w,.str b,e.tree]
 |.work w e f=>.tup [.str w,e.tree,f.tree]
def Ex.words:Ex->List Str
 |.num n=>[cK n]
 |.name x=>[x]
 |.fJ w b=>[w,b]
 |.dw w b e=>w::b::e.words
 |.work w e f=>w::(e.words++f.words)
def fZ:List Str:=["+", "-", "*", "div", "rem", "<", "="]
def Ex.ok:Nat->Ex->Prop
 |_,.num n=>n<1000000000
 |_,.name x=>aT x=true
 |_,.fJ w b=>(w = "size" \/ w = "held")/\aT b=true
 |d+1,.dw w b e=>(w = "has" \/ w = "item")/\aT b=true/\e.ok d
 |d+1,.work w e f=>w∈fZ/\e.ok d/\f.ok d
 |0,.dw _ _ _=>False
 |0,.work _ _ _=>False
theorem nY:dc aU "size" = some 0:=by decide +kernel
theorem nZ:dc aU "held" = some 0:=by decide +kernel
theorem qC:dc aU "has" = some 1:=by decide +kernel
theorem n6:dc aU "item" = some 1:=by decide +kernel
theorem qD:∀w∈fZ,dc aU w=none/\dc aL w=some 2:=by decide +kernel
theorem n8{bp:List (Str×Int)}{x:Str}(h:∀p∈bp,p.1≠x):dc bp x=none:=by
 unfold dc;rw [List.find?_eq_none.mpr fun p hp=>by simpa using h p hp];rfl
theorem DD{x:Str}(h:aT x=true):dc aU x=none/\dc aL x=none:=by
 have hk:∀y∈dq,y≠x:=fun y hy e=>by
  unfold aT at h;simp only [and_eq_true,Bool.not_eq_true',any_eq_false,beq_iff_eq]at h;exact h.2.2 y hy e
 have hl:gK x "abcdefghijklmnopqrstuvwxyz" = true:=by
  unfold aT at h;simp only [and_eq_true]at h;exact h.2.1
 refine⟨n8 fun p hp=>?_,n8 fun p hp=>?_⟩
 ·have:∀p∈aU,p.1∈dq:=by decide +kernel
  exact hk _ (this p hp)
 ·have:∀p∈aL,p.1∈dq\/gK p.1 "abcdefghijklmnopqrstuvwxyz" = false:=by decide +kernel
  rcases this p hp with z|z
  ·exact hk _ z
  ·intro e;rw [e,hl]at z
   cases z
theorem Cb(n:Nat):dc aU (cK n)=none/\dc aL (cK n)=none/\aT (cK n)=false:=by
 obtain⟨_,_,c,r,hd,_⟩:=qA (n+1) n (lt_succ_self _);have hc:=mS n c (by rw [gL,hd];exact mem_cons_self);have key:∀y:Str,(∀c∈y.cps.toList,¬(48<=c/\c<=57))->y≠cK n:=fun y hy e=>by
  refine hy c ?_ ⟨hc.1,hc.2⟩;rw [e,gL,hd];exact mem_cons_self
 refine⟨n8 fun p hp=>key _ ?_,n8 fun p hp=>key _ ?_,?_⟩
 ·have:∀p∈aU,∀c∈p.1.cps.toList,¬(48<=c/\c<=57):=by decide +kernel
  exact this p hp
 ·have:∀p∈aL,∀c∈p.1.cps.toList,¬(48<=c/\c<=57):=by decide +kernel
  exact this p hp
 ·unfold aT;have:gK (cK n) "abcdefghijklmnopqrstuvwxyz" = false:=by
   unfold gK;rw [List.all_eq_false];refine⟨c,by rw [gL,hd];exact mem_cons_self,?_⟩;have UU:∀c,c<58->48<=c->¬A7 (gD c) "abcdefghijklmnopqrstuvwxyz" = true:=by decide +kernel
   exact UU c (Nat.lt_succ_of_le hc.2) hc.1
  rw [this];simp
section
variable {ws:List Str}{p p1 p':Nat}{Γ Γ1 Γ2:M.G}{t:M.T}{r r2:R}
theorem o4{n:Nat}{m:RS}{as:M.G}(h:m ws p (as++List.replicate (n-as.length) Slot.no)=some (p',.rt (.sh t) Γ)):rH n m ws p as=some (.sh t,p',Γ):=by
 unfold rH;rw [h]
theorem KW{n:Nat}{m:RS}{as:M.G}(h:m ws p (as++List.replicate (n-as.length) Slot.no)=some (p',.nx Γ)):rH n m ws p as=some (.sh .cQ,p',Γ):=by
 unfold rH;rw [h]
theorem mW{m n:RS}{z:Nat×Res}(h:m ws p Γ=some (p1,.nx Γ1))(h':n ws p1 Γ1=some z):kS m n ws p Γ=some z:=by
 unfold kS;rw [h];exact h'
theorem H8{m n:RS}(h:m ws p Γ=some (p1,.rt r Γ1)):kS m n ws p Γ=some (p1,.rt r Γ1):=by
 unfold kS;rw [h];rfl
theorem gM{i:Nat}{m:RX}(h:m ws p Γ=some (.sh t,p1,Γ1)):mM i m ws p Γ=some (p1,.nx (Γ1.set i (.sh t))):=by
 unfold mM;rw [h];rfl
theorem DE{c:RT}{m n:RS}{z:Nat×Res}(h:c ws p Γ=some (true,p1,Γ1))(h':m ws p1 Γ1=some z):A8 c m n ws p Γ=some z:=by
 unfold A8;rw [h];exact h'
theorem fq{c:RT}{m n:RS}{z:Nat×Res}(h:c ws p Γ=some (false,p1,Γ1))(h':n ws p1 Γ1=some z):A8 c m n ws p Γ=some z:=by
 unfold A8;rw [h];exact h'
theorem jO{m:RX}(h:m ws p Γ=some (.sh t,p1,Γ1)):kT m ws p Γ=some (p1,.rt (.sh t) Γ1):=by
 unfold kT;rw [h];rfl
theorem vB{m:MT}{b:Bool}(h:m Γ=some (b,Γ1)):tP m ws p Γ=some (b,p,Γ1):=by
 unfold tP;rw [h];rfl
theorem LV{m:MX}(h:m Γ=some (r,Γ1)):xP m ws p Γ=some (r,p,Γ1):=by
 unfold xP;rw [h];rfl
theorem DF{g:M.T->M.T->Option R}{ma:MX}{mb:RX}(h:ma Γ=some (.sh t,Γ1))(h':mb ws p Γ1=some (r2,p1,Γ2))(hg:g t r2.tree=some r):G8 g ma mb ws p Γ=some (r,p1,Γ2):=by
 unfold G8;rw [h];show(mb ws p Γ1).bind _=_;rw [h'];show(g t r2.tree).map _=_;rw [hg];rfl
theorem g6{np:Nat}{cf:yA}{n:MA}{ts:List M.T}(h:n Γ=some (ts,Γ1))(hl:ts.length+1=np)(hc:cf ws p (.no::ts.map Slot.sh)=some (.sh t,p',Γ2)):aR np cf n ws p Γ=some (.sh t,p',Γ1):=by
 unfold aR;rw [h];show(if ts.length+1=np then _ else none)=_;rw [if_pos hl];show(match cf ws p (.no::ts.map Slot.sh)with|some (.sh t,p',_)=>some (R.sh t,p',Γ1)|some (.own t,p',_)=>some (.own t,p',Γ1)|_=>none)=_;rw [hc]
theorem AA{g:List M.T->Option R}{m:RX}(h:m ws p Γ=some (r,p1,Γ1))(hg:g [r.tree]=some r2):Ds g m ws p Γ=some (r2,p1,Γ1):=by
 unfold Ds;rw [h];show(g [r.tree]).map _=_;rw [hg];rfl
theorem Ia{bp:List (Str×Int)}{m:MX}{x:Str}(h:m Γ=some (r,Γ1))(hr:r.tree=.str x):md bp m Γ=some (.sh (.bl (dc bp x).isSome),Γ1):=by
 unfold md;rw [h];show(match r.tree with | .str x=>some (R.sh (.bl (dc bp x).isSome),Γ1)|_=>none)=_;rw [hr]
theorem n9{bp:List (Str×Int)}{m:MX}{x:Str}{i:Int}(h:m Γ=some (r,Γ1))(hr:r.tree=.str x)(hi:dc bp x=some i):qo bp m Γ=some (.sh (.int i),Γ1):=by
 unfold qo;rw [h];show(match r.tree with | .str x=>(dc bp x).map fun i=>(R.sh (.int i),Γ1)|_=>none)=_;rw [hr];show(dc bp x).map _=_;rw [hi];rfl
theorem Qr{ts us:List M.T}(h1:ts≠[])(h2:ts.length+us.length<=1000):Ah (.tup ts) (.tup us)=some (.sh (.tup (ts++us))):=by
 show(if ts≠[]/\ts.length+us.length<=1000 then _ else none)=_;rw [if_pos ⟨h1,h2⟩]
end
def dF:List Ex->List Str
 |[]=>[]
 |e::es=>e.words++dF es
def Oz(d:Nat):RX:=aR 2 (cC d) (aB (ag M.jF (mV 2) (mC (.int 1))) aD)
def KY(ws:List Str)(d:Nat)(e:Ex):Prop:=∀(p:Nat)(rest:List Str),ws.drop p=e.words++rest->∃Γ,cC (d+1) ws p [.no,.sh (.int d)]=some (.sh e.tree,p+e.words.length,Γ)
theorem LX{ws:List Str}{d p:Nat}{e:Ex}{rest:List Str}{s0:Slot}(h:KY ws d e)(hp:ws.drop p=e.words++rest):Oz (d+1) ws p [s0,.no,.sh (.int ((d+1:Nat):Int))]=some (.sh e.tree,p+e.words.length,[s0,.no,.sh (.int ((d+1:Nat):Int))]):=by
 obtain⟨Γ,h⟩:=h p rest hp;have e1:((d+1:Nat):Int)-1=d:=by omega
 have e2:aB (ag M.jF (mV 2) (mC (.int 1))) aD [s0,.no,.sh (.int ((d+1:Nat):Int))]=some ([.int d],[s0,.no,.sh (.int ((d+1:Nat):Int))]):=by
  simp only [Qo,LS,Y7,Y6,Qn];simp [e1]
 unfold Oz aR;rw [e2];simp [h]
theorem ug{ws:List Str}{d:Nat}{s0:Slot}:∀(es:List Ex)(ts acc:List M.T)(p:Nat)(rest:List Str),ts.length=es.length->acc.length+es.length<=1000->(∀e∈es,KY ws d e)->ws.drop p=dF es++rest ->
  g4 (aZ 0) (Oz (d+1)) ws [s0,.no,.sh (.int ((d+1:Nat):Int))] p ts acc=some (acc++es.map Ex.tree,p+(dF es).length)
 |[],ts,acc,p,rest,hl,_,_,_=>by
  have:ts=[]:=List.eq_nil_of_length_eq_zero hl;subst this;simp [g4,dF]
 |e::es,t::ts,acc,p,rest,hl,ha,cR,hp=>by
  have Rr:ws.drop p=e.words++(dF es++rest):=by rw [hp];simp [dF]
  have RD:ws.drop (p+e.words.length)=dF es++rest:=by
   rw [<-drop_drop,Rr];simp
  have e1:=LX (s0:=.sh t) (cR e mem_cons_self) Rr;have yr:acc.length<sizeLine:=by
   have:=eL (n:=acc.length+(e::es).length) ha;rw [length_cons]at this;omega
  unfold g4;simp only [KP,List.set_cons_zero,bind_some,e1,if_pos yr,NY];rw [ug es ts (acc++[e.tree]) (p+e.words.length) rest (by simpa using hl) (by simp at ha ⊢;omega) (fun e' he=>cR e' (mem_cons_of_mem _ he)) RD];simp [dF,Nat.add_assoc]
theorem AB{ws:List Str}{d:Nat}{es:List Ex}{p:Nat}{rest:List Str}(hl:es.length<=2)(cR:∀e∈es,KY ws d e)(hp:ws.drop p=dF es++rest):
  ∃Γ,rH 3 (dv (cC (d+1))) ws p [.no,.sh (.int (es.length:Int)),.sh (.int ((d+1:Nat):Int))]=some (.sh (.tup (es.map Ex.tree)),p+(dF es).length,Γ):=by
 have hd:¬((d+1:Nat):Int)=0:=by omega
 have e1:A6 (fE (mV 1) aD) [.no,.sh (.int (es.length:Int)),.sh (.int ((d+1:Nat):Int))]=some (M.upTo 0 es.length,[.no,.sh (.int (es.length:Int)),.sh (.int ((d+1:Nat):Int))]) :=
  mU (j:=(es.length:Int)) rfl (by omega) (by omega) (by simp)
 have e2:=ug (s0:=.no) es (M.upTo 0 es.length) [] p rest (fe _ _) (by simp;omega) cR hp;have e3:xw [none,some 0,some 2] (A6 (fE (mV 1) aD)) (aZ 0) (aR 2 (cC (d+1)) (aB (ag M.jF (mV 2) (mC (.int 1))) aD)) ws p [.no,.sh (.int (es.length:Int)),.sh (.int ((d+1:Nat):Int))]=some (.own (.lst (es.map Ex.tree)),p+(dF es).length,[.no,.sh (.int (es.length:Int)),.sh (.int ((d+1:Nat):Int))]):=by
  unfold xw;rw [e1];have e4:jg [none,some 0,some 2] (aJ [none,some 0,some 2] [.no,.sh (.int (es.length:Int)),.sh (.int ((d+1:Nat):Int))])=[.no,.no,.sh (.int ((d+1:Nat):Int))]:=rfl;have e5:aJ [none,some 0,some 2] [.no,.sh (.int (es.length:Int)),.sh (.int ((d+1:Nat):Int))]=[.no,.sh (.int (es.length:Int)),.sh (.int ((d+1:Nat):Int))]:=rfl;show(g4 (aZ 0) (Oz (d+1)) ws [.no,.no,.sh (.int ((d+1:Nat):Int))] p (M.upTo 0 es.length) []).map _=_;rw [e2];rfl
 refine⟨[.no,.sh (.int (es.length:Int)),.sh (.int ((d+1:Nat):Int))],?_⟩;have e6:tP (dD (ar (ag sE (mV 1) (mC (.int 0)))) (ar (ag gW (mV 2) (mC (.int 0))))) ws p [.no,.sh (.int (es.length:Int)),.sh (.int ((d+1:Nat):Int))]=some (false,p,[.no,.sh (.int (es.length:Int)),.sh (.int ((d+1:Nat):Int))]):=by
  refine vB ?_;by_cases h0:(0:Int)<es.length
  ·refine ey (aK (au rfl rfl (by show sE (.int (es.length:Int)) (.int 0)=_;rw [HU,decide_eq_true h0]))) (aK (au rfl rfl ?_));show gW (.int _) (.int 0)=_;rw [Aw,decide_eq_false hd]
  ·exact cq (aK (au rfl rfl (by show sE (.int (es.length:Int)) (.int 0)=_;rw [HU,decide_eq_false h0])))
 exact o4 (mW (fq e6 rfl) (jO (AA e3 rfl)))
theorem parts_nil{ws:List Str}{d p:Nat}{n:Int}{rc:yA}:∃Γ,rH 3 (dv rc) ws p [.no,.sh (.int 0),.sh (.int n)]=some (.sh (.tup []),p,Γ):=by
 refine⟨[.no,.sh (.int 0),.sh (.int n)],?_⟩;have e6:tP (dD (ar (ag sE (mV 1) (mC (.int 0)))) (ar (ag gW (mV 2) (mC (.int 0))))) ws p [.no,.sh (.int 0),.sh (.int n)]=some (false,p,[.no,.sh (.int 0),.sh (.int n)]):=by
  exact vB (cq (aK (au rfl rfl rfl)))
 have e1:A6 (fE (mV 1) aD) [.no,.sh (.int 0),.sh (.int n)]=some ([],[.no,.sh (.int 0),.sh (.int n)]):=mU (j:=0) (k:=0) rfl (by decide) (by decide) rfl;have e3:xw [none,some 0,some 2] (A6 (fE (mV 1) aD)) (aZ 0) (aR 2 rc (aB (ag M.jF (mV 2) (mC (.int 1))) aD)) ws p [.no,.sh (.int 0),.sh (.int n)]=some (.own (.lst []),p,[.no,.sh (.int 0),.sh (.int n)]):=by
  unfold xw;rw [e1];rfl
 exact o4 (mW (fq e6 rfl) (jO (AA e3 rfl)))
theorem kZ{ws:List Str}{p:Nat}{x:Str}{r:List Str}(h:ws.drop p=x::r):ws[p]?=some x/\ws.drop (p+1)=r:=by
 refine⟨?_,?_⟩
 ·have:=congrArg List.head? h;rw [List.head?_drop]at this;exact this
 ·rw [<-drop_drop,h];rfl
theorem tk{ws:List Str}{p:Nat}{x:Str}{Γ:M.G}(h:ws[p]?=some x):aR 1 bx aD ws p Γ=some (.sh (.str x),p+1,Γ):=g6 rfl rfl (DC h)
theorem UW{ws:List Str}{p:Nat}{x:Str}{Γ:M.G}(h:ws[p]?=some x)(hn:aT x=true):aR 1 d6 aD ws p Γ=some (.sh (.str x),p+1,Γ):=g6 rfl rfl (yL h hn)
theorem AD{bp:List (Str×Int)}{x:Str}{b:Bool}{ws:List Str}{p:Nat}{s0 s1 s3:Slot}(h:(dc bp x).isSome=b):tP (ar (md bp (mV 2))) ws p [s0,s1,.sh (.str x),s3]=some (b,p,[s0,s1,.sh (.str x),s3]):=by
 rw [<-h];exact vB (aK (Ia (r:=.sh (.str x)) rfl rfl))
theorem sY{ws:List Str}{d p q:Nat}{x b:Str}{i:Int}{ts:List M.T}{Γ:M.G}(h:ws[p]?=some x)(hb:ws[p+1]?=some b)(hn:aT b=true)(hi:dc aU x=some i)
  (hp:rH 3 (dv (cC d)) ws (p+1+1) [.no,.sh (.int i),.sh (.int d)]=some (.sh (.tup ts),q,Γ)) (hl:ts.length<=2):∃Γ,cC (d+1) ws p [.no,.sh (.int d)]=some (.sh (.tup (.str x :: .str b::ts)),q,Γ):=by
 refine⟨[.no,.sh (.int d),.sh (.str x),.sh (.str b)],?_⟩;refine o4 (mW (gM (tk h)) (H8 (DE (AD (by rw [hi];rfl)) (mW (gM (UW hb hn)) (jO (DF (t:=.tup [.str x,.str b]) rfl (g6 (ts:=[.int i,.int d]) ?_ rfl hp) ?_))))))
 ·exact cM (n9 (r:=.sh (.str x)) rfl rfl hi) rfl
 ·exact Qr (by simp) (by simp;omega)
theorem AE{ws:List Str}{d p q:Nat}{x:Str}{i:Int}{ts:List M.T}{Γ:M.G}(h:ws[p]?=some x)(UX:dc aU x=none)(hi:dc aL x=some i)
  (hp:rH 3 (dv (cC d)) ws (p+1) [.no,.sh (.int i),.sh (.int d)]=some (.sh (.tup ts),q,Γ)) (hl:ts.length<=2):∃Γ,cC (d+1) ws p [.no,.sh (.int d)]=some (.sh (.tup (.str x::ts)),q,Γ):=by
 refine⟨[.no,.sh (.int d),.sh (.str x),.no],?_⟩;refine o4 (mW (gM (tk h)) (mW (fq (AD (by rw [UX];rfl)) rfl) (H8 (DE (AD (by rw [hi];rfl)) (jO (DF (t:=.tup [.str x]) rfl (g6 (ts:=[.int i,.int d]) ?_ rfl hp) ?_))))))
 ·exact cM (n9 (r:=.sh (.str x)) rfl rfl hi) rfl
 ·exact Qr (by simp) (by simp;omega)
theorem sZ{ws:List Str}{d p:Nat}{x:Str}{t:M.T}(h:ws[p]?=some x)(UX:dc aU x=none)(hi:dc aL x=none)(hx:x.length<=1000)
  (hh:(aT x=true/\t=.tup [.str "name", .str x])\/(aT x=false/\∃n Γ,gG [.sh (.str x)]=some (.sh (.int n),Γ)/\t=.tup [.str "num", .int n])):∃Γ,cC (d+1) ws p [.no,.sh (.int d)]=some (.sh t,p+1,Γ):=by
 refine⟨[.no,.sh (.int d),.sh (.str x),.no],?_⟩;have e2:=iA hx [.no,.sh (.int d),.sh (.str x),.no] 2 rfl;refine o4 (mW (gM (tk h)) (mW (fq (AD (by rw [UX];rfl)) rfl) (mW (fq (AD (by rw [hi];rfl)) rfl) (jO (LV (uW (aK e2) (fun hb=>?_) fun hb=>?_))))))
 ·rcases hh with⟨_,rfl⟩|⟨He,_⟩
  ·rfl
  ·rw [hb]at He;cases He
 ·rcases hh with⟨He,_⟩|⟨_,n,Γ,hn,rfl⟩
  ·rw [hb]at He;cases He
  ·simp [hn]
theorem oa(ws:List Str):∀(e:Ex)(d:Nat),e.ok d->KY ws d e
 |.num n,d,ho,p,rest,hp=>by
  obtain⟨a1,a2⟩:=kZ (show ws.drop p=cK n::rest from hp);have ho:n<1000000000:=by cases d<;>exact ho
  obtain⟨b1,b2,b3⟩:=Cb n;exact sZ a1 b1 b2 (le_trans (ku ho).1 (by decide)) (.inr ⟨b3,n,_,HV ho,rfl⟩)
 |.name x,d,ho,p,rest,hp=>by
  obtain⟨a1,a2⟩:=kZ (show ws.drop p=x::rest from hp);have ho:aT x=true:=by cases d<;>exact ho
  obtain⟨b1,b2⟩:=DD ho;exact sZ a1 b1 b2 (le_trans (kx ho).1 (by decide)) (.inl ⟨ho,rfl⟩)
 |.fJ w b,d,ho,p,rest,hp=>by
  obtain⟨a1,a2⟩:=kZ (show ws.drop p=w::b::rest from hp);obtain⟨a3,a4⟩:=kZ a2;have ho:(w = "size" \/ w = "held")/\aT b=true:=by cases d<;>exact ho
  have hw:dc aU w=some 0:=by
   rcases ho.1 with rfl|rfl
   ·exact nY
   ·exact nZ
  obtain⟨Γ,hq⟩:=parts_nil (ws:=ws) (d:=d) (p:=p+1+1) (n:=d) (rc:=cC d);exact sY a1 a3 ho.2 hw hq (by decide)
 |.dw w b e,0,ho,p,rest,hp=>ho.elim
 |.dw w b e,d+1,ho,p,rest,hp=>by
  obtain⟨a1,a2⟩:=kZ (show ws.drop p=w::b::(e.words++rest) from hp);obtain⟨a3,a4⟩:=kZ a2;obtain⟨h1,h2,h3⟩:=ho;have hw:dc aU w=some 1:=by
   rcases h1 with rfl|rfl
   ·exact qC
   ·exact n6
  obtain⟨Γ,hq⟩:=AB (ws:=ws) (d:=d) (es:=[e]) (p:=p+1+1) (rest:=rest) (by simp) (fun e' he=>by rw [mem_singleton.mp he];exact oa ws e d h3) (by rw [a4];simp [dF]);refine sY a1 a3 h2 hw (ts:=[e.tree]) (Γ:=Γ) ?_ (by simp);have:p+(Ex.dw w b e).words.length=p+1+1+(dF [e]).length:=by simp [Ex.words,dF];omega
  rw [this];exact hq
 |.work w e f,0,ho,p,rest,hp=>ho.elim
 |.work w e f,d+1,ho,p,rest,hp=>by
  obtain⟨a1,a2⟩:=kZ (show ws.drop p=w::(e.words++f.words++rest) from hp);obtain⟨h1,h2,h3⟩:=ho;obtain⟨b1,b2⟩:=qD w h1;obtain⟨Γ,hq⟩:=AB (ws:=ws) (d:=d) (es:=[e,f]) (p:=p+1) (rest:=rest) (by simp) (fun e' he=>by
   rcases mem_cons.mp he with z|z
   ·rw [z];exact oa ws e d h2
   ·rw [mem_singleton.mp z];exact oa ws f d h3) (by rw [a2];simp [dF])
  refine AE a1 b1 b2 (ts:=[e.tree,f.tree]) (Γ:=Γ) ?_ (by simp);have:p+(Ex.work w e f).words.length=p+1+(dF [e,f]).length:=by simp [Ex.words,dF];omega
  rw [this];exact hq
theorem eO(a b c:Str):(a++b)++c=a++(b++c):=by
 show(⟨(a.cps++b.cps)++c.cps⟩:Str)=⟨a.cps++(b.cps++c.cps)⟩;rw [append_assoc]
theorem ky(g:Str):∀(xs ys:List Str),xs≠[]->ys≠[]->Str.join g (xs++ys)=Str.join g xs++g++Str.join g ys
 |[],_,h,_=>absurd rfl h
 |[x],y::r,_,_=>rfl
 |[x],[],_,h=>absurd rfl h
 |x::z::xs,ys,_,h=>by
  have ih:=ky g (z::xs) ys (by simp) h;have e:Str.join g (x::z::xs++ys)=x++g++Str.join g (z::xs++ys):=rfl;have e2:Str.join g (x::z::xs)=x++g++Str.join g (z::xs):=rfl;rw [e,ih,e2,eO,eO,eO,eO,eO]
def Ex.text(e:Ex):Str:=Str.join " " e.words
theorem mX:∀e:Ex,e.words≠[]
 |.num _=>by simp [Ex.words]
 |.name _=>by simp [Ex.words]
 |.fJ _ _=>by simp [Ex.words]
 |.dw _ _ _=>by simp [Ex.words]
 |.work _ _ _=>by simp [Ex.words]
theorem vC(w b:Str)(e:Ex):(Ex.dw w b e).text=w ++ " " ++ b ++ " " ++ e.text:=by
 have:=ky " " [w,b] e.words (by simp) (mX e);exact this
theorem xK(w:Str)(e f:Ex):(Ex.work w e f).text=w ++ " " ++ e.text ++ " " ++ f.text:=by
 have h1:=ky " " (w::e.words) f.words (by simp) (mX f);have h2:=ky " " [w] e.words (by simp) (mX e);show Str.join " " (w::(e.words++f.words))=_;rw [show w::(e.words++f.words)=(w::e.words)++f.words from rfl,h1,show w::e.words=[w]++e.words from rfl,h2];rfl
def oE(p:Str):Prop:=32∉p.cps.toList/\p.length<=9
theorem o6{x:Str}(h:aT x=true):oE x:=by
 refine⟨fun z=>?_,le_trans (kx h).1 (by decide)⟩;unfold aT at h;simp only [and_eq_true]at h;have hl:=h.2.1;unfold gK at hl;have:=all_eq_true.mp hl 32 z;exact absurd this (by decide +kernel)
theorem EF{n:Nat}(h:n<1000000000):oE (cK n):=⟨ED (by decide) n,(ku h).1⟩
theorem o7:∀w∈fZ,oE w:=by
 have:∀w∈fZ,32∉w.cps.toList/\w.length<=9:=by decide +kernel
 exact this
theorem uj:oE "size" /\ oE "held" /\ oE "has" /\ oE "item" := by
 have:(32∉("size" : Str).cps.toList/\("size" : Str).length<=9)/\(32∉("held" : Str).cps.toList/\("held" : Str).length<=9)/\(32∉("has" : Str).cps.toList/\("has" : Str).length<=9)/\(32∉("item" : Str).cps.toList/\("item" : Str).length<=9):=by decide +kernel
 exact this
theorem qE:∀(e:Ex)(d:Nat),e.ok d->(∀p∈e.words,oE p)/\e.words.length+1<=3*2 ^ d
 |.num n,d,h=>by
  have h:n<1000000000:=by cases d<;>exact h
  refine⟨fun p hp=>by rw [mem_singleton.mp hp];exact EF h,?_⟩;have:=one_le_two_pow (n:=d);show 2<=_;omega
 |.name x,d,h=>by
  have h:aT x=true:=by cases d<;>exact h
  refine⟨fun p hp=>by rw [mem_singleton.mp hp];exact o6 h,?_⟩;have:=one_le_two_pow (n:=d);show 2<=_;omega
 |.fJ w b,d,h=>by
  have h:(w = "size" \/ w = "held")/\aT b=true:=by cases d<;>exact h
  refine⟨fun p hp=>?_,?_⟩
  ·rcases mem_cons.mp hp with z|z
   ·rw [z];rcases h.1 with q|q
    ·rw [q];exact uj.1
    ·rw [q];exact uj.2.1
   ·rw [mem_singleton.mp z];exact o6 h.2
  ·have:=one_le_two_pow (n:=d);show 3<=_;omega
 |.dw w b e,0,h=>h.elim
 |.dw w b e,d+1,h=>by
  obtain⟨h1,h2,h3⟩:=h;obtain⟨i1,i2⟩:=qE e d h3;refine⟨fun p hp=>?_,?_⟩
  ·rcases mem_cons.mp hp with z|z
   ·rw [z];rcases h1 with q|q
    ·rw [q];exact uj.2.2.1
    ·rw [q];exact uj.2.2.2
   ·rcases mem_cons.mp z with z|z
    ·rw [z];exact o6 h2
    ·exact i1 p z
  ·have:=one_le_two_pow (n:=d);show e.words.length+2+1<=_;rw [pow_succ];omega
 |.work w e f,0,h=>h.elim
 |.work w e f,d+1,h=>by
  obtain⟨h1,h2,h3⟩:=h;obtain⟨i1,i2⟩:=qE e d h2;obtain⟨j1,j2⟩:=qE f d h3;refine⟨fun p hp=>?_,?_⟩
  ·rcases mem_cons.mp hp with z|z
   ·rw [z];exact o7 w h1
   ·rcases mem_append.mp z with z|z
    ·exact i1 p z
    ·exact j1 p z
  ·show(e.words++f.words).length+1+1<=_;rw [length_append,pow_succ];omega
theorem DG:∀(e:Ex)(d:Nat),e.ok d->e.ok (d+1)
 |.num n,d,h=>by cases d<;>exact h
 |.name x,d,h=>by cases d<;>exact h
 |.fJ w b,d,h=>by cases d<;>exact h
 |.dw w b e,0,h=>h.elim
 |.dw w b e,d+1,h=>⟨h.1,h.2.1,DG e d h.2.2⟩
 |.work w e f,0,h=>h.elim
 |.work w e f,d+1,h=>⟨h.1,DG e d h.2.1,DG f d h.2.2⟩
theorem LY{e:Ex}{d k:Nat}(h:e.ok d)(hk:d<=k):e.ok k:=by
 induction hk with
 |refl=>exact h
 |step _ ih=>exact DG e _ ih
theorem o8{e:Ex}{d:Nat}(h:e.ok d)(hd:d<=5):(∀p∈e.words,oE p)/\e.words.length<=95:=by
 obtain⟨a,b⟩:=qE e 5 (LY h hd);refine⟨a,?_⟩;have:(2:Nat) ^ 5=32:=by decide
 omega
theorem text_len{e:Ex}{d:Nat}(h:e.ok d)(hd:d<=5):e.text.length<=950:=by
 obtain⟨a,b⟩:=o8 h hd;have:=qB 32 9 e.words fun p hp=>(a p hp).2;unfold Ex.text;rw [N2,<-eB];have h2:e.words.length*(9+1)<=95*10:=mul_le_mul b (le_refl _);omega
theorem vD{e:Ex}{d:Nat}(h:e.ok d)(hd:d<=5):d5 e.text " " = some e.words:=by
 obtain⟨a,b⟩:=o8 h hd;unfold Ex.text;rw [N2,<-eB];exact N1 (mX e) (fun p hp=>(a p hp).1) (fun p hp=>le_trans (a p hp).2 (by decide)) (by omega)
theorem Ib{e:Ex}(h:e.ok 5):bG [.sh (.str e.text)]=some (.sh e.tree,[.sh (.str e.text)]):=by
 obtain⟨Γ,hr⟩:=oa e.words e 5 h 0 [] (by simp);rw [zero_add]at hr;have e1:dn e.words 0 [.no]=some (.sh e.tree,e.words.length,[.no]):=o4 (jO (g6 (ts:=[.int 5]) rfl rfl hr));have e2:fI e.words e.words.length [.no]=some (.sh .cQ,e.words.length,[.no,.no]):=by
  have:=ui e.words e.words.length;rw [decide_eq_true (le_refl _)]at this;refine KW (fq (p1:=e.words.length) (Γ1:=[.no,.no]) ?_ rfl);have e9:aR 1 aS aD e.words e.words.length [.no,.no]=some (.sh (.bl true),e.words.length,[.no,.no]):=g6 (ts:=[]) rfl rfl this;unfold tN tX;show((aR 1 aS aD e.words e.words.length [.no,.no]).bind _).map _=_;rw [e9];rfl
 have e3:mR e.words 0 [.sh (.str e.text),.no,.no]=some (e.words.length,.rt (.sh e.tree) [.sh (.str e.text),.no,.sh e.tree]):=by
  refine mW (gM (g6 (n:=aD) (ts:=[]) rfl rfl e1)) (mW (p1:=e.words.length) (Γ1:=[.sh (.str e.text),.no,.sh e.tree]) ?_ (jO (LV rfl)));have e9:aR 1 fI aD e.words e.words.length [.sh (.str e.text),.no,.sh e.tree]=some (.sh .cQ,e.words.length,[.sh (.str e.text),.no,.sh e.tree]):=g6 (ts:=[]) rfl rfl e2;unfold Hb;show(aR 1 fI aD e.words e.words.length [.sh (.str e.text),.no,.sh e.tree]).map _=_;rw [e9];rfl
 show(d5 e.text " ").bind _=_;rw [vD h (le_refl _)];show(match mR e.words 0 [.sh (.str e.text),.no,.no]with|some (_,.rt (.sh t) _)=>some (R.sh t,[Slot.sh (.str e.text)])|_=>none)=_;rw [e3]
theorem strs_map:∀ys:List Str,strsOf (ys.map M.T.str)=some ys
 |[]=>rfl
 |y::ys=>by
  show(strsOf (ys.map M.T.str)).map _=_;rw [strs_map ys];rfl
def Ex.parts:Ex->List Ex
 |.dw _ _ e=>[e]
 |.work _ e f=>[e,f]
 |_=>[]
theorem Qs(t:M.T)(ts:List M.T):bC (.tup (t::ts)) (.int 0)=some (.sh t):=by
 have e:lN (t::ts) ((0:Nat):Int)=some t:=by rw [M.kK];rfl
 show(match (lN (t::ts) 0).map R.sh with|some r=>some r|none=>yw _ _)=_;rw [show(0:Int)=((0:Nat):Int) from rfl,e];rfl
theorem Qt(t u:M.T)(ts:List M.T):bC (.tup (t::u::ts)) (.int 1)=some (.sh u):=by
 have e:lN (t::u::ts) ((1:Nat):Int)=some u:=by rw [M.kK];rfl
 show(match (lN (t::u::ts) 1).map R.sh with|some r=>some r|none=>yw _ _)=_;rw [show(1:Int)=((1:Nat):Int) from rfl,e];rfl
theorem AF{t:M.T}{ts:List M.T}{rs:List Slot}:ag bC (mV 0) (mC (.int 0)) (.sh (.tup (t::ts))::rs)=some (.sh t,.sh (.tup (t::ts))::rs):=au rfl rfl (Qs t ts)
theorem DH{t u:M.T}{ts:List M.T}{rs:List Slot}:ag bC (mV 0) (mC (.int 1)) (.sh (.tup (t::u::ts))::rs)=some (.sh u,.sh (.tup (t::u::ts))::rs):=au rfl rfl (Qt t u ts)
theorem la{x y:Str}{ts:List M.T}{rs:List Slot}{b:Bool}(h:decide (x=y)=b):ar (ag gW (ag bC (mV 0) (mC (.int 0))) (mC (.str y))) (.sh (.tup (.str x::ts))::rs)=some (b,.sh (.tup (.str x::ts))::rs):=by
 rw [<-h];refine aK (au AF rfl ?_);show gW (.str x) (.str y)=_;rw [LU]
theorem EG(t:M.T)(ts:List M.T):Hl (mV 0) (qW (mC (.int 1))) qV [.sh (.tup (t::ts))]=some (.sh (.tup ts),[.sh (.tup (t::ts))]):=by
 have e:=mT (t::ts) 1;have h:HT.fV (t::ts).length 0 (some ((1:Nat):Int))=1:=by
  show min (Int.toNat 1) (t::ts).length=1;simp
 show(if ¬(HT.fV (t::ts).length 0 (some ((1:Nat):Int))=0/\HT.fV (t::ts).length (t::ts).length none=(t::ts).length)then some (R.sh (.tup (cut (t::ts) (some ((1:Nat):Int)) none)),[Slot.sh (.tup (t::ts))])else none)=_;rw [if_pos (by rw [h];simp),e];rfl
theorem EH(t u:M.T)(ts:List M.T):Hl (mV 0) (qW (mC (.int 2))) qV [.sh (.tup (t::u::ts))]=some (.sh (.tup ts),[.sh (.tup (t::u::ts))]):=by
 have e:=mT (t::u::ts) 2;have h:HT.fV (t::u::ts).length 0 (some ((2:Nat):Int))=2:=by
  show min (Int.toNat 2) (t::u::ts).length=2;simp
 show(if ¬(HT.fV (t::u::ts).length 0 (some ((2:Nat):Int))=0/\HT.fV (t::u::ts).length (t::u::ts).length none=(t::u::ts).length)then some (R.sh (.tup (cut (t::u::ts) (some ((2:Nat):Int)) none)),[Slot.sh (.tup (t::u::ts))])else none)=_;rw [if_pos (by rw [h];simp),e];rfl
theorem OA{bp:List (Str×Int)}{w:Str}{ts:List M.T}{rs:List Slot}{b:Bool}(h:(dc bp w).isSome=b):ar (md bp (ag bC (mV 0) (mC (.int 0)))) (.sh (.tup (.str w::ts))::rs)=some (b,.sh (.tup (.str w::ts))::rs):=by
 rw [<-h];exact aK (Ia (r:=.sh (.str w)) AF rfl)
theorem vE{w b:Str}{ts:List M.T}(h:(dc aU w).isSome=true):dW [.sh (.tup (.str w :: .str b::ts))]=some (.sh (.tup ts),[.sh (.tup (.str w :: .str b::ts))]) :=
 cy (cN (bS (OA (rs:=[]) h) (bO (EH _ _ _))))
theorem Cc{w:Str}{ts:List M.T}(h0:dc aU w=none)(h:(dc aL w).isSome=true):dW [.sh (.tup (.str w::ts))]=some (.sh (.tup ts),[.sh (.tup (.str w::ts))]) :=
 cy (aj (aA (OA (rs:=[]) (by rw [h0];rfl)) rfl) (bO (uW (OA (rs:=[]) h) (fun _=>EG _ _) (fun z=>nomatch z))))
def Sh(k:Nat)(e:Ex):Prop:=∃Γ,aG k [.sh e.tree]=some (.sh (.str e.text),Γ)
def bI(es:List Ex):List Str:=es.map Ex.text
theorem o9{k:Nat}{E:M.T}{fr:List Str}{es:List Ex}{Γp:M.G}(hp:dW [.sh E]=some (.sh (.tup (es.map Ex.tree)),Γp))(hs:∀e∈es,Sh k e)(hl:es.length<=2)(hf:fr.length<=2)(hB:∀p∈fr++bI es,p.length<=1000):
  ∃Γ,bo (kU 1 (jh [none] (IW (av 1 dW (aB (mV 0) aD))) (aZ 0) jK (av 1 (aG k) (aB (mV 0) aD)))) (dt 1 (oy (mC (.str " ")) (fE (mV 1) aD))) [.sh E,.own (.lst (fr.map M.T.str))]=some (.rt (.sh (.str (Str.join " " (fr++bI es)))) Γ):=by
 have e1:IW (av 1 dW (aB (mV 0) aD)) [.sh E,.own (.lst (fr.map M.T.str))]=some (es.map Ex.tree,[.sh E,.own (.lst (fr.map M.T.str))]):=by
  have:=cH (np:=1) (n:=aB (mV 0) aD) (Γ:=[.sh E,.own (.lst (fr.map M.T.str))]) (ts:=[E]) rfl rfl hp;unfold IW;rw [this];rfl
 have e2:=Ay (cap:=[none]) (b:=aZ 0) (me:=av 1 (aG k) (aB (mV 0) aD)) (f:=fun t=>match aG k [.sh t]with|some (.sh u,_)=>u|_=>t) e1 (fun t ht=>by
  obtain⟨e,he,rfl⟩:=mem_map.mp ht;obtain⟨Γ,hS⟩:=hs e he;refine⟨[.sh e.tree],.sh (.str e.text),[.sh e.tree],rfl,cH (ts:=[e.tree]) rfl rfl hS,?_⟩;rw [hS];rfl) (by rw [length_map];omega)
 have e3:((es.map Ex.tree).map fun t=>match aG k [.sh t]with|some (.sh u,_)=>u|_=>t)=(bI es).map M.T.str:=by
  unfold bI;rw [map_map,map_map];refine List.map_congr_left fun e he=>?_;obtain⟨Γ,hS⟩:=hs e he;show(match aG k [.sh e.tree]with|some (.sh u,_)=>u|_=>e.tree)=_;rw [hS];rfl
 rw [e3]at e2;have hlen:(fr.map M.T.str).length+((bI es).map M.T.str).length<=sizeLine:=by
  unfold bI;simp only [length_map];have:=eL (n:=4) (by decide);omega
 have e4:kU 1 (jh [none] (IW (av 1 dW (aB (mV 0) aD))) (aZ 0) jK (av 1 (aG k) (aB (mV 0) aD))) [.sh E,.own (.lst (fr.map M.T.str))]=some (.nx [.sh E,.own (.lst ((fr++bI es).map M.T.str))]):=by
  unfold kU;show((jh [none] (IW (av 1 dW (aB (mV 0) aD))) (aZ 0) jK (av 1 (aG k) (aB (mV 0) aD))) [.sh E,.own (.lst (fr.map M.T.str))]).bind _=_;rw [e2];show(if(fr.map M.T.str).length+((bI es).map M.T.str).length<=sizeLine then some (Res.nx [Slot.sh E,Slot.own (.lst (fr.map M.T.str++(bI es).map M.T.str))])else none)=_;rw [if_pos hlen,map_append]
 have N3:((fr++bI es).map (·.length)).sum+(fr++bI es).length*(" " : Str).length<=16777216:=by
  have sm:∀l:List Str,(∀p∈l,p.length<=1000)->(l.map (·.length)).sum<=l.length*1000:=by
   intro l
   induction l with
   |nil=>intro _;exact zero_le _
   |cons p l ih =>
    intro h;have:=ih fun q hq=>h q (mem_cons_of_mem _ hq);have h1:=h p mem_cons_self;rw [map_cons,sum_cons,length_cons,succ_mul];omega
  have s1:=sm _ hB;have s2:(fr++bI es).length<=4:=by
   unfold bI;rw [length_append,length_map];omega
  have s3:(" " : Str).length=1:=by decide +kernel
  rw [s3];have s4:(fr++bI es).length*1000<=4*1000:=mul_le_mul s2 (le_refl _);omega
 have e5:oy (mC (.str " ")) (fE (mV 1) aD) [.sh E,.own (.lst ((fr++bI es).map M.T.str))]=some (.sh (.str (Str.join " " (fr++bI es))),[.sh E,.own (.lst ((fr++bI es).map M.T.str))]):=by
  unfold oy;show(strsOf ((fr++bI es).map M.T.str)).bind _=_;rw [strs_map];show(if((fr++bI es).map (·.length)).sum+(fr++bI es).length*(" " : Str).length<=16777216 then _ else _)=_;rw [if_pos N3,eB]
 exact⟨_,aj e4 (bO e5)⟩
theorem Cd{w:Str}(h:(dc aU w).isSome=true\/(dc aL w).isSome=true):decide (w = "num")=false/\decide (w = "name")=false:=by
 refine⟨decide_eq_false fun e=>?_,decide_eq_false fun e=>?_⟩
 ·rw [e]at h;exact absurd h (by decide +kernel)
 ·rw [e]at h;exact absurd h (by decide +kernel)
theorem qF:∀(e:Ex)(d k:Nat),e.ok d->d<k->d<=5->Sh k e
 |.num n,d,k+1,h,hk,_=>by
  have h:n<1000000000:=by cases d<;>exact h
  refine⟨[.sh (.tup [.str "num", .int n]),.no],?_⟩;have hs:xA [.int (n:Int)]=some (.sh (.str (cK n))):=by
   have hl:(n:Int).natAbs.log2<1920:=by
    have:(n:Int).natAbs=n:=Int.natAbs_natCast n;rw [this];by_cases h0:n=0
    ·subst h0;decide
    ·refine(Nat.log2_lt h0).mpr (lt_of_lt_of_le h ?_)
     calc 1000000000<=2 ^ 30:=by decide
      _<=2 ^ 1920:=Nat.pow_le_pow_right (by decide) (by decide)
   show(if(n:Int).natAbs.log2<1920 then _ else none)=_;rw [if_pos hl];rfl
  exact cy (cN (bS (mG (la (rs:=[.no]) (decide_eq_true rfl))) (bO (mI (uX DH rfl) hs))))
 |.name x,d,k+1,h,hk,_=>by
  refine⟨[.sh (.tup [.str "name", .str x]),.no],?_⟩;exact cy (cN (bS (eA (la (rs:=[.no]) (by decide +kernel)) (la (rs:=[.no]) (decide_eq_true rfl))) (bO (mI (uX DH rfl) rfl))))
 |.fJ w b,d,k+1,h,hk,_=>by
  have h:(w = "size" \/ w = "held")/\aT b=true:=by cases d<;>exact h
  have hw:(dc aU w).isSome=true:=by
   rcases h.1 with rfl|rfl
   ·rw [nY];rfl
   ·rw [nZ];rfl
  have D9:w.length<=1000/\b.length<=1000:=⟨by rcases h.1 with rfl|rfl<;>decide +kernel,le_trans (kx h.2).1 (by decide)⟩;obtain⟨n1,n2⟩:=Cd (.inl hw);obtain⟨Γ,hr⟩:=o9 (k:=k) (E:=(Ex.fJ w b).tree) (fr:=[w,b]) (es:=[]) (vE hw) (fun e he=>by simp at he) (by simp) (by simp) (fun p hp=>by
   simp [bI]at hp;rcases hp with rfl|rfl
   ·exact D9.1
   ·exact D9.2)
  exact⟨Γ,cy (aj (aA (eA (la (rs:=[.no]) n1) (la (rs:=[.no]) n2)) rfl) (aj (kP (uW (OA (rs:=[.no]) hw) (fun _=>uY (cM AF (cM DH rfl)) (by simp)) (fun z=>nomatch z))) hr))⟩
 |.dw w b e,0,k,h,hk,_=>h.elim
 |.dw w b e,d+1,k+1,h,hk,h5=>by
  obtain⟨h1,h2,h3⟩:=h;have hw:(dc aU w).isSome=true:=by
   rcases h1 with rfl|rfl
   ·rw [qC];rfl
   ·rw [n6];rfl
  have D9:w.length<=1000/\b.length<=1000:=⟨by rcases h1 with rfl|rfl<;>decide +kernel,le_trans (kx h2).1 (by decide)⟩;obtain⟨n1,n2⟩:=Cd (.inl hw);have ht:=text_len h3 (by omega);obtain⟨Γ,hr⟩:=o9 (k:=k) (E:=(Ex.dw w b e).tree) (fr:=[w,b]) (es:=[e]) (vE hw) (fun e' he=>by rw [mem_singleton.mp he];exact qF e d k h3 (by omega) (by omega)) (by simp) (by simp) (fun p hp=>by
   simp [bI]at hp;rcases hp with rfl|rfl|rfl
   ·exact D9.1
   ·exact D9.2
   ·omega)
  have he:Str.join " " ([w,b]++bI [e])=(Ex.dw w b e).text:=by
   rw [vC,ky " " [w,b] (bI [e]) (by simp) (by simp [bI])];rfl
  rw [he]at hr;exact⟨Γ,cy (aj (aA (eA (la (rs:=[.no]) n1) (la (rs:=[.no]) n2)) rfl) (aj (kP (uW (OA (rs:=[.no]) hw) (fun _=>uY (cM AF (cM DH rfl)) (by simp)) (fun z=>nomatch z))) hr))⟩
 |.work w e f,0,k,h,hk,_=>h.elim
 |.work w e f,d+1,k+1,h,hk,h5=>by
  obtain⟨h1,h2,h3⟩:=h;obtain⟨b1,b2⟩:=qD w h1;have hw:(dc aL w).isSome=true:=by rw [b2];rfl
  have D9:w.length<=1000:=le_trans (o7 w h1).2 (by decide);obtain⟨n1,n2⟩:=Cd (.inr hw);have ht:=text_len h2 (by omega);have hu:=text_len h3 (by omega);obtain⟨Γ,hr⟩:=o9 (k:=k) (E:=(Ex.work w e f).tree) (fr:=[w]) (es:=[e,f]) (Cc b1 hw) (fun e' he=>by
   rcases mem_cons.mp he with z|z
   ·rw [z];exact qF e d k h2 (by omega) (by omega)
   ·rw [mem_singleton.mp z];exact qF f d k h3 (by omega) (by omega)) (by simp) (by simp) (fun p hp=>by
   simp [bI]at hp;rcases hp with rfl|rfl|rfl
   ·exact D9
   ·omega
   ·omega)
  have he:Str.join " " ([w]++bI [e,f])=(Ex.work w e f).text:=by
   rw [xK];show w ++ " " ++ (e.text ++ " " ++ f.text)=_;rw [eO,eO,eO,eO,eO]
  rw [he]at hr;exact⟨Γ,cy (aj (aA (eA (la (rs:=[.no]) n1) (la (rs:=[.no]) n2)) rfl) (aj (kP (uW (OA (rs:=[.no]) (b:=false) (by rw [b1];rfl)) (fun z=>nomatch z) (fun _=>uY (cM AF rfl) (by simp)))) hr))⟩
def lt(k:Nat)(t:Str):Prop:=t.length=k/\∀c∈t.cps.toList,97<=c/\c<=122
theorem N4{k:Nat}{t:Str}{c:Nat}(h:lt k t)(h1:97<=c)(h2:c<=122):lt (k+1) (t++gD c):=by
 refine⟨?_,fun d hd=>?_⟩
 ·rw [strLen_append,h.1];rfl
 ·have e:(t++gD c).cps.toList=t.cps.toList++[c]:=toList_append;rw [e]at hd;rcases mem_append.mp hd with z|z
  ·exact h.2 d z
  ·rw [mem_singleton.mp z];exact⟨h1,h2⟩
theorem N5:lt 0 "" := ⟨by decide +kernel,fun c hc=>by
 have e:(Str.ofString "").cps.toList=[]:=by decide +kernel
 rw [e]at hc
 cases hc⟩
theorem EI{i:Int}(h0:0<=i)(h1:i<26):∃c,97<=c/\c<=122/\bC (.str "abcdefghijklmnopqrstuvwxyz") (.int i)=some (.sh (.str (gD c))):=by
 have all:(List.range 26).all (fun i=>match lN ("abcdefghijklmnopqrstuvwxyz" : Str).cps.toList (i:Int)with|some c=>decide (97<=c/\c<=122)|none=>false)=true:=by decide +kernel
 have z:=all_eq_true.mp all i.toNat (mem_range.mpr (by omega));have e:((i.toNat:Nat):Int)=i:=by omega
 rw [e]at z;have:("abcdefghijklmnopqrstuvwxyz" : Str).length<=sizeLine:=by decide +kernel
 cases q:lN ("abcdefghijklmnopqrstuvwxyz" : Str).cps.toList i with
 |none=>rw [q]at z;cases z
 |some c =>
  rw [q]at z;refine⟨c,(of_decide_eq_true z).1,(of_decide_eq_true z).2,?_⟩;show(if("abcdefghijklmnopqrstuvwxyz" : Str).length<=sizeLine then(lN ("abcdefghijklmnopqrstuvwxyz" : Str).cps.toList i).map (fun c=>R.sh (.str ⟨#[c]⟩))else none)=_;rw [if_pos this,q];rfl
theorem vF{xs:List Str}{i:Int}(h0:0<=i)(h1:i<xs.length):∃u∈xs,bC (.lst (xs.map M.T.str)) (.int i)=some (.sh (.str u)):=by
 obtain⟨k,rfl⟩:=eq_ofNat_of_zero_le h0;have hl:k<xs.length:=by omega
 refine⟨xs[k],getElem_mem hl,?_⟩;have a:lN (xs.map M.T.str) (k:Int)=some (.str xs[k]):=by
  rw [M.kK,getElem?_map,getElem?_eq_getElem hl];rfl
 show(match (lN (xs.map M.T.str) (k:Int)).map R.sh with|some r=>some r|none=>yw _ _)=_;rw [a];rfl
theorem N6{xs:List Int}{i:Int}(h0:0<=i)(h1:i<xs.length):∃u∈xs,bC (.lst (xs.map M.T.int)) (.int i)=some (.sh (.int u)):=by
 obtain⟨k,rfl⟩:=eq_ofNat_of_zero_le h0;have hl:k<xs.length:=by omega
 refine⟨xs[k],getElem_mem hl,?_⟩;have a:lN (xs.map M.T.int) (k:Int)=some (.int xs[k]):=by
  rw [M.kK,getElem?_map,getElem?_eq_getElem hl];rfl
 show(match (lN (xs.map M.T.int) (k:Int)).map R.sh with|some r=>some r|none=>yw _ _)=_;rw [a];rfl
def pre(t:Str):Prop:=1<=t.length/\t.length<=8/\gK t "abcdefghijklmnopqrstuvwxyz" = true
noncomputable instance (t:Str):Decidable (pre t):=by unfold pre;exact inferInstance
theorem N7{k:Nat}{t:Str}(h:lt k t)(h1:1<=k)(h2:k<=8):pre t:=by
 refine⟨by rw [h.1];exact h1,by rw [h.1];exact h2,all_eq_true.mpr fun c hc=>?_⟩;have all:∀c,c<123->97<=c->A7 (gD c) "abcdefghijklmnopqrstuvwxyz" = true:=by decide +kernel
 exact all c (Nat.lt_succ_of_le (h.2 c hc).2) (h.2 c hc).1
theorem Ic:∀w∈dq,pre (Txt.slice w (some 1) none):=by decide +kernel
theorem N8:∀w∈dq,aT ("q" ++ Txt.slice w (some 1) none)=true:=by decide +kernel
theorem Ie{t:Str}(h:pre t)(hk:(dq.any fun y=>y==t)=false):aT t=true:=by
 unfold aT;obtain⟨h1,h2,h3⟩:=h;rw [h3,hk,decide_eq_true (by omega),decide_eq_true (by omega)];rfl
theorem rN{Γ:M.G}:av 0 cF aD Γ=some (.own (.lst (dq.map M.T.str)),Γ):=by
 have:=mH (np:=0) (n:=aD) (Γ:=Γ) (ts:=[]) rfl rfl DA;exact this
theorem DI(x:Int):∃t Γ,aT t=true/\iy [.sh (.int x)]=some (.sh (.str t),Γ):=by
 have m0:=emod_nonneg x (by decide:(8:Int)≠0);have m1:=emod_lt_of_pos x (by decide:(0:Int)<8);obtain⟨Γ',h1,t,r,s3,hΓ,yr⟩:=uh (b:=aZ 3) (m:=bo (bD 1 (ag bf (mV 1) (ag bC (mC (.str "abcdefghijklmnopqrstuvwxyz")) (ag du (mV 2) (mC (.int 26)))))) (bD 2 (ag bf (ag fO (mV 2) (mC (.int 26))) (ag du (ag fg (mC (.int 7)) (mV 0)) (mC (.int 1009))))))
  (fun i Γ=>∃(t:Str) (r:Int) (s3:Slot),Γ=[.sh (.int x),.sh (.str t),.sh (.int r),s3]/\(i<=8->lt i t))
  (M.upTo 0 (1+x % 8).toNat) 0 [.sh (.int x),.sh (.str ""),.sh (.int (x / 8)),.no] ⟨_,_,_,rfl,fun _=>N5⟩ (by
   rintro i u Γ hu ⟨t,r,s3,rfl,hl⟩;have hi:i<(1+x % 8).toNat:=by
    have:=(List.getElem?_eq_some_iff.mp hu).1;rw [fe]at this;exact this
   have hl:=hl (by omega);have q0:=emod_nonneg r (by decide:(26:Int)≠0);have q1:=emod_lt_of_pos r (by decide:(0:Int)<26);obtain⟨c,c1,c2,hc⟩:=EI q0 q1;have s7:eW 7=true:=rfl;have ec:bf (.str t) (.str (gD c))=some (.sh (.str (t++gD c))):=by
    have:t.length+(gD c).length<=sizeLine:=by
     have e1:(gD c).length=1:=rfl;have e2:=hl.1;have:=eL (n:=t.length+1) (by omega);omega
    show(if t.length+(gD c).length<=sizeLine then some (R.sh (.str (t++gD c)))else none)=_;rw [if_pos this]
   refine⟨[.sh (.int x),.sh (.str t),.sh (.int r),.sh u],[.sh (.int x),.sh (.str (t++gD c)),.sh (.int (r / 26+7*x % 1009)),.sh u],rfl,?_,_,_,_,rfl,fun _=>N4 hl c1 c2⟩;refine aj (Γ1:=[.sh (.int x),.sh (.str (t++gD c)),.sh (.int r),.sh u]) (eY (Γ1:=[.sh (.int x),.sh (.str t),.sh (.int r),.sh u]) (au (r1:=.sh (.str t)) rfl (au (r1:=.sh (.str "abcdefghijklmnopqrstuvwxyz")) (r2:=.sh (.int (r % 26))) rfl (au rfl rfl (kr (by decide))) hc) ec)) ?_;simp [B9,s7])
 subst hΓ;rw [fe,zero_add]at yr;have hp:pre t:=N7 (yr (by omega)) (by omega) (by omega);have hr:A6 (fE (ag bf (mC (.int 1)) (ag du (mV 0) (mC (.int 8)))) aD) [.sh (.int x),.sh (.str ""),.sh (.int (x / 8)),.no]=some (M.upTo 0 (1+x % 8).toNat,[.sh (.int x),.sh (.str ""),.sh (.int (x / 8)),.no]) :=
  mU (uX (r:=.sh (.int (1+x % 8))) (au (r1:=.sh (.int 1)) rfl (au rfl rfl (kr (by decide))) rfl) rfl) (by omega) (by omega) rfl
 -- kept words without Zr first UY
 have Qu:∃t2,pre t2/\jG (ar (ag gW (ag du (ag fO (mV 0) (mC (.int 8))) (mC (.int 9))) (mC (.int 4)))) (bD 1 (iF (ag bC (av 0 cF aD) (ag du (ag fO (mV 0) (mC (.int 72))) (mC (.int 26)))) (qW (mC (.int 1))) qV)) dO [.sh (.int x),.sh (.str t),.sh (.int r),s3]=some (.nx [.sh (.int x),.sh (.str t2),.sh (.int r),s3]):=by
  have KZ:ar (ag gW (ag du (ag fO (mV 0) (mC (.int 8))) (mC (.int 9))) (mC (.int 4))) [.sh (.int x),.sh (.str t),.sh (.int r),s3]=some (decide (x / 8 % 9=4),[.sh (.int x),.sh (.str t),.sh (.int r),s3]):=by simp
  by_cases h4:x / 8 % 9=4
  ·rw [decide_eq_true h4]at KZ;obtain⟨u,hu,hx⟩:=vF (xs:=dq) (i:=x / 72 % 26) (emod_nonneg _ (by decide)) (emod_lt_of_pos _ (by decide));refine⟨Txt.slice u (some 1) none,Ic u hu,bS KZ (eY (Γ1:=[.sh (.int x),.sh (.str t),.sh (.int r),s3]) ?_)⟩;have RE:∀w∈dq,j4 10 w:=by
    have:∀w∈dq,w.length<=10/\∀c∈w.cps.toList,c<128:=by decide +kernel
    exact this
   refine xJ (RE u hu) (by decide) (au (r1:=.own (.lst (dq.map M.T.str))) (r2:=.sh (.int (x / 72 % 26))) rN (au (r1:=.sh (.int (x / 72))) (au rfl rfl (oB (by decide) (by decide))) rfl (kr (by decide))) hx) rfl rfl
  ·rw [decide_eq_false h4]at KZ;exact⟨t,hp,aA KZ rfl⟩
 obtain⟨t2,RD,tH⟩:=Qu;have D6:t2.length<=1000:=le_trans RD.2.1 (by decide);have K0:ar (ag kQ (mV 1) (av 0 cF aD)) [.sh (.int x),.sh (.str t2),.sh (.int r),s3]=some (dq.any (fun y=>y==t2),[.sh (.int x),.sh (.str t2),.sh (.int r),s3]) :=
  aK (au (r1:=.sh (.str t2)) rfl rN (DB t2 dq))
 have Ig:∃t3,aT t3=true/\jG (ar (ag kQ (mV 1) (av 0 cF aD))) (bD 1 (ag bf (mC (.str "q")) (iF (mV 1) (qW (mC (.int 1))) qV))) dO [.sh (.int x),.sh (.str t2),.sh (.int r),s3]=some (.nx [.sh (.int x),.sh (.str t3),.sh (.int r),s3]):=by
  cases hk:dq.any (fun y=>y==t2)with
  |false =>
   rw [hk]at K0;exact⟨t2,Ie RD hk,aA K0 rfl⟩
  |true =>
   rw [hk]at K0;obtain⟨y,hy,e⟩:=any_eq_true.mp hk;have e:y=t2:=by simpa using e
   subst e;have RE:∀w∈dq,j4 10 w:=by
    have:∀w∈dq,w.length<=10/\∀c∈w.cps.toList,c<128:=by decide +kernel
    exact this
   have hq:j4 1 ("q" : Str):=by
    have:("q" : Str).length<=1/\∀c∈("q" : Str).cps.toList,c<128:=by decide +kernel
    exact this
   exact⟨"q" ++ Txt.slice y (some 1) none,N8 y hy,bS K0 (eY (Γ1:=[.sh (.int x),.sh (.str y),.sh (.int r),s3]) (au (r1:=.sh (.str "q")) rfl (xJ (RE y hy) (by decide) (Γ1:=[.sh (.int x),.sh (.str y),.sh (.int r),s3]) rfl rfl rfl) (KU hq ((RE y hy).slice _ _) (by decide))))⟩
 obtain⟨t3,hn3,Jo⟩:=Ig;refine⟨t3,[.sh (.int x),.sh (.str t3),.sh (.int r),s3],hn3,cy (aj (Γ1:=[.sh (.int x),.sh (.str ""),.no,.no]) rfl (aj (Γ1:=[.sh (.int x),.sh (.str ""),.sh (.int (x / 8)),.no]) (eY (Γ1:=[.sh (.int x),.sh (.str ""),.no,.no]) (au rfl rfl (oB (by decide) (by decide)))) (aj (Γ1:=[.sh (.int x),.sh (.str t),.sh (.int r),s3]) ?_ (aj tH (aj Jo (bO rfl))))))⟩;rw [NZ,hr];exact h1
theorem K1{n:Nat}(h:n<1000000000):xA [.int (n:Int)]=some (.sh (.str (cK n))):=by
 have hl:(n:Int).natAbs.log2<1920:=by
  have:(n:Int).natAbs=n:=Int.natAbs_natCast n;rw [this];by_cases h0:n=0
  ·subst h0;decide
  ·refine(Nat.log2_lt h0).mpr (lt_of_lt_of_le h ?_)
   calc 1000000000<=2 ^ 30:=by decide
    _<=2 ^ 1920:=Nat.pow_le_pow_right (by decide) (by decide)
 show(if(n:Int).natAbs.log2<1920 then _ else none)=_;rw [if_pos hl];rfl
theorem K2(x:Int):∃(e:Ex) (Γ:M.G),e.ok 0/\jN [.sh (.int x)]=some (.sh (.tup [e.tree,.str e.text]),Γ):=by
 have KZ:ar (ag gW (ag du (mV 0) (mC (.int 2))) (mC (.int 1))) [.sh (.int x),.no,.no]=some (decide (x % 2=1),[.sh (.int x),.no,.no]):=by simp
 by_cases h:x % 2=1
 ·rw [decide_eq_true h]at KZ;obtain⟨t,Γ,hn,ht⟩:=DI (x / 2);refine⟨.name t,[.sh (.int x),.sh (.str t),.no],hn,cy (cN (bS KZ (aj (Γ1:=[.sh (.int x),.sh (.str t),.no]) (eY (Γ1:=[.sh (.int x),.no,.no]) (cH (ts:=[.int (x / 2)]) (cM (r:=.sh (.int (x / 2))) (au rfl rfl (oB (by decide) (by decide))) rfl) rfl ht)) rfl)))⟩
 ·rw [decide_eq_false h]at KZ;have i0:=emod_nonneg (x / 2) (by decide:(6:Int)≠0);have i1:=emod_lt_of_pos (x / 2) (by decide:(0:Int)<6);have a0:=emod_nonneg (x / 8) (by decide:(100:Int)≠0);have a1:=emod_lt_of_pos (x / 8) (by decide:(0:Int)<100);have b0:=emod_nonneg (x*7919) (by decide:(10 ^ 9:Int)≠0);have b1:=emod_lt_of_pos (x*7919) (by decide:(0:Int)<10 ^ 9);obtain⟨u,hu,hx⟩:=N6 (xs:=[0,1,999999999,10,x / 8 % 100,x*7919 % 10 ^ 9]) (i:=x / 2 % 6) i0 i1;have hb:0<=u/\u<1000000000:=by
   have e9:(10 ^ 9:Int)=1000000000:=by decide
   rw [e9]at b0 b1 hu;simp only [mem_cons,List.not_mem_nil,or_false]at hu;rcases hu with rfl|rfl|rfl|rfl|rfl|rfl<;>omega
  obtain⟨n,rfl⟩:=eq_ofNat_of_zero_le hb.1;have hn:n<1000000000:=by omega
  have s7:eW 7919=true:=rfl;have e1:di (aB (mC (.int 0)) (aB (mC (.int 1)) (aB (mC (.int 999999999)) (aB (mC (.int 10)) (aB (ag du (ag fO (mV 0) (mC (.int 8))) (mC (.int 100))) (aB (ag du (ag fg (mV 0) (mC (.int 7919))) (ag Gk (mC (.int 10)) (mC (.int 9)))) aD)))))) [.sh (.int x),.no,.no]=some (.own (.lst ([0,1,999999999,10,x / 8 % 100,x*7919 % 10 ^ 9].map M.T.int)),[.sh (.int x),.no,.no]):=by
   refine uY (cM (r:=.sh (.int 0)) rfl (cM (r:=.sh (.int 1)) rfl (cM (r:=.sh (.int 999999999)) rfl (cM (r:=.sh (.int 10)) rfl (cM (r:=.sh (.int (x / 8 % 100))) (au (r1:=.sh (.int (x / 8))) (au rfl rfl (oB (by decide) (by decide))) rfl (kr (by decide))) (cM (r:=.sh (.int (x*7919 % 10 ^ 9))) (au (r1:=.sh (.int (x*7919))) (r2:=.sh (.int (10 ^ 9))) (au rfl rfl ?_) rfl (kr (by decide))) rfl)))))) (by simp);show fg (.int x) (.int 7919)=_;rw [B9,N0 s7]
  refine⟨.num n,[.sh (.int x),.no,.sh (.int n)],hn,cy (aj (aA KZ rfl) (aj (Γ1:=[.sh (.int x),.no,.sh (.int n)]) (eY (Γ1:=[.sh (.int x),.no,.no]) (au e1 (r2:=.sh (.int (x / 2 % 6))) (au (r1:=.sh (.int (x / 2))) (au rfl rfl (oB (by decide) (by decide))) rfl (kr (by decide))) hx)) (bO (mJ (ts:=[.tup [.str "num", .int n],.str (cK n)]) (cM (r:=.sh (.tup [.str "num", .int n])) rfl (cM (r:=.sh (.str (cK n))) (mI (ts:=[.int n]) rfl (K1 hn)) rfl)) (by simp)))))⟩
theorem ic{x y:Str}(h:x.length+y.length<=10000):bf (.str x) (.str y)=some (.sh (.str (x++y))):=by
 have:x.length+y.length<=sizeLine:=le_trans h (by decide);show(if x.length+y.length<=sizeLine then some (R.sh (.str (x++y)))else none)=_;rw [if_pos this]
theorem Ih{xs:List Int}{k:Nat}(h:k<xs.length):bC (.lst (xs.map M.T.int)) (.int (k:Int))=some (.sh (.int xs[k])):=by
 have a:lN (xs.map M.T.int) (k:Int)=some (.int xs[k]):=by
  rw [M.kK,getElem?_map,getElem?_eq_getElem h];rfl
 show(match (lN (xs.map M.T.int) (k:Int)).map R.sh with|some r=>some r|none=>yw _ _)=_;rw [a];rfl
theorem Ii{w b:Str}{d:Nat}(h:(w = "size" \/ w = "held")/\aT b=true):(Ex.fJ w b).ok d:=by cases d<;>exact h
def LZ(xs:List Int)(k:Nat)(gk:Int)(d:Nat):Prop:=∃(e:Ex) (mY:Int) (Γ:M.G),e.ok d/\0<=mY/\dX k [.sh (.lst (xs.map M.T.int)),.sh (.int gk),.sh (.int d)]=some (.sh (.tup [e.tree,.str e.text,.int mY]),Γ)
theorem yM(xs:List Int)(hx:xs.length=41):∀(d k:Nat)(gk:Int),d<k->d<=5->0<=gk->LZ xs k gk d
 |d,0,gk,h,_,_=>absurd h (not_lt_zero _)
 |d,k+1,gk,hk,h5,h0=>by
  have a0:=emod_nonneg gk (by decide:(40:Int)≠0);have a1:=emod_lt_of_pos gk (by decide:(0:Int)<40);obtain⟨i,hi⟩:=eq_ofNat_of_zero_le a0;have Ge:i<xs.length:=by omega
  unfold LZ;generalize hX:M.T.lst (xs.map M.T.int)=X;have e1:bC X (.int (gk % 40))=some (.sh (.int xs[i])):=by rw [<-hX,hi];exact Ih Ge
  have e2:bC X (.int 40)=some (.sh (.int xs[40])):=by rw [<-hX];exact Ih (xs:=xs) (k:=40) (by omega)
  generalize xs[i]=x at e1;generalize xs[40]=y at e2;have w0:=emod_nonneg x (by decide:(12:Int)≠0);have w1:=emod_lt_of_pos x (by decide:(0:Int)<12)
  -- Fg way
  have Ig:∃way:Int,0<=way/\way<12/\jG (dD (ar (ag gW (ag du (ag bC (mV 0) (mC (.int 40))) (mC (.int 4))) (mC (.int 1)))) (ar (ag zi (mV 4) (mC (.int 6))))) (bD 4 (ag bf (mV 4) (mC (.int 6)))) dO [.sh X,.sh (.int gk),.sh (.int d),.sh (.int x),.sh (.int (x % 12)),.no,.no,.no,.no,.no,.no,.no,.no,.no,.no]=some (.nx [.sh X,.sh (.int gk),.sh (.int d),.sh (.int x),.sh (.int way),.no,.no,.no,.no,.no,.no,.no,.no,.no,.no]):=by
   by_cases c:y % 4=1/\x % 12<6
   ·refine⟨x % 12+6,by omega,by omega,?_⟩;simp [e2,c.1,c.2]
   ·refine⟨x % 12,w0,w1,?_⟩;by_cases c1:y % 4=1
    ·have c2:¬x % 12<6:=fun z=>c ⟨c1,z⟩;simp [e2,c1,c2]
    ·simp [e2,c1]
  obtain⟨way,v0,v1,Jo⟩:=Ig;have Cf:bD 3 (ag bC (mV 0) (ag du (mV 1) (mC (.int 40)))) [.sh X,.sh (.int gk),.sh (.int d),.no,.no,.no,.no,.no,.no,.no,.no,.no,.no,.no,.no]=some (.nx [.sh X,.sh (.int gk),.sh (.int d),.sh (.int x),.no,.no,.no,.no,.no,.no,.no,.no,.no,.no,.no]):=by
   simp [e1]
  have tH:bD 4 (ag du (mV 3) (mC (.int 12))) [.sh X,.sh (.int gk),.sh (.int d),.sh (.int x),.no,.no,.no,.no,.no,.no,.no,.no,.no,.no,.no]=some (.nx [.sh X,.sh (.int gk),.sh (.int d),.sh (.int x),.sh (.int (x % 12)),.no,.no,.no,.no,.no,.no,.no,.no,.no,.no]):=by simp
  have t4:jX (ar (ag zi (mV 4) (mC (.int 4)))) (dD (ar (ag sE (mV 4) (mC (.int 5)))) (ar (ag gW (mV 2) (mC (.int 0))))) [.sh X,.sh (.int gk),.sh (.int d),.sh (.int x),.sh (.int way),.no,.no,.no,.no,.no,.no,.no,.no,.no,.no]=some (decide (way<4\/(5<way/\d=0)),[.sh X,.sh (.int gk),.sh (.int d),.sh (.int x),.sh (.int way),.no,.no,.no,.no,.no,.no,.no,.no,.no,.no]):=by
   by_cases c1:way<4
   ·simp [c1]
   ·by_cases c2:5<way
    ·by_cases c3:d=0
     ·simp [c1,c2,c3]
     ·have:¬(d:Int)=0:=by omega
      simp [c1,c2,c3,this]
    ·simp [c1,c2]
  by_cases c4:way<4\/(5<way/\d=0)
  ·rw [decide_eq_true c4]at t4;obtain⟨e,Γl,he,hl⟩:=K2 (x / 12);refine⟨e,gk+1,[.sh X,.sh (.int gk),.sh (.int d),.sh (.int x),.sh (.int way),.sh e.tree,.sh (.str e.text),.no,.no,.no,.no,.no,.no,.no,.no],LY he (zero_le _),by omega,?_⟩;have l1:=cH (np:=1) (n:=aB (ag fO (mV 3) (mC (.int 12))) aD) (Γ:=[.sh X,.sh (.int gk),.sh (.int d),.sh (.int x),.sh (.int way),.no,.no,.no,.no,.no,.no,.no,.no,.no,.no]) (ts:=[.int (x / 12)]) (cM (r:=.sh (.int (x / 12))) (au rfl rfl (oB (by decide) (by decide))) rfl) rfl hl;have l2:tL (uQ 2 (ef (aZ 5) (ef (aZ 6) uP))) (av 1 jN (aB (ag fO (mV 3) (mC (.int 12))) aD)) [.sh X,.sh (.int gk),.sh (.int d),.sh (.int x),.sh (.int way),.no,.no,.no,.no,.no,.no,.no,.no,.no,.no]=some (.nx [.sh X,.sh (.int gk),.sh (.int d),.sh (.int x),.sh (.int way),.sh e.tree,.sh (.str e.text),.no,.no,.no,.no,.no,.no,.no,.no]):=by
    rw [Dw,l1];rfl
   exact cy (aj Cf (aj tH (aj Jo (cN (bS t4 (aj l2 rfl))))))
  ·rw [decide_eq_false c4]at t4;obtain⟨b,Γb,hb,RH⟩:=DI (x / 13);have Mv:bD 7 (av 1 iy (aB (ag fO (mV 3) (mC (.int 13))) aD)) [.sh X,.sh (.int gk),.sh (.int d),.sh (.int x),.sh (.int way),.no,.no,.no,.no,.no,.no,.no,.no,.no,.no]=some (.nx [.sh X,.sh (.int gk),.sh (.int d),.sh (.int x),.sh (.int way),.no,.no,.sh (.str b),.no,.no,.no,.no,.no,.no,.no]) :=
    eY (Γ1:=[.sh X,.sh (.int gk),.sh (.int d),.sh (.int x),.sh (.int way),.no,.no,.no,.no,.no,.no,.no,.no,.no,.no]) (cH (np:=1) (n:=aB (ag fO (mV 3) (mC (.int 13))) aD) (ts:=[.int (x / 13)]) (cM (r:=.sh (.int (x / 13))) (au (r1:=.sh (.int x)) (r2:=.sh (.int 13)) rfl rfl (oB (by decide) (by decide))) rfl) rfl RH)
   have bl:=(kx hb).1;by_cases c6:way<6
   ·obtain⟨w,hw,ew⟩:=vF (xs:=(["size", "held"]:List Str)) (i:=way-4) (by omega) (by simp;omega);have N9:w = "size" \/ w = "held" := by simpa using hw
    have wl:w.length<=9:=by rcases N9 with rfl|rfl<;>decide +kernel
    have t6:ar (ag zi (mV 4) (mC (.int 6))) [.sh X,.sh (.int gk),.sh (.int d),.sh (.int x),.sh (.int way),.no,.no,.sh (.str b),.no,.no,.no,.no,.no,.no,.no]=some (true,[.sh X,.sh (.int gk),.sh (.int d),.sh (.int x),.sh (.int way),.no,.no,.sh (.str b),.no,.no,.no,.no,.no,.no,.no]):=by simp [c6]
    have RI:bD 8 (ag bC (di (aB (mC (.str "size")) (aB (mC (.str "held")) aD))) (ag jF (mV 4) (mC (.int 4)))) [.sh X,.sh (.int gk),.sh (.int d),.sh (.int x),.sh (.int way),.no,.no,.sh (.str b),.no,.no,.no,.no,.no,.no,.no]=some (.nx [.sh X,.sh (.int gk),.sh (.int d),.sh (.int x),.sh (.int way),.no,.no,.sh (.str b),.sh (.str w),.no,.no,.no,.no,.no,.no]) :=
     eY (Γ1:=[.sh X,.sh (.int gk),.sh (.int d),.sh (.int x),.sh (.int way),.no,.no,.sh (.str b),.no,.no,.no,.no,.no,.no,.no]) (au (r1:=.own (.lst ((["size", "held"]:List Str).map M.T.str))) (r2:=.sh (.int (way-4))) rfl rfl ew)
    have s1:(" " : Str).length=1:=by decide +kernel
    have tx:ag bf (ag bf (mV 8) (mC (.str " "))) (mV 7) [.sh X,.sh (.int gk),.sh (.int d),.sh (.int x),.sh (.int way),.no,.no,.sh (.str b),.sh (.str w),.no,.no,.no,.no,.no,.no]=some (.sh (.str (w ++ " " ++ b)),[.sh X,.sh (.int gk),.sh (.int d),.sh (.int x),.sh (.int way),.no,.no,.sh (.str b),.sh (.str w),.no,.no,.no,.no,.no,.no]) :=
     au (r1:=.sh (.str (w ++ " "))) (r2:=.sh (.str b)) (au (r1:=.sh (.str w)) (r2:=.sh (.str " ")) rfl rfl (ic (by omega))) rfl (ic (by rw [strLen_append];omega))
    exact⟨.fJ w b,gk+1,_,Ii ⟨N9,hb⟩,by omega,cy (aj Cf (aj tH (aj Jo (aj (aA t4 rfl) (aj Mv (cN (bS t6 (aj RI (bO (mJ (ts:=[.tup [.str w,.str b],.str (w ++ " " ++ b),.int (gk+1)]) (cM (r:=.sh (.tup [.str w,.str b])) rfl (cM tx rfl)) (by simp)))))))))))⟩
   ·have hd:d≠0:=fun z=>c4 (.inr ⟨by omega,z⟩);obtain⟨d',rfl⟩:∃d',d=d'+1:=⟨d-1,by omega⟩;have t6:ar (ag zi (mV 4) (mC (.int 6))) [.sh X,.sh (.int gk),.sh (.int (d'+1:Nat)),.sh (.int x),.sh (.int way),.no,.no,.sh (.str b),.no,.no,.no,.no,.no,.no,.no]=some (false,[.sh X,.sh (.int gk),.sh (.int (d'+1:Nat)),.sh (.int x),.sh (.int way),.no,.no,.sh (.str b),.no,.no,.no,.no,.no,.no,.no]):=by simp [c6]
    have dd:((d'+1:Nat):Int)-1=(d':Int):=by omega
    obtain⟨e,mY,Γ1,he,h1,m1⟩:=yM xs hx d' k (gk+1) (by omega) (by omega) (by omega);rw [hX]at m1;have g1:aB (mV 0) (aB (ag bf (mV 1) (mC (.int 1))) (aB (ag jF (mV 2) (mC (.int 1))) aD)) [.sh X,.sh (.int gk),.sh (.int (d'+1:Nat)),.sh (.int x),.sh (.int way),.no,.no,.sh (.str b),.no,.no,.no,.no,.no,.no,.no]=some ([X,.int (gk+1),.int d'],[.sh X,.sh (.int gk),.sh (.int (d'+1:Nat)),.sh (.int x),.sh (.int way),.no,.no,.sh (.str b),.no,.no,.no,.no,.no,.no,.no]):=by
     rw [<-dd];rfl
    have RI:tL (uQ 3 (ef (aZ 9) (ef (aZ 10) (ef (aZ 11) uP)))) (av 3 (dX k) (aB (mV 0) (aB (ag bf (mV 1) (mC (.int 1))) (aB (ag jF (mV 2) (mC (.int 1))) aD)))) [.sh X,.sh (.int gk),.sh (.int (d'+1:Nat)),.sh (.int x),.sh (.int way),.no,.no,.sh (.str b),.no,.no,.no,.no,.no,.no,.no]=some (.nx [.sh X,.sh (.int gk),.sh (.int (d'+1:Nat)),.sh (.int x),.sh (.int way),.no,.no,.sh (.str b),.no,.sh e.tree,.sh (.str e.text),.sh (.int mY),.no,.no,.no]):=by
     rw [Dw,cH (np:=3) g1 rfl m1];rfl
    have el:=text_len he (by omega);have s1:(" " : Str).length=1:=by decide +kernel
    by_cases c8:way<8
    ·obtain⟨w,hw,ew⟩:=vF (xs:=(["has", "item"]:List Str)) (i:=way-6) (by omega) (by simp;omega);have N9:w = "has" \/ w = "item" := by simpa using hw
     have wl:w.length<=9:=by rcases N9 with rfl|rfl<;>decide +kernel
     have t8:ar (ag zi (mV 4) (mC (.int 8))) [.sh X,.sh (.int gk),.sh (.int (d'+1:Nat)),.sh (.int x),.sh (.int way),.no,.no,.sh (.str b),.no,.sh e.tree,.sh (.str e.text),.sh (.int mY),.no,.no,.no]=some (true,[.sh X,.sh (.int gk),.sh (.int (d'+1:Nat)),.sh (.int x),.sh (.int way),.no,.no,.sh (.str b),.no,.sh e.tree,.sh (.str e.text),.sh (.int mY),.no,.no,.no]):=by simp [c8]
     have st8:bD 8 (ag bC (di (aB (mC (.str "has")) (aB (mC (.str "item")) aD))) (ag jF (mV 4) (mC (.int 6)))) [.sh X,.sh (.int gk),.sh (.int (d'+1:Nat)),.sh (.int x),.sh (.int way),.no,.no,.sh (.str b),.no,.sh e.tree,.sh (.str e.text),.sh (.int mY),.no,.no,.no]=some (.nx [.sh X,.sh (.int gk),.sh (.int (d'+1:Nat)),.sh (.int x),.sh (.int way),.no,.no,.sh (.str b),.sh (.str w),.sh e.tree,.sh (.str e.text),.sh (.int mY),.no,.no,.no]) :=
      eY (Γ1:=[.sh X,.sh (.int gk),.sh (.int (d'+1:Nat)),.sh (.int x),.sh (.int way),.no,.no,.sh (.str b),.no,.sh e.tree,.sh (.str e.text),.sh (.int mY),.no,.no,.no]) (au (r1:=.own (.lst ((["has", "item"]:List Str).map M.T.str))) (r2:=.sh (.int (way-6))) rfl rfl ew)
     have tx:ag bf (ag bf (ag bf (ag bf (mV 8) (mC (.str " "))) (mV 7)) (mC (.str " "))) (mV 10) [.sh X,.sh (.int gk),.sh (.int (d'+1:Nat)),.sh (.int x),.sh (.int way),.no,.no,.sh (.str b),.sh (.str w),.sh e.tree,.sh (.str e.text),.sh (.int mY),.no,.no,.no]=some (.sh (.str (w ++ " " ++ b ++ " " ++ e.text)),[.sh X,.sh (.int gk),.sh (.int (d'+1:Nat)),.sh (.int x),.sh (.int way),.no,.no,.sh (.str b),.sh (.str w),.sh e.tree,.sh (.str e.text),.sh (.int mY),.no,.no,.no]) :=
      au (r1:=.sh (.str (w ++ " " ++ b ++ " "))) (r2:=.sh (.str e.text)) (au (r1:=.sh (.str (w ++ " " ++ b))) (r2:=.sh (.str " ")) (au (r1:=.sh (.str (w ++ " "))) (r2:=.sh (.str b)) (au (r1:=.sh (.str w)) (r2:=.sh (.str " ")) rfl rfl (ic (by omega))) rfl (ic (by rw [strLen_append];omega))) rfl (ic (by rw [strLen_append,strLen_append];omega))) rfl (ic (by rw [strLen_append,strLen_append,strLen_append];omega))
     rw [<-vC]at tx;exact⟨.dw w b e,mY,_,⟨N9,hb,he⟩,h1,cy (aj Cf (aj tH (aj Jo (aj (aA t4 rfl) (aj Mv (aj (aA t6 rfl) (aj RI (cN (bS t8 (aj st8 (bO (mJ (ts:=[.tup [.str w,.str b,e.tree],.str (Ex.dw w b e).text,.int mY]) (cM (r:=.sh (.tup [.str w,.str b,e.tree])) rfl (cM tx rfl)) (by simp)))))))))))))⟩
    ·have t8:ar (ag zi (mV 4) (mC (.int 8))) [.sh X,.sh (.int gk),.sh (.int (d'+1:Nat)),.sh (.int x),.sh (.int way),.no,.no,.sh (.str b),.no,.sh e.tree,.sh (.str e.text),.sh (.int mY),.no,.no,.no]=some (false,[.sh X,.sh (.int gk),.sh (.int (d'+1:Nat)),.sh (.int x),.sh (.int way),.no,.no,.sh (.str b),.no,.sh e.tree,.sh (.str e.text),.sh (.int mY),.no,.no,.no]):=by simp [c8]
     obtain⟨w,hw,ew⟩:=vF (xs:=fZ) (i:=x / 12 % 7) (emod_nonneg _ (by decide)) (emod_lt_of_pos _ (by decide));have wl:=(o7 w hw).2;have st9:bD 8 (ag bC (di (kl ["+", "-", "*", "div", "rem", "<", "="])) (ag du (ag fO (mV 3) (mC (.int 12))) (mC (.int 7)))) [.sh X,.sh (.int gk),.sh (.int (d'+1:Nat)),.sh (.int x),.sh (.int way),.no,.no,.sh (.str b),.no,.sh e.tree,.sh (.str e.text),.sh (.int mY),.no,.no,.no]=some (.nx [.sh X,.sh (.int gk),.sh (.int (d'+1:Nat)),.sh (.int x),.sh (.int way),.no,.no,.sh (.str b),.sh (.str w),.sh e.tree,.sh (.str e.text),.sh (.int mY),.no,.no,.no]) :=
      eY (Γ1:=[.sh X,.sh (.int gk),.sh (.int (d'+1:Nat)),.sh (.int x),.sh (.int way),.no,.no,.sh (.str b),.no,.sh e.tree,.sh (.str e.text),.sh (.int mY),.no,.no,.no]) (au (r1:=.own (.lst (fZ.map M.T.str))) (r2:=.sh (.int (x / 12 % 7))) rfl (au (r1:=.sh (.int (x / 12))) (r2:=.sh (.int 7)) (au (r1:=.sh (.int x)) (r2:=.sh (.int 12)) rfl rfl (oB (by decide) (by decide))) rfl (kr (by decide))) ew)
     obtain⟨f,at2,Γ2,hf,h2,m2⟩:=yM xs hx d' k mY (by omega) (by omega) h1;rw [hX]at m2;have g2:aB (mV 0) (aB (mV 11) (aB (ag jF (mV 2) (mC (.int 1))) aD)) [.sh X,.sh (.int gk),.sh (.int (d'+1:Nat)),.sh (.int x),.sh (.int way),.no,.no,.sh (.str b),.sh (.str w),.sh e.tree,.sh (.str e.text),.sh (.int mY),.no,.no,.no]=some ([X,.int mY,.int d'],[.sh X,.sh (.int gk),.sh (.int (d'+1:Nat)),.sh (.int x),.sh (.int way),.no,.no,.sh (.str b),.sh (.str w),.sh e.tree,.sh (.str e.text),.sh (.int mY),.no,.no,.no]):=by
      rw [<-dd];rfl
     have UZ:tL (uQ 3 (ef (aZ 12) (ef (aZ 13) (ef (aZ 14) uP)))) (av 3 (dX k) (aB (mV 0) (aB (mV 11) (aB (ag jF (mV 2) (mC (.int 1))) aD)))) [.sh X,.sh (.int gk),.sh (.int (d'+1:Nat)),.sh (.int x),.sh (.int way),.no,.no,.sh (.str b),.sh (.str w),.sh e.tree,.sh (.str e.text),.sh (.int mY),.no,.no,.no]=some (.nx [.sh X,.sh (.int gk),.sh (.int (d'+1:Nat)),.sh (.int x),.sh (.int way),.no,.no,.sh (.str b),.sh (.str w),.sh e.tree,.sh (.str e.text),.sh (.int mY),.sh f.tree,.sh (.str f.text),.sh (.int at2)]):=by
      rw [Dw,cH (np:=3) g2 rfl m2];rfl
     have fl:=text_len hf (by omega);have tx:ag bf (ag bf (ag bf (ag bf (mV 8) (mC (.str " "))) (mV 10)) (mC (.str " "))) (mV 13) [.sh X,.sh (.int gk),.sh (.int (d'+1:Nat)),.sh (.int x),.sh (.int way),.no,.no,.sh (.str b),.sh (.str w),.sh e.tree,.sh (.str e.text),.sh (.int mY),.sh f.tree,.sh (.str f.text),.sh (.int at2)]=some (.sh (.str (w ++ " " ++ e.text ++ " " ++ f.text)),[.sh X,.sh (.int gk),.sh (.int (d'+1:Nat)),.sh (.int x),.sh (.int way),.no,.no,.sh (.str b),.sh (.str w),.sh e.tree,.sh (.str e.text),.sh (.int mY),.sh f.tree,.sh (.str f.text),.sh (.int at2)]) :=
      au (r1:=.sh (.str (w ++ " " ++ e.text ++ " "))) (r2:=.sh (.str f.text)) (au (r1:=.sh (.str (w ++ " " ++ e.text))) (r2:=.sh (.str " ")) (au (r1:=.sh (.str (w ++ " "))) (r2:=.sh (.str e.text)) (au (r1:=.sh (.str w)) (r2:=.sh (.str " ")) rfl rfl (ic (by omega))) rfl (ic (by rw [strLen_append];omega))) rfl (ic (by rw [strLen_append,strLen_append];omega))) rfl (ic (by rw [strLen_append,strLen_append,strLen_append];omega))
     rw [<-xK]at tx;exact⟨.work w e f,at2,_,⟨hw,he,hf⟩,h2,cy (aj Cf (aj tH (aj Jo (aj (aA t4 rfl) (aj Mv (aj (aA t6 rfl) (aj RI (aj (aA t8 rfl) (aj st9 (aj UZ (bO (mJ (ts:=[.tup [.str w,e.tree,f.tree],.str (Ex.work w e f).text,.int at2]) (cM (r:=.sh (.tup [.str w,e.tree,f.tree])) rfl (cM tx rfl)) (by simp)))))))))))))⟩
open PySem.NumText (AllDigits digitsVal)
def W0(x:Str):Prop:=ba [.sh (.str x)]=some (.sh (.bl false),[.sh (.str x)])
theorem xM:∀(n:Nat)(cs:List Nat),cs.length=n->AllDigits cs->cs≠[]->((∃r,cs=48::r/\r≠[])->False)->tR (digitsVal cs)=cs/\digitsVal cs<10 ^ cs.length
 |0,cs,hn,_,h,_=>absurd (List.eq_nil_of_length_eq_zero hn) h
 |n+1,cs,hn,ha,h0,hz=>by
  rcases List.eq_nil_or_concat cs with e|⟨ds,c,e⟩
  ·exact absurd e h0
  rw [List.concat_eq_append]at e;subst e;have ih:=xM n ds (by simpa using hn);have hc:=ha c (mem_append_right _ (mem_singleton.mpr rfl));rw [PySem.NumText.digitsVal_snoc]
  cases ds with
  |nil =>
   have e:digitsVal ([]:List Nat)=0:=rfl;rw [e,Nat.zero_mul,zero_add,yK (by omega)];refine⟨?_,?_⟩
   ·show [48+(c-48)]=[c];congr 1;omega
   ·show c-48<10 ^ 1;omega
  |cons d r =>
   have hd:d≠48:=fun e=>hz ⟨r++[c],by rw [e];rfl,by simp⟩;obtain⟨i1,i2⟩:=ih (fun x hx=>ha x (mem_append_left _ hx)) (cons_ne_nil _ _) (fun⟨r',e,_⟩=>hd (List.cons.inj e).1);have pos:1<=digitsVal (d::r):=by
    rcases Nat.eq_zero_or_pos (digitsVal (d::r))with z|z
    ·rw [z,yK (by decide)]at i1;exact absurd (List.cons.inj i1).1.symm hd
    ·exact z
   generalize digitsVal (d::r)=v at i1 i2 pos;refine⟨?_,?_⟩
   ·rw [Dz (by omega),show(v*10+(c-48)) / 10=v by omega,i1,show 48+(v*10+(c-48)) % 10=c by omega]
   ·rw [length_append,List.length_singleton,pow_succ];have:c-48<10:=by omega
    omega
theorem Ij(cs:List Nat):AllDigits cs->cs≠[]->((∃r,cs=48::r/\r≠[])->False)->tR (digitsVal cs)=cs/\digitsVal cs<10 ^ cs.length:=xM _ cs rfl
theorem K3:∀c,c<58->48<=c->(Builtin.Str.occurrences "0123456789" (gD c) 0 (Str.length "0123456789") 1).head?=some (c-48):=by decide +kernel
theorem K4{c:Nat}(h1:48<=c)(h2:c<=57):oW "0123456789" (gD c)=some (.int ((c-48:Nat):Int)):=by
 have h:=K3 c (by omega) h1;unfold oW;generalize (Builtin.Str.occurrences "0123456789" (gD c) 0 (Str.length "0123456789") 1)=l at h
 cases l with
 |nil=>cases h
 |cons i r=>cases h;rfl
def Ik:MS:=bo (jG (ar (ag xt (mV 2) (mC (.str "0123456789")))) (dt 1 (mC .cQ)) dO) (bD 1 (ag bf (ag fg (mC (.int 10)) (mV 1)) (T2 oW (mC (.str "0123456789")) (fE (mV 2) aD))))
theorem AG(x:Str):∀(cs:List Nat)(a:Int)(s2:Slot),(∀c∈cs,c<128) ->
  ((cs.all fun c=>A7 (gD c) "0123456789")=true->∃s,eG (aZ 2) Ik (cs.map fun c=>M.T.str (gD c)) [.sh (.str x),.sh (.int a),s2]=some (.nx [.sh (.str x),.sh (.int (cs.foldl (fun acc c=>10*acc+((c-48:Nat):Int)) a)),s])) /\
  ((cs.all fun c=>A7 (gD c) "0123456789")=false->∃Γ,eG (aZ 2) Ik (cs.map fun c=>M.T.str (gD c)) [.sh (.str x),.sh (.int a),s2]=some (.rt (.sh .cQ) Γ))
 |[],a,s2,_=>⟨fun _=>⟨s2,rfl⟩,fun h=>by cases h⟩
 |c::cs,a,s2,hc=>by
  have h0:=hc c (mem_cons_self ..);have e:=yJ c h0;have t:ar (ag xt (mV 2) (mC (.str "0123456789"))) [.sh (.str x),.sh (.int a),.sh (.str (gD c))]=some (!A7 (gD c) "0123456789", [.sh (.str x),.sh (.int a),.sh (.str (gD c))]):=rfl;by_cases q:48<=c/\c<=57
  ·rw [decide_eq_true q]at e;rw [e]at t;have st:Ik [.sh (.str x),.sh (.int a),.sh (.str (gD c))]=some (.nx [.sh (.str x),.sh (.int (10*a+((c-48:Nat):Int))),.sh (.str (gD c))]):=by
    refine aj (aA t rfl) ?_;refine eY (i:=1) (Γ1:=[.sh (.str x),.sh (.int a),.sh (.str (gD c))]) (t:=.int (10*a+((c-48:Nat):Int))) (au (r1:=.sh (.int (10*a))) (r2:=.sh (.int ((c-48:Nat):Int))) (Γ1:=[.sh (.str x),.sh (.int a),.sh (.str (gD c))]) rfl ?_ rfl);show(oW "0123456789" (gD c)).map _=_;rw [K4 q.1 q.2];rfl
   obtain⟨ih1,ih2⟩:=AG x cs (10*a+((c-48:Nat):Int)) (.sh (.str (gD c))) fun d hd=>hc d (mem_cons_of_mem _ hd);refine⟨fun h=>?_,fun h=>?_⟩
   ·rw [all_cons,e,Bool.true_and]at h;obtain⟨s,ih⟩:=ih1 h;exact⟨s,qi rfl st ih⟩
   ·rw [all_cons,e,Bool.true_and]at h;obtain⟨Γ,ih⟩:=ih2 h;exact⟨Γ,qi rfl st ih⟩
  ·rw [decide_eq_false q]at e;rw [e]at t;refine⟨fun h=>?_,fun h=>?_⟩
   ·rw [all_cons,e,Bool.false_and]at h
    cases h
   ·exact⟨_,zY rfl (cN (bS t (bO rfl)))⟩
theorem fold_cast:∀(cs:List Nat)(a:Nat),cs.foldl (fun(acc:Int) c=>10*acc+((c-48:Nat):Int)) (a:Int)=((cs.foldl (fun acc c=>acc*10+(c-48)) a:Nat):Int)
 |[],a=>rfl
 |c::cs,a=>by
  rw [foldl_cons,foldl_cons,<-fold_cast cs];congr 1;omega
theorem K5{cs:List Nat}(h:∀c∈cs,c<128)(q:(cs.all fun c=>A7 (gD c) "0123456789")=true):AllDigits cs:=fun c hc=>by
 have z:=all_eq_true.mp q c hc;rw [yJ c (h c hc)]at z;exact of_decide_eq_true z
theorem kz(x:Str)(h:asc x):(W0 x/\∃Γ,cj [.sh (.str x)]=some (.sh .cQ,Γ))\/∃n:Nat,n<1000000000/\x=cK n/\∃Γ,cj [.sh (.str x)]=some (.sh (.int n),Γ):=by
 obtain⟨hl,hc⟩:=h;have D6:x.length<=1000:=by omega
 have l:=len_str (x:=x) (Γ:=[.sh (.str x),.no,.no]) D6 rfl;have c1:ar (ag zi (bR gA (fE (mV 0) aD)) (mC (.int 1))) [.sh (.str x),.no,.no]=some (decide ((x.length:Int)<1),[.sh (.str x),.no,.no]):=aK (au l rfl rfl);have c2:ar (ag sE (bR gA (fE (mV 0) aD)) (mC (.int 9))) [.sh (.str x),.no,.no]=some (decide ((x.length:Int)>9),[.sh (.str x),.no,.no]):=aK (au l rfl rfl);have ch:=rM (x:=x) (Γ:=[.sh (.str x)]) (hi:=9) D6 rfl;have s:av 2 bV (aB (mV 0) (aB (mC (.str "0123456789")) aD)) [.sh (.str x)]=some (.sh (.bl (gK x "0123456789")),[.sh (.str x)]):=cH (np:=2) (cf:=bV) (n:=aB (mV 0) (aB (mC (.str "0123456789")) aD)) (Γ:=[.sh (.str x)]) (ts:=[.str x,.str "0123456789"]) rfl rfl (vA x "0123456789" D6);have Qv:(decide (1<=(x.length:Int))&&decide ((x.length:Int)<=9))=false\/gK x "0123456789" = false->W0 x:=fun q=>by
  have w:ba [.sh (.str x)]=some (.sh (.bl false),[.sh (.str x)]):=by
   generalize hb:(decide (1<=(x.length:Int))&&decide ((x.length:Int)<=9))=b at ch q
   cases b with
   |false=>exact cy (cN (bS (h8 (cq (aK ch))) (bO rfl)))
   |true =>
    have q:gK x "0123456789" = false:=q.elim (fun z=>by cases z) id;rw [q]at s;exact cy (cN (bS (h8 (ey (aK ch) (aK s))) (bO rfl)))
  exact w
 by_cases q1:(x.length:Int)<1
 ·rw [decide_eq_true q1]at c1;exact .inl ⟨Qv (.inl (by rw [decide_eq_false (by omega:¬1<=(x.length:Int))];rfl)),_,cy (cN (bS (mG c1) (bO rfl)))⟩
 rw [decide_eq_false q1]at c1;by_cases q2:(x.length:Int)>9
 ·rw [decide_eq_true q2]at c2;exact .inl ⟨Qv (.inl (by rw [decide_eq_false (by omega:¬(x.length:Int)<=9),Bool.and_false])),_,cy (cN (bS (eA c1 (mG c2)) (bO rfl)))⟩
 rw [decide_eq_false q2]at c2;rw [decide_eq_true (by omega:1<=(x.length:Int)),decide_eq_true (by omega:(x.length:Int)<=9)]at ch;have Qw:x.cps.toList.length=x.length:=length_toList;obtain⟨c,cs,hx⟩:∃c cs,x.cps.toList=c::cs:=by
  cases e:x.cps.toList with
  |nil =>
   rw [e]at Qw;have:x.length=0:=Qw.symm;omega
  |cons c cs=>exact⟨c,cs,rfl⟩
 have e0:∀Γ:M.G,Γ[0]?=some (.sh (.str x))->ag bC (mV 0) (mC (.int 0)) Γ=some (.sh (.str (gD c)),Γ):=fun Γ hΓ=>by
  refine au (r1:=.sh (.str x)) (Γ1:=Γ) ?_ rfl (Zq hl hx);unfold mV;rw [hΓ]
 have c3:ar (ag gW (ag bC (mV 0) (mC (.int 0))) (mC (.str "0"))) [.sh (.str x),.no,.no]=some (decide (gD c = "0"),[.sh (.str x),.no,.no]):=by
  have:=aK (au (g:=gW) (e0 [.sh (.str x),.no,.no] rfl) (show mC (.str "0") _=some (.sh (.str "0"),_) from rfl) (show gW (.str (gD c)) (.str "0")=some (.sh (.bl (xor false (decide (gD c = "0"))))) from rfl));rwa [false_xor]at this
 have c4:ar (ag zP (mV 0) (mC (.str "0"))) [.sh (.str x),.no,.no]=some (!decide (x = "0"),[.sh (.str x),.no,.no]):=by
  have:=aK (au (g:=zP) (r1:=.sh (.str x)) (r2:=.sh (.str "0")) (Γ:=[.sh (.str x),.no,.no]) (ma:=mV 0) (mb:=mC (.str "0")) rfl rfl (show zP (.str x) (.str "0")=some (.sh (.bl (xor true (decide (x = "0"))))) from rfl));rwa [true_xor]at this
 have loop:=AG x x.cps.toList 0 .no hc;have Oa:(x.cps.toList.all fun c=>A7 (gD c) "0123456789")=false->ar (ag sE (bR gA (fE (mV 0) aD)) (mC (.int 9))) [.sh (.str x),.no,.no]=some (false,[.sh (.str x),.no,.no]) ->
   dD (ar (ag gW (ag bC (mV 0) (mC (.int 0))) (mC (.str "0")))) (ar (ag zP (mV 0) (mC (.str "0")))) [.sh (.str x),.no,.no]=some (false,[.sh (.str x),.no,.no])->∃Γ,cj [.sh (.str x)]=some (.sh .cQ,Γ):=fun qa _ qc=>by
  obtain⟨Γ,lp⟩:=loop.2 qa;exact⟨Γ,cy (aj (aA (eA c1 (eA c2 qc)) rfl) (aj (eY rfl) (cN (oV (ts:=M.signs x) rfl lp))))⟩
 by_cases q3:gD c = "0" /\ x ≠ "0"
 ·rw [decide_eq_true q3.1]at c3;rw [decide_eq_false q3.2]at c4;refine .inl ⟨?_,_,cy (cN (bS (eA c1 (eA c2 (ey c3 c4))) (bO rfl)))⟩;generalize hd:gK x "0123456789" = b at s Qv
  cases b with
  |false=>exact Qv (.inr rfl)
  |true =>
   have w:ba [.sh (.str x)]=some (.sh (.bl false),[.sh (.str x)]):=by
    refine cy (aj (aA (h8 (ey (aK ch) (aK s))) rfl) (bO ?_));have a1:ag gW (mV 0) (mC (.str "0")) [.sh (.str x)]=some (.sh (.bl false),[.sh (.str x)]):=by
     refine au (r1:=.sh (.str x)) (r2:=.sh (.str "0")) rfl rfl ?_;show some (R.sh (.bl (xor false (decide (x = "0")))))=_;rw [decide_eq_false q3.2];rfl
    have a2:ag zP (ag bC (mV 0) (mC (.int 0))) (mC (.str "0")) [.sh (.str x)]=some (.sh (.bl false),[.sh (.str x)]):=by
     refine au (e0 [.sh (.str x)] rfl) (r2:=.sh (.str "0")) rfl ?_;show some (R.sh (.bl (xor true (decide (gD c = "0")))))=_;rw [decide_eq_true q3.1];rfl
    unfold zK;rw [a1];exact a2
   exact w
 ·have Zt:dD (ar (ag gW (ag bC (mV 0) (mC (.int 0))) (mC (.str "0")))) (ar (ag zP (mV 0) (mC (.str "0")))) [.sh (.str x),.no,.no]=some (false,[.sh (.str x),.no,.no]):=by
   by_cases z:gD c = "0"
   ·have z2:x = "0" := by
     by_cases z2:x = "0"
     ·exact z2
     ·exact absurd ⟨z,z2⟩ q3
    rw [decide_eq_true z]at c3;rw [decide_eq_true z2]at c4;exact ey c3 c4
   ·rw [decide_eq_false z]at c3;exact cq c3
  cases hd:gK x "0123456789" with
  |false=>exact .inl ⟨Qv (.inr hd),Oa hd c2 Zt⟩
  |true =>
   rw [hd]at s;obtain⟨s',lp⟩:=loop.1 hd;rw [show(x.cps.toList.foldl (fun(acc:Int) c=>10*acc+((c-48:Nat):Int)) 0)=((digitsVal x.cps.toList:Nat):Int) from fold_cast x.cps.toList 0]at lp;have ad:=K5 hc hd;have it:=intText_digits ad (by rw [hx];exact fun z=>nomatch z) (by omega);have nz:(∃r,x.cps.toList=48::r/\r≠[])->False:=fun⟨r,e,hr⟩=>by
    rw [hx]at e;have e1:c=48:=(List.cons.inj e).1;have e2:cs=r:=(List.cons.inj e).2;refine q3 ⟨by rw [e1];decide +kernel,fun z=>?_⟩;have:x.cps.toList=[48]:=by rw [z];decide +kernel
    rw [hx,e2]at this;exact hr (List.cons.inj this).2
   obtain⟨v1,v2⟩:=Ij x.cps.toList ad (by rw [hx];exact cons_ne_nil _ _) nz;have v3:digitsVal x.cps.toList<1000000000:=by
    have h1:x.cps.toList.length<=9:=by omega
    calc digitsVal x.cps.toList<10 ^ x.cps.toList.length:=v2
     _<=10 ^ 9:=Nat.pow_le_pow_right (by decide) h1
   exact .inr ⟨digitsVal x.cps.toList,v3,yI (by rw [gL,v1]),_,cy (aj (aA (eA c1 (eA c2 Zt)) rfl) (aj (eY rfl) (aj (oV (ts:=M.signs x) rfl lp) (bO rfl))))⟩
theorem vG(x:Str)(h:x.length<=1000):∃Γ,bz [.sh (.str x)]=some (.sh (.bl (aT x)),Γ):=by
 have l:=len_str (x:=x) (Γ:=[.sh (.str x)]) h rfl;have k:ar (ag kQ (mV 0) (av 0 cF aD)) [.sh (.str x)]=some (dq.any fun y=>y==x,[.sh (.str x)]) :=
  aK (au (r1:=.sh (.str x)) (r2:=.own (.lst (dq.map M.T.str))) rfl (mH (np:=0) (cf:=cF) (n:=aD) (Γ:=[.sh (.str x)]) (ts:=[]) rfl rfl DA) (DB x dq))
 have c1:ar (ag zi (bR gA (fE (mV 0) aD)) (mC (.int 1))) [.sh (.str x)]=some (decide ((x.length:Int)<1),[.sh (.str x)]):=aK (au l rfl rfl);have c2:ar (ag sE (bR gA (fE (mV 0) aD)) (mC (.int 8))) [.sh (.str x)]=some (decide ((x.length:Int)>8),[.sh (.str x)]):=aK (au l rfl rfl);have fin:=bO (np:=1) (mI (n:=fE (jh [none] (LI (mV 0)) (aZ 0) jK (ag kQ (mV 0) (mC (.str "abcdefghijklmnopqrstuvwxyz")))) aD) (uX (vz (cap:=[none]) (me:=ag kQ (mV 0) (mC (.str "abcdefghijklmnopqrstuvwxyz"))) (x:=x) (y := "abcdefghijklmnopqrstuvwxyz") (Γ:=[.sh (.str x)]) h rfl fun c=>⟨_,_,rfl,rfl⟩) rfl) (xG x "abcdefghijklmnopqrstuvwxyz"));by_cases q1:(x.length:Int)<1
 ·rw [decide_eq_true q1]at c1;have e:aT x=false:=by
   unfold aT;rw [decide_eq_false (by omega:¬1<=(x.length:Int))];rfl
  rw [e];exact⟨_,cy (cN (bS (mG c1) (bO rfl)))⟩
 ·rw [decide_eq_false q1]at c1;by_cases q2:(x.length:Int)>8
  ·rw [decide_eq_true q2]at c2;have e:aT x=false:=by
    unfold aT;rw [decide_eq_false (by omega:¬(x.length:Int)<=8),Bool.and_false];rfl
   rw [e];exact⟨_,cy (cN (bS (eA c1 (mG c2)) (bO rfl)))⟩
  ·rw [decide_eq_false q2]at c2;unfold aT;rw [decide_eq_true (by omega:1<=(x.length:Int)),decide_eq_true (by omega:(x.length:Int)<=8)];generalize hk:(dq.any fun y=>y==x)=b at k
   cases b with
   |true =>
    rw [Bool.not_true,Bool.and_false,Bool.and_false];exact⟨_,cy (cN (bS (eA c1 (eA c2 k)) (bO rfl)))⟩
   |false =>
    simp only [Bool.not_false,Bool.and_true,Bool.true_and];exact⟨_,cy (aj (aA (eA c1 (eA c2 k)) rfl) fin)⟩
def wd(ws:List Str)(p:Nat):Str:=(ws[p]?).getD ""
theorem qG{ws:List Str}{p:Nat}(h:wd ws p ≠ ""):ws[p]?=some (wd ws p)/\ws.drop p=wd ws p::ws.drop (p+1):=by
 unfold wd at h ⊢
 cases q:ws[p]? with
 |none=>rw [q]at h;exact absurd rfl h
 |some x =>
  refine⟨rfl,?_⟩;obtain⟨hl,e⟩:=List.getElem?_eq_some_iff.mp q;rw [List.drop_eq_getElem_cons hl,e];rfl
theorem EJ{ws:List Str}{p:Nat}(h:ws.length<=p):bU ws p [.no]=some (.sh (.str ""),p,[.no]):=by
 have e:aR 1 aS aD ws p [.no]=some (.sh (.bl true),p,[.no]):=by
  have:=ui ws p;rw [decide_eq_true h]at this;simp [aR,this]
 simp [bU,rH,gF,kT,Rv,tX,e,xP]
theorem Il{ws:List Str}{p:Nat}(h:ws.length<=p):bx ws p [.no]=some (.sh (.str ""),p+1,[.no,.sh (.str "")]):=by
 have e:aR 1 bU aD ws p [.no,.no]=some (.sh (.str ""),p,[.no,.no]):=by
  simp [aR,EJ h]
 simp [bx,rH,ib,kS,mM,e,Dt,kT,xP]
theorem Zu{ws:List Str}{p:Nat}{Γ:M.G}:aR 1 bx aD ws p Γ=some (.sh (.str (wd ws p)),p+1,Γ):=by
 by_cases h:p<ws.length
 ·have q:ws[p]?=some ws[p]:=getElem?_eq_getElem h;have e:wd ws p=ws[p]:=by unfold wd;rw [q];rfl
  rw [e];exact tk q
 ·have q:ws[p]?=none:=List.getElem?_eq_none (le_of_not_lt h);have e:wd ws p = "" := by unfold wd;rw [q];rfl
  rw [e];exact g6 rfl rfl (Il (le_of_not_lt h))
theorem K6:asc "" := ⟨by decide +kernel,by
 have:∀c∈(Str.ofString "").cps.toList,c<128:=by decide +kernel
 exact this⟩
theorem Cg{ws:List Str}(hw:∀x∈ws,asc x)(p:Nat):asc (wd ws p):=by
 unfold wd
 cases q:ws[p]? with
 |none=>exact K6
 |some x=>exact hw x (mem_of_getElem? q)
theorem uk{x:Str}(h:asc x):x.length<=1000:=le_trans h.1 (by decide)
theorem yN:aT "" = false/\dc aU "" = none/\dc aL "" = none:=by decide +kernel
theorem um{x:Str}(h:aT x=true):x ≠ "" := fun e=>by
 rw [e,yN.1]at h
 cases h
theorem L3{ws:List Str}(hw:∀x∈ws,asc x){p:Nat}(h:aT (wd ws p)=false):B2 2 dU ws p [.no]:=by
 have a:=Cg hw p;have e2:=iA (uk a) [.no,.sh (.str (wd ws p))] 1 rfl;rw [h]at e2;exact⟨p+1,[.no,.sh (.str (wd ws p))],gM (Γ1:=[.no,.no]) Zu,p+1,[.no,.sh (.str (wd ws p))],vB (h8 (b:=false) (aK e2)),wd ws p,rfl,repr_len a⟩
theorem AH{bp:List (Str×Int)}{x:Str}{i:Int}(h:dc bp x=some i):(x,i)∈bp:=by
 unfold dc at h;obtain⟨q,h1,h2⟩:=iE h;have:=List.find?_some h1;have e:q.1=x:=by simpa using this
 have m:=List.mem_of_find?_eq_some h1;rw [<-e,<-h2];exact m
theorem vH{x:Str}{i:Int}(h:dc aU x=some i):((x = "size" \/ x = "held")/\i=0)\/((x = "has" \/ x = "item")/\i=1):=by
 have all:∀q∈aU,((q.1 = "size" \/ q.1 = "held")/\q.2=0)\/((q.1 = "has" \/ q.1 = "item")/\q.2=1):=by decide +kernel
 exact all _ (AH h)
theorem vI{x:Str}{i:Int}(h:dc aL x=some i):x∈fZ/\i=2:=by
 have all:∀q∈aL,q.1∈fZ/\q.2=2:=by decide +kernel
 exact all _ (AH h)
def U2(d:Nat):RG:=iG 2 (ix d) (aB (ag M.jF (mV 2) (mC (.int 1))) aD)
theorem Ci{ws:List Str}{d p:Nat}{s0:Slot}(h:ix (d+1) ws p [.no,.sh (.int d)]):U2 (d+1) ws p [s0,.no,.sh (.int ((d+1:Nat):Int))]:=by
 have e1:((d+1:Nat):Int)-1=d:=by omega
 refine⟨[.int d],[s0,.no,.sh (.int ((d+1:Nat):Int))],?_,rfl,h⟩;simp only [Qo,LS,Y7,Y6,Qn];simp [e1]
theorem xN{ws:List Str}{p:Nat}{n d:Nat}:tP (dD (ar (ag sE (mV 1) (mC (.int 0)))) (ar (ag gW (mV 2) (mC (.int 0))))) ws p [.no,.sh (.int (n:Int)),.sh (.int (d:Int))]=some (decide (0<n/\d=0),p,[.no,.sh (.int (n:Int)),.sh (.int (d:Int))]):=by
 refine vB ?_;by_cases h0:(0:Int)<n
 ·have h1:0<n:=by omega
  refine ey (aK (au rfl rfl (by show sE (.int (n:Int)) (.int 0)=_;rw [HU,decide_eq_true h0]))) (aK (au rfl rfl ?_));show gW (.int (d:Int)) (.int 0)=_;rw [Aw];by_cases z:d=0
  ·rw [decide_eq_true (show(d:Int)=0 by omega),decide_eq_true ⟨h1,z⟩]
  ·rw [decide_eq_false (show ¬(d:Int)=0 by omega),decide_eq_false (fun q=>z q.2)]
 ·have h1:¬0<n:=by omega
  rw [decide_eq_false (fun q=>h1 q.1)];exact cq (aK (au rfl rfl (by show sE (.int (n:Int)) (.int 0)=_;rw [HU,decide_eq_false h0])))
theorem vJ{ws:List Str}{p n:Nat}{rc:yA}{g:RG}(h:0<n):B2 3 (cO rc g) ws p [.no,.sh (.int (n:Int)),.sh (.int ((0:Nat):Int))]:=by
 have t:=xN (ws:=ws) (p:=p) (n:=n) (d:=0);rw [decide_eq_true ⟨h,rfl⟩]at t;exact .inl ⟨_,_,t,trivial⟩
theorem xO{ws:List Str}{d p n:Nat}(hn:n<=2)(h:rL (aZ 0) (Oz (d+1)) (U2 (d+1)) ws [.no,.no,.sh (.int ((d+1:Nat):Int))] p (M.upTo 0 n) []):B2 3 (cO (cC (d+1)) (ix (d+1))) ws p [.no,.sh (.int (n:Int)),.sh (.int ((d+1:Nat):Int))]:=by
 have t:=xN (ws:=ws) (p:=p) (n:=n) (d:=d+1);rw [decide_eq_false (fun q=>by omega)]at t;have e1:A6 (fE (mV 1) aD) [.no,.sh (.int (n:Int)),.sh (.int ((d+1:Nat):Int))]=some (M.upTo 0 n,[.no,.sh (.int (n:Int)),.sh (.int ((d+1:Nat):Int))]) :=
  mU (j:=(n:Int)) rfl (by omega) (by omega) (by simp)
 exact .inr ⟨p,[.no,.sh (.int (n:Int)),.sh (.int ((d+1:Nat):Int))],fq t rfl,M.upTo 0 n,[.no,.sh (.int (n:Int)),.sh (.int ((d+1:Nat):Int))],e1,h⟩
theorem fj{ws:List Str}{d p:Nat}{pg:RG} (h:Jb (Hy true (tP (ar (md aU (mV 2)))) (Jb (iG 1 (B2 2 dU) aD) (rK (mM 3 (aR 1 d6 aD)) (HB (dS (aB (mV 2) (aB (mV 3) aD))) (iG 3 pg (aB (qo aU (mV 2)) (aB (mV 1) aD)))))))
 (rK (A8 (tP (ar (md aU (mV 2)))) IZ lS) (Jb (Hy true (tP (ar (md aL (mV 2)))) (HB (dS (aB (mV 2) aD)) (iG 3 pg (aB (qo aL (mV 2)) (aB (mV 1) aD)))))
 (rK (A8 (tP (ar (md aL (mV 2)))) IZ lS) (Hy false (tP (ar (av 1 fi (aB (mV 2) aD)))) (Qm 2))))) ws (p+1) [.no,.sh (.int (d:Int)),.sh (.str (wd ws p)),.no]):B2 4 (cU pg) ws p [.no,.sh (.int (d:Int))] :=
 ⟨p+1,[.no,.sh (.int (d:Int)),.sh (.str (wd ws p)),.no],gM (Γ1:=[.no,.sh (.int (d:Int)),.no,.no]) Zu,h⟩
theorem total(ws:List Str)(hw:∀x∈ws,asc x):∀(d p:Nat),(∃(e:Ex) (rest:List Str),e.ok d/\ws.drop p=e.words++rest)\/ix (d+1) ws p [.no,.sh (.int (d:Int))]:=by
 intro d
 induction d with
 |zero =>
  intro p;have a:=Cg hw p
  cases hL:dc aU (wd ws p)with
  |some i =>
   have hx:wd ws p ≠ "" := fun e=>by rw [e,yN.2.1]at hL;cases hL
   obtain⟨x1,x2⟩:=qG hx
   cases hn:aT (wd ws (p+1))with
   |false=>exact .inr (fj (.inl ⟨p+1,_,AD (by rw [hL];rfl),.inl ⟨[],_,rfl,rfl,L3 hw hn⟩⟩))
   |true =>
    obtain⟨y1,y2⟩:=qG (um hn);rcases vH hL with⟨h1,rfl⟩|⟨h1,rfl⟩
    ·exact .inl ⟨.fJ (wd ws p) (wd ws (p+1)),ws.drop (p+1+1),⟨h1,hn⟩,by rw [x2,y2];rfl⟩
    ·exact .inr (fj (.inl ⟨p+1,_,AD (by rw [hL];rfl),.inr ⟨p+1+1,[.no,.sh (.int ((0:Nat):Int)),.sh (.str (wd ws p)),.sh (.str (wd ws (p+1)))],gM (UW y1 hn),_,_,rfl,[.int 1,.int ((0:Nat):Int)],[.no,.sh (.int ((0:Nat):Int)),.sh (.str (wd ws p)),.sh (.str (wd ws (p+1)))],cM (n9 (r:=.sh (.str (wd ws p))) rfl rfl hL) rfl,rfl,vJ (n:=1) (by decide)⟩⟩))
  |none =>
   cases hW:dc aL (wd ws p)with
   |some i =>
    obtain⟨h1,rfl⟩:=vI hW;exact .inr (fj (.inr ⟨p+1,_,fq (AD (by rw [hL];rfl)) rfl,.inl ⟨p+1,[.no,.sh (.int ((0:Nat):Int)),.sh (.str (wd ws p)),.no],AD (by rw [hW];rfl),_,_,rfl,[.int 2,.int ((0:Nat):Int)],[.no,.sh (.int ((0:Nat):Int)),.sh (.str (wd ws p)),.no],cM (n9 (r:=.sh (.str (wd ws p))) rfl rfl hW) rfl,rfl,vJ (n:=2) (by decide)⟩⟩))
   |none =>
    cases hn:aT (wd ws p)with
    |true=>exact .inl ⟨.name (wd ws p),ws.drop (p+1),hn,(qG (um hn)).2⟩
    |false =>
     rcases kz (wd ws p) a with⟨w0,_⟩|⟨n,n1,n2,_⟩
     ·have e2:=iA (uk a) [.no,.sh (.int ((0:Nat):Int)),.sh (.str (wd ws p)),.no] 2 rfl;rw [hn]at e2;exact .inr (fj (.inr ⟨p+1,_,fq (AD (by rw [hL];rfl)) rfl,.inr ⟨p+1,[.no,.sh (.int ((0:Nat):Int)),.sh (.str (wd ws p)),.no],fq (AD (by rw [hW];rfl)) rfl,p+1,_,vB (aK e2),wd ws p,rfl,wd ws p,rfl,w0,repr_len a⟩⟩))
     ·have ne:wd ws p ≠ "" := fun e=>by
       have:=(ku n1).2;rw [<-n2,e]at this;exact absurd this (by decide +kernel)
      exact .inl ⟨.num n,ws.drop (p+1),n1,by rw [(qG ne).2,n2];rfl⟩
 |succ d ih =>
  intro p;have a:=Cg hw p
  cases hL:dc aU (wd ws p)with
  |some i =>
   have hx:wd ws p ≠ "" := fun e=>by rw [e,yN.2.1]at hL;cases hL
   obtain⟨x1,x2⟩:=qG hx
   cases hn:aT (wd ws (p+1))with
   |false=>exact .inr (fj (.inl ⟨p+1,_,AD (by rw [hL];rfl),.inl ⟨[],_,rfl,rfl,L3 hw hn⟩⟩))
   |true =>
    obtain⟨y1,y2⟩:=qG (um hn);rcases vH hL with⟨h1,rfl⟩|⟨h1,rfl⟩
    ·exact .inl ⟨.fJ (wd ws p) (wd ws (p+1)),ws.drop (p+1+1),⟨h1,hn⟩,by rw [x2,y2];rfl⟩
    ·rcases ih (p+1+1)with⟨e,rest,he,hr⟩|hb
     ·exact .inl ⟨.dw (wd ws p) (wd ws (p+1)) e,rest,⟨h1,hn,he⟩,by rw [x2,y2,hr];rfl⟩
     ·exact .inr (fj (.inl ⟨p+1,_,AD (by rw [hL];rfl),.inr ⟨p+1+1,[.no,.sh (.int ((d+1:Nat):Int)),.sh (.str (wd ws p)),.sh (.str (wd ws (p+1)))],gM (UW y1 hn),_,_,rfl,[.int 1,.int ((d+1:Nat):Int)],[.no,.sh (.int ((d+1:Nat):Int)),.sh (.str (wd ws p)),.sh (.str (wd ws (p+1)))],cM (n9 (r:=.sh (.str (wd ws p))) rfl rfl hL) rfl,rfl,xO (n:=1) (by decide) ⟨_,rfl,.inl (Ci hb)⟩⟩⟩))
  |none =>
   cases hW:dc aL (wd ws p)with
   |some i =>
    obtain⟨h1,rfl⟩:=vI hW;have hx:wd ws p ≠ "" := fun e=>by rw [e,yN.2.2]at hW;cases hW
    obtain⟨x1,x2⟩:=qG hx;have fin:rL (aZ 0) (Oz (d+1)) (U2 (d+1)) ws [.no,.no,.sh (.int ((d+1:Nat):Int))] (p+1) (M.upTo 0 2) []->ix (d+1+1) ws p [.no,.sh (.int ((d+1:Nat):Int))]:=fun hc =>
     fj (.inr ⟨p+1,_,fq (AD (by rw [hL];rfl)) rfl,.inl ⟨p+1,[.no,.sh (.int ((d+1:Nat):Int)),.sh (.str (wd ws p)),.no],AD (by rw [hW];rfl),_,_,rfl,[.int 2,.int ((d+1:Nat):Int)],[.no,.sh (.int ((d+1:Nat):Int)),.sh (.str (wd ws p)),.no],cM (n9 (r:=.sh (.str (wd ws p))) rfl rfl hW) rfl,rfl,xO (n:=2) (by decide) hc⟩⟩)
    rcases ih (p+1)with⟨e,rest,he,hr⟩|hb
    ·have zO:ws.drop (p+1+e.words.length)=rest:=by
      rw [<-drop_drop,hr];simp
     rcases ih (p+1+e.words.length)with⟨f,L4,hf,hr3⟩|hb
     ·refine .inl ⟨.work (wd ws p) e f,L4,⟨h1,he,hf⟩,?_⟩;rw [x2,hr,<-zO,hr3];show _=(wd ws p::(e.words++f.words))++L4;simp
     ·exact .inr (fin ⟨_,rfl,.inr ⟨_,_,_,LX (s0:=.sh _) (oa ws e d he) hr,by decide,_,rfl,.inl (Ci hb)⟩⟩)
    ·exact .inr (fin ⟨_,rfl,.inl (Ci hb)⟩)
   |none =>
    cases hn:aT (wd ws p)with
    |true=>exact .inl ⟨.name (wd ws p),ws.drop (p+1),hn,(qG (um hn)).2⟩
    |false =>
     rcases kz (wd ws p) a with⟨w0,_⟩|⟨n,n1,n2,_⟩
     ·have e2:=iA (uk a) [.no,.sh (.int ((d+1:Nat):Int)),.sh (.str (wd ws p)),.no] 2 rfl;rw [hn]at e2;exact .inr (fj (.inr ⟨p+1,_,fq (AD (by rw [hL];rfl)) rfl,.inr ⟨p+1,[.no,.sh (.int ((d+1:Nat):Int)),.sh (.str (wd ws p)),.no],fq (AD (by rw [hW];rfl)) rfl,p+1,_,vB (aK e2),wd ws p,rfl,wd ws p,rfl,w0,repr_len a⟩⟩))
     ·have ne:wd ws p ≠ "" := fun e=>by
       have:=(ku n1).2;rw [<-n2,e]at this;exact absurd this (by decide +kernel)
      exact .inl ⟨.num n,ws.drop (p+1),n1,by rw [(qG ne).2,n2];rfl⟩
theorem Im{x:Str}{ws:List Str}(hs:d5 x " " = some ws)(hw:∀y∈ws,asc y)(h:∀e:Ex,e.ok 5->e.words≠ws):o3 [x]:=by
 refine⟨x,ws,rfl,hs,?_⟩;rcases total ws hw 5 0 with⟨e,rest,he,hr⟩|hb
 ·rw [List.drop_zero]at hr;obtain⟨Γ,hv⟩:=oa ws e 5 he 0 rest (by rw [List.drop_zero];exact hr);rw [zero_add]at hv;have e1:dn ws 0 [.no]=some (.sh e.tree,e.words.length,[.no]):=o4 (jO (g6 (ts:=[.int 5]) rfl rfl hv));have hrn:rest≠[]:=fun z=>by
   rw [z,append_nil]at hr;exact h e he hr.symm
  have yr:¬ws.length<=e.words.length:=by
   rw [hr,length_append];have:=List.length_pos_iff.mpr hrn;omega
  have q:ws[e.words.length]?=some ws[e.words.length]:=getElem?_eq_getElem (Nat.lt_of_not_le yr);refine .inr ⟨e.words.length,[.sh (.str x),.no,.sh e.tree],gM (Γ1:=[.sh (.str x),.no,.no]) (g6 rfl rfl e1),[],[.sh (.str x),.no,.sh e.tree],rfl,rfl,e.words.length,[.no,.no],?_,e.words.length,[.no,.sh (.str ws[e.words.length])],gM (Γ1:=[.no,.no]) (g6 rfl rfl (Az q)),_,rfl,repr_len (hw _ (getElem_mem _))⟩;have ov:=ui ws e.words.length;rw [decide_eq_false yr]at ov;have e9:aR 1 aS aD ws e.words.length [.no,.no]=some (.sh (.bl false),e.words.length,[.no,.no]):=g6 (ts:=[]) rfl rfl ov;unfold tN tX;show((aR 1 aS aD ws e.words.length [.no,.no]).bind _).map _=_;rw [e9];rfl
 ·exact .inl ⟨[],_,rfl,rfl,[.int 5],_,rfl,rfl,hb⟩
abbrev Pl:=List (Nat×Bool)
def wJ(x:Nat×Bool):M.T:=.tup [.int (x.1:Int),.bl x.2]
def pt(q:Pl):List M.T:=q.reverse.map wJ
theorem og(x:Nat×Bool)(q:Pl):pt (x::q)=pt q++[wJ x]:=by
 unfold pt;rw [reverse_cons,map_append];rfl
theorem Cj(q:Pl):(pt q).length=q.length:=by
 unfold pt;rw [length_map,length_reverse]
theorem Io:∀q:Pl,yq (q.map wJ)=true/\PyData.depthAll (yp (q.map wJ))<=1
 |[]=>⟨rfl,by decide⟩
 |x::q=>by
  obtain⟨h1,h2⟩:=Io q;refine⟨?_,?_⟩
  ·show(true&&yq (q.map wJ))=true;rw [h1];rfl
  ·show max 1 (PyData.depthAll (yp (q.map wJ)))<=1;omega
theorem ne_nil(q:Pl):zP (.lst (pt q)) (.lst [])=some (.sh (.bl (!q.isEmpty))):=by
 obtain⟨h1,h2⟩:=Io q.reverse;have d1:(toD (.lst (pt q))).depth<=60:=by
  show PyData.depthAll (yp (q.reverse.map wJ))+1<=60;omega
 have ok:Eg (.lst (pt q))=true:=h1;have e:eqT (.lst (pt q)) (.lst [])=q.isEmpty:=by
  cases q with
  |nil=>rfl
  |cons x q =>
   rw [og]
   cases z:pt q with
   |nil=>rfl
   |cons t ts=>rfl
 show(if(Eg (.lst (pt q))&&Eg (.lst [])&&decide ((toD (.lst (pt q))).depth<=60)&&decide ((toD (.lst [])).depth<=60))=true then some (R.sh (.bl (xor true (eqT (.lst (pt q)) (.lst [])))))else none)=_;rw [ok,decide_eq_true d1,if_pos (by decide),e,true_xor]
theorem K7(ts:List M.T)(t:M.T):bC (.lst (ts++[t])) (.int (-1))=some (.sh t):=by
 have e:lN (ts++[t]) (-1)=some t:=by
  unfold lN BA;rw [if_neg (by decide),if_pos (by rw [length_append];show -((ts.length+1:Nat):Int)<=-1;omega)];have:((-1:Int)+((ts++[t]).length:Nat)).toNat=ts.length:=by
   rw [length_append];show((-1:Int)+((ts.length+1:Nat):Int)).toNat=_;omega
  rw [this];simp
 show(match (lN (ts++[t]) (-1)).map R.sh with|some r=>some r|none=>yw _ _)=_;rw [e];rfl
def gN:Pl->Bool
 |(_,b)::_=>b
 |[]=>false
theorem K8(q:Pl)(s0 s2 s3 s4:Slot):bD 3 (jd (ag zP (mV 1) (di aD)) (ag bC (ag bC (mV 1) (GF (mC (.int 1)))) (mC (.int 1)))) [s0,.own (.lst (pt q)),s2,s3,s4]=some (.nx [s0,.own (.lst (pt q)),s2,.sh (.bl (gN q)),s4]):=by
 have e1:ag zP (mV 1) (di aD) [s0,.own (.lst (pt q)),s2,s3,s4]=some (.sh (.bl (!q.isEmpty)),[s0,.own (.lst (pt q)),s2,s3,s4]):=au (r1:=.bor 1 (.lst (pt q))) (r2:=.own (.lst [])) rfl rfl (ne_nil q)
 cases q with
 |nil=>exact eY (Γ1:=[s0,.own (.lst (pt [])),s2,s3,s4]) (qh e1)
 |cons x q =>
  refine eY (Γ1:=[s0,.own (.lst (pt (x::q))),s2,s3,s4]) (qg e1 (au (r1:=.sh (wJ x)) (r2:=.sh (.int 1)) (au (r1:=.bor 1 (.lst (pt (x::q)))) (r2:=.sh (.int (-1))) rfl rfl ?_) rfl ?_))
  ·show bC (.lst (pt (x::q))) (.int (-1))=_;rw [og];exact K7 _ _
  ·exact Qt _ _ _
theorem K9(x:Str)(ys:List Str):kQ (.str x) (.tup (ys.map M.T.str))=some (.sh (.bl (ys.any fun y=>y==x))):=by
 show(strsOf (ys.map M.T.str)).map _=_;rw [jo];rfl
def EK(w:Str):Prop:=∃n:Nat,n<1000000000/\w=cK n
open Classical in
def bA(w:Str)(q:Pl):Option Pl :=
 if w = "size" \/ w = "held" then(match q with|(_,true)::r=>some ((0,false)::r)|_=>none)
 else if w = "has" \/ w = "item" then(match q with|(_,true)::(e,_)::r=>some ((e+1,false)::r)|_=>none)
 else if w∈fZ then(match q with|(d,_)::(e,_)::r=>some ((max d e+1,false)::r)|_=>none)
 else if aT w=true then some ((0,true)::q)else if EK w then some ((0,false)::q)else none
def RJ:MS:=(bo (bD 3 (jd (ag zP (mV 1) (di aD)) (ag bC (ag bC (mV 1) (GF (mC (.int 1)))) (mC (.int 1))))) (jG (dD (ar (ag kQ (mV 2) (dS (aB (mC (.str "size")) (aB (mC (.str "held")) aD))))) (ar (mV 3))) (B3 1 (-1) (dS (aB (mC (.int 0)) (aB (mC (.bl false)) aD)))) (jG (dD (ar (ag kQ (mV 2) (dS (aB (mC (.str "has")) (aB (mC (.str "item")) aD))))) (dD (ar (mV 3)) (ar (ag sE (bR gA (fE (mV 1) aD)) (mC (.int 1)))))) (bo (C2 (jH 1)) (dN 1 (dS (tQ (d9 bf (d9 wt (jH 1) (mC (.int 0))) (mC (.int 1))) (mC (.bl false)))))) (jG (dD (ar (ag kQ (mV 2) (dS (kl ["+", "-", "*", "div", "rem", "<", "="])))) (ar (ag sE (bR gA (fE (mV 1) aD)) (mC (.int 1))))) (bo (LQ 4 (d9 wt (jH 1) (mC (.int 0)))) (dN 1 (dS (tQ (d9 bf (bR sG (tQ (mV 4) (d9 wt (jH 1) (mC (.int 0))))) (mC (.int 1))) (mC (.bl false)))))) (jG (jX (ar (av 1 bz (aB (mV 2) aD))) (ar (ag xf (av 1 cj (aB (mV 2) aD)) (mC .cQ)))) (dN 1 (dS (aB (mC (.int 0)) (aB (av 1 bz (aB (mV 2) aD)) aD)))) (dt 1 (mC (.bl false))))))))
theorem La(ys:List Str)(x:Str):(ys.any fun y=>y==x)=decide (x∈ys):=by
 cases h:ys.any fun y=>y==x with
 |true =>
  obtain⟨y,hy,e⟩:=any_eq_true.mp h;have e:y=x:=by simpa using e
  rw [e]at hy;exact(decide_eq_true hy).symm
 |false =>
  refine(decide_eq_false fun hm=>?_).symm;have:=any_eq_false.mp h x hm;exact this (by simp)
theorem qH{w a b:Str}:decide (w∈[a,b])=decide (w=a\/w=b):=by simp
section
variable {s0 s3 s4:Slot}{w:Str}{q:Pl}{bb:Bool}
theorem Ob(ys:List Str){m:MA}(hm:∀Γ,m Γ=some (ys.map M.T.str,Γ))(hl:ys.length<=1000)(Γ:M.G)(h2:Γ[2]?=some (.sh (.str w))):ar (ag kQ (mV 2) (dS m)) Γ=some (decide (w∈ys),Γ):=by
 rw [<-La];refine aK (au (r1:=.sh (.str w)) (Γ1:=Γ) ?_ (mJ (hm Γ) (by rw [length_map];exact hl)) (K9 w ys));unfold mV;rw [h2]
theorem Qx(hl:q.length<=900)(s2:Slot):ar (ag sE (bR gA (fE (mV 1) aD)) (mC (.int 1))) [s0,.own (.lst (pt q)),s2,s3,s4]=some (decide (1<q.length),[s0,.own (.lst (pt q)),s2,s3,s4]):=by
 have e:bR gA (fE (mV 1) aD) [s0,.own (.lst (pt q)),s2,s3,s4]=some (.sh (.int (q.length:Int)),[s0,.own (.lst (pt q)),s2,s3,s4]):=by
  refine mI (ts:=[.lst (pt q)]) rfl ?_;show some (R.sh (.int ((pt q).length:Int)))=_;rw [Cj]
 refine aK (au e (r2:=.sh (.int 1)) rfl ?_);show sE (.int (q.length:Int)) (.int 1)=_;rw [HU];congr 3;by_cases z:1<q.length
 ·rw [decide_eq_true z,decide_eq_true (by omega)]
 ·rw [decide_eq_false z,decide_eq_false (by omega)]
end
theorem Ip{x:Nat×Bool}{q:Pl}{s0 s2 s3 s4:Slot}:jH 1 [s0,.own (.lst (pt (x::q))),s2,s3,s4]=some (.sh (wJ x),[s0,.own (.lst (pt q)),s2,s3,s4]):=by
 rw [og];show((pt q++[wJ x])[(pt q++[wJ x]).length-1]?).map (fun t=>(R.sh t,[s0,Slot.own (.lst (pt q++[wJ x]).dropLast),s2,s3,s4]))=_;rw [List.dropLast_concat];have:(pt q++[wJ x])[(pt q++[wJ x]).length-1]?=some (wJ x):=by simp
 rw [this];rfl
theorem yO{x:Nat×Bool}{q:Pl}{s0 s2 s3 s4:Slot}:d9 wt (jH 1) (mC (.int 0)) [s0,.own (.lst (pt (x::q))),s2,s3,s4]=some (.sh (.int (x.1:Int)),[s0,.own (.lst (pt q)),s2,s3,s4]):=by
 unfold d9;rw [Ip];rfl
theorem Ck{x:Nat×Bool}{q q':Pl}{m:MX}{s0 s2 s3 s4:Slot}(hl:q'.length<=900)(h:m [s0,.own (.lst (pt q)),s2,s3,s4]=some (.sh (wJ x),[s0,.own (.lst (pt q')),s2,s3,s4])):dN 1 m [s0,.own (.lst (pt q)),s2,s3,s4]=some (.nx [s0,.own (.lst (pt (x::q'))),s2,s3,s4]):=by
 rw [og];refine Nm (Γ1:=[s0,.own (.lst (pt q')),s2,s3,s4]) rfl h rfl ?_;rw [Cj];exact eL (by omega)
theorem Lb{s0 s3 s4:Slot}{w:Str}{q:Pl}(hw:asc w)(hl:q.length<=900):(∃q' Iq Ir,bA w q=some q'/\RJ [s0,.own (.lst (pt q)),.sh (.str w),s3,s4]=some (.nx [s0,.own (.lst (pt q')),.sh (.str w),Iq,Ir]))\/(bA w q=none/\∃Γ,RJ [s0,.own (.lst (pt q)),.sh (.str w),s3,s4]=some (.rt (.sh (.bl false)) Γ)):=by
 have b1:=K8 q s0 (.sh (.str w)) s3 s4;have t1:=Ob (w:=w) ["size", "held"] (m:=aB (mC (.str "size")) (aB (mC (.str "held")) aD)) (fun Γ=>rfl) (by decide) [s0,.own (.lst (pt q)),.sh (.str w),.sh (.bl (gN q)),s4] rfl;have t2:=Ob (w:=w) ["has", "item"] (m:=aB (mC (.str "has")) (aB (mC (.str "item")) aD)) (fun Γ=>rfl) (by decide) [s0,.own (.lst (pt q)),.sh (.str w),.sh (.bl (gN q)),s4] rfl;have t3:=Ob (w:=w) fZ (m:=kl ["+", "-", "*", "div", "rem", "<", "="]) (fun Γ=>rfl) (by decide) [s0,.own (.lst (pt q)),.sh (.str w),.sh (.bl (gN q)),s4] rfl;have t4:=Qx (s0:=s0) (s3:=.sh (.bl (gN q))) (s4:=s4) hl (.sh (.str w));have tb:ar (mV 3) [s0,.own (.lst (pt q)),.sh (.str w),.sh (.bl (gN q)),s4]=some (gN q,[s0,.own (.lst (pt q)),.sh (.str w),.sh (.bl (gN q)),s4]):=rfl;have noName:(w = "size" \/ w = "held")\/(w = "has" \/ w = "item")\/w∈fZ->aT w=false/\W0 w/\¬EK w:=fun h=>by
  have nb:aT w=false:=by
   rcases h with(rfl|rfl)|(rfl|rfl)|h
   ·decide +kernel
   ·decide +kernel
   ·decide +kernel
   ·decide +kernel
   ·have:∀w∈fZ,aT w=false:=by decide +kernel
    exact this w h
  have nn:¬EK w:=fun⟨n,_,e⟩=>by
   obtain⟨a1,a2,_⟩:=Cb n;rw [<-e]at a1 a2;rcases h with(rfl|rfl)|(rfl|rfl)|h
   ·rw [nY]at a1;cases a1
   ·rw [nZ]at a1;cases a1
   ·rw [qC]at a1;cases a1
   ·rw [n6]at a1;cases a1
   ·rw [(qD w h).2]at a2;cases a2
  refine⟨nb,?_,nn⟩;rcases kz w hw with⟨w0,_⟩|⟨n,n1,n2,_⟩
  ·exact w0
  ·exact absurd ⟨n,n1,n2⟩ nn
 -- Fg last branch
 obtain⟨Γn,hn⟩:=vG w (uk hw);have cn:av 1 bz (aB (mV 2) aD) [s0,.own (.lst (pt q)),.sh (.str w),.sh (.bl (gN q)),s4]=some (.sh (.bl (aT w)),[s0,.own (.lst (pt q)),.sh (.str w),.sh (.bl (gN q)),s4]):=cH (np:=1) (ts:=[.str w]) rfl rfl hn;have L5:∀b,(aT w=true\/EK w)->aT w=b->∃q' Iq Ir,q'=(0,b)::q/\(jG (jX (ar (av 1 bz (aB (mV 2) aD))) (ar (ag xf (av 1 cj (aB (mV 2) aD)) (mC .cQ)))) (dN 1 (dS (aB (mC (.int 0)) (aB (av 1 bz (aB (mV 2) aD)) aD)))) (dt 1 (mC (.bl false)))) [s0,.own (.lst (pt q)),.sh (.str w),.sh (.bl (gN q)),s4]=some (.nx [s0,.own (.lst (pt q')),.sh (.str w),Iq,Ir]):=fun b h hb=>by
  refine⟨_,.sh (.bl (gN q)),s4,rfl,?_⟩;have ap:=Ck (x:=(0,b)) (q:=q) (q':=q) (m:=dS (aB (mC (.int 0)) (aB (av 1 bz (aB (mV 2) aD)) aD))) (s0:=s0) (s2:=.sh (.str w)) (s3:=.sh (.bl (gN q))) (s4:=s4) hl (by rw [<-hb];exact mJ (ts:=[.int 0,.bl (aT w)]) (cM (r:=.sh (.int 0)) rfl (cM cn rfl)) (by simp));rcases h with h|⟨n,n1,n2⟩
  ·rw [h]at cn;exact bS (mG (aK cn)) ap
  ·cases RH:aT w with
   |true =>
    rw [RH]at cn;exact bS (mG (aK cn)) ap
   |false =>
    rw [RH]at cn;rcases kz w hw with⟨w0,_⟩|⟨m,m1,m2,Γm,hm⟩
    ·have:=sX n1;rw [<-n2]at this;rw [show ba [.sh (.str w)]=_ from w0]at this
     cases this
    ·exact bS (eA (b:=true) (aK cn) (aK (au (r1:=.sh (.int (m:Int))) (r2:=.sh .cQ) (cH (np:=1) (ts:=[.str w]) rfl rfl hm) rfl rfl))) ap
 have DJ:aT w=false->¬EK w->∃Γ,(jG (jX (ar (av 1 bz (aB (mV 2) aD))) (ar (ag xf (av 1 cj (aB (mV 2) aD)) (mC .cQ)))) (dN 1 (dS (aB (mC (.int 0)) (aB (av 1 bz (aB (mV 2) aD)) aD)))) (dt 1 (mC (.bl false)))) [s0,.own (.lst (pt q)),.sh (.str w),.sh (.bl (gN q)),s4]=some (.rt (.sh (.bl false)) Γ):=fun h h2=>by
  rw [h]at cn;rcases kz w hw with⟨w0,Γm,hm⟩|⟨m,m1,m2,_⟩
  ·exact⟨_,aA (eA (b:=false) (aK cn) (aK (au (r1:=.sh .cQ) (r2:=.sh .cQ) (cH (np:=1) (ts:=[.str w]) rfl rfl hm) rfl rfl))) (bO rfl)⟩
  ·exact absurd ⟨m,m1,m2⟩ h2
 by_cases c1:w = "size" \/ w = "held"
 ·obtain⟨n1,n2,n3⟩:=noName (.inl c1);have c2:¬(w = "has" \/ w = "item"):=by
   rcases c1 with rfl|rfl<;>decide +kernel
  have c3:¬w∈fZ:=by
   rcases c1 with rfl|rfl<;>decide +kernel
  rw [qH,decide_eq_true c1]at t1;rw [qH,decide_eq_false c2]at t2;rw [decide_eq_false c3]at t3
  cases hb:gN q with
  |true =>
   rw [hb]at b1 t1 tb
   cases q with
   |nil=>cases hb
   |cons x r =>
    obtain⟨d,b⟩:=x
    cases(show b=true from hb)
    refine .inl ⟨(0,false)::r,.sh (.bl true),s4,by unfold bA;rw [if_pos c1],?_⟩;refine aj b1 (bS (ey t1 tb) ?_);rw [og,og];show(BA (pt r++[wJ (d,true)]).length (-1)).map (fun j=>Res.nx [s0,Slot.own (.lst ((pt r++[wJ (d,true)]).set j (.tup [.int 0,.bl false]))),.sh (.str w),.sh (.bl true),s4])=_;have e:BA (pt r++[wJ (d,true)]).length (-1)=some (pt r).length:=by
     unfold BA;rw [if_neg (by decide),if_pos (by rw [length_append];show -(((pt r).length+1:Nat):Int)<=-1;omega)];congr 1;rw [length_append];show((-1:Int)+(((pt r).length+1:Nat):Int)).toNat=_;omega
    rw [e];simp [wJ]
  |false =>
   rw [hb]at b1 t1 tb t2 t3;obtain⟨Γ,hL⟩:=DJ n1 n3;rw [hb]at hL;refine .inr ⟨?_,Γ,aj b1 (aA (ey t1 tb) (aA (cq t2) (aA (cq t3) hL)))⟩;unfold bA;rw [if_pos c1]
   cases q with
   |nil=>rfl
   |cons x r =>
    obtain⟨d,b⟩:=x
    cases(show b=false from hb)
    rfl
 ·rw [qH,decide_eq_false c1]at t1;by_cases c2:w = "has" \/ w = "item"
  ·obtain⟨n1,n2,n3⟩:=noName (.inr (.inl c2));have c3:¬w∈fZ:=by
    rcases c2 with rfl|rfl<;>decide +kernel
   rw [qH,decide_eq_true c2]at t2;rw [decide_eq_false c3]at t3;by_cases hq:gN q=true/\1<q.length
   ·obtain⟨hb,hlen⟩:=hq
    cases q with
    |nil=>cases hb
    |cons x r =>
     obtain⟨d,b⟩:=x
     cases(show b=true from hb)
     cases r with
     |nil=>exact absurd hlen (by simp)
     |cons y r =>
      obtain⟨e,c⟩:=y;rw [decide_eq_true hlen]at t4;refine .inl ⟨(e+1,false)::r,.sh (.bl true),s4,by unfold bA;rw [if_neg c1,if_pos c2],?_⟩;refine aj b1 (aA (cq t1) (bS (ey t2 (ey tb t4)) (aj (Γ1:=[s0,.own (.lst (pt ((e,c)::r))),.sh (.str w),.sh (.bl true),s4]) ?_ (Ck (q:=(e,c)::r) (by simp at hl ⊢;omega) ?_))))
      ·show(jH 1 [s0,.own (.lst (pt ((d,true)::(e,c)::r))),.sh (.str w),.sh (.bl true),s4]).map _=_;rw [Ip];rfl
      ·have p0:=yO (x:=(e,c)) (q:=r) (s0:=s0) (s2:=.sh (.str w)) (s3:=.sh (.bl true)) (s4:=s4);have a1:d9 bf (d9 wt (jH 1) (mC (.int 0))) (mC (.int 1)) [s0,.own (.lst (pt ((e,c)::r))),.sh (.str w),.sh (.bl true),s4]=some (.sh (.int ((e+1:Nat):Int)),[s0,.own (.lst (pt r)),.sh (.str w),.sh (.bl true),s4]):=by
        show(d9 wt (jH 1) (mC (.int 0)) _).bind _=_;rw [p0];rfl
       refine mJ (ts:=[.int ((e+1:Nat):Int),.bl false]) ?_ (by simp);show(d9 bf (d9 wt (jH 1) (mC (.int 0))) (mC (.int 1)) _).bind _=_;rw [a1];rfl
   ·obtain⟨Γ,hL⟩:=DJ n1 n3;have tt:dD (ar (mV 3)) (ar (ag sE (bR gA (fE (mV 1) aD)) (mC (.int 1)))) [s0,.own (.lst (pt q)),.sh (.str w),.sh (.bl (gN q)),s4]=some (false,[s0,.own (.lst (pt q)),.sh (.str w),.sh (.bl (gN q)),s4]):=by
     cases hb:gN q with
     |false=>rw [hb]at tb;exact cq tb
     |true =>
      rw [hb]at tb t4;rw [decide_eq_false (fun z=>hq ⟨hb,z⟩)]at t4;exact ey tb t4
    refine .inr ⟨?_,Γ,aj b1 (aA (cq t1) (aA (ey t2 tt) (aA (cq t3) hL)))⟩;unfold bA;rw [if_neg c1,if_pos c2]
    cases q with
    |nil=>rfl
    |cons x r =>
     obtain⟨d,b⟩:=x
     cases b with
     |false=>rfl
     |true =>
      cases r with
      |nil=>rfl
      |cons y r=>exact absurd ⟨rfl,by simp⟩ hq
  ·rw [qH,decide_eq_false c2]at t2;by_cases c3:w∈fZ
   ·obtain⟨n1,n2,n3⟩:=noName (.inr (.inr c3));rw [decide_eq_true c3]at t3;by_cases hlen:1<q.length
    ·cases q with
     |nil=>exact absurd hlen (by simp)
     |cons x r =>
      obtain⟨d,b⟩:=x
      cases r with
      |nil=>exact absurd hlen (by simp)
      |cons y r =>
       obtain⟨e,c⟩:=y;rw [decide_eq_true hlen]at t4;refine .inl ⟨(max d e+1,false)::r,.sh (.bl b),.sh (.int (d:Int)),by unfold bA;rw [if_neg c1,if_neg c2,if_pos c3],?_⟩;refine aj b1 (aA (cq t1) (aA (cq t2) (bS (ey t3 t4) (aj (Γ1:=[s0,.own (.lst (pt ((e,c)::r))),.sh (.str w),.sh (.bl b),.sh (.int (d:Int))]) ?_ (Ck (q:=(e,c)::r) (by simp at hl ⊢;omega) ?_)))))
       ·show(d9 wt (jH 1) (mC (.int 0)) [s0,.own (.lst (pt ((d,b)::(e,c)::r))),.sh (.str w),.sh (.bl b),s4]).bind _=_;rw [yO];rfl
       ·have p0:=yO (x:=(e,c)) (q:=r) (s0:=s0) (s2:=.sh (.str w)) (s3:=.sh (.bl b)) (s4:=.sh (.int (d:Int)));have m1:tQ (mV 4) (d9 wt (jH 1) (mC (.int 0))) [s0,.own (.lst (pt ((e,c)::r))),.sh (.str w),.sh (.bl b),.sh (.int (d:Int))]=some ([.int (d:Int),.int (e:Int)],[s0,.own (.lst (pt r)),.sh (.str w),.sh (.bl b),.sh (.int (d:Int))]):=by
         show(d9 wt (jH 1) (mC (.int 0)) [s0,.own (.lst (pt ((e,c)::r))),.sh (.str w),.sh (.bl b),.sh (.int (d:Int))]).bind _=_;rw [p0];rfl
        have m2:sG [.int (d:Int),.int (e:Int)]=some (.sh (.int ((max d e:Nat):Int))):=by
         show some (R.sh (.int (if(e:Int)>d then(e:Int)else d)))=_;congr 3;split
         ·rename_i z;rw [Nat.max_eq_right (by omega)]
         ·rename_i z;rw [Nat.max_eq_left (by omega)]
        have a1:d9 bf (bR sG (tQ (mV 4) (d9 wt (jH 1) (mC (.int 0))))) (mC (.int 1)) [s0,.own (.lst (pt ((e,c)::r))),.sh (.str w),.sh (.bl b),.sh (.int (d:Int))]=some (.sh (.int ((max d e+1:Nat):Int)),[s0,.own (.lst (pt r)),.sh (.str w),.sh (.bl b),.sh (.int (d:Int))]):=by
         show(bR sG (tQ (mV 4) (d9 wt (jH 1) (mC (.int 0)))) _).bind _=_;rw [mI m1 m2];rfl
        refine mJ (ts:=[.int ((max d e+1:Nat):Int),.bl false]) ?_ (by simp);show(d9 bf (bR sG (tQ (mV 4) (d9 wt (jH 1) (mC (.int 0))))) (mC (.int 1)) _).bind _=_;rw [a1];rfl
    ·rw [decide_eq_false hlen]at t4;obtain⟨Γ,hL⟩:=DJ n1 n3;refine .inr ⟨?_,Γ,aj b1 (aA (cq t1) (aA (cq t2) (aA (ey t3 t4) hL)))⟩;unfold bA;rw [if_neg c1,if_neg c2,if_pos c3]
     cases q with
     |nil=>rfl
     |cons x r =>
      obtain⟨d,b⟩:=x
      cases r with
      |nil=>rfl
      |cons y r=>exact absurd (by simp) hlen
   ·rw [decide_eq_false c3]at t3
    cases FG:aT w with
    |true =>
     obtain⟨q',Iq,Ir,rfl,hA⟩:=L5 true (.inl FG) FG;exact .inl ⟨_,Iq,Ir,by unfold bA;rw [if_neg c1,if_neg c2,if_neg c3,if_pos FG],aj b1 (aA (cq t1) (aA (cq t2) (aA (cq t3) hA)))⟩
    |false =>
     have nf:¬aT w=true:=by rw [FG];decide
     by_cases Lc:EK w
     ·obtain⟨q',Iq,Ir,rfl,hA⟩:=L5 false (.inr Lc) FG;exact .inl ⟨_,Iq,Ir,by unfold bA;rw [if_neg c1,if_neg c2,if_neg c3,if_neg nf,if_pos Lc],aj b1 (aA (cq t1) (aA (cq t2) (aA (cq t3) hA)))⟩
     ·obtain⟨Γ,hL⟩:=DJ FG Lc;exact .inr ⟨by unfold bA;rw [if_neg c1,if_neg c2,if_neg c3,if_neg nf,if_neg Lc],Γ,aj b1 (aA (cq t1) (aA (cq t2) (aA (cq t3) hL)))⟩
def run:List Str->Pl->Option Pl
 |[],q=>some q
 |w::vs,q=>(bA w q).bind (run vs)
def pf:List Str->Option Pl
 |[]=>some []
 |w::u=>(pf u).bind (bA w)
theorem AI(w:Str):∀(vs:List Str)(q:Pl),run (vs++[w]) q=(run vs q).bind (bA w)
 |[],q=>by
  show(bA w q).bind (run [])=bA w q
  cases bA w q<;>rfl
 |v::vs,q=>by
  show(bA v q).bind (run (vs++[w]))=((bA v q).bind (run vs)).bind (bA w)
  cases bA v q with
  |none=>rfl
  |some q'=>exact AI w vs q'
theorem Cm:∀ws:List Str,run ws.reverse []=pf ws
 |[]=>rfl
 |w::u=>by
  rw [reverse_cons,AI,Cm u];rfl
theorem EL{w:Str}{q q':Pl}(h:bA w q=some q'):q'.length<=q.length+1:=by
 unfold bA at h;split at h
 ·split at h
  ·cases h;simp
  ·cases h
 ·split at h
  ·split at h
   ·cases h;simp only [length_cons];omega
   ·cases h
  ·split at h
   ·split at h
    ·cases h;simp only [length_cons];omega
    ·cases h
   ·split at h
    ·cases h;simp
    ·split at h
     ·cases h;simp
     ·cases h
theorem AJ{s0:Slot}:∀(vs:List Str)(q:Pl)(s2 s3 s4:Slot),(∀w∈vs,asc w)->q.length+vs.length<=900 ->
  (∃q' s2' Iq Ir,run vs q=some q'/\q'.length<=900/\eG (aZ 2) RJ (vs.map M.T.str) [s0,.own (.lst (pt q)),s2,s3,s4]=some (.nx [s0,.own (.lst (pt q')),s2',Iq,Ir]))\/(run vs q=none/\∃Γ,eG (aZ 2) RJ (vs.map M.T.str) [s0,.own (.lst (pt q)),s2,s3,s4]=some (.rt (.sh (.bl false)) Γ))
 |[],q,s2,s3,s4,_,hl=>.inl ⟨q,s2,s3,s4,rfl,by simpa using hl,rfl⟩
 |w::vs,q,s2,s3,s4,hw,hl=>by
  rw [length_cons]at hl;rcases Lb (s0:=s0) (s3:=s3) (s4:=s4) (q:=q) (hw w mem_cons_self) (by omega)with⟨q1,Iq,Ir,h1,h2⟩|⟨h1,Γ,h2⟩
  ·have hq:=EL h1;rcases AJ vs q1 (.sh (.str w)) Iq Ir (fun x hx=>hw x (mem_cons_of_mem _ hx)) (by omega)with⟨q',a2,a3,a4,b1,b2,b3⟩|⟨b1,Γ,b2⟩
   ·refine .inl ⟨q',a2,a3,a4,?_,b2,qi (Γ1:=[s0,.own (.lst (pt q)),.sh (.str w),s3,s4]) rfl h2 b3⟩;show(bA w q).bind (run vs)=_;rw [h1];exact b1
   ·refine .inr ⟨?_,Γ,qi (Γ1:=[s0,.own (.lst (pt q)),.sh (.str w),s3,s4]) rfl h2 b2⟩;show(bA w q).bind (run vs)=_;rw [h1];exact b1
  ·refine .inr ⟨?_,Γ,zY (Γ1:=[s0,.own (.lst (pt q)),.sh (.str w),s3,s4]) rfl h2⟩;show(bA w q).bind (run vs)=_;rw [h1];rfl
def Ex.dep:Ex->Nat
 |.num _=>0
 |.name _=>0
 |.fJ _ _=>0
 |.dw _ _ e=>e.dep+1
 |.work _ e f=>max e.dep f.dep+1
def Ex.wf:Ex->Prop
 |.num n=>n<1000000000
 |.name x=>aT x=true
 |.fJ w b=>(w = "size" \/ w = "held")/\aT b=true
 |.dw w b e=>(w = "has" \/ w = "item")/\aT b=true/\e.wf
 |.work w e f=>w∈fZ/\e.wf/\f.wf
def Ex.bare:Ex->Bool
 |.name _=>true
 |_=>false
theorem DK:∀(e:Ex)(d:Nat),e.wf->e.dep<=d->e.ok d
 |.num n,d,h,_=>by cases d<;>exact h
 |.name x,d,h,_=>by cases d<;>exact h
 |.fJ w b,d,h,_=>by cases d<;>exact h
 |.dw w b e,0,h,hd=>absurd hd (by simp [Ex.dep])
 |.dw w b e,d+1,h,hd=>⟨h.1,h.2.1,DK e d h.2.2 (Nat.le_of_succ_le_succ hd)⟩
 |.work w e f,0,h,hd=>absurd hd (by simp [Ex.dep])
 |.work w e f,d+1,h,hd=>by
  have hd:max e.dep f.dep+1<=d+1:=hd;exact⟨h.1,DK e d h.2.1 (by omega),DK f d h.2.2 (by omega)⟩
theorem DL:∀(e:Ex)(d:Nat),e.ok d->e.wf/\e.dep<=d
 |.num n,d,h=>⟨by cases d<;>exact h,zero_le _⟩
 |.name x,d,h=>⟨by cases d<;>exact h,zero_le _⟩
 |.fJ w b,d,h=>⟨by cases d<;>exact h,zero_le _⟩
 |.dw w b e,0,h=>h.elim
 |.dw w b e,d+1,h=>by
  obtain⟨i1,i2⟩:=DL e d h.2.2;exact⟨⟨h.1,h.2.1,i1⟩,Nat.succ_le_succ i2⟩
 |.work w e f,0,h=>h.elim
 |.work w e f,d+1,h=>by
  obtain⟨i1,i2⟩:=DL e d h.2.1;obtain⟨j1,j2⟩:=DL f d h.2.2;refine⟨⟨h.1,i1,j1⟩,?_⟩;show max e.dep f.dep+1<=d+1;omega
theorem DM{w:Str}(h0:dc aU w=none)(h1:dc aL w=none):¬(w = "size" \/ w = "held")/\¬(w = "has" \/ w = "item")/\¬w∈fZ:=by
 refine⟨fun h=>?_,fun h=>?_,fun h=>?_⟩
 ·rcases h with rfl|rfl
  ·rw [nY]at h0;cases h0
  ·rw [nZ]at h0;cases h0
 ·rcases h with rfl|rfl
  ·rw [qC]at h0;cases h0
  ·rw [n6]at h0;cases h0
 ·rw [(qD w h).2]at h1;cases h1
theorem yP{x:Str}(h:aT x=true)(q:Pl):bA x q=some ((0,true)::q):=by
 obtain⟨a,b⟩:=DD h;obtain⟨c1,c2,c3⟩:=DM a b;unfold bA;rw [if_neg c1,if_neg c2,if_neg c3,if_pos h]
theorem Oc{n:Nat}(h:n<1000000000)(q:Pl):bA (cK n) q=some ((0,false)::q):=by
 obtain⟨a,b,c⟩:=Cb n;obtain⟨c1,c2,c3⟩:=DM a b;unfold bA;rw [if_neg c1,if_neg c2,if_neg c3,if_neg (by rw [c];decide),if_pos ⟨n,h,rfl⟩]
theorem Iu{w:Str}(h:w = "has" \/ w = "item"){d e:Nat}{b:Bool}{q:Pl}:bA w ((d,true)::(e,b)::q)=some ((e+1,false)::q):=by
 have c1:¬(w = "size" \/ w = "held"):=by rcases h with rfl|rfl<;>decide +kernel
 unfold bA;rw [if_neg c1,if_pos h]
theorem Ld{w:Str}(h:w∈fZ){d e:Nat}{a b:Bool}{q:Pl}:bA w ((d,a)::(e,b)::q)=some ((max d e+1,false)::q):=by
 have all:∀w∈fZ,¬(w = "size" \/ w = "held")/\¬(w = "has" \/ w = "item"):=by decide +kernel
 unfold bA;rw [if_neg (all w h).1,if_neg (all w h).2,if_pos h]
theorem qI:∀(e:Ex)(u:List Str)(q:Pl),e.wf->pf u=some q->pf (e.words++u)=some ((e.dep,e.bare)::q)
 |.num n,u,q,h,hu=>by
  show(pf u).bind (bA (cK n))=_;rw [hu];exact Oc h q
 |.name x,u,q,h,hu=>by
  show(pf u).bind (bA x)=_;rw [hu];exact yP h q
 |.fJ w b,u,q,h,hu=>by
  show((pf u).bind (bA b)).bind (bA w)=_;rw [hu];show(bA b q).bind (bA w)=_;rw [yP h.2 q];show bA w ((0,true)::q)=_;unfold bA;rw [if_pos h.1];rfl
 |.dw w b e,u,q,h,hu=>by
  show((pf (e.words++u)).bind (bA b)).bind (bA w)=_;rw [qI e u q h.2.2 hu];show(bA b _).bind (bA w)=_;rw [yP h.2.1];exact Iu h.1
 |.work w e f,u,q,h,hu=>by
  show(pf ((e.words++f.words)++u)).bind (bA w)=_;rw [List.append_assoc,qI e _ _ h.2.1 (qI f u q h.2.2 hu)];exact Ld h.1
theorem AK:∀(u:List Str)(q:Pl),pf u=some q->∃es:List Ex,(∀e∈es,e.wf)/\u=dF es/\q=es.map fun e=>(e.dep,e.bare)
 |[],q,h=>by
  cases h
  exact⟨[],by simp,rfl,rfl⟩
 |w::u,q,h=>by
  have h:(pf u).bind (bA w)=some q:=h
  cases hu:pf u with
  |none=>rw [hu]at h;cases h
  |some q0 =>
   rw [hu]at h;have h:bA w q0=some q:=h;obtain⟨es,Fo,rfl,rfl⟩:=AK u q0 hu;have L6:∀e:Ex,e.bare=true->∃x,e=.name x:=fun e he=>by
    cases e with
    |name x=>exact⟨x,rfl⟩
    |num n=>cases he
    |fJ a b=>cases he
    |dw a b c=>cases he
    |work a b c=>cases he
   unfold bA at h;split at h
   ·rename_i c1
    cases es with
    |nil=>cases h
    |cons e es =>
     cases hb:e.bare with
     |false =>
      have h:(match ((e.dep,e.bare)::es.map fun e=>(e.dep,e.bare):Pl)with|(_,true)::r=>some (((0,false)::r:Pl))|_=>none)=some q:=h;rw [hb]at h
      cases h
     |true =>
      obtain⟨x,rfl⟩:=L6 e hb
      cases h
      exact⟨.fJ w x::es,fun e' he=>by
       rcases mem_cons.mp he with z|z
       ·rw [z];exact⟨c1,Fo _ mem_cons_self⟩
       ·exact Fo e' (mem_cons_of_mem _ z),rfl,rfl⟩
   ·split at h
    ·rename_i c2
     cases es with
     |nil=>cases h
     |cons e es =>
      cases hb:e.bare with
      |false =>
       have h:(match ((e.dep,e.bare)::es.map fun e=>(e.dep,e.bare):Pl)with|(_,true)::(e,_)::r=>some (((e+1,false)::r:Pl))|_=>none)=some q:=h;rw [hb]at h
       cases h
      |true =>
       obtain⟨x,rfl⟩:=L6 e hb
       cases es with
       |nil=>cases h
       |cons f es =>
        cases h
        refine⟨.dw w x f::es,fun e' he=>?_,?_,rfl⟩
        ·rcases mem_cons.mp he with z|z
         ·rw [z];exact⟨c2,Fo _ mem_cons_self,Fo _ (mem_cons_of_mem _ mem_cons_self)⟩
         ·exact Fo e' (mem_cons_of_mem _ (mem_cons_of_mem _ z))
        ·show w::([x]++(f.words++dF es))=(w::x::f.words)++dF es;simp
    ·split at h
     ·rename_i c3
      cases es with
      |nil=>cases h
      |cons e es =>
       cases es with
       |nil=>cases h
       |cons f es =>
        cases h
        refine⟨.work w e f::es,fun e' he=>?_,?_,rfl⟩
        ·rcases mem_cons.mp he with z|z
         ·rw [z];exact⟨c3,Fo _ mem_cons_self,Fo _ (mem_cons_of_mem _ mem_cons_self)⟩
         ·exact Fo e' (mem_cons_of_mem _ (mem_cons_of_mem _ z))
        ·show w::(e.words++(f.words++dF es))=(w::(e.words++f.words))++dF es;simp
     ·split at h
      ·rename_i c4
       cases h
       exact⟨.name w::es,fun e' he=>by
        rcases mem_cons.mp he with z|z
        ·rw [z];exact c4
        ·exact Fo e' z,rfl,rfl⟩
      ·split at h
       ·rename_i c5
        cases h
        obtain⟨n,n1,rfl⟩:=c5;exact⟨.num n::es,fun e' he=>by
         rcases mem_cons.mp he with z|z
         ·rw [z];exact n1
         ·exact Fo e' z,rfl,rfl⟩
       ·cases h
def Qy:Pl->Bool
 |[(d,_)]=>decide (d<6)
 |_=>false
def iH(ws:List Str):Bool:=match pf ws with
 |some q=>Qy q
 |none=>false
theorem Iv{e:Ex}(h:e.ok 5):iH e.words=true:=by
 obtain⟨h1,h2⟩:=DL e 5 h;have:=qI e [] [] h1 rfl;rw [append_nil]at this;unfold iH;rw [this];exact decide_eq_true (Nat.lt_succ_of_le h2)
theorem Iw{ws:List Str}(h:iH ws=true):∃e:Ex,e.ok 5/\e.words=ws:=by
 unfold iH at h;split at h
 ·rename_i q hq;obtain⟨es,Fo,rfl,rfl⟩:=AK ws _ hq
  cases es with
  |nil=>cases h
  |cons e es =>
   cases es with
   |nil =>
    have:=of_decide_eq_true (show decide (e.dep<6)=true from h);exact⟨e,DK e 5 (Fo e mem_cons_self) (by omega),by simp [dF]⟩
   |cons f es=>cases h
 ·cases h
theorem EM{x:Str}{ws:List Str}(hs:d5 x " " = some ws)(hw:∀y∈ws,asc y)(hl:ws.length<=800):∃Γ,eN [.sh (.str x)]=some (.sh (.bl (iH ws)),Γ):=by
 have e1:vb d5 (mV 0) (fE (mC (.str " ")) aD) [.sh (.str x),.own (.lst (pt [])),.no,.no,.no]=some (.own (.lst (ws.map M.T.str)),[.sh (.str x),.own (.lst (pt [])),.no,.no,.no]):=by
  simp [vb,mV,fE,mC,aD,R.tree,hs]
 have e2:KN (vb d5 (mV 0) (fE (mC (.str " ")) aD)) [.sh (.str x),.own (.lst (pt [])),.no,.no,.no]=some (ws.reverse.map M.T.str,[.sh (.str x),.own (.lst (pt [])),.no,.no,.no]):=by
  unfold KN;rw [Qp,e1,List.map_reverse];rfl
 have U3:bD 1 (di aD) [.sh (.str x),.no,.no,.no,.no]=some (.nx [.sh (.str x),.own (.lst (pt [])),.no,.no,.no]):=rfl;rcases AJ (s0:=.sh (.str x)) ws.reverse [] .no .no .no (fun w N9=>hw w (List.mem_reverse.mp N9)) (by rw [length_reverse];show 0+_<=_;omega)with⟨q,s2,s3,s4,h1,h2,h3⟩|⟨h1,Γ,h3⟩
 ·rw [Cm]at h1;have wV:iH ws=Qy q:=by
   unfold iH;rw [h1]
  have ln:ag gW (bR gA (fE (mV 1) aD)) (mC (.int 1)) [.sh (.str x),.own (.lst (pt q)),s2,s3,s4]=some (.sh (.bl (decide (q.length=1))),[.sh (.str x),.own (.lst (pt q)),s2,s3,s4]):=by
   refine au (r1:=.sh (.int (q.length:Int))) (r2:=.sh (.int 1)) (mI (ts:=[.lst (pt q)]) rfl ?_) rfl ?_
   ·show some (R.sh (.int ((pt q).length:Int)))=_;rw [Cj]
   ·show gW (.int (q.length:Int)) (.int 1)=_;rw [Aw];congr 3;by_cases z:q.length=1
    ·rw [decide_eq_true z,decide_eq_true (by omega)]
    ·rw [decide_eq_false z,decide_eq_false (by omega)]
  by_cases z:q.length=1
  ·obtain⟨y,rfl⟩:∃y,q=[y]:=List.length_eq_one_iff.mp z;obtain⟨d,b⟩:=y;rw [decide_eq_true z]at ln;rw [wV];refine⟨_,cy (aj U3 (aj (oV e2 h3) (bO (qg ln (au (r1:=.sh (.int (d:Int))) (r2:=.sh (.int 6)) (au (r1:=.sh (wJ (d,b))) (r2:=.sh (.int 0)) (au (r1:=.bor 1 (.lst (pt [(d,b)]))) (r2:=.sh (.int 0)) rfl rfl rfl) rfl (Qs _ _)) rfl ?_)))))⟩;show zi (.int (d:Int)) (.int 6)=_;rw [US];congr 3;show decide ((d:Int)<6)=decide (d<6);by_cases z:d<6
   ·rw [decide_eq_true z,decide_eq_true (by omega)]
   ·rw [decide_eq_false z,decide_eq_false (by omega)]
  ·rw [decide_eq_false z]at ln;have:iH ws=false:=by
    rw [wV]
    cases q with
    |nil=>rfl
    |cons y r =>
     cases r with
     |nil=>exact absurd rfl z
     |cons y2 r=>rfl
   rw [this];exact⟨_,cy (aj U3 (aj (oV e2 h3) (bO (qh ln))))⟩
 ·rw [Cm]at h1;have:iH ws=false:=by
   unfold iH;rw [h1]
  rw [this];exact⟨Γ,cy (aj U3 (cN (oV e2 h3)))⟩
theorem AL{x:Str}{ws:List Str}(hs:d5 x " " = some ws)(hx:x=Str.join " " ws)(hw:∀y∈ws,asc y)(hl:ws.length<=800):∃Γ,fo [.sh (.str x)]=some (.sh (.bl true),Γ):=by
 obtain⟨Γs,wV⟩:=EM hs hw hl;have hd:B7 x=iH ws:=by
  unfold B7;rw [wV]
 cases hB:iH ws with
 |true =>
  obtain⟨e,he,U7⟩:=Iw hB;have Et:x=e.text:=by
   rw [hx,<-U7];rfl
  have t:sT bG o3 B7 kX 0 2 1 3 [.sh (.str x),.own (.lst []),.sh .cQ,.no]=some (.nx [.sh (.str x),.own (.lst []),.sh e.tree,.no]):=by
   unfold sT;show(if 3<4 then(if B7 x=true then match bG [.sh (.str x)]with|some (.sh t,_)=>some (Res.nx [Slot.sh (.str x),.own (.lst []),.sh t,.no])|_=>none else _)else none)=_;rw [if_pos (by decide),if_pos (by rw [hd,hB]),Et,Ib he]
  rw [hB]at wV;obtain⟨Γh,hh⟩:=qF e 5 7 he (by decide) (by decide);have sc:ar (av 1 eN (aB (mV 0) aD)) [.sh (.str x),.own (.lst []),.sh e.tree,.no]=some (true,[.sh (.str x),.own (.lst []),.sh e.tree,.no]):=aK (cH (np:=1) (ts:=[.str x]) rfl rfl wV);have q1:ag gW (mV 1) (di aD) [.sh (.str x),.own (.lst []),.sh e.tree,.no]=some (.sh (.bl true),[.sh (.str x),.own (.lst []),.sh e.tree,.no]):=rfl;have q2:ag gW (av 1 (aG 7) (aB (mV 2) aD)) (mV 0) [.sh (.str x),.own (.lst []),.sh e.tree,.no]=some (.sh (.bl true),[.sh (.str x),.own (.lst []),.sh e.tree,.no]):=by
   refine au (r1:=.sh (.str e.text)) (r2:=.sh (.str x)) (cH (np:=1) (ts:=[e.tree]) rfl rfl hh) rfl ?_;show gW (.str e.text) (.str x)=_;rw [LU,decide_eq_true Et.symm]
  exact⟨_,cy (aj rfl (aj rfl (aj t (aj (aA (h8 sc) rfl) (bO (qg q1 q2))))))⟩
 |false =>
  have hg:o3 [x]:=Im hs hw fun e he U7=>by
   have:=Iv he;rw [U7,hB]at this
   cases this
  have t:sT bG o3 B7 kX 0 2 1 3 [.sh (.str x),.own (.lst []),.sh .cQ,.no]=some (.nx [.sh (.str x),.own (.lst (kX.map M.T.bl)),.sh .cQ,.no]):=by
   have zj:¬B7 x=true:=by rw [hd,hB];decide
   unfold sT;dsimp only [List.getElem?_cons_zero];rw [if_pos (show 3 < [Slot.sh (.str x),Slot.own (.lst []),Slot.sh .cQ,Slot.no].length from(by show 3<4;decide)),if_neg zj,if_pos hg];rfl
  rw [hB]at wV;have sc:ar (av 1 eN (aB (mV 0) aD)) [.sh (.str x),.own (.lst (kX.map M.T.bl)),.sh .cQ,.no]=some (false,[.sh (.str x),.own (.lst (kX.map M.T.bl)),.sh .cQ,.no]):=aK (cH (np:=1) (ts:=[.str x]) rfl rfl wV);exact⟨_,cy (aj rfl (aj rfl (aj t (cN (bS (h8 sc) rfl)))))⟩
def iN:List Str:=["+", "-", "*", "div", "rem", "<", "=", "size", "held", "has", "item", "7", "0", "q"]
def pb:List Str:=["", "-0", "00", "1234567890", "abcdefghi", "A", "x1", "+1", "--", "1.5", "(", "mosts "]
theorem Le(x:Int):∃t Γ,(t∈dq\/t∈pb\/t∈iN)/\iz [.sh (.int x)]=some (.sh (.str t),Γ):=by
 have e4:∀k:Int,0<k->k<1000->ag du (ag fO (mV 0) (mC (.int 4))) (mC (.int k)) [.sh (.int x),.own (.lst (iN.map M.T.str)),.own (.lst (pb.map M.T.str))]=some (.sh (.int (x / 4 % k)),[.sh (.int x),.own (.lst (iN.map M.T.str)),.own (.lst (pb.map M.T.str))]):=fun k h0 h1 =>
  au (r1:=.sh (.int (x / 4))) (r2:=.sh (.int k)) (au (r1:=.sh (.int x)) (r2:=.sh (.int 4)) rfl rfl (oB (by decide) (by decide))) rfl (kr h0)
 have Cf:bD 1 (di (kl ["+", "-", "*", "div", "rem", "<", "=", "size", "held", "has", "item", "7", "0", "q"])) [.sh (.int x),.no,.no]=some (.nx [.sh (.int x),.own (.lst (iN.map M.T.str)),.no]):=rfl;have tH:bD 2 (di (kl ["", "-0", "00", "1234567890", "abcdefghi", "A", "x1", "+1", "--", "1.5", "(", "mosts "])) [.sh (.int x),.own (.lst (iN.map M.T.str)),.no]=some (.nx [.sh (.int x),.own (.lst (iN.map M.T.str)),.own (.lst (pb.map M.T.str))]):=rfl;have ts:∀k:Int,ar (ag gW (ag du (mV 0) (mC (.int 4))) (mC (.int k))) [.sh (.int x),.own (.lst (iN.map M.T.str)),.own (.lst (pb.map M.T.str))]=some (decide (x % 4=k),[.sh (.int x),.own (.lst (iN.map M.T.str)),.own (.lst (pb.map M.T.str))]):=fun k=>by
  refine aK (au (r1:=.sh (.int (x % 4))) (r2:=.sh (.int k)) (au (r1:=.sh (.int x)) (r2:=.sh (.int 4)) rfl rfl (kr (by decide))) rfl ?_);show gW (.int (x % 4)) (.int k)=_;rw [Aw]
 have t0:=ts 0;have t1:=ts 1;by_cases c0:x % 4=0
 ·rw [decide_eq_true c0]at t0;obtain⟨t,ht,hx⟩:=vF (xs:=dq) (i:=x / 4 % 26) (emod_nonneg _ (by decide)) (emod_lt_of_pos _ (by decide));exact⟨t,_,.inl ht,cy (aj Cf (aj tH (cN (bS t0 (bO (au (r1:=.own (.lst (dq.map M.T.str))) rN (e4 26 (by decide) (by decide)) hx))))))⟩
 ·rw [decide_eq_false c0]at t0;by_cases c1:x % 4=1
  ·rw [decide_eq_true c1]at t1;obtain⟨t,ht,hx⟩:=vF (xs:=pb) (i:=x / 4 % 12) (emod_nonneg _ (by decide)) (emod_lt_of_pos _ (by decide));exact⟨t,_,.inr (.inl ht),cy (aj Cf (aj tH (aj (aA t0 rfl) (cN (bS t1 (bO (au (r1:=.bor 2 (.lst (pb.map M.T.str))) rfl (e4 12 (by decide) (by decide)) hx)))))))⟩
  ·rw [decide_eq_false c1]at t1;obtain⟨t,ht,hx⟩:=vF (xs:=iN) (i:=x / 4 % 14) (emod_nonneg _ (by decide)) (emod_lt_of_pos _ (by decide));exact⟨t,_,.inr (.inr ht),cy (aj Cf (aj tH (aj (aA t0 rfl) (aj (aA t1 rfl) (bO (au (r1:=.bor 1 (.lst (iN.map M.T.str))) rfl (e4 14 (by decide) (by decide)) hx))))))⟩
theorem Cn{ts us:List M.T}(h:ts.length+us.length<=1000):bf (.lst ts) (.lst us)=some (.own (.lst (ts++us))):=by
 show(match (if ts.length+us.length<=sizeLine then some (R.own (.lst (ts++us)))else none)with
  |some r=>some r
  |none=>C6 (.lst ts) (.lst us))=_
 rw [if_pos (le_of_lt (eL h))]
section
variable {L:List Str}{X:M.T}{k:Nat}{way:Int}
def sg(L:List Str)(X:M.T)(k:Nat)(way:Int):M.G:=[.sh (.lst (L.map M.T.str)),.sh X,.sh (.int (k:Int)),.sh (.int way)]
theorem Iy:iF (mV 0) qV (qW (mV 2)) (sg L X k way)=some (.own (.lst ((L.take k).map M.T.str)),sg L X k way):=by
 show some (R.own (.lst (cut (L.map M.T.str) none (some (k:Int)))),_)=_;rw [Ca,map_take]
theorem Iz:iF (mV 0) qV (qW (ag bf (mV 2) (mC (.int 1)))) (sg L X k way)=some (.own (.lst ((L.take (k+1)).map M.T.str)),sg L X k way):=by
 show some (R.own (.lst (cut (L.map M.T.str) none (some ((k:Int)+1)))),_)=_;rw [show((k:Int)+1)=((k+1:Nat):Int) by omega,Ca,map_take]
theorem DN:iF (mV 0) (qW (mV 2)) qV (sg L X k way)=some (.own (.lst ((L.drop k).map M.T.str)),sg L X k way):=by
 show some (R.own (.lst (cut (L.map M.T.str) (some (k:Int)) none)),_)=_;rw [mT,map_drop]
theorem vK:iF (mV 0) (qW (ag bf (mV 2) (mC (.int 1)))) qV (sg L X k way)=some (.own (.lst ((L.drop (k+1)).map M.T.str)),sg L X k way):=by
 show some (R.own (.lst (cut (L.map M.T.str) (some ((k:Int)+1)) none)),_)=_;rw [show((k:Int)+1)=((k+1:Nat):Int) by omega,mT,map_drop]
theorem AM{A B:List Str}{ma mb:MX}(hl:A.length+B.length<=1000)(h1:ma (sg L X k way)=some (.own (.lst (A.map M.T.str)),sg L X k way))(h2:mb (sg L X k way)=some (.own (.lst (B.map M.T.str)),sg L X k way)):ag bf ma mb (sg L X k way)=some (.own (.lst ((A++B).map M.T.str)),sg L X k way):=by
 refine au h1 h2 ?_;rw [map_append];exact Cn (by rw [length_map,length_map];exact hl)
end
theorem EN(L:List Str)(hL:L≠[])(hl:L.length<=300)(x0 x1 x2 x3:Int):∃(L':List Str) (Γ:M.G),L'.length<=L.length+1/\(∀p∈L',p∈L\/(p∈dq\/p∈pb\/p∈iN))/\d7 [.sh (.lst (L.map M.T.str)),.sh (.lst ([x0,x1,x2,x3].map M.T.int))]=some (.sh (.lst (L'.map M.T.str)),Γ):=by
 have Kq:=List.length_pos_iff.mpr hL;have m0:=emod_nonneg x0 (show(L.length:Int)≠0 by omega);have m1:=emod_lt_of_pos x0 (show(0:Int)<L.length by omega);obtain⟨k,hk⟩:=eq_ofNat_of_zero_le m0;have hkl:k<L.length:=by omega
 generalize hX:M.T.lst ([x0,x1,x2,x3].map M.T.int)=X;have i0:bC X (.int 0)=some (.sh (.int x0)):=by rw [<-hX];rfl
 have i1:bC X (.int 1)=some (.sh (.int x1)):=by rw [<-hX];rfl
 have i2:bC X (.int 2)=some (.sh (.int x2)):=by rw [<-hX];rfl
 obtain⟨w,Γw,hw,ew⟩:=Le x2;have Cf:bD 2 (ag du (ag bC (mV 1) (mC (.int 0))) (bR gA (fE (mV 0) aD))) [.sh (.lst (L.map M.T.str)),.sh X,.no,.no]=some (.nx [.sh (.lst (L.map M.T.str)),.sh X,.sh (.int (k:Int)),.no]):=by
  refine eY (Γ1:=[.sh (.lst (L.map M.T.str)),.sh X,.no,.no]) (au (r1:=.sh (.int x0)) (r2:=.sh (.int (L.length:Int))) (au (r1:=.sh X) (r2:=.sh (.int 0)) rfl rfl i0) (mI (ts:=[.lst (L.map M.T.str)]) rfl ?_) ?_)
  ·show some (R.sh (.int ((L.map M.T.str).length:Int)))=_;rw [length_map]
  ·show du (.int x0) (.int (L.length:Int))=_;rw [kr (by omega),hk]
 generalize U9:x1 % 8=way;have tH:bD 3 (ag du (ag bC (mV 1) (mC (.int 1))) (mC (.int 8))) [.sh (.lst (L.map M.T.str)),.sh X,.sh (.int (k:Int)),.no]=some (.nx (sg L X k way)):=by
  rw [<-U9];exact eY (Γ1:=[.sh (.lst (L.map M.T.str)),.sh X,.sh (.int (k:Int)),.no]) (au (r1:=.sh (.int x1)) (r2:=.sh (.int 8)) (au (r1:=.sh X) (r2:=.sh (.int 1)) rfl rfl i1) rfl (kr (by decide)))
 have ts:∀(s0:Slot)(j:Int),ar (ag gW (mV 3) (mC (.int j))) [s0,.sh X,.sh (.int (k:Int)),.sh (.int way)]=some (decide (way=j),[s0,.sh X,.sh (.int (k:Int)),.sh (.int way)]):=fun s0 j=>by
  refine aK (au (r1:=.sh (.int way)) (r2:=.sh (.int j)) rfl rfl ?_);show gW (.int way) (.int j)=_;rw [Aw]
 have Lf:∀s0:Slot,jX (ar (ag gW (mV 3) (mC (.int 2)))) (ar (ag gW (mV 3) (mC (.int 3)))) [s0,.sh X,.sh (.int (k:Int)),.sh (.int way)]=some (decide (way=2\/way=3),[s0,.sh X,.sh (.int (k:Int)),.sh (.int way)]):=fun s0=>by
  have a:=ts s0 2;have b:=ts s0 3;by_cases c:way=2
  ·rw [decide_eq_true c]at a;rw [decide_eq_true (.inl c)];exact mG a
  ·rw [decide_eq_false c]at a;have e:decide (way=2\/way=3)=decide (way=3):=by
    by_cases d:way=3
    ·rw [decide_eq_true d,decide_eq_true (.inr d)]
    ·rw [decide_eq_false d,decide_eq_false (fun z=>z.elim c d)]
   rw [e];exact eA a b
 have Zv:di (aB (av 1 iz (aB (ag bC (mV 1) (mC (.int 2))) aD)) aD) (sg L X k way)=some (.own (.lst ([w].map M.T.str)),sg L X k way) :=
  uY (ts:=[.str w]) (cM (r:=.sh (.str w)) (cH (np:=1) (ts:=[.int x2]) (cM (r:=.sh (.int x2)) (au (r1:=.sh X) (r2:=.sh (.int 2)) rfl rfl i2) rfl) rfl ew) rfl) (by simp)
 have em1:di (aB (mC (.str "")) aD) (sg L X k way)=some (.own (.lst (([""]:List Str).map M.T.str)),sg L X k way):=rfl;have l1:(L.take k).length<=300:=by rw [length_take];omega
 have l2:(L.take (k+1)).length<=300:=by rw [length_take];omega
 have l3:(L.drop k).length<=300:=by rw [length_drop];omega
 have l4:(L.drop (k+1)).length<=300:=by rw [length_drop];omega
 -- Jn is behind Fg change
 have fin:∀(L':List Str)(res:Option Res),res=some (.rt (.sh (.lst (L'.map M.T.str))) [.sh (.lst (L'.map M.T.str)),.sh X,.sh (.int (k:Int)),.sh (.int way)])->iZ [.sh (.lst (L.map M.T.str)),.sh X,.no,.no]=res->d7 [.sh (.lst (L.map M.T.str)),.sh X]=some (.sh (.lst (L'.map M.T.str)),[.sh (.lst (L.map M.T.str)),.sh X]):=fun L' res h1 h2=>by
  show(match iZ [.sh (.lst (L.map M.T.str)),.sh X,.no,.no]with|some (.rt (.sh t) _)=>some (R.sh t,[Slot.sh (.lst (L.map M.T.str)),.sh X])|some (.rt (.own t) _)=>some (R.own t,[Slot.sh (.lst (L.map M.T.str)),.sh X])|_=>none)=_;rw [h2,h1]
 have IA:∀L':List Str,dt 2 (mV 0) [.own (.lst (L'.map M.T.str)),.sh X,.sh (.int (k:Int)),.sh (.int way)]=some (.rt (.sh (.lst (L'.map M.T.str))) [.sh (.lst (L'.map M.T.str)),.sh X,.sh (.int (k:Int)),.sh (.int way)]):=fun L'=>rfl;have IB:∀(L':List Str)(m:MX),m (sg L X k way)=some (.own (.lst (L'.map M.T.str)),sg L X k way)->bD 0 m (sg L X k way)=some (.nx [.own (.lst (L'.map M.T.str)),.sh X,.sh (.int (k:Int)),.sh (.int way)]):=fun L' m h=>kP h;have IC:∀{n:Nat}{p:Str},p∈L.take n->p∈L:=fun h=>List.mem_of_mem_take h;have memD:∀{n:Nat}{p:Str},p∈L.drop n->p∈L:=fun h=>mem_of_mem_drop h;have Va:("" : Str)∈pb:=by decide +kernel
 have S0:M.G:=sg L X k way;by_cases c0:way=0
 ·have n1:¬way=1:=by omega
  have n2:¬(way=2\/way=3):=by omega
  have n4:¬way=4:=by omega
  have n5:¬way=5:=by omega
  have A:=IB (L.take k++L.drop (k+1)) _ (AM (by omega) Iy vK);refine⟨L.take k++L.drop (k+1),_,by rw [length_append,length_take,length_drop];omega,fun p hp=>.inl ((mem_append.mp hp).elim IC memD),fin _ _ rfl ?_⟩;have t0:=ts (.sh (.lst (L.map M.T.str))) 0;rw [decide_eq_true c0]at t0;have u1:=ts (.own (.lst ((L.take k++L.drop (k+1)).map M.T.str))) 1;have u2:=Lf (.own (.lst ((L.take k++L.drop (k+1)).map M.T.str)));have u4:=ts (.own (.lst ((L.take k++L.drop (k+1)).map M.T.str))) 4;have u5:=ts (.own (.lst ((L.take k++L.drop (k+1)).map M.T.str))) 5;rw [decide_eq_false n1]at u1;rw [decide_eq_false n2]at u2;rw [decide_eq_false n4]at u4;rw [decide_eq_false n5]at u5;exact aj Cf (aj tH (aj (bS t0 A) (aj (aA u1 rfl) (aj (aA u2 rfl) (aj (aA u4 rfl) (aj (aA u5 rfl) (IA _)))))))
 ·have t0:=ts (.sh (.lst (L.map M.T.str))) 0;rw [decide_eq_false c0]at t0;by_cases c1:way=1
  ·have n2:¬(way=2\/way=3):=by omega
   have n4:¬way=4:=by omega
   have n5:¬way=5:=by omega
   have A:=IB (L.take (k+1)++L.drop k) _ (AM (by omega) Iz DN);refine⟨L.take (k+1)++L.drop k,_,by rw [length_append,length_take,length_drop];omega,fun p hp=>.inl ((mem_append.mp hp).elim IC memD),fin _ _ rfl ?_⟩;have t1:=ts (.sh (.lst (L.map M.T.str))) 1;rw [decide_eq_true c1]at t1;have u2:=Lf (.own (.lst ((L.take (k+1)++L.drop k).map M.T.str)));have u4:=ts (.own (.lst ((L.take (k+1)++L.drop k).map M.T.str))) 4;have u5:=ts (.own (.lst ((L.take (k+1)++L.drop k).map M.T.str))) 5;rw [decide_eq_false n2]at u2;rw [decide_eq_false n4]at u4;rw [decide_eq_false n5]at u5;exact aj Cf (aj tH (aj (aA t0 rfl) (aj (bS t1 A) (aj (aA u2 rfl) (aj (aA u4 rfl) (aj (aA u5 rfl) (IA _)))))))
  ·have t1:=ts (.sh (.lst (L.map M.T.str))) 1;rw [decide_eq_false c1]at t1;by_cases c2:way=2\/way=3
   ·have n4:¬way=4:=by omega
    have n5:¬way=5:=by omega
    have A:=IB ((L.take k++[w])++L.drop (k+1)) _ (AM (by rw [length_append];show(L.take k).length+1+_<=_;omega) (AM (by show _+1<=_;omega) Iy Zv) vK);refine⟨(L.take k++[w])++L.drop (k+1),_,by rw [length_append,length_append,length_take,length_drop];show _+1+_<=_;omega,fun p hp=>?_,fin _ _ rfl ?_⟩
    ·rcases mem_append.mp hp with z|z
     ·rcases mem_append.mp z with z|z
      ·exact .inl (IC z)
      ·rw [mem_singleton.mp z];exact .inr hw
     ·exact .inl (memD z)
    have t2:=Lf (.sh (.lst (L.map M.T.str)));rw [decide_eq_true c2]at t2;have u4:=ts (.own (.lst (((L.take k++[w])++L.drop (k+1)).map M.T.str))) 4;have u5:=ts (.own (.lst (((L.take k++[w])++L.drop (k+1)).map M.T.str))) 5;rw [decide_eq_false n4]at u4;rw [decide_eq_false n5]at u5;exact aj Cf (aj tH (aj (aA t0 rfl) (aj (aA t1 rfl) (aj (bS t2 A) (aj (aA u4 rfl) (aj (aA u5 rfl) (IA _)))))))
   ·have t2:=Lf (.sh (.lst (L.map M.T.str)));rw [decide_eq_false c2]at t2;by_cases c4:way=4
    ·have n5:¬way=5:=by omega
     have A:=IB ((L.take (k+1)++[w])++L.drop (k+1)) _ (AM (by rw [length_append];show(L.take (k+1)).length+1+_<=_;omega) (AM (by show _+1<=_;omega) Iz Zv) vK);refine⟨(L.take (k+1)++[w])++L.drop (k+1),_,by rw [length_append,length_append,length_take,length_drop];show _+1+_<=_;omega,fun p hp=>?_,fin _ _ rfl ?_⟩
     ·rcases mem_append.mp hp with z|z
      ·rcases mem_append.mp z with z|z
       ·exact .inl (IC z)
       ·rw [mem_singleton.mp z];exact .inr hw
      ·exact .inl (memD z)
     have t4:=ts (.sh (.lst (L.map M.T.str))) 4;rw [decide_eq_true c4]at t4;have u5:=ts (.own (.lst (((L.take (k+1)++[w])++L.drop (k+1)).map M.T.str))) 5;rw [decide_eq_false n5]at u5;exact aj Cf (aj tH (aj (aA t0 rfl) (aj (aA t1 rfl) (aj (aA t2 rfl) (aj (bS t4 A) (aj (aA u5 rfl) (IA _)))))))
    ·have t4:=ts (.sh (.lst (L.map M.T.str))) 4;rw [decide_eq_false c4]at t4;have t5:=ts (.sh (.lst (L.map M.T.str))) 5;by_cases c5:way=5
     ·rw [decide_eq_true c5]at t5;have A:=IB ((L.take k++([""]:List Str))++L.drop k) _ (AM (by rw [length_append];show(L.take k).length+1+_<=_;omega) (AM (by show _+1<=_;omega) Iy em1) DN);refine⟨(L.take k++([""]:List Str))++L.drop k,_,by rw [length_append,length_append,length_take,length_drop];show _+1+_<=_;omega,fun p hp=>?_,fin _ _ rfl ?_⟩
      ·rcases mem_append.mp hp with z|z
       ·rcases mem_append.mp z with z|z
        ·exact .inl (IC z)
        ·rw [mem_singleton.mp z];exact .inr (.inr (.inl Va))
       ·exact .inl (memD z)
      exact aj Cf (aj tH (aj (aA t0 rfl) (aj (aA t1 rfl) (aj (aA t2 rfl) (aj (aA t4 rfl) (aj (bS t5 A) (IA _)))))))
     ·rw [decide_eq_false c5]at t5;exact⟨L,_,by omega,fun p hp=>.inl hp,fin L _ rfl (aj Cf (aj tH (aj (aA t0 rfl) (aj (aA t1 rfl) (aj (aA t2 rfl) (aj (aA t4 rfl) (aj (aA t5 rfl) rfl)))))))⟩
def Wd(p:Str):Prop:=asc p/\32∉p.cps.toList
noncomputable instance (p:Str):Decidable (Wd p):=by unfold Wd asc;exact inferInstance
def mj(p:Str):List Str:=if p = "mosts " then ["mosts", ""]else [p]
def expand(L:List Str):List Str:=L.flatMap mj
theorem yQ(p:Str):mj p≠[]:=by
 unfold mj;split<;>simp
theorem xR(p:Str):Str.join " " (mj p)=p:=by
 unfold mj;split
 ·rename_i h;rw [h];decide +kernel
 ·rfl
theorem mZ:∀L:List Str,L≠[]->Str.join " " (expand L)=Str.join " " L
 |[],h=>absurd rfl h
 |[p],_=>by
  show Str.join " " (mj p++[])=_;rw [append_nil,xR];rfl
 |p::r::L,_=>by
  have ih:=mZ (r::L) (cons_ne_nil _ _);have ne:expand (r::L)≠[]:=fun h=>by
   have h:mj r++expand L=[]:=h;exact yQ r (List.append_eq_nil_iff.mp h).1
  show Str.join " " (mj p++expand (r::L))=_;rw [ky " " _ _ (yQ p) ne,xR,ih];rfl
theorem vL:∀L:List Str,(expand L).length<=2*L.length
 |[]=>zero_le _
 |p::L=>by
  have ih:=vL L;show(mj p++expand L).length<=_;rw [length_append,length_cons];have:(mj p).length<=2:=by
   unfold mj;split<;>simp
  omega
theorem DO{ps:List Str}(zj:ps≠[])(hf:∀p∈ps,Wd p)(hl:ps.length<=700):d5 (Str.join " " ps) " " = some ps:=by
 have l:=qB 32 90 ps fun p hp=>(hf p hp).1.1;have l2:ps.length*(90+1)<=700*91:=mul_le_mul hl (le_refl _);have hz:sizeLine=16777216:=rfl;rw [N2,<-eB];unfold d5;rw [if_pos ⟨rfl,by omega⟩,eB,vy zj fun p hp=>(hf p hp).2]
theorem EO:∀p,(p∈dq\/p∈pb\/p∈iN)->∀y∈mj p,Wd y:=by
 have h1:∀p∈dq,∀y∈mj p,Wd y:=by decide +kernel
 have h2:∀p∈pb,∀y∈mj p,Wd y:=by decide +kernel
 have h3:∀p∈iN,∀y∈mj p,Wd y:=by decide +kernel
 intro p h;rcases h with h|h|h
 ·exact h1 p h
 ·exact h2 p h
 ·exact h3 p h
theorem Od{p:Str}(h:Wd p):∀y∈mj p,Wd y:=fun y hy=>by
 unfold mj at hy;split at hy
 ·rename_i e;have:¬Wd "mosts " := by decide +kernel
  rw [e]at h;exact absurd h this
 ·rw [mem_singleton.mp hy];exact h
theorem Cp{L:List Str}(hl:L.length<=300)(h:∀p∈L,Wd p\/(p∈dq\/p∈pb\/p∈iN)):∃Γ,fo [.sh (.str (Txt.join " " L))]=some (.sh (.bl true),Γ):=by
 rw [eB]
 cases L with
 |nil =>
  have n1:Wd "" := by decide +kernel
  have hs:=DO (ps:=[""]) (by simp) (fun p hp=>by rw [mem_singleton.mp hp];exact n1) (by simp);exact AL (x:=Str.join " " []) (ws:=[""]) hs rfl (fun y hy=>by rw [mem_singleton.mp hy];exact n1.1) (by simp)
 |cons a L =>
  have ne:expand (a::L)≠[]:=fun h=>by
   have h:mj a++expand L=[]:=h;exact yQ a (List.append_eq_nil_iff.mp h).1
  have hw:∀p∈expand (a::L),Wd p:=fun p hp=>by
   obtain⟨y,hy,hp⟩:=List.mem_flatMap.mp hp;rcases h y hy with z|z
   ·exact Od z p hp
   ·exact EO y z p hp
  have el:=vL (a::L);have hs:=DO ne hw (by omega);rw [mZ _ (cons_ne_nil _ _)]at hs;exact AL hs (mZ _ (cons_ne_nil _ _)).symm (fun y hy=>(hw y hy).1) (by omega)
theorem Lg{p:Str}(h:oE p)(ha:∀c∈p.cps.toList,c<128):Wd p:=⟨⟨le_trans h.2 (by decide),ha⟩,h.1⟩
theorem Cq(c:Nat)(h:A7 (gD c) "abcdefghijklmnopqrstuvwxyz" = true):c<128:=by
 refine Nat.lt_of_not_le fun hc=>?_;have e:Builtin.Str.occurrences "abcdefghijklmnopqrstuvwxyz" (gD c) 0 ("abcdefghijklmnopqrstuvwxyz" : Str).length 1=[]:=by
  refine PySem.W.occ_nil_of_no _ _ 1 fun i hi=>?_
  cases q:Builtin.Str.subAt "abcdefghijklmnopqrstuvwxyz" (gD c) i with
  |false=>rfl
  |true =>
   unfold Builtin.Str.subAt at q;have q:("abcdefghijklmnopqrstuvwxyz" : Str).cps.extract i (i+(gD c).length)=(gD c).cps:=by simpa using q
   have m:c∈(("abcdefghijklmnopqrstuvwxyz" : Str).cps.extract i (i+(gD c).length)).toList:=by
    rw [q];exact mem_singleton.mpr rfl
   rw [Array.toList_extract]at m;have m2:c∈("abcdefghijklmnopqrstuvwxyz" : Str).cps.toList:=mem_of_mem_drop (List.mem_of_mem_take m);have all:∀c∈("abcdefghijklmnopqrstuvwxyz" : Str).cps.toList,c<128:=by decide +kernel
   exact absurd (all c m2) (by omega)
 unfold A7 at h;rw [e]at h
 cases h
theorem vM{x:Str}(h:aT x=true):∀c∈x.cps.toList,c<128:=fun c hc=>by
 unfold aT at h;simp only [and_eq_true]at h;have hl:=h.2.1;unfold gK at hl;have:=all_eq_true.mp hl c hc;exact Cq c this
theorem DP:∀(e:Ex)(d:Nat),e.ok d->∀p∈e.words,∀c∈p.cps.toList,c<128
 |.num n,d,h,p,hp,c,hc=>by
  rw [mem_singleton.mp hp]at hc;have:=mS n c hc;omega
 |.name x,d,h,p,hp,c,hc=>by
  have h:aT x=true:=by cases d<;>exact h
  rw [mem_singleton.mp hp]at hc;exact vM h c hc
 |.fJ w b,d,h,p,hp,c,hc=>by
  have h:(w = "size" \/ w = "held")/\aT b=true:=by cases d<;>exact h
  rcases mem_cons.mp hp with z|z
  ·rw [z]at hc;rcases h.1 with rfl|rfl
   ·exact(by decide +kernel:∀c∈("size" : Str).cps.toList,c<128) c hc
   ·exact(by decide +kernel:∀c∈("held" : Str).cps.toList,c<128) c hc
  ·rw [mem_singleton.mp z]at hc;exact vM h.2 c hc
 |.dw w b e,0,h,_,_,_,_=>h.elim
 |.dw w b e,d+1,h,p,hp,c,hc=>by
  rcases mem_cons.mp hp with z|z
  ·rw [z]at hc;rcases h.1 with rfl|rfl
   ·exact(by decide +kernel:∀c∈("has" : Str).cps.toList,c<128) c hc
   ·exact(by decide +kernel:∀c∈("item" : Str).cps.toList,c<128) c hc
  ·rcases mem_cons.mp z with z|z
   ·rw [z]at hc;exact vM h.2.1 c hc
   ·exact DP e d h.2.2 p z c hc
 |.work w e f,0,h,_,_,_,_=>h.elim
 |.work w e f,d+1,h,p,hp,c,hc=>by
  rcases mem_cons.mp hp with z|z
  ·rw [z]at hc;exact(by decide +kernel:∀w∈fZ,∀c∈w.cps.toList,c<128) w h.1 c hc
  ·rcases mem_append.mp z with z|z
   ·exact DP e d h.2.1 p z c hc
   ·exact DP f d h.2.2 p z c hc
theorem Lh{L:List Str}{m:MX}{Γ Γ1:M.G}(h:m Γ=some (.sh (.lst (L.map M.T.str)),Γ1))(hB:∀p∈L,p.length<=1000)(hl:L.length<=1000):oy (mC (.str " ")) (fE m aD) Γ=some (.sh (.str (Txt.join " " L)),Γ1):=by
 have N3:(L.map (·.length)).sum+L.length*(" " : Str).length<=16777216:=by
  have sm:∀l:List Str,(∀p∈l,p.length<=1000)->(l.map (·.length)).sum<=l.length*1000:=by
   intro l
   induction l with
   |nil=>intro _;exact zero_le _
   |cons p l ih =>
    intro h;have:=ih fun q hq=>h q (mem_cons_of_mem _ hq);have h1:=h p mem_cons_self;rw [map_cons,sum_cons,length_cons,succ_mul];omega
  have s1:=sm _ hB;have s3:(" " : Str).length=1:=by decide +kernel
  rw [s3];have s4:L.length*1000<=1000*1000:=mul_le_mul hl (le_refl _);omega
 unfold oy;show((fE m aD Γ).bind _)=_;rw [uX h rfl];show(strsOf (L.map M.T.str)).bind _=_;rw [jo];show(if(L.map (·.length)).sum+L.length*(" " : Str).length<=16777216 then _ else _)=_;rw [if_pos N3]
def Qz:MS:=(bo (bD 2 (av 2 cP (aB (ag fO (mV 1) (mC (.int 3))) (aB (mC (.int 4)) aD)))) (bo (tL (uQ 3 (ef (aZ 3) (ef (aZ 4) (ef (aZ 5) uP)))) (av 3 (dX 6) (aB (av 2 cP (aB (mV 1) (aB (mC (.int 41)) aD))) (aB (mC (.int 0)) (aB (mC (.int 5)) aD))))) (bo (bD 6 (ag bf (ag fg (di (aB (mC (.str "+")) (aB (mC (.str "1")) aD))) (ag du (ag bC (mV 2) (mC (.int 3))) (mC (.int 7)))) (vb d5 (mV 4) (fE (mC (.str " ")) aD)))) (jG (kh (ar (av 1 fo (aB (oy (mC (.str " ")) (fE (av 2 d7 (aB (mV 6) (aB (mV 2) aD))) aD)) aD)))) (dt 1 (mC (.bl false))) dO))))
theorem Li(c:Int)(s0 s2 s3 s4 s5 s6:Slot):∃Γ3,(∃a2 a3 a4 a5 a6,Γ3=[s0,.sh (.int c),a2,a3,a4,a5,a6])/\Qz [s0,.sh (.int c),s2,s3,s4,s5,s6]=some (.nx Γ3):=by
 obtain⟨xs,Γx,xl,_,hx⟩:=xI (c / 3) 4 (by decide);obtain⟨x0,x1,x2,x3,rfl⟩:∃x0 x1 x2 x3,xs=[x0,x1,x2,x3]:=by
  match xs,xl with
  |[x0,x1,x2,x3],_=>exact⟨x0,x1,x2,x3,rfl⟩
 obtain⟨ys,Γs,yl,_,hs⟩:=xI c 41 (by decide);obtain⟨e,mY,Γm,he,_,hm⟩:=yM ys yl 5 6 0 (by decide) (by decide) (by decide);have e1:bD 2 (av 2 cP (aB (ag fO (mV 1) (mC (.int 3))) (aB (mC (.int 4)) aD))) [s0,.sh (.int c),s2,s3,s4,s5,s6]=some (.nx [s0,.sh (.int c),.own (.lst ([x0,x1,x2,x3].map M.T.int)),s3,s4,s5,s6]) :=
  kP (Γ1:=[s0,.sh (.int c),s2,s3,s4,s5,s6]) (mH (np:=2) (ts:=[.int (c / 3),.int 4]) (cM (r:=.sh (.int (c / 3))) (au (r1:=.sh (.int c)) (r2:=.sh (.int 3)) rfl rfl (oB (by decide) (by decide))) rfl) rfl hx)
 generalize hX:M.T.lst ([x0,x1,x2,x3].map M.T.int)=X at e1;have g1:aB (av 2 cP (aB (mV 1) (aB (mC (.int 41)) aD))) (aB (mC (.int 0)) (aB (mC (.int 5)) aD)) [s0,.sh (.int c),.own X,s3,s4,s5,s6]=some ([.lst (ys.map M.T.int),.int 0,.int 5],[s0,.sh (.int c),.own X,s3,s4,s5,s6]) :=
  cM (r:=.own (.lst (ys.map M.T.int))) (mH (np:=2) (ts:=[.int c,.int 41]) rfl rfl hs) rfl
 have e2:tL (uQ 3 (ef (aZ 3) (ef (aZ 4) (ef (aZ 5) uP)))) (av 3 (dX 6) (aB (av 2 cP (aB (mV 1) (aB (mC (.int 41)) aD))) (aB (mC (.int 0)) (aB (mC (.int 5)) aD)))) [s0,.sh (.int c),.own X,s3,s4,s5,s6]=some (.nx [s0,.sh (.int c),.own X,.sh e.tree,.sh (.str e.text),.sh (.int mY),s6]):=by
  rw [Dw,cH (np:=3) g1 rfl hm];rfl
 have m0:=emod_nonneg x3 (by decide:(7:Int)≠0);have m1:=emod_lt_of_pos x3 (by decide:(0:Int)<7);obtain⟨n,hn⟩:=eq_ofNat_of_zero_le m0;obtain⟨wf,wl⟩:=o8 he (le_refl _);have hP:((List.replicate n ([.str "+", .str "1"]:List M.T)).flatten)=((List.replicate n (["+", "1"]:List Str)).flatten).map M.T.str:=by
  rw [List.map_flatten,map_replicate];rfl
 generalize Zw:(List.replicate n (["+", "1"]:List Str)).flatten=PP at hP;have pl:PP.length<=12:=by
  rw [<-Zw,List.length_flatten,map_replicate,List.sum_replicate_nat];show n*2<=12;omega
 have pm:∀p∈PP,Wd p:=fun p hp=>by
  rw [<-Zw]at hp;obtain⟨l,h1,h2⟩:=List.mem_flatten.mp hp;rw [(List.mem_replicate.mp h1).2]at h2;have:∀p∈(["+", "1"]:List Str),Wd p:=by decide +kernel
  exact this p h2
 have e3:bD 6 (ag bf (ag fg (di (aB (mC (.str "+")) (aB (mC (.str "1")) aD))) (ag du (ag bC (mV 2) (mC (.int 3))) (mC (.int 7)))) (vb d5 (mV 4) (fE (mC (.str " ")) aD))) [s0,.sh (.int c),.own X,.sh e.tree,.sh (.str e.text),.sh (.int mY),s6]=some (.nx [s0,.sh (.int c),.own X,.sh e.tree,.sh (.str e.text),.sh (.int mY),.own (.lst ((PP++e.words).map M.T.str))]):=by
  refine kP (Γ1:=[s0,.sh (.int c),.own X,.sh e.tree,.sh (.str e.text),.sh (.int mY),s6]) (au (r1:=.own (.lst (PP.map M.T.str))) (r2:=.own (.lst (e.words.map M.T.str))) (au (r1:=.own (.lst [.str "+", .str "1"])) (r2:=.sh (.int (n:Int))) rfl (au (r1:=.sh (.int x3)) (r2:=.sh (.int 7)) (au (r1:=.bor 2 X) (r2:=.sh (.int 3)) rfl rfl ?_) rfl ?_) ?_) ?_ ?_)
  ·show bC X (.int 3)=_;rw [<-hX];rfl
  ·show du (.int x3) (.int 7)=_;rw [kr (by decide),hn]
  ·show fg (.lst [.str "+", .str "1"]) (.int (n:Int))=_;rw [<-hP];show(if 0<=(n:Int)/\(n:Int)<=256/\2*(n:Int).toNat<=256 then some (R.own (.lst (List.replicate (n:Int).toNat [M.T.str "+", .str "1"]).flatten))else none)=_;rw [if_pos ⟨by omega,by omega,by omega⟩,Int.toNat_natCast]
  ·have:=vD he (le_refl _);simp [vb,mV,fE,mC,aD,R.tree,this]
  ·rw [map_append];exact Cn (by rw [length_map,length_map];omega)
 obtain⟨L',Γp,ll,lm,lp⟩:=EN (PP++e.words) (by simp [mX]) (by rw [length_append];omega) x0 x1 x2 x3;rw [hX]at lp;rw [length_append]at ll;have lw:∀p∈L',Wd p\/(p∈dq\/p∈pb\/p∈iN):=fun p hp=>by
  rcases lm p hp with z|z
  ·rcases mem_append.mp z with z|z
   ·exact .inl (pm p z)
   ·exact .inl (Lg (wf p z) (DP e 5 he p z))
  ·exact .inr z
 obtain⟨Γr,hr⟩:=Cp (L:=L') (by omega) lw;have e4:av 2 d7 (aB (mV 6) (aB (mV 2) aD)) [s0,.sh (.int c),.own X,.sh e.tree,.sh (.str e.text),.sh (.int mY),.own (.lst ((PP++e.words).map M.T.str))]=some (.sh (.lst (L'.map M.T.str)),[s0,.sh (.int c),.sh X,.sh e.tree,.sh (.str e.text),.sh (.int mY),.sh (.lst ((PP++e.words).map M.T.str))]) :=
  cH (np:=2) (ts:=[.lst ((PP++e.words).map M.T.str),X]) rfl rfl lp
 have lb:∀p∈L',p.length<=1000:=fun p hp=>by
  rcases lw p hp with z|z
  ·exact le_trans z.1.1 (by decide)
  ·have h1:∀p∈dq,p.length<=1000:=by decide +kernel
   have h2:∀p∈pb,p.length<=1000:=by decide +kernel
   have h3:∀p∈iN,p.length<=1000:=by decide +kernel
   rcases z with z|z|z
   ·exact h1 p z
   ·exact h2 p z
   ·exact h3 p z
 have e5:=Lh e4 lb (by omega);have e6:ar (av 1 fo (aB (oy (mC (.str " ")) (fE (av 2 d7 (aB (mV 6) (aB (mV 2) aD))) aD)) aD)) [s0,.sh (.int c),.own X,.sh e.tree,.sh (.str e.text),.sh (.int mY),.own (.lst ((PP++e.words).map M.T.str))]=some (true,[s0,.sh (.int c),.sh X,.sh e.tree,.sh (.str e.text),.sh (.int mY),.sh (.lst ((PP++e.words).map M.T.str))]) :=
  aK (cH (np:=1) (ts:=[.str (Txt.join " " L')]) (cM e5 rfl) rfl hr)
 exact⟨_,⟨_,_,_,_,_,rfl⟩,aj e1 (aj e2 (aj e3 (aA (h8 e6) rfl)))⟩
theorem ID(ns:List Int)(hl:ns.length<=63):∃Γ,yH [.sh (.lst (ns.map M.T.int))]=some (.sh (.bl true),Γ):=by
 generalize hS:Slot.sh (.lst (ns.map M.T.int))=s0;obtain⟨cs,Γc,fm,hc⟩:=HZ ([0,1,2,3]++ns) (by rw [length_append];show 4+_<=_;omega);obtain⟨Γ',h1,s1,s2,s3,s4,s5,s6,rfl⟩:=uh (b:=aZ 1) (m:=Qz) (fun i Γ=>∃(s1 s2 s3 s4 s5 s6:Slot),Γ=[s0,s1,s2,s3,s4,s5,s6]) (cs.map M.T.int) 0 [s0,.no,.no,.no,.no,.no,.no] ⟨_,_,_,_,_,_,rfl⟩ (by
  rintro i t Γ ht ⟨s1,s2,s3,s4,s5,s6,rfl⟩;obtain⟨c,_,rfl⟩:=mem_map.mp (mem_of_getElem? ht);obtain⟨Γ3,⟨a2,a3,a4,a5,a6,rfl⟩,h⟩:=Li c s0 s2 s3 s4 s5 s6;exact⟨_,_,rfl,h,_,_,_,_,_,_,rfl⟩)
 have hi:JX (av 2 gJ (aB (ag bf (di (aB (mC (.int 0)) (aB (mC (.int 1)) (aB (mC (.int 2)) (aB (mC (.int 3)) aD))))) (mV 0)) (aB (mC (.int 44)) aD))) [s0,.no,.no,.no,.no,.no,.no]=some (cs.map M.T.int,[s0,.no,.no,.no,.no,.no,.no]):=by
  have g:bf (.lst (([0,1,2,3]:List Int).map M.T.int)) (.lst (ns.map M.T.int))=some (.own (.lst (([0,1,2,3]++ns).map M.T.int))):=by
   rw [map_append];exact Cn (by rw [length_map,length_map];show 4+ns.length<=1000;omega)
  have c1:av 2 gJ (aB (ag bf (di (aB (mC (.int 0)) (aB (mC (.int 1)) (aB (mC (.int 2)) (aB (mC (.int 3)) aD))))) (mV 0)) (aB (mC (.int 44)) aD)) [s0,.no,.no,.no,.no,.no,.no]=some (.own (.lst (cs.map M.T.int)),[s0,.no,.no,.no,.no,.no,.no]):=by
   subst hS;have b1:ag bf (di (aB (mC (.int 0)) (aB (mC (.int 1)) (aB (mC (.int 2)) (aB (mC (.int 3)) aD))))) (mV 0) [.sh (.lst (ns.map M.T.int)),.no,.no,.no,.no,.no,.no]=some (.own (.lst (([0,1,2,3]++ns).map M.T.int)),[.sh (.lst (ns.map M.T.int)),.no,.no,.no,.no,.no,.no]):=au (r1:=.own (.lst (([0,1,2,3]:List Int).map M.T.int))) (r2:=.sh (.lst (ns.map M.T.int))) rfl rfl g;generalize ([0,1,2,3]++ns).map M.T.int=L at b1 hc;exact mH (np:=2) (ts:=[.lst L,.int 44]) (cM b1 rfl) rfl hc
  rw [Qp,c1];rfl
 exact⟨_,cy (aj (oV hi h1) rfl)⟩
def rO:List Value->Option (List Str)
 |[]=>some []
 |.str x _::r=>(rO r).map (x::·)
 |_::_=>none
theorem tf:∀{l:List Value}{ys:List Str},rO l=some ys->Vals (ys.map V.str) l
 |[],ys,h=>by
  cases h
  exact .nil
 |v::r,ys,h=>by
  cases v with
  |str x t =>
   have h:(rO r).map (x::·)=some ys:=h
   cases e:rO r with
   |none=>rw [e]at h;cases h
   |some zs =>
    rw [e]at h
    cases h
    exact .cons ⟨t,rfl⟩ (tf e)
  |_=>cases h
theorem AN{K:KC}{H:Hp}:∀ys:List Str,iu K H (ys.map V.str) (ys.map M.T.str)
 |[]=>cu
 |y::ys=>dh rfl (AN ys)
theorem Lj{K:PySem.W.Frag}{cl:Nat->Addr}{Hs:Hp}{a:Addr}{od:Option Addr}{bh:Array Value}{n:Nat}{sl:Array (Option Value)}{ys:List Str}(h:K.lookup a=some ⟨.type "tuple", od,.seq bh n,sl⟩)(w:rO bh.toList=some ys)(hl:ys.length<=1000:=by decide):Tr ⟨K,cl⟩ Hs (.ref a) (.tup (ys.map M.T.str)):=by
 have v:=tf w;refine⟨a,_,rfl,.inr ⟨_,bh,n,h,rfl,rfl,?_,v⟩,AN ys⟩;have e:=v.length;rw [length_map]at e;have e2:bh.toList.length=bh.size:=length_toList;have e3:ys.length=bh.toList.length:=e;have:1000<=sizeLine:=by decide
 omega
theorem L7{X:Cx}{W:RF}{i:Nat}{d:M.St->Hp->Prop}(h:∀σ H x,σ[i]?=some (some (V.str x))->(reprText x).length<=1000->d σ H):∀p Γ σ H Hs,UG i W.R.ws p Γ->az (oX X W) (W.at p) Γ σ H Hs->d σ H:=fun p Γ σ H Hs ⟨x,h1,h2⟩ S=>by
 obtain⟨v,q1,q2⟩:=S.sh i _ h1
 cases(show v=V.str x from q2)
 exact h σ H x q1 h2
theorem pt0{X:Cx}{P:Fx}{e:Expr}{m:MT}{Γ Γ':M.G}{b:Bool}(h:oN X P e m)(hm:m Γ=some (b,Γ')):PT X e (Pk (kc X P) P Γ b Γ'):=h _ _ _ hm
theorem _root_.M.aW.at{X:Cx}{P:Fx}{e:Expr}{m:MX}{Γ Γ':M.G}{r:M.R}(h:aW X P e m)(hm:m Γ=some (r,Γ')):PE X e (BH (kc X P) P Γ r Γ'):=h _ _ _ hm
theorem L8{Pr:Program}{w:World}{K:PySem.W.Frag}{mg:Str->Option Value}{base:Heap}{KK:KC}{k np:Nat}{f:Addr}{fd:FuncData}{ps:List Str}(hp:ps.length=np):bc Pr w K mg base gU k f fd ps (oq KK np (fun _=>none)) :=
 ⟨fun vs H Q E h=>h.1.trans hp.symm,fun A outer s H args us vs Q E _ _ _ _ h=>by obtain⟨_,as,r,Γ',Hs,H0,hc,_⟩:=h;cases hc⟩
theorem Oe{Pr:Program}{w:World}{K:PySem.W.Frag}{mg:Str->Option Value}{base:Heap}{KK:KC}{C:Addr}{k np:Nat}{f:Addr}{fd:FuncData}{ps:List Str}(hp:ps.length=np):bc Pr w K mg base gU k f fd ps (A9 KK C np (fun _ _ _=>none)) :=
 ⟨fun vs H Q E h=>h.1.trans hp.symm,fun A outer s H args us vs Q E _ _ _ _ h=>by obtain⟨_,R,H0,Hs,as,r,p,p',Γ',_,_,_,_,_,hc,_⟩:=h;cases hc⟩
def top(i:Nat):Stmt:=PySem.Challenge.pw_surejoin_k11_expressions_refused.main.body.getD i (.Pass ⟨0,0,0,0⟩)
abbrev cL:Stmt:=Dl (top 13) 0
abbrev cY:Stmt:=Dl (top 13) 1
abbrev dQ:Stmt:=Dl (top 13) 2
abbrev eh:Stmt:=Dl (top 13) 3
abbrev de:Stmt:=top 23
abbrev g7:Stmt:=top 24
abbrev ck:Stmt:=top 25
abbrev ej:Stmt:=top 26
abbrev gb:Stmt:=top 27
abbrev eP:Stmt:=top 28
abbrev bH:Stmt:=top 29
abbrev df:Stmt:=top 30
abbrev cD:Stmt:=top 31
abbrev eQ:Stmt:=top 32
abbrev bY:Stmt:=top 33
abbrev gc:Stmt:=top 34
abbrev bP:Stmt:=top 35
abbrev eC:Stmt:=top 37
abbrev eR:Stmt:=top 38
abbrev gf:Stmt:=top 39
abbrev dY:Stmt:=top 40
abbrev dG:Stmt:=top 41
abbrev dA:Stmt:=top 42
abbrev gg:Stmt:=top 43
abbrev gh:Stmt:=top 44
abbrev gi:Stmt:=top 45
abbrev eS:Stmt:=top 46
abbrev gj:Stmt:=top 47
abbrev eT:Stmt:=top 48
abbrev ft:Stmt:=top 49
abbrev lh:Stmt:=top 50
set_option genInjectivity false in
set_option genSizeOf false in
structure Ad where
 gO:Addr
 gP:FuncData
 g8:Addr
 g9:FuncData
 jq:Addr
 jr:FuncData
 j5:Addr
 j6:FuncData
 js:Addr
 jt:FuncData
 rP:Addr
 rQ:FuncData
 fz:Addr
 fC:FuncData
 ie:Addr
 ig:FuncData
 pd:Addr
 ph:FuncData
 i3:Addr
 i4:FuncData
 d8:Addr
 ij:FuncData
 cV:Addr
 dH:FuncData
 eD:Addr
 eE:FuncData
 i5:Addr
 i6:FuncData
 cZ:Addr
 dZ:FuncData
 pj:Addr
 pk:FuncData
 fP:Addr
 fQ:FuncData
 m4:Addr
 m5:FuncData
 lj:Addr
 lq:FuncData
 pq:Addr
 pw:FuncData
 jP:Addr
 m6:FuncData
 j7:Addr
 j8:FuncData
 iI:Addr
 iJ:FuncData
 px:Addr
 pz:FuncData
 pA:Addr
 pB:FuncData
 pC:Addr
 pD:FuncData
 lr:Addr
 lu:FuncData
 pE:Addr
 pF:FuncData
 lx:Addr
 ly:FuncData
 m8:Addr
 ng:FuncData
 IE:Addr
 IF:FuncData
 i9:Value
 ja:Value
 eo:Value
 dB:Value
 jb:Value
 eF:Addr
 fR:Addr
 lz:Addr
structure Tx(w:World)(K:PySem.W.Frag)(mg:Str->Option Value)(a:Ad)(cl:Nat->Addr):Prop where
 qJ:jW K "__init__" "Reader.__init__" cL a.gO a.gP
 qK:Binds K a.gP ["self", "things", "lacking"] []
 rR:jW K "is_over" "Reader.is_over" cY a.g8 a.g9
 hG:Binds K a.g9 ["self"] []
 vN:jW K "ahead" "Reader.ahead" dQ a.jq a.jr
 nh:Binds K a.jr ["self"] []
 wK:jW K "take" "Reader.take" eh a.j5 a.j6
 ik:Binds K a.j6 ["self"] []
 nj:mg "are_signs_of" = some (.ref a.js)
 ju:jW K "are_signs_of" "are_signs_of" de a.js a.jt
 nk:Binds K a.jt ["text", "signs"] []
 oh:mg "is_name" = some (.ref a.rP)
 kA:jW K "is_name" "is_name" g7 a.rP a.rQ
 oi:Binds K a.rQ ["text"] []
 iO:mg "is_written_number" = some (.ref a.fz)
 fD:jW K "is_written_number" "is_written_number" ck a.fz a.fC
 iP:Binds K a.fC ["text"] []
 oF:mg "read_number" = some (.ref a.ie)
 il:jW K "read_number" "read_number" ej a.ie a.ig
 oG:Binds K a.ig ["text"] []
 vO:mg "words_of" = some (.ref a.pd)
 pG:jW K "words_of" "words_of" gb a.pd a.ph
 vP:Binds K a.ph ["text"] []
 dU:mg "taken_name" = some (.ref a.i3)
 gQ:jW K "taken_name" "taken_name" eP a.i3 a.i4
 lA:Binds K a.i4 ["words"] []
 cO:mg "taken_parts" = some (.ref a.d8)
 eU:jW K "taken_parts" "taken_parts" bH a.d8 a.ij
 ip:Binds K a.ij ["words", "count", "room"] []
 cU:mg "taken_within" = some (.ref a.cV)
 dI:jW K "taken_within" "taken_within" df a.cV a.dH
 fk:Binds K a.dH ["words", "room"] []
 cJ:mg "taken_expression" = some (.ref a.eD)
 dJ:jW K "taken_expression" "taken_expression" cD a.eD a.eE
 fT:Binds K a.eE ["words"] []
 gH:mg "check_over" = some (.ref a.i5)
 i7:jW K "check_over" "check_over" eQ a.i5 a.i6
 qL:Binds K a.i6 ["words"] []
 qM:mg "read_expression" = some (.ref a.cZ)
 gR:jW K "read_expression" "read_expression" bY a.cZ a.dZ
 qN:Binds K a.dZ ["text"] []
 Cr:mg "parts_of" = some (.ref a.pj)
 vQ:jW K "parts_of" "parts_of" gc a.pj a.pk
 Cs:Binds K a.pk ["E"] []
 jv:mg "shown_expression" = some (.ref a.fP)
 fU:jW K "shown_expression" "shown_expression" bP a.fP a.fQ
 jw:Binds K a.fQ ["E"] []
 AO:mg "_law_cells" = some (.ref a.m4)
 tj:jW K "_law_cells" "_law_cells" eC a.m4 a.m5
 AQ:Binds K a.m5 ["_law_script", "_law_many"] []
 qO:mg "_law_spread" = some (.ref a.lj)
 lB:jW K "_law_spread" "_law_spread" eR a.lj a.lq
 qP:Binds K a.lq ["_law_cell", "_law_many"] []
 lC:mg "_law_kept" = some (.ref a.pq)
 jy:jW K "_law_kept" "_law_kept" gf a.pq a.pw
 lD:Binds K a.pw [] []
 AR:mg "_law_kinds" = some (.ref a.jP)
 tm:jW K "_law_kinds" "_law_kinds" dY a.jP a.m6
 AS:Binds K a.m6 ["_law_e"] []
 oH:mg "_law_is_name" = some (.ref a.j7)
 j9:jW K "_law_is_name" "_law_is_name" dG a.j7 a.j8
 oI:Binds K a.j8 ["_law_text"] []
 tS:mg "_law_number_of" = some (.ref a.iI)
 lU:jW K "_law_number_of" "_law_number_of" dA a.iI a.iJ
 tT:Binds K a.iJ ["_law_text"] []
 vR:mg "_law_name" = some (.ref a.px)
 pH:jW K "_law_name" "_law_name" gg a.px a.pz
 vS:Binds K a.pz ["_law_x"] []
 Ct:mg "_law_leaf" = some (.ref a.pA)
 vT:jW K "_law_leaf" "_law_leaf" gh a.pA a.pB
 Cu:Binds K a.pB ["_law_x"] []
 pI:mg "_law_made" = some (.ref a.pC)
 lE:jW K "_law_made" "_law_made" gi a.pC a.pD
 pJ:Binds K a.pD ["_law_xs", "_law_at", "_law_room"] []
 yR:mg "_law_stands" = some (.ref a.lr)
 qQ:jW K "_law_stands" "_law_stands" eS a.lr a.lu
 yS:Binds K a.lu ["_law_text"] []
 vU:mg "_law_word" = some (.ref a.pE)
 pK:jW K "_law_word" "_law_word" gj a.pE a.pF
 vV:Binds K a.pF ["_law_x"] []
 yT:mg "_law_spoilt" = some (.ref a.lx)
 qR:jW K "_law_spoilt" "_law_spoilt" eT a.lx a.ly
 yU:Binds K a.ly ["_law_words", "_law_xs"] []
 AU:mg "_law_right" = some (.ref a.m8)
 tq:jW K "_law_right" "_law_right" ft a.m8 a.ng
 AV:Binds K a.ng ["_law_text"] []
 Zx:mg "law" = some (.ref a.IE)
 QA:jW K "law" "law" lh a.IE a.IF
 Zy:Binds K a.IF ["_law_script"] []
 ER:mg "Reader" = some (.ref (cl 11))
 ES:Mk K (cl 11) a.gO
 rc:NH K (cl 11)
 yV:mg "JoinError" = some (.ref (cl 0))
 kB:mg "NoLine" = some (.ref (cl 2))
 Cv:mg "TooMuch" = some (.ref (cl 1))
 ET:mg "NoNest" = some (.ref (cl 3))
 EU:mg "NoName" = some (.ref (cl 4))
 EV:mg "NoKind" = some (.ref (cl 5))
 IG:mg "Hangs" = some (.ref (cl 6))
 Cw:mg "NoSteps" = some (.ref (cl 7))
 Cy:mg "NoBoxes" = some (.ref (cl 8))
 EW:mg "NoTurn" = some (.ref (cl 9))
 EX:mg "NoHead" = some (.ref (cl 10))
 kC:kitOne K (.ref (cl 2)) (.ref (cl 2))=some true
 fK:kitOne K (.ref (cl 2)) (.type "ValueError")=some true
 jz:kitOne K (.ref (cl 2)) (.ref (cl 1))=some false
 kD:kitOne K (.ref (cl 2)) (.ref (cl 3))=some false
 kE:kitOne K (.ref (cl 2)) (.ref (cl 4))=some false
 kF:kitOne K (.ref (cl 2)) (.ref (cl 5))=some false
 nq:kitOne K (.ref (cl 2)) (.ref (cl 6))=some false
 jA:kitOne K (.ref (cl 2)) (.ref (cl 7))=some false
 jB:kitOne K (.ref (cl 2)) (.ref (cl 8))=some false
 kG:kitOne K (.ref (cl 2)) (.ref (cl 9))=some false
 kH:kitOne K (.ref (cl 2)) (.ref (cl 10))=some false
 xk:Ga K (cl 2)
 xi:excIn K (cl 2) Rt "ValueError.__new__" = true
 xm:exmOne K (.ref (cl 2)) (.ref (cl 0))=some true
 pL:Meth K (cl 11) "is_over" a.g8
 AW:Meth K (cl 11) "ahead" a.jq
 uo:Meth K (cl 11) "take" a.j5
 EY:mg "LETTERS" = some a.i9
 EZ:RelV (.str "abcdefghijklmnopqrstuvwxyz") a.i9
 E1:mg "FIGURES" = some a.ja
 E2:RelV (.str "0123456789") a.ja
 vW:mg "LONGEST_NAME" = some a.eo
 vX:RelV (.int 8) a.eo
 rT:mg "LONGEST_NUMBER" = some a.dB
 rV:RelV (.int 9) a.dB
 rW:mg "DEEPEST" = some a.jb
 rX:RelV (.int 5) a.jb
 yW:mg "KEPT_WORDS" = some (.ref a.eF)
 yX:∀Hs,Tr ⟨K,cl⟩ Hs (.ref a.eF) (.tup (iY.map M.T.str))
 hJ:mg "WORKINGS" = some (.ref a.fR)
 hU:BX w K a.fR aL
 lF:mg "LOOKS" = some (.ref a.lz)
 lG:BX w K a.lz aU
 yY:mg "ValueError" = none
 L9:mg "all" = none
 QB:mg "int" = none
 cA:mg "isinstance" = none
 nt:mg "len" = none
 Of:mg "list" = none
 QC:mg "max" = none
 uq:mg "range" = none
 Cz:mg "reversed" = none
 Ma:mg "str" = none
 DQ:mg "tuple" = none
variable {Pr:Program}{w:World}{K:PySem.W.Frag}{mg:Str->Option Value}{base:Heap}{a:Ad}{cl:Nat->Addr}
theorem pM:aN ["self", "things", "lacking"] ["self", "things", "lacking"] (ai cL):=⟨rfl,rfl,rfl,by decide +kernel,rfl,by decide +kernel,by decide +kernel⟩
theorem pN(T:Tx w K mg a cl):bc Pr w K mg base gU 1 a.gO a.gP ["self", "things", "lacking"] (YV ⟨K,cl⟩ (cl 11)):=by
 refine T.qJ.ok (k:=0) pM (fun vs H Q E h=>by obtain⟨x,dx,a,ws,rfl,_⟩:=h;rfl) fun cW A outer s H vs Q E hr h=>?_;refine Hg (cl:=cl) T.rc (pv 0) (pv 0) (pv 0) (pv 1) (pv 2) (by rfl) T.Of (hD:=fun _ _ q=>q) (g0:=fun i v hv=>?_) (h:=h);obtain⟨x,dx,a,ws,rfl,_⟩:=h;unfold L2.start;have hi:=(List.getElem?_eq_some_iff.mp hv).1;rw [List.getElem?_append_left (by rw [length_map];exact hi),getElem?_map,hv];rfl
theorem qS:aN ["self"] ["self"] (ai cY):=⟨rfl,rfl,rfl,by decide +kernel,rfl,by decide +kernel,by decide +kernel⟩
theorem gS(T:Tx w K mg a cl):bc Pr w K mg base gU 1 a.g8 a.g9 ["self"] (A9 ⟨K,cl⟩ (cl 11) 1 aS):=by
 refine Ac (k:=0) (m:=g5) T.rR qS rfl rfl fun cW A outer s H E W fm hC hj hF hr=>?_;obtain⟨⟨C0,r0,Bd,L0,Be⟩,Bf,Bg,qT,Bh,q1,q2,q3⟩:=W
 cases(show qT=cl from fm)
 cases(show C0=cl 11 from hC)
 exact eZ (j3 (LL fun p=>fM Ng (Er T.rc hj (pv 0)) (dz jk (by rfl) T.nt (by decide +kernel) (BV T.rc hj (pv 0))) (bj _)))
theorem tU:aN ["self"] ["self"] (ai dQ):=⟨rfl,rfl,rfl,by decide +kernel,rfl,by decide +kernel,by decide +kernel⟩
theorem lV(T:Tx w K mg a cl):bc Pr w K mg base gU 2 a.jq a.jr ["self"] (A9 ⟨K,cl⟩ (cl 11) 1 bU):=by
 refine Ac (k:=1) (m:=gF) T.vN tU rfl rfl fun cW A outer s H E W fm hC hj hF hr=>?_;obtain⟨⟨C0,r0,Bd,L0,Be⟩,Bf,Bg,qT,Bh,q1,q2,q3⟩:=W
 cases(show qT=cl from fm)
 cases(show C0=cl 11 from hC)
 exact eZ (j3 (P7 (yz (iV T.rc.cls T.pL (gS T) (hr.mono (by decide)) T.hG hj (pv 0) (fun _ _ _=>rfl))) (qm fun p=>Ae T.rc hj (pv 0)) (LL fun p=>Hd T.rc hj (pv 0) (pv 0))))
theorem nu:aN ["self", "thing"] ["self"] (ai eh):=⟨rfl,rfl,rfl,by decide +kernel,rfl,by decide +kernel,by decide +kernel⟩
theorem gT(T:Tx w K mg a cl):bc Pr w K mg base gU 3 a.j5 a.j6 ["self"] (A9 ⟨K,cl⟩ (cl 11) 1 bx):=by
 refine Ac (k:=2) (m:=ib) T.wK nu rfl rfl fun cW A outer s H E W fm hC hj hF hr=>?_;obtain⟨⟨C0,r0,Bd,L0,Be⟩,Bf,Bg,qT,Bh,q1,q2,q3⟩:=W
 cases(show qT=cl from fm)
 cases(show C0=cl 11 from hC)
 exact fh (j0 nu.nd rfl (Or.inl rfl) (hF 1 (by decide)) (iV T.rc.cls T.AW (lV T) (hr.mono (by decide)) T.nh hj (pv 0) (fun _ _ _=>rfl))) (fh (Kw T.rc hj (pv 0)) (eZ (j3 (qm fun p=>ah (pv 1)))))
theorem tV:aN ["text", "signs"] ["text", "signs"] (ai de):=⟨rfl,rfl,rfl,by decide +kernel,rfl,by decide +kernel,by decide +kernel⟩
theorem lW(T:Tx w K mg a cl):bc Pr w K mg base gU 1 a.js a.jt ["text", "signs"] (oq ⟨K,cl⟩ 2 bV):=by
 refine lZ (k:=0) (m:=mP) T.ju tV rfl rfl fun cW A outer s H E P fm hF hr=>?_;subst fm;have hu:=hr.units;exact ay (aY (np:=2) (dz (GH rfl) (by rfl) T.L9 (by decide +kernel) (bw (qf (N':=["sign", "signs"]) (cap:=[none,some 1]) rfl (yx (ah (pv 0))) (xj (sc:=ai de) rfl rfl (by decide +kernel) (by decide +kernel) (by decide +kernel)) (⟨trivial,⟨⟨rfl,.inl rfl,.inl rfl⟩,trivial⟩⟩) (fun cs C s2 H2 fp P2 vY EB=>by cases P2;cases vY;exact⟨bK (show(["sign", "signs"]:List Str).Nodup by decide +kernel) rfl (Or.inl rfl) (EB 0 rfl),nU,fM kR (ah (pv 0)) (ah (pv 1)) (by rfl)⟩)) bT)))
theorem CA:aN ["text"] ["text"] (ai g7):=⟨rfl,rfl,rfl,by decide +kernel,rfl,by decide +kernel,by decide +kernel⟩
theorem lH(T:Tx w K mg a cl):bc Pr w K mg base gU 2 a.rP a.rQ ["text"] (oq ⟨K,cl⟩ 1 fi):=by
 refine lZ (k:=1) (m:=xF) T.kA CA rfl rfl fun cW A outer s H E P fm hF hr=>?_;subst fm;have hu:=hr.units;exact ay (aY (np:=1) (snd_and (El yo yo af (dz jk (by rfl) T.nt (by decide +kernel) (bw (ah (pv 0)) bT)) (jj (t:=.int 8) (by rfl) T.vW T.vX (fun _=>rfl))) (snd_and (aX (lW T) (hr.mono (by decide)) (by rfl) T.nj T.ju.kp T.nk (ae (ah (pv 0)) (ae (jj (t:=.str "abcdefghijklmnopqrstuvwxyz") (by rfl) T.EY T.EZ (fun _=>rfl)) aq))) (p6 (fM z8 (ah (pv 0)) (jj (v:=.ref a.eF) (t:=(.tup (iY.map M.T.str))) (by rfl) T.yW rfl T.yX) (by rfl))))))
theorem nv:aN ["text"] ["text"] (ai ck):=⟨rfl,rfl,rfl,by decide +kernel,rfl,by decide +kernel,by decide +kernel⟩
theorem iB(T:Tx w K mg a cl):bc Pr w K mg base gU 2 a.fz a.fC ["text"] (oq ⟨K,cl⟩ 1 ba):=by
 refine lZ (k:=1) (m:=iM) T.fD nv rfl rfl fun cW A outer s H E P fm hF hr=>?_;subst fm;have hu:=hr.units;exact ao (cI (kM ((gx (Em yo yo af (dz jk (by rfl) T.nt (by decide +kernel) (bw (ah (pv 0)) bT)) (jj (t:=.int 9) (by rfl) T.rT T.rV (fun _=>rfl))) (fG (fN (aX (lW T) (hr.mono (by decide)) (by rfl) T.nj T.ju.kp T.nk (ae (ah (pv 0)) (ae (jj (t:=.str "0123456789") (by rfl) T.E1 T.E2 (fun _=>rfl)) aq)))))).t)) (ay (aY (np:=1) jc)) bF)
  (ay (aY (np:=1) (M7 (fM (dE hu) (ah (pv 0)) aP (bj _)) (p6 (fM (BL hu) (bu (ah (pv 0)) af) aP (bj _))))))
theorem ny:aN ["text"] ["text"] (ai ej):=⟨rfl,rfl,rfl,by decide +kernel,rfl,by decide +kernel,by decide +kernel⟩
theorem vZ(T:Tx w K mg a cl):bc Pr w K mg base gU 3 a.ie a.ig ["text"] (oq ⟨K,cl⟩ 1 gG):=by
 refine lZ (k:=2) (m:=oz) T.il ny rfl rfl fun cW A outer s H E P fm hF hr=>?_;subst fm;have hu:=hr.units;exact ao (cI (kM (fN (aX (iB T) (hr.mono (by decide)) (by rfl) T.iO T.fD.kp T.iP (ae (ah (pv 0)) aq)))) (ay G7) bF)
  (ay (aY (np:=1) (oO Kl (by rfl) T.QB (by decide +kernel) (bw (ah (pv 0)) bT))))
theorem AX:aN ["text"] ["text"] (ai gb):=⟨rfl,rfl,rfl,by decide +kernel,rfl,by decide +kernel,by decide +kernel⟩
theorem tu(T:Tx w K mg a cl):bc Pr w K mg base gU 3 a.pd a.ph ["text"] (spO (cl 11)):=by
 refine T.pG.ok (k:=2) AX (fun vs H Q E h=>by obtain⟨x,ws,rfl,_⟩:=h;rfl) fun cW A outer s H vs Q E hr h=>?_;obtain⟨x,ws,rfl,hg,q⟩:=h;have S0:az ⟨K,cl⟩ ⟨H,fun _=>none,cl,ud⟩ [.sh (.str x)] (L2.start ["text"] [.str x]) H (fun _=>none):=qr x 0 (fun i v h=>nomatch h) rfl (ax.refl _) (fun _ _ h=>nomatch h) (fun _ _ h=>nomatch h);have hm:vb d5 (mV 0) (fE (mC (.str " ")) aD) [.sh (.str x)]=some (.own (.lst (ws.map M.T.str)),[.sh (.str x)]):=by
  simp [vb,mV,fE,mC,aD,R.tree,hg]
 refine⟨_,kI (xY (JB (dvs:=[]) (E:=E0) T.ES (pN T) (hr.mono (by decide)) (by rfl) T.ER T.qK .nil uH (bE (aW.at (yy (P:=⟨H,fun _=>none,cl,ud⟩) PySem.F.slot_str_split PySem.F.type_str_split u9 (ah (pv 0)) (bw aP bT)) hm) (bE xV d0)))),?_⟩;refine⟨_,S0,fun v H1 bJ e1 dr S1 f1=>?_⟩;obtain⟨b,rfl,nb,⟨_,xs,hb,rs⟩,_⟩:=f1
 cases fX rs
 intro y dx h1 h2 h3;refine⟨y,dx,b,ws,rfl,aE,?_,fun L H' nL zO hL hk=>⟨rfl,?_⟩⟩
 ·have z1:b≠y:=fun z=>by rw [z,h1]at hb;cases hb
  have z2:b≠dx:=fun z=>by rw [z,h2]at hb;cases hb
  rw [aw z1,aw z2];exact hb
 ·have zL:L≠y:=fun z=>by rw [z,aE]at nL;cases nL
  refine q ⟨cl 11,y,dx,L,ws⟩ H' rfl rfl (fun c o e=>?_) (e1.free h1) zO hL zL;have e:=e1 _ _ e;have zc:c≠y:=fun z=>by rw [z,h1]at e;cases e
  have zd:c≠dx:=fun z=>by rw [z,h2]at e;cases e
  exact hk c o zc (by rw [aw zc,aw zd];exact e)
theorem iq:aN ["words", "word"] ["words"] (ai eP):=⟨rfl,rfl,rfl,by decide +kernel,rfl,by decide +kernel,by decide +kernel⟩
theorem oJ(T:Tx w K mg a cl):bc Pr w K mg base gU 4 a.i3 a.i4 ["words"] (A9 ⟨K,cl⟩ (cl 11) 1 d6):=by
 refine Ac (k:=3) (m:=kY) T.gQ iq rfl rfl fun cW A outer s H E W fm hC hj hF hr=>?_;obtain⟨⟨C0,r0,Bd,L0,Be⟩,Bf,Bg,qT,Bh,q1,q2,q3⟩:=W
 cases(show qT=cl from fm)
 cases(show C0=cl 11 from hC)
 exact fh (j0 iq.nd rfl (Or.inl rfl) (hF 1 (by decide)) (iV T.rc.cls T.uo (gT T) (hr.mono (by decide)) T.ik hj (pv 0) (fun _ _ _=>rfl)))
  (fh (sO (eI fun p=>kM (fN (aX (lH T) (hr.mono (by decide)) (by rfl) T.oh T.kA.kp T.oi (ae (ah (pv 1)) aq)))) (eZ Ha) jM) (eZ (j3 (qm fun p=>ah (pv 1)))))
theorem v5(T:Tx w K mg a cl):bc Pr w K mg base (qY Pr w (cl 2)) 4 a.i3 a.i4 ["words"] (wI ⟨K,cl⟩ (cl 11) 1 (B2 2 dU)):=by
 refine As (k:=3) T.gQ iq rfl rfl fun cW A outer s H E W fm hC hj hF hr=>?_;obtain⟨⟨C0,r0,Bd,L0,Be⟩,Bf,Bg,qT,Bh,q1,q2,q3⟩:=W
 cases(show qT=cl from fm)
 cases(show C0=cl 11 from hC)
 exact nX (j0 iq.nd rfl (Or.inl rfl) (hF 1 (by decide)) (iV T.rc.cls T.uo (gT T) (hr.mono (by decide)) T.ik hj (pv 0) (fun _ _ _=>rfl)))
  (eJ (vk (eI fun p=>kM (fN (aX (lH T) (hr.mono (by decide)) (by rfl) T.oh T.kA.kp T.oi (ae (ah (pv 1)) aq)))) (eJ (vn (C:=cl 2) (x := "NoLine") (fun e s' h=>wpAny_mono h (fun _ _ z=>z) fun _ _ z=>False.elim z) rfl rfl rfl rfl (by rfl) T.kB T.xi (qu (mf.cons (vj (n:=1000) (pv 1) (by decide)) (mf.cons Am mf.nil rfl) rfl) (by decide +kernel)) (by decide +kernel) (L7 fun σ H x h1 h2=>⟨⟨x,h1,h2⟩,trivial,trivial⟩)))))
theorem nA:aN ["words", "count", "room"] ["words", "count", "room"] (ai bH):=⟨rfl,rfl,rfl,by decide +kernel,rfl,by decide +kernel,by decide +kernel⟩
theorem IH(T:Tx w K mg a cl){rc:yA}{k:Nat}(hk:1<=k)(ih:bc Pr w K mg base gU k a.cV a.dH ["words", "room"] (A9 ⟨K,cl⟩ (cl 11) 2 rc)):bc Pr w K mg base gU (k+1) a.d8 a.ij ["words", "count", "room"] (A9 ⟨K,cl⟩ (cl 11) 3 (rH 3 (dv rc))):=by
 refine Ac (k:=k) (m:=dv rc) T.eU nA rfl rfl fun cW A outer s H E W fm hC hj hF hr=>?_;obtain⟨⟨C0,r0,Bd,L0,Be⟩,Bf,Bg,qT,Bh,q1,q2,q3⟩:=W
 cases(show qT=cl from fm)
 cases(show C0=cl 11 from hC)
 have hu:=hr.units;refine fh (sO (eI fun p=>(gx (aQ mD (ah (pv 1)) af (bj _)) (fG (aQ (dE hu) (ah (pv 2)) af (bj _)))).t) (eZ Ha) jM) (eZ (j3 (Ep z6 (by rfl) T.DQ (by decide +kernel) (Kx (N':=["part", "words", "room"]) (cap:=[none,some 0,some 2]) rfl (fun p=>nT (by rfl) T.uq (bw (ah (pv 1)) bT)) (xj (sc:=ai bH) rfl rfl (by decide +kernel) (by decide +kernel) (by decide +kernel)) (⟨trivial,⟨rfl,.inl rfl,.inl rfl⟩,⟨rfl,.inl rfl,.inl rfl⟩,trivial⟩) ?_))));intro cs C s2 H2 fp W2 vY Vb EB RK;obtain⟨R2,H02,S02,Vc,F2,w1,w2,w3⟩:=W2
 cases(show Vc=cl from vY)
 cases(show R2=_ from Vb)
 exact⟨fun p=>bK (show(["part", "words", "room"]:List Str).Nodup by decide +kernel) rfl (Or.inl rfl) (EB 0 rfl),ia ih hr (by rfl) T.cU T.dI.kp T.fk (RK 1 0 _ rfl hj) (pv 1) (fun p=>ae (ak kN (ah (pv 2)) af) aq)⟩
theorem tW(T:Tx w K mg a cl):bc Pr w K mg base (qY Pr w (cl 2)) 3 a.ie a.ig ["text"] (Oy fun xs=>∃x,xs=[x]/\Y5 x):=by
 refine Qh (cl:=cl) T.il ny (fun xs h=>by obtain⟨x,rfl,_⟩:=h;rfl) fun cW A outer s H xs D E hg hr hE=>?_;obtain⟨x,rfl,h,hl⟩:=hg;have h1:kh (ar (av 1 ba (aB (mV 0) aD))) [.sh (.str x)]=some (true,[.sh (.str x)]):=h8 (b:=false) (aK (cH (np:=1) (ts:=[.str x]) rfl rfl h));refine⟨_,ed (wU (pt0 (P:=⟨H,fun _=>none,cl,p9 [V.str x]⟩) (kM (fN (aX (iB T) (hr.mono (by decide)) (by rfl) T.iO T.fD.kp T.iP (ae (ah (pv 0)) aq)))) h1) (kI (xC (E:=E) (C:=cl 2) (x := "NoLine") (fun e s' h=>wpAny_mono h (fun _ _ z=>z) fun _ _ z=>False.elim z) rfl rfl rfl rfl (by rfl) T.kB T.xi (LN (qu (mf.cons (vj (n:=1000) (pv 0) (by decide)) (mf.cons Am mf.nil rfl) rfl) (by decide +kernel))))) xX) (ay (P:=⟨H,fun _=>none,cl,p9 [V.str x]⟩) G7),fun S0=>⟨_,S0,fun H1 bJ e1 dr S1=>?_⟩⟩;refine rA ⟨⟨⟨x,rfl,hl⟩,trivial,trivial⟩,fun m hm=>⟨⟨m,rfl,le_trans hm (by decide +kernel)⟩,fun b=>hE b H1 e1⟩⟩
theorem E3(T:Tx w K mg a cl){rc:yA}{g:RG}{k:Nat}(hk:1<=k)(ihV:bc Pr w K mg base gU k a.cV a.dH ["words", "room"] (A9 ⟨K,cl⟩ (cl 11) 2 rc))(ih:bc Pr w K mg base (qY Pr w (cl 2)) k a.cV a.dH ["words", "room"] (wI ⟨K,cl⟩ (cl 11) 2 g)):bc Pr w K mg base (qY Pr w (cl 2)) (k+1) a.d8 a.ij ["words", "count", "room"] (wI ⟨K,cl⟩ (cl 11) 3 (B2 3 (cO rc g))):=by
 refine As (k:=k) T.eU nA rfl rfl fun cW A outer s H E W fm hC hj hF hr=>?_;obtain⟨⟨C0,r0,Bd,L0,Be⟩,Bf,Bg,qT,Bh,q1,q2,q3⟩:=W
 cases(show qT=cl from fm)
 cases(show C0=cl 11 from hC)
 have hu:=hr.units;have Et:∀e s',wpAny (model Pr w) (lX (qY Pr w (cl 2)) Pr w K mg base ["words", "count", "room"] "taken_parts" (ai bH) a.d8 cW A outer s H E).A (leaving (lX (qY Pr w (cl 2)) Pr w K mg base ["words", "count", "room"] "taken_parts" (ai bH) a.d8 cW A outer s H E).env e) (fun _ qU=>qY Pr w (cl 2) outer H s E e qU) (fun _ _=>False) s'->(lX (qY Pr w (cl 2)) Pr w K mg base ["words", "count", "room"] "taken_parts" (ai bH) a.d8 cW A outer s H E).xe e s':=fun e s' h=>wpAny_mono h (fun _ _ z=>z) fun _ _ z=>False.elim z;refine qv (vk (eI fun p=>(gx (aQ mD (ah (pv 1)) af (bj _)) (fG (aQ (dE hu) (ah (pv 2)) af (bj _)))).t) (eJ (vn (C:=cl 2) (x := "NoLine") (g:=fun _ _ _=>True) Et rfl rfl rfl rfl (by rfl) T.kB T.xi (qu (mf.cons Am (mf.cons (KD (a:=5) (xW (by rfl) T.rW T.rX) (by decide)) (mf.cons Am mf.nil rfl) rfl) rfl) (by decide +kernel)) (by decide +kernel) (fun _ _ _ _ _ _ _=>⟨trivial,trivial,trivial,trivial⟩))))
  (sO (eI fun p=>(gx (aQ mD (ah (pv 1)) af (bj _)) (fG (aQ (dE hu) (ah (pv 2)) af (bj _)))).t) (eZ Ha) jM)
  (eJ (vm (Ew z6 (by rfl) T.DQ (by decide +kernel) (KL (Ce:=cl 2) (N':=["part", "words", "room"]) (cap:=[none,some 0,some 2]) rfl rfl (Qi Et rfl rfl rfl) rfl (fun p=>nT (by rfl) T.uq (bw (ah (pv 1)) bT)) (xj (sc:=ai bH) rfl rfl (by decide +kernel) (by decide +kernel) (by decide +kernel)) (⟨trivial,⟨rfl,.inl rfl,.inl rfl⟩,⟨rfl,.inl rfl,.inl rfl⟩,trivial⟩) ?_))))
 intro cs C s2 H2 fp W2 vY Vb EB RK;obtain⟨R2,H02,S02,Vc,F2,w1,w2,w3⟩:=W2
 cases(show Vc=cl from vY)
 cases(show R2=_ from Vb)
 exact⟨fun p=>bK (show(["part", "words", "room"]:List Str).Nodup by decide +kernel) rfl (Or.inl rfl) (EB 0 rfl),ia ihV hr (by rfl) T.cU T.dI.kp T.fk (RK 1 0 _ rfl hj) (pv 1) (fun p=>ae (ak kN (ah (pv 2)) af) aq),fun pn EE E' hp=>kW ih hr (by rfl) T.cU T.dI.kp T.fk hp (RK 1 0 _ rfl hj) (pv 1) (fun p=>ae (ak kN (ah (pv 2)) af) aq)⟩
theorem dg:aN ["words", "room", "word", "box"] ["words", "room"] (ai df):=⟨rfl,rfl,rfl,by decide +kernel,rfl,by decide +kernel,by decide +kernel⟩
theorem rY(T:Tx w K mg a cl):∀d,bc Pr w K mg base gU (4+2*d) a.cV a.dH ["words", "room"] (A9 ⟨K,cl⟩ (cl 11) 2 (cC d))
 |0=>Oe rfl
 |d+1=>by
  have ih:=IH T (by omega) (rY T d);refine Ac (k:=4+2*d+1) (m:=mQ (rH 3 (dv (cC d)))) T.dI dg rfl rfl fun cW A outer s H E W fm hC hj hF hr=>?_;obtain⟨⟨C0,r0,Bd,L0,Be⟩,Bf,Bg,qT,Bh,q1,q2,q3⟩:=W
  cases(show qT=cl from fm)
  cases(show C0=cl 11 from hC)
  exact fh (j0 dg.nd rfl (Or.inl rfl) (hF 2 (by decide)) (iV T.rc.cls T.uo (gT T) (hr.mono (by omega)) T.ik hj (pv 0) (fun _ _ _=>rfl)))
   (fh (sO (eI fun p=>iW T.lG (ah (pv 2)) (by rfl) T.lF)
    (fh (j0 dg.nd rfl (Or.inl rfl) (hF 3 (by decide)) (ia (oJ T) (hr.mono (by omega)) (by rfl) T.dU T.gQ.kp T.lA hj (pv 0) (fun p=>aq)))
     (eZ (j3 (G9 qq (fun p=>cw (ae (ah (pv 2)) (ae (ah (pv 3)) aq))) (ia ih hr (by rfl) T.cO T.eU.kp T.ip hj (pv 0) (fun p=>ae (qp T.lG (ah (pv 2)) (by rfl) T.lF) (ae (ah (pv 1)) aq))))))) jM)
   (fh (sO (eI fun p=>iW T.hU (ah (pv 2)) (by rfl) T.hJ)
    (eZ (j3 (G9 qq (fun p=>cw (ae (ah (pv 2)) aq)) (ia ih hr (by rfl) T.cO T.eU.kp T.ip hj (pv 0) (fun p=>ae (qp T.hU (ah (pv 2)) (by rfl) T.hJ) (ae (ah (pv 1)) aq)))))) jM)
   (eZ (j3 (qm fun p=>BI (fN (aX (lH T) (hr.mono (by omega)) (by rfl) T.oh T.kA.kp T.oi (ae (ah (pv 2)) aq))) (cw (ae aP (ae (ah (pv 2)) aq))) (cw (ae aP (ae (aX (vZ T) (hr.mono (by omega)) (by rfl) T.oF T.il.kp T.oG (ae (ah (pv 2)) aq)) aq))))))))
theorem Og{Pr:Program}{w:World}{K:PySem.W.Frag}{mg:Str->Option Value}{base:Heap}{KK:KC}{C:Addr}{CX:wq}{k np:Nat}{f:Addr}{fd:FuncData}{ps:List Str}(hp:ps.length=np):bc Pr w K mg base CX k f fd ps (wI KK C np (fun _ _ _=>False)) :=
 ⟨fun vs H Q E h=>h.1.trans hp.symm,fun A outer s H args us vs Q E _ _ _ _ h=>by obtain⟨_,R,H0,Hs,as,p,_,_,_,_,_,hc,_⟩:=h;exact hc.elim⟩
theorem II{X:Cx}{W:RF}{st:List Stmt}:sN X W st IZ:=fun p Γ p' res h=>nomatch h
theorem v8(T:Tx w K mg a cl):∀d,bc Pr w K mg base (qY Pr w (cl 2)) (4+2*d) a.cV a.dH ["words", "room"] (wI ⟨K,cl⟩ (cl 11) 2 (ix d))
 |0=>Og rfl
 |d+1=>by
  have ih:=E3 T (by omega) (rY T d) (v8 T d);refine As (k:=4+2*d+1) T.dI dg rfl rfl fun cW A outer s H E W fm hC hj hF hr=>?_;obtain⟨⟨C0,r0,Bd,L0,Be⟩,Bf,Bg,qT,Bh,q1,q2,q3⟩:=W
  cases(show qT=cl from fm)
  cases(show C0=cl 11 from hC)
  have hp:Passes (qY Pr w (cl 2)) (lX (qY Pr w (cl 2)) Pr w K mg base ["words", "room", "word", "box"] "taken_within" (ai df) a.cV cW A outer s H E) E:=Hr (fun e s' h=>wpAny_mono h (fun _ _ z=>z) fun _ _ z=>False.elim z) rfl rfl rfl;exact nX (j0 dg.nd rfl (Or.inl rfl) (hF 2 (by decide)) (iV T.rc.cls T.uo (gT T) (hr.mono (by omega)) T.ik hj (pv 0) (fun _ _ _=>rfl)))
   (qv (vk (eI fun p=>iW T.lG (ah (pv 2)) (by rfl) T.lF)
    (qv (HA dg.nd rfl (Or.inl rfl) (i:=3) (kW (v5 T) (hr.mono (by omega)) (by rfl) T.dU T.gQ.kp T.lA hp hj (pv 0) (fun p=>aq))) (j0 dg.nd rfl (Or.inl rfl) (hF 3 (by decide)) (ia (oJ T) (hr.mono (by omega)) (by rfl) T.dU T.gQ.kp T.lA hj (pv 0) (fun p=>aq)))
     (eJ (vm (HC qq (fun p=>cw (ae (ah (pv 2)) (ae (ah (pv 3)) aq))) (kW ih hr (by rfl) T.cO T.eU.kp T.ip hp hj (pv 0) (fun p=>ae (qp T.lG (ah (pv 2)) (by rfl) T.lF) (ae (ah (pv 1)) aq))))))))
    (sO (eI fun p=>iW T.lG (ah (pv 2)) (by rfl) T.lF) II jM)
    (qv (vk (eI fun p=>iW T.hU (ah (pv 2)) (by rfl) T.hJ)
     (eJ (vm (HC qq (fun p=>cw (ae (ah (pv 2)) aq)) (kW ih hr (by rfl) T.cO T.eU.kp T.ip hp hj (pv 0) (fun p=>ae (qp T.hU (ah (pv 2)) (by rfl) T.hJ) (ae (ah (pv 1)) aq)))))))
     (sO (eI fun p=>iW T.hU (ah (pv 2)) (by rfl) T.hJ) II jM)
     (eJ (vm (NS (eI fun p=>fN (aX (lH T) (hr.mono (by omega)) (by rfl) T.oh T.kA.kp T.oi (ae (ah (pv 2)) aq))) (KJ (HE (i:=2) (tW T) (hr.mono (by omega)) (by rfl) T.oF T.il.kp T.oG hp (pv 2))))))))
theorem iQ:aN ["words"] ["words"] (ai cD):=⟨rfl,rfl,rfl,by decide +kernel,rfl,by decide +kernel,by decide +kernel⟩
theorem iR(T:Tx w K mg a cl):bc Pr w K mg base gU 17 a.eD a.eE ["words"] (A9 ⟨K,cl⟩ (cl 11) 1 dn):=by
 refine Ac (k:=16) (m:=jm) T.dJ iQ rfl rfl fun cW A outer s H E W fm hC hj hF hr=>?_;obtain⟨⟨C0,r0,Bd,L0,Be⟩,Bf,Bg,qT,Bh,q1,q2,q3⟩:=W
 cases(show qT=cl from fm)
 cases(show C0=cl 11 from hC)
 exact eZ (j3 (ia (rY T 6) (hr.mono (by decide)) (by rfl) T.cU T.dI.kp T.fk hj (pv 0) (fun p=>ae (jj (t:=.int 5) (by rfl) T.rW T.rX (fun _=>rfl)) aq)))
theorem nB(T:Tx w K mg a cl):bc Pr w K mg base (qY Pr w (cl 2)) 17 a.eD a.eE ["words"] (wI ⟨K,cl⟩ (cl 11) 1 (B2 1 cJ)):=by
 refine As (k:=16) T.dJ iQ rfl rfl fun cW A outer s H E W fm hC hj hF hr=>?_;obtain⟨⟨C0,r0,Bd,L0,Be⟩,Bf,Bg,qT,Bh,q1,q2,q3⟩:=W
 cases(show qT=cl from fm)
 cases(show C0=cl 11 from hC)
 exact eJ (vm (kW (v8 T 6) (hr.mono (by decide)) (by rfl) T.cU T.dI.kp T.fk (Hr (fun e s' h=>wpAny_mono h (fun _ _ z=>z) fun _ _ z=>False.elim z) rfl rfl rfl) hj (pv 0) (fun p=>ae (jj (t:=.int 5) (by rfl) T.rW T.rX (fun _=>rfl)) aq)))
theorem ka:aN ["words", "word"] ["words"] (ai eQ):=⟨rfl,rfl,rfl,by decide +kernel,rfl,by decide +kernel,by decide +kernel⟩
theorem wL(T:Tx w K mg a cl):bc Pr w K mg base gU 3 a.i5 a.i6 ["words"] (A9 ⟨K,cl⟩ (cl 11) 1 fI):=by
 refine Ac (k:=2) (m:=qw) T.i7 ka rfl rfl fun cW A outer s H E W fm hC hj hF hr=>?_;obtain⟨⟨C0,r0,Bd,L0,Be⟩,Bf,Bg,qT,Bh,q1,q2,q3⟩:=W
 cases(show qT=cl from fm)
 cases(show C0=cl 11 from hC)
 exact eZ (sO (Dr (yz (iV T.rc.cls T.pL (gS T) (hr.mono (by decide)) T.hG hj (pv 0) (fun _ _ _=>rfl)))) (fun p Γ p' res h=>nomatch h) jM)
theorem wa(T:Tx w K mg a cl):bc Pr w K mg base (qY Pr w (cl 2)) 3 a.i5 a.i6 ["words"] (wI ⟨K,cl⟩ (cl 11) 1 (B2 2 gH)):=by
 refine As (k:=2) T.i7 ka rfl rfl fun cW A outer s H E W fm hC hj hF hr=>?_;obtain⟨⟨C0,r0,Bd,L0,Be⟩,Bf,Bg,qT,Bh,q1,q2,q3⟩:=W
 cases(show qT=cl from fm)
 cases(show C0=cl 11 from hC)
 exact eJ (vk (Dr (yz (iV T.rc.cls T.pL (gS T) (hr.mono (by decide)) T.hG hj (pv 0) (fun _ _ _=>rfl)))) (nX (j0 ka.nd rfl (Or.inl rfl) (hF 1 (by decide)) (iV T.rc.cls T.AW (lV T) (hr.mono (by decide)) T.nh hj (pv 0) (fun _ _ _=>rfl)))
  (eJ (vn (C:=cl 2) (x := "NoLine") (fun e s' h=>wpAny_mono h (fun _ _ z=>z) fun _ _ z=>False.elim z) rfl rfl rfl rfl (by rfl) T.kB T.xi (qu (mf.cons (vj (n:=1000) (pv 1) (by decide)) (mf.cons Am mf.nil rfl) rfl) (by decide +kernel)) (by decide +kernel) (L7 fun σ H x h1 h2=>⟨⟨x,h1,h2⟩,trivial,trivial⟩)))))
theorem bZ:aN ["text", "words", "E"] ["text"] (ai bY):=⟨rfl,rfl,rfl,by decide +kernel,rfl,by decide +kernel,by decide +kernel⟩
theorem pO(T:Tx w K mg a cl):bc Pr w K mg base gU 18 a.cZ a.dZ ["text"] (oq ⟨K,cl⟩ 1 bG):=by
 refine T.gR.ok (k:=17) bZ (fun vs H Q E h=>h.1) fun cW A outer s H vs Q E hr h=>?_;obtain⟨hl,as,r,Γ',Hs,H0,hc,S,kq⟩:=h;unfold bG at hc;split at hc
 ·rename_i x;obtain⟨ws,hg,hc⟩:=NK hc;split at hc
  ·rename_i pp t Γz hm
   cases hc
   obtain⟨v0,e0,tr0⟩:=S.sh 0 _ rfl
   cases(show v0=V.str x from tr0)
   obtain⟨v1,rfl⟩:=Qa hl
   cases e0
   refine⟨_,ed (mv (i:=1) bZ.nd rfl (Or.inl rfl) (nN (dvs:=[]) (E:=E0) (tu T) (hr.mono (by decide)) (by rfl) T.vO T.pG.kp T.vP .nil uH (bE (pv 0) d0)))
    (Hh (ι:=RF) (c:=fun W=>W.cl=cl/\W.R.C=cl 11/\W.R.ws=ws/\W.F=(fun i=>if i=1 then some (.ref W.R.r)else none)) (t:=fun W=>T8 ⟨K,cl⟩ W 0 [.sh (.str x),.no,.no] pp (.rt (.sh t) Γz)) fun W hW=>?_),?_⟩
   ·obtain⟨⟨C0,r0,Bd,L0,Be⟩,Bf,Bg,qT,Bh,q1,q2,q3⟩:=W;obtain⟨fm,hC,Vd,hF⟩:=hW
    cases(show qT=cl from fm)
    cases(show C0=cl 11 from hC)
    cases(show Be=ws from Vd)
    have hF:Bh=(fun i=>if i=1 then some (V.ref r0)else none):=hF;subst hF;refine(fh (j0 (W:=⟨⟨cl 11,r0,Bd,L0,ws⟩,Bf,Bg,cl,_,q1,q2,q3⟩) bZ.nd rfl (Or.inl rfl) rfl (ia (iR T) (hr.mono (by decide)) (by rfl) T.cJ T.dJ.kp T.fT rfl (pv 1) (fun p=>aq)))
     (fh (Ku (ia (wL T) (hr.mono (by decide)) (by rfl) T.gH T.i7.kp T.qL rfl (pv 1) (fun p=>aq))) (eZ (j3 (qm fun p=>ah (pv 2)))))) 0 _ _ _ hm
   ·refine⟨_,rfl,x,ws,rfl,hg,fun R H' Ve Vf hs RL Vg Vh zj=>?_⟩;have P9:Hs R.r=none:=S.sub.free RL;subst Vf;refine⟨⟨R,H',Hs,cl,fun i=>if i=1 then some (.ref R.r)else none,Vh,zj,P9⟩,⟨rfl,Ve,rfl,rfl⟩,Hs,?_,fun σ' H2 bX e2 v S2 f2=>?_⟩
    ·show az ⟨K,cl⟩ ⟨upd H' R.r (R.obj 0),Hs,cl,_⟩ _ _ H' Hs;rw [same_self Vg];exact qr x 2 (fun i v h=>by
      have h:(if i=1 then some (V.ref R.r)else none)=some v:=h;split at h
      ·rename_i e;subst e
       cases h
       rfl
      ·cases h) rfl (ax.refl _) (S.sub.trans hs) (fun _ _ h=>.inl h)
    ·have nr:H0 R.r=none:=S.kept.free RL;refine kq v H2 bX e2 (qr x 0 (fun i v h=>nomatch h) rfl (fun c o e=>?_) S2.sub (fun c o e=>?_)) f2
     ·have e:H0 c=some o:=e;have zc:c≠R.r:=fun z=>by rw [z,nr]at e;cases e
      exact S2.kept c o (by show upd H' R.r _ c=_;rw [aw zc];exact hs c o (S.kept c o e))
     ·rcases S2.new c o e with q|q
      ·exact .inl q
      ·refine .inr (S.kept.free ?_);have q:upd H' R.r (R.obj pp) c=none:=q;have zc:c≠R.r:=fun z=>by rw [z,aE]at q;cases q
       rw [aw zc]at q;exact hs.free q
  ·cases hc
 ·cases hc
theorem om(T:Tx w K mg a cl):bc Pr w K mg base (qY Pr w (cl 2)) 18 a.cZ a.dZ ["text"] (Oy o3):=by
 refine Qh (k:=17) (cl:=cl) T.gR bZ (fun xs h=>by obtain⟨x,ws,rfl,_⟩:=h;rfl) fun cW A outer s H xs D E hg hr hE=>?_;obtain⟨x,ws,rfl,zz,hm⟩:=hg;refine⟨_,ed (mv (i:=1) bZ.nd rfl (Or.inl rfl) (nN (dvs:=[]) (E:=E0) (tu T) (hr.mono (by decide)) (by rfl) T.vO T.pG.kp T.vP .nil uH (bE (pv 0) d0)))
  (Hh (ι:=RF) (c:=fun W=>W.cl=cl/\W.R.C=cl 11/\W.R.ws=ws/\W.F=(fun i=>if i=1 then some (.ref W.R.r)else none)) (t:=fun W=>NP ⟨K,cl⟩ W 0 [.sh (.str x),.no,.no] E) fun W hW=>?_),fun S0=>?_⟩
 ·obtain⟨⟨C0,r0,Bd,L0,Be⟩,Bf,Bg,qT,Bh,q1,q2,q3⟩:=W;obtain⟨fm,hC,Vd,hF⟩:=hW
  cases(show qT=cl from fm)
  cases(show C0=cl 11 from hC)
  cases(show Be=ws from Vd)
  have hF:Bh=(fun i=>if i=1 then some (V.ref r0)else none):=hF;subst hF;have hp:Passes (qY Pr w (cl 2)) (lX (qY Pr w (cl 2)) Pr w K mg base ["text", "words", "E"] "read_expression" (ai bY) a.cZ cW A outer s H E) E:=Hr (fun e s' h=>wpAny_mono h (fun _ _ z=>z) fun _ _ z=>False.elim z) rfl rfl rfl;exact(qv (W:=⟨⟨cl 11,r0,Bd,L0,ws⟩,Bf,Bg,cl,_,q1,q2,q3⟩) (HA bZ.nd rfl (Or.inl rfl) (i:=2) (kW (nB T) (hr.mono (by decide)) (by rfl) T.cJ T.dJ.kp T.fT hp rfl (pv 1) (fun p=>aq)))
   (j0 bZ.nd rfl (Or.inl rfl) rfl (ia (iR T) (hr.mono (by decide)) (by rfl) T.cJ T.dJ.kp T.fT rfl (pv 1) (fun p=>aq)))
   (eJ (KI (kW (wa T) (hr.mono (by decide)) (by rfl) T.gH T.i7.kp T.qL hp rfl (pv 1) (fun p=>aq))))) 0 _ hm
 ·refine⟨_,rfl,x,ws,rfl,zz,fun R H' Ve Vf hs RL Vg Vh zj=>?_⟩;subst Vf;refine⟨⟨R,H',fun _=>none,cl,fun i=>if i=1 then some (.ref R.r)else none,Vh,zj,rfl⟩,⟨rfl,Ve,rfl,rfl⟩,⟨fun _=>none,?_⟩,fun b H2 hb=>hE b H2 fun c o e=>?_⟩
  ·show az ⟨K,cl⟩ ⟨upd H' R.r (R.obj 0),fun _=>none,cl,_⟩ _ _ H' (fun _=>none);rw [same_self Vg];exact qr x 2 (fun i v h=>by
    have h:(if i=1 then some (V.ref R.r)else none)=some v:=h;split at h
    ·rename_i e;subst e
     cases h
     rfl
    ·cases h) rfl (ax.refl _) (fun _ _ h=>nomatch h) (fun _ _ h=>nomatch h)
  ·refine hb c o (fun z=>?_) (hs c o e);have z:c=R.r:=z;rw [z,RL]at e
   cases e
theorem AY:aN ["E"] ["E"] (ai gc):=⟨rfl,rfl,rfl,by decide +kernel,rfl,by decide +kernel,by decide +kernel⟩
theorem AZ(T:Tx w K mg a cl):bc Pr w K mg base gU 1 a.pj a.pk ["E"] (oq ⟨K,cl⟩ 1 dW):=by
 refine lZ (k:=0) (m:=vo) T.vQ AY rfl rfl fun cW A outer s H E P fm hF hr=>?_;subst fm;have hu:=hr.units;exact ao (cI (iW T.lG (bu (ah (pv 0)) af) (by rfl) T.lF) (ay (aY (np:=1) (vg (ah (pv 0)) (dk af) dj))) bF)
  (ay (aY (np:=1) (BI (iW T.hU (bu (ah (pv 0)) af) (by rfl) T.hJ) (vg (ah (pv 0)) (dk af) dj) (cw aq))))
theorem iS:aN ["E", "words"] ["E"] (ai bP):=⟨rfl,rfl,rfl,by decide +kernel,rfl,by decide +kernel,by decide +kernel⟩
theorem iT(T:Tx w K mg a cl):∀d,bc Pr w K mg base gU (1+d) a.fP a.fQ ["E"] (oq ⟨K,cl⟩ 1 (aG d))
 |0=>L8 rfl
 |d+1=>by
  have ih:=iT T d;refine lZ (k:=1+d) (m:=jn (aG d)) T.fU iS rfl rfl fun cW A outer s H E P fm hF hr=>?_;subst fm;have hu:=hr.units;exact ao (cI ((mB (aQ (dE hu) (bu (ah (pv 0)) af) aP (bj _)) (nQ (aQ (dE hu) (bu (ah (pv 0)) af) aP (bj _)))).t) (ay (aY (np:=1) (oO Du (by rfl) T.Ma (by decide +kernel) (bw (bu (ah (pv 0)) af) bT)))) bF)
   (ao (aO iS.nd rfl (Or.inl rfl) (hF 1 (by decide)) (BI (iW T.lG (bu (ah (pv 0)) af) (by rfl) T.lF) (cG (ae (bu (ah (pv 0)) af) (ae (bu (ah (pv 0)) af) aq))) (cG (ae (bu (ah (pv 0)) af) aq))))
   (ao (BY (pv 1) (qf (N':=["part"]) (cap:=[none]) rfl (Ke (aX (AZ T) (hr.mono (by omega)) (by rfl) T.Cr T.vQ.kp T.Cs (ae (ah (pv 0)) aq))) (xj (sc:=ai bP) rfl rfl (by decide +kernel) (by decide +kernel) (by decide +kernel)) (⟨trivial,trivial⟩) (fun cs C s2 H2 fp P2 vY EB=>by cases P2;cases vY;exact⟨bK (show(["part"]:List Str).Nodup by decide +kernel) rfl (Or.inl rfl) (EB 0 rfl),nU,aX ih (hr.mono (by omega)) (by rfl) T.jv T.fU.kp T.jw (ae (ah (pv 0)) aq)⟩)))
   (ay (aY (np:=1) (Ab aP (bw (ah (pv 1)) bT))))))
theorem yZ:aN ["_law_script", "_law_many"] ["_law_script", "_law_many"] (ai eC):=⟨rfl,rfl,rfl,by decide +kernel,rfl,by decide +kernel,by decide +kernel⟩
theorem y0(T:Tx w K mg a cl):bc Pr w K mg base gU 1 a.m4 a.m5 ["_law_script", "_law_many"] (oq ⟨K,cl⟩ 2 gJ):=by
 refine lZ (k:=0) (m:=sU) T.tj yZ rfl rfl fun cW A outer s H E P fm hF hr=>?_;subst fm;have hu:=hr.units;exact ay (aY (np:=2) (qf (N':=["_law_cell"]) (cap:=[none]) rfl (zS (cz (ah (pv 0)) dj (dk (ah (pv 1))))) (xj (sc:=ai eC) rfl rfl (by decide +kernel) (by decide +kernel) (by decide +kernel)) (⟨trivial,trivial⟩) (fun cs C s2 H2 fp P2 vY EB=>by cases P2;cases vY;exact⟨bK (show(["_law_cell"]:List Str).Nodup by decide +kernel) rfl (Or.inl rfl) (EB 0 rfl),nU,ak cm (ah (pv 0)) (ak C5 af af)⟩)))
theorem eV:aN ["_law_cell", "_law_many", "_law_number", "_law_found", "_law_k", "_law_more"] ["_law_cell", "_law_many"] (ai eR):=⟨rfl,rfl,rfl,by decide +kernel,rfl,by decide +kernel,by decide +kernel⟩
theorem oK(T:Tx w K mg a cl):bc Pr w K mg base gU 1 a.lj a.lq ["_law_cell", "_law_many"] (oq ⟨K,cl⟩ 2 cP):=by
 refine lZ (k:=0) (m:=qx) T.lB eV rfl rfl fun cW A outer s H E P fm hF hr=>?_;subst fm;have hu:=hr.units;exact ao (aO eV.nd rfl (Or.inl rfl) (hF 2 (by decide)) (ak cm (ah (pv 0)) af))
  (ao (aO eV.nd rfl (Or.inl rfl) (hF 3 (by decide)) (cG aq))
  (ao (mF PassesOwn.never rfl (nT (by rfl) T.uq (bw (ak aI (ah (pv 1)) af) bT)) (bK eV.nd rfl (Or.inl rfl) (hF 4 (by decide))) (ao (aO eV.nd rfl (Or.inl rfl) (hF 5 (by decide)) (ak aI (ak aI (ak gE (ah (pv 2)) af) (ak gE af (ah (pv 4)))) af))
  (ao (aO eV.nd rfl (Or.inl rfl) (hF 2 (by decide)) (ak cm (ak aI (ak gE (ak gE (ah (pv 2)) (ah (pv 2))) af) (ah (pv 5))) af))
  (ay (uR (pv 3) (ak eu (ah (pv 2)) af))))))
  (ay (aY (np:=2) (cz (ah (pv 3)) (dk af) dj)))))
theorem nE:aN ["_law_words"] [] (ai gf):=⟨rfl,rfl,rfl,by decide +kernel,rfl,by decide +kernel,by decide +kernel⟩
theorem jQ(T:Tx w K mg a cl):bc Pr w K mg base gU 1 a.pq a.pw [] (oq ⟨K,cl⟩ 0 cF):=by
 refine lZ (k:=0) (m:=vp) T.jy nE rfl rfl fun cW A outer s H E P fm hF hr=>?_;subst fm;have hu:=hr.units;refine ao ?_ ?_
 ·refine aO ?_ ?_ ?_ ?_ ?_
  ·exact nE.nd
  ·rfl
  ·exact Or.inl rfl
  ·exact hF 0 (by decide)
  ·refine mK ?_;kernel_rfl
 ·refine ao ?_ ?_
  ·refine aO ?_ ?_ ?_ ?_ ?_
   ·exact nE.nd
   ·rfl
   ·exact Or.inl rfl
   ·exact hF 0 (by decide)
   ·refine ak ?_ ?_ ?_
    ·exact aI
    ·exact ah (pv 0)
    ·refine mK ?_;kernel_rfl
  ·refine ay ?_;refine aY (np:=0) ?_;exact ak aI (ah (pv 0)) (cG (ae aP (ae aP aq)))
theorem lI:aN ["_law_e", "_law_kinds_here"] ["_law_e"] (ai dY):=⟨rfl,rfl,rfl,by decide +kernel,rfl,by decide +kernel,by decide +kernel⟩
theorem y4(T:Tx w K mg a cl):Dp Pr w K mg base 1 a.jP a.m6 ["_law_e"] (P5 (cl 2) kX):=by
 refine NG T.tm lI (fun vs H Q h=>by obtain⟨x,rfl,_⟩:=h;rfl) fun cW A outer s H vs Q hr zz=>?_;obtain⟨e,rfl,hH,k⟩:=zz;have S0:az ⟨K,cl⟩ ⟨H,fun _=>none,cl,fun i=>if i=0 then some (.ref e)else none⟩ [.no,.no] [some (.ref e),none] H (fun _=>none) :=
  {kept:=ax.refl _,sub:=(fun _ _ h=>nomatch h),new:=(fun _ _ h=>nomatch h),fix:=(fun i v h=>by cases i with|zero=>exact congrArg some h|succ n=>cases h),sh:=(fun i t h=>by rcases i with _|_|n<;>cases h),own:=(fun i t h=>by rcases i with _|_|n<;>cases h),apart:=(fun i j t u b n h=>by rcases i with _|_|n<;>cases h),len:=rfl}
 have E4:(fun i=>if i=0 then some (V.ref e)else none) 0=some (.ref e):=rfl;have hF:∀i,1<=i->(fun i=>if i=0 then some (V.ref e)else none) i=none:=fun i h=>if_neg (by omega);have hb:jJ (G4 Pr w K mg base ["_law_e", "_law_kinds_here"] "_law_kinds" (ai dY) a.jP cW A outer s H) ⟨H,fun _=>none,cl,fun i=>if i=0 then some (.ref e)else none⟩ (aH dY) Av :=
  ao (aO lI.nd rfl (Or.inl rfl) (hF 1 (by decide)) (cG (ae (fH E4 hH T.xk T.kC (by rfl) T.cA (by rfl) T.kB (pv 0)) (ae (G3 E4 hH T.xk T.fK (by rfl) T.cA (by rfl) T.yY (by decide +kernel) (pv 0)) (ae (fH E4 hH T.xk T.jz (by rfl) T.cA (by rfl) T.Cv (pv 0)) (ae (fH E4 hH T.xk T.kD (by rfl) T.cA (by rfl) T.ET (pv 0)) aq))))))
  (ao (aO lI.nd rfl (Or.inl rfl) (hF 1 (by decide)) (ak aI (ah (pv 1)) (cG (ae (fH E4 hH T.xk T.kE (by rfl) T.cA (by rfl) T.EU (pv 0)) (ae (fH E4 hH T.xk T.kF (by rfl) T.cA (by rfl) T.EV (pv 0)) (ae (fH E4 hH T.xk T.nq (by rfl) T.cA (by rfl) T.IG (pv 0)) (ae (fH E4 hH T.xk T.jA (by rfl) T.cA (by rfl) T.Cw (pv 0)) aq)))))))
  (ay (aY (np:=1) (ak aI (ah (pv 1)) (cG (ae (fH E4 hH T.xk T.jB (by rfl) T.cA (by rfl) T.Cy (pv 0)) (ae (fH E4 hH T.xk T.kG (by rfl) T.cA (by rfl) T.EW (pv 0)) (ae (fH E4 hH T.xk T.kH (by rfl) T.cA (by rfl) T.EX (pv 0)) aq))))))))
 refine⟨_,hb,[.no,.no],.rt (.own (.lst (kX.map M.T.bl))) _,rfl,_,S0,?_⟩;intro σ' H' aM sm v S' f;obtain⟨p,rfl,h0,⟨hs,xs,hp,tr⟩,_⟩:=f;have ex:xs=kX.map V.bl:=by
  obtain⟨_,_,rfl,rfl,_,_,rfl,rfl,_,_,rfl,rfl,_,_,rfl,rfl,_,_,rfl,rfl,_,_,rfl,rfl,_,_,rfl,rfl,_,_,rfl,rfl,_,_,rfl,rfl,_,_,rfl,rfl,_,_,rfl,rfl,rfl⟩:=tr;rfl
 subst ex;exact k p H' h0 S'.kept hp
theorem wb:aN ["_law_text"] ["_law_text"] (ai dG):=⟨rfl,rfl,rfl,by decide +kernel,rfl,by decide +kernel,by decide +kernel⟩
theorem nF(T:Tx w K mg a cl):bc Pr w K mg base gU 2 a.j7 a.j8 ["_law_text"] (oq ⟨K,cl⟩ 1 bz):=by
 refine lZ (k:=1) (m:=oA) T.j9 wb rfl rfl fun cW A outer s H E P fm hF hr=>?_;subst fm;have hu:=hr.units;exact ao (cI ((mB (aQ oP (dz jk (by rfl) T.nt (by decide +kernel) (bw (ah (pv 0)) bT)) af (bj _)) (mB (aQ mD (dz jk (by rfl) T.nt (by decide +kernel) (bw (ah (pv 0)) bT)) af (bj _)) (nQ (aQ kR (ah (pv 0)) (nW (jQ T) (hr.mono (by decide)) (by rfl) T.lC T.jy.kp T.lD) (by rfl))))).t) (ay (aY (np:=1) jc)) bF)
  (ay (aY (np:=1) (dz (GH rfl) (by rfl) T.L9 (by decide +kernel) (bw (qf (N':=["_law_sign"]) (cap:=[none]) rfl (yx (ah (pv 0))) (xj (sc:=ai dG) rfl rfl (by decide +kernel) (by decide +kernel) (by decide +kernel)) (⟨trivial,trivial⟩) (fun cs C s2 H2 fp P2 vY EB=>by cases P2;cases vY;exact⟨bK (show(["_law_sign"]:List Str).Nodup by decide +kernel) rfl (Or.inl rfl) (EB 0 rfl),nU,fM kR (ah (pv 0)) aP (by rfl)⟩)) bT))))
theorem fu:aN ["_law_text", "_law_number", "_law_sign"] ["_law_text"] (ai dA):=⟨rfl,rfl,rfl,by decide +kernel,rfl,by decide +kernel,by decide +kernel⟩
theorem rZ(T:Tx w K mg a cl):bc Pr w K mg base gU 1 a.iI a.iJ ["_law_text"] (oq ⟨K,cl⟩ 1 cj):=by
 refine lZ (k:=0) (m:=lT) T.lU fu rfl rfl fun cW A outer s H E P fm hF hr=>?_;subst fm;have hu:=hr.units;exact ao (cI ((mB (aQ oP (dz jk (by rfl) T.nt (by decide +kernel) (bw (ah (pv 0)) bT)) af (bj _)) (mB (aQ mD (dz jk (by rfl) T.nt (by decide +kernel) (bw (ah (pv 0)) bT)) af (bj _)) (nQ ((gx (aQ (dE hu) (bu (ah (pv 0)) af) aP (bj _)) (fG (aQ (BL hu) (ah (pv 0)) aP (bj _)))).t)))).t) (ay (aY (np:=1) ub)) bF)
  (ao (aO fu.nd rfl (Or.inl rfl) (hF 1 (by decide)) af)
  (ao (mF PassesOwn.never rfl (yx (ah (pv 0))) (bK fu.nd rfl (Or.inl rfl) (hF 2 (by decide))) (ao (cI (aQ z8 (ah (pv 2)) aP (by rfl)) (ay (aY (np:=1) ub)) bF)
  (ay (aO fu.nd rfl (Or.inl rfl) (hF 1 (by decide)) (ak aI (ak gE af (ah (pv 1))) (Nw PySem.F.slot_str_index PySem.F.type_str_index G0 aP (bw (ah (pv 2)) bT)))))))
  (ay (aY (np:=1) (ah (pv 1))))))
theorem et:aN ["_law_x", "_law_text", "_law_rest", "_law_k"] ["_law_x"] (ai gg):=⟨rfl,rfl,rfl,by decide +kernel,rfl,by decide +kernel,by decide +kernel⟩
theorem tw(T:Tx w K mg a cl):bc Pr w K mg base gU 2 a.px a.pz ["_law_x"] (oq ⟨K,cl⟩ 1 iy):=by
 refine lZ (k:=1) (m:=vq) T.pH et rfl rfl fun cW A outer s H E P fm hF hr=>?_;subst fm;have hu:=hr.units;exact ao (aO et.nd rfl (Or.inl rfl) (hF 1 (by decide)) aP)
  (ao (aO et.nd rfl (Or.inl rfl) (hF 2 (by decide)) (ak eu (ah (pv 0)) af))
  (ao (mF PassesOwn.never rfl (nT (by rfl) T.uq (bw (ak aI af (ak cm (ah (pv 0)) af)) bT)) (bK et.nd rfl (Or.inl rfl) (hF 3 (by decide))) (ao (aO et.nd rfl (Or.inl rfl) (hF 1 (by decide)) (ak aI (ah (pv 1)) (bu aP (ak cm (ah (pv 2)) af))))
  (ay (aO et.nd rfl (Or.inl rfl) (hF 2 (by decide)) (ak aI (ak eu (ah (pv 2)) af) (ak cm (ak gE af (ah (pv 0))) af))))))
  (ao (cI (aQ (dE hu) (ak cm (ak eu (ah (pv 0)) af) af) af (bj _)) (ay (aO et.nd rfl (Or.inl rfl) (hF 1 (by decide)) (cz (bu (nW (jQ T) (hr.mono (by decide)) (by rfl) T.lC T.jy.kp T.lD) (ak cm (ak eu (ah (pv 0)) af) af)) (dk af) dj))) bF)
  (ao (cI (aQ kR (ah (pv 1)) (nW (jQ T) (hr.mono (by decide)) (by rfl) T.lC T.jy.kp T.lD) (by rfl)) (ay (aO et.nd rfl (Or.inl rfl) (hF 1 (by decide)) (ak aI aP (cz (ah (pv 1)) (dk af) dj)))) bF)
  (ay (aY (np:=1) (ah (pv 1))))))))
theorem nG:aN ["_law_x", "_law_name_here", "_law_number"] ["_law_x"] (ai gh):=⟨rfl,rfl,rfl,by decide +kernel,rfl,by decide +kernel,by decide +kernel⟩
theorem A0(T:Tx w K mg a cl):bc Pr w K mg base gU 3 a.pA a.pB ["_law_x"] (oq ⟨K,cl⟩ 1 jN):=by
 refine lZ (k:=2) (m:=vt) T.vT nG rfl rfl fun cW A outer s H E P fm hF hr=>?_;subst fm;have hu:=hr.units;exact ao (cI (aQ (dE hu) (ak cm (ah (pv 0)) af) af (bj _)) (ao (aO nG.nd rfl (Or.inl rfl) (hF 1 (by decide)) (aX (tw T) (hr.mono (by decide)) (by rfl) T.vR T.pH.kp T.vS (ae (ak eu (ah (pv 0)) af) aq)))
  (ay (aY (np:=1) (cw (ae (cw (ae aP (ae (ah (pv 1)) aq))) (ae (ah (pv 1)) aq)))))) bF)
  (ao (aO nG.nd rfl (Or.inl rfl) (hF 2 (by decide)) (bu (cG (ae af (ae af (ae af (ae af (ae (ak cm (ak eu (ah (pv 0)) af) af) (ae (ak cm (ak gE (ah (pv 0)) af) (ak C5 af af)) aq))))))) (ak cm (ak eu (ah (pv 0)) af) af)))
  (ay (aY (np:=1) (cw (ae (cw (ae aP (ae (ah (pv 2)) aq))) (ae (oO Du (by rfl) T.Ma (by decide +kernel) (bw (ah (pv 2)) bT)) aq))))))
theorem bB:aN ["_law_xs", "_law_at", "_law_room", "_law_x", "_law_way", "_law_told", "_law_text", "_law_box", "_law_word_here", "_law_one", "_law_first", "_law_behind", "_law_other", "_law_second", "_law_last"] ["_law_xs", "_law_at", "_law_room"] (ai gi):=⟨rfl,rfl,rfl,by decide +kernel,rfl,by decide +kernel,by decide +kernel⟩
theorem tD(T:Tx w K mg a cl):∀d,bc Pr w K mg base gU (3+d) a.pC a.pD ["_law_xs", "_law_at", "_law_room"] (oq ⟨K,cl⟩ 3 (dX d))
 |0=>L8 rfl
 |d+1=>by
  have ih:=tD T d;refine lZ (k:=3+d) (m:=vw (dX d)) T.lE bB rfl rfl fun cW A outer s H E P fm hF hr=>?_;subst fm;have hu:=hr.units;exact ao (aO bB.nd rfl (Or.inl rfl) (hF 3 (by decide)) (bu (ah (pv 0)) (ak cm (ah (pv 1)) af)))
   (ao (aO bB.nd rfl (Or.inl rfl) (hF 4 (by decide)) (ak cm (ah (pv 3)) af))
   (ao (cI ((gx (aQ (dE hu) (ak cm (bu (ah (pv 0)) af) af) af (bj _)) (fG (aQ oP (ah (pv 4)) af (bj _)))).t) (ay (aO bB.nd rfl (Or.inl rfl) (hF 4 (by decide)) (ak aI (ah (pv 4)) af))) bF)
   (ao (cI ((mB (aQ oP (ah (pv 4)) af (bj _)) (nQ ((gx (aQ mD (ah (pv 4)) af (bj _)) (fG (aQ (dE hu) (ah (pv 2)) af (bj _)))).t))).t) (ao (uf (aX (A0 T) (hr.mono (by omega)) (by rfl) T.Ct T.vT.kp T.Cu (ae (ak eu (ah (pv 3)) af) aq)) (ue rfl (eg (bK bB.nd rfl (Or.inl rfl) (hF 5 (by decide))) (eg (bK bB.nd rfl (Or.inl rfl) (hF 6 (by decide))) p8))))
   (ay (aY (np:=3) (cw (ae (ah (pv 5)) (ae (ah (pv 6)) (ae (ak aI (ah (pv 1)) af) aq))))))) bF)
   (ao (aO bB.nd rfl (Or.inl rfl) (hF 7 (by decide)) (aX (tw T) (hr.mono (by omega)) (by rfl) T.vR T.pH.kp T.vS (ae (ak eu (ah (pv 3)) af) aq)))
   (ao (cI (aQ oP (ah (pv 4)) af (bj _)) (ao (aO bB.nd rfl (Or.inl rfl) (hF 8 (by decide)) (bu (cG (ae aP (ae aP aq))) (ak kN (ah (pv 4)) af)))
   (ay (aY (np:=3) (cw (ae (cw (ae (ah (pv 8)) (ae (ah (pv 7)) aq))) (ae (ak aI (ak aI (ah (pv 8)) aP) (ah (pv 7))) (ae (ak aI (ah (pv 1)) af) aq))))))) bF)
   (ao (uf (aX ih (hr.mono (by omega)) (by rfl) T.pI T.lE.kp T.pJ (ae (ah (pv 0)) (ae (ak aI (ah (pv 1)) af) (ae (ak kN (ah (pv 2)) af) aq)))) (ue rfl (eg (bK bB.nd rfl (Or.inl rfl) (hF 9 (by decide))) (eg (bK bB.nd rfl (Or.inl rfl) (hF 10 (by decide))) (eg (bK bB.nd rfl (Or.inl rfl) (hF 11 (by decide))) p8)))))
   (ao (cI (aQ oP (ah (pv 4)) af (bj _)) (ao (aO bB.nd rfl (Or.inl rfl) (hF 8 (by decide)) (bu (cG (ae aP (ae aP aq))) (ak kN (ah (pv 4)) af)))
   (ay (aY (np:=3) (cw (ae (cw (ae (ah (pv 8)) (ae (ah (pv 7)) (ae (ah (pv 9)) aq)))) (ae (ak aI (ak aI (ak aI (ak aI (ah (pv 8)) aP) (ah (pv 7))) aP) (ah (pv 10))) (ae (ah (pv 11)) aq))))))) bF)
   (ao (aO bB.nd rfl (Or.inl rfl) (hF 8 (by decide)) (bu (mK (ys:=["+", "-", "*", "div", "rem", "<", "="])<|by kernel_rfl) (ak cm (ak eu (ah (pv 3)) af) af)))
   (ao (uf (aX ih (hr.mono (by omega)) (by rfl) T.pI T.lE.kp T.pJ (ae (ah (pv 0)) (ae (ah (pv 11)) (ae (ak kN (ah (pv 2)) af) aq)))) (ue rfl (eg (bK bB.nd rfl (Or.inl rfl) (hF 12 (by decide))) (eg (bK bB.nd rfl (Or.inl rfl) (hF 13 (by decide))) (eg (bK bB.nd rfl (Or.inl rfl) (hF 14 (by decide))) p8)))))
   (ay (aY (np:=3) (cw (ae (cw (ae (ah (pv 8)) (ae (ah (pv 9)) (ae (ah (pv 12)) aq)))) (ae (ak aI (ak aI (ak aI (ak aI (ah (pv 8)) aP) (ah (pv 10))) aP) (ah (pv 13))) (ae (ah (pv 14)) aq)))))))))))))))
theorem fL:aN ["_law_text", "_law_pile", "_law_word_here", "_law_bare", "_law_one"] ["_law_text"] (ai eS):=⟨rfl,rfl,rfl,by decide +kernel,rfl,by decide +kernel,by decide +kernel⟩
theorem wM(T:Tx w K mg a cl):bc Pr w K mg base gU 3 a.lr a.lu ["_law_text"] (oq ⟨K,cl⟩ 1 eN):=by
 refine lZ (k:=2) (m:=qy) T.qQ fL rfl rfl fun cW A outer s H E P fm hF hr=>?_;subst fm;have hu:=hr.units;exact ao (aO fL.nd rfl (Or.inl rfl) (hF 1 (by decide)) (cG aq))
  (ao (mF PassesOwn.never rfl (KO (by rfl) T.Cz (yy PySem.F.slot_str_split PySem.F.type_str_split u9 (ah (pv 0)) (bw aP bT))) (bK fL.nd rfl (Or.inl rfl) (hF 2 (by decide))) (ao (aO fL.nd rfl (Or.inl rfl) (hF 3 (by decide)) (snd_and (fM (BL hu) (ah (pv 1)) (cG aq) (bj _)) (p6 (bu (bu (ah (pv 1)) (Df af)) af))))
  (ay (cI ((gx (aQ kR (ah (pv 2)) (cw (ae aP (ae aP aq))) (by rfl)) (fG (fN (ah (pv 3))))).t) (ay (Ez (k:=-1) (pv 1) (Df af) (fun _=>rfl) (cw (ae af (ae jc aq))))) (ay (cI ((gx (aQ kR (ah (pv 2)) (cw (ae aP (ae aP aq))) (by rfl)) (gx (fN (ah (pv 3))) (fG (aQ mD (dz jk (by rfl) T.nt (by decide +kernel) (bw (ah (pv 1)) bT)) af (bj _))))).t) (ao (Ey (yF (pv 1)))
  (ay (sS (pv 1) (HK (yG (HG aI (HH (yF (pv 1)) (sR af)) (sR af)) (sR jc)))))) (ay (cI ((gx (aQ kR (ah (pv 2)) (cw (u6 (ys:=["+", "-", "*", "div", "rem", "<", "="])<|by kernel_rfl)) (by rfl)) (fG (aQ mD (dz jk (by rfl) T.nt (by decide +kernel) (bw (ah (pv 1)) bT)) af (bj _)))).t) (ao (HM fL.nd rfl (Or.inl rfl) (hF 4 (by decide)) (HH (yF (pv 1)) (sR af)))
  (ay (sS (pv 1) (HK (yG (HG aI (HL (Kc rfl) (by rfl) T.QC (by decide +kernel) (yG (sR (ah (pv 4))) (HH (yF (pv 1)) (sR af)))) (sR af)) (sR jc)))))) (ay (cI ((mB (fN (aX (nF T) (hr.mono (by decide)) (by rfl) T.oH T.j9.kp T.oI (ae (ah (pv 2)) aq))) (nQ (aQ Gq (aX (rZ T) (hr.mono (by decide)) (by rfl) T.tS T.lU.kp T.tT (ae (ah (pv 2)) aq)) ub (bj _)))).t) (ay (uR (pv 1) (cw (ae af (ae (aX (nF T) (hr.mono (by decide)) (by rfl) T.oH T.j9.kp T.oI (ae (ah (pv 2)) aq)) aq))))) (ay (aY (np:=1) jc))))))))))))
  (ay (aY (np:=1) (snd_and (fM (dE hu) (dz jk (by rfl) T.nt (by decide +kernel) (bw (ah (pv 1)) bT)) af (bj _)) (p6 (fM oP (bu (bu (ah (pv 1)) af) af) af (bj _)))))))
theorem nH:aN ["_law_x", "_law_some", "_law_odd"] ["_law_x"] (ai gj):=⟨rfl,rfl,rfl,by decide +kernel,rfl,by decide +kernel,by decide +kernel⟩
theorem tE(T:Tx w K mg a cl):bc Pr w K mg base gU 2 a.pE a.pF ["_law_x"] (oq ⟨K,cl⟩ 1 iz):=by
 refine lZ (k:=1) (m:=vx) T.pK nH rfl rfl fun cW A outer s H E P fm hF hr=>?_;subst fm;have hu:=hr.units;refine ao ?_ ?_
 ·refine aO ?_ ?_ ?_ ?_ ?_
  ·exact nH.nd
  ·rfl
  ·exact Or.inl rfl
  ·exact hF 1 (by decide)
  ·refine mK ?_;kernel_rfl
 ·skip
  refine ao ?_ ?_
  ·refine aO ?_ ?_ ?_ ?_ ?_
   ·exact nH.nd
   ·rfl
   ·exact Or.inl rfl
   ·exact hF 2 (by decide)
   ·refine mK ?_;kernel_rfl
  ·skip
   exact ao (cI (aQ (dE hu) (ak cm (ah (pv 0)) af) af (bj _)) (ay (aY (np:=1) (bu (nW (jQ T) (hr.mono (by decide)) (by rfl) T.lC T.jy.kp T.lD) (ak cm (ak eu (ah (pv 0)) af) af)))) bF)
    (ao (cI (aQ (dE hu) (ak cm (ah (pv 0)) af) af (bj _)) (ay (aY (np:=1) (bu (ah (pv 2)) (ak cm (ak eu (ah (pv 0)) af) af)))) bF)
    (ay (aY (np:=1) (bu (ah (pv 1)) (ak cm (ak eu (ah (pv 0)) af) af)))))
theorem dy:aN ["_law_words", "_law_xs", "_law_at", "_law_way"] ["_law_words", "_law_xs"] (ai eT):=⟨rfl,rfl,rfl,by decide +kernel,rfl,by decide +kernel,by decide +kernel⟩
theorem wN(T:Tx w K mg a cl):bc Pr w K mg base gU 3 a.lx a.ly ["_law_words", "_law_xs"] (oq ⟨K,cl⟩ 2 d7):=by
 refine UD (k:=2) (m:=iZ) T.qR dy rfl rfl fun cW A outer s H E P fm E4 hr=>?_;subst fm;have hu:=hr.units;have hF:∀i,0<=i->P.F i=none:=fun i _=>E4 i;exact ao (aO dy.nd rfl (Or.inl rfl) (hF 2 (by decide)) (ak cm (bu (ah (pv 1)) af) (dz jk (by rfl) T.nt (by decide +kernel) (bw (ah (pv 0)) bT))))
  (ao (aO dy.nd rfl (Or.inl rfl) (hF 3 (by decide)) (ak cm (bu (ah (pv 1)) af) af))
  (ao (cI (aQ (dE hu) (ah (pv 3)) af (bj _)) (ay (aO dy.nd rfl (Or.inl rfl) (hF 0 (by decide)) (ak aI (cz (ah (pv 0)) dj (dk (ah (pv 2)))) (cz (ah (pv 0)) (dk (ak aI (ah (pv 2)) af)) dj)))) bF)
  (ao (cI (aQ (dE hu) (ah (pv 3)) af (bj _)) (ay (aO dy.nd rfl (Or.inl rfl) (hF 0 (by decide)) (ak aI (cz (ah (pv 0)) dj (dk (ak aI (ah (pv 2)) af))) (cz (ah (pv 0)) (dk (ah (pv 2))) dj)))) bF)
  (ao (cI ((mB (aQ (dE hu) (ah (pv 3)) af (bj _)) (nQ (aQ (dE hu) (ah (pv 3)) af (bj _)))).t) (ay (aO dy.nd rfl (Or.inl rfl) (hF 0 (by decide)) (ak aI (ak aI (cz (ah (pv 0)) dj (dk (ah (pv 2)))) (cG (ae (aX (tE T) (hr.mono (by decide)) (by rfl) T.vU T.pK.kp T.vV (ae (bu (ah (pv 1)) af) aq)) aq))) (cz (ah (pv 0)) (dk (ak aI (ah (pv 2)) af)) dj)))) bF)
  (ao (cI (aQ (dE hu) (ah (pv 3)) af (bj _)) (ay (aO dy.nd rfl (Or.inl rfl) (hF 0 (by decide)) (ak aI (ak aI (cz (ah (pv 0)) dj (dk (ak aI (ah (pv 2)) af))) (cG (ae (aX (tE T) (hr.mono (by decide)) (by rfl) T.vU T.pK.kp T.vV (ae (bu (ah (pv 1)) af) aq)) aq))) (cz (ah (pv 0)) (dk (ak aI (ah (pv 2)) af)) dj)))) bF)
  (ao (cI (aQ (dE hu) (ah (pv 3)) af (bj _)) (ay (aO dy.nd rfl (Or.inl rfl) (hF 0 (by decide)) (ak aI (ak aI (cz (ah (pv 0)) dj (dk (ah (pv 2)))) (cG (ae aP aq))) (cz (ah (pv 0)) (dk (ah (pv 2))) dj)))) bF)
  (ay (aY (np:=2) (ah (pv 0))))))))))
theorem i8:aN ["_law_text", "_law_kinds_here", "_law_found", "_law_e"] ["_law_text"] (ai ft):=⟨rfl,rfl,rfl,by decide +kernel,rfl,by decide +kernel,by decide +kernel⟩
theorem oo(T:Tx w K mg a cl):bc Pr w K mg base (Ot Pr w (cl 2)) 18 a.cZ a.dZ ["text"] (fun vs H Q E=>oq ⟨K,cl⟩ 1 bG vs H Q E\/Oy o3 vs H Q E):=M.bc.one (M.bc.orV (pO T) (om T) (le_refl _))
theorem y6(T:Tx w K mg a cl):bc Pr w K mg base gU 19 a.m8 a.ng ["_law_text"] (oq ⟨K,cl⟩ 1 fo):=by
 refine lZ (k:=18) (m:=sV) T.tq i8 rfl rfl fun cW A outer s H E P fm hF hr=>?_;subst fm;have hu:=hr.units;exact ao (aO i8.nd rfl (Or.inl rfl) (hF 1 (by decide)) (cG aq))
  (ao (aO i8.nd rfl (Or.inl rfl) (hF 2 (by decide)) ub)
  (ao (HP (C:=P.cl 2) rfl rfl i8.nd rfl rfl (by rfl) T.yV T.xm (oo T) (hr.mono (by decide)) (by rfl) T.qM T.gR.kp T.qN (y4 T) (hr.mono (by decide)) (by rfl) T.AR T.tm.kp T.AS (fun X2 h1 h2=>Bl (by rw [h1];rfl) (by rw [h2];exact .inl rfl)) (fun X2 h1 h2=>Bl (by rw [h1];rfl) (by rw [h2];exact .inl rfl)) rfl (Or.inl rfl) rfl (Or.inl rfl) (by decide) (hF 2 (by decide)) (hF 1 (by decide)) (hF 3 (by decide)) rfl rfl)
  (ao (cI (kM (fN (aX (wM T) (hr.mono (by decide)) (by rfl) T.yR T.qQ.kp T.yS (ae (ah (pv 0)) aq)))) (ay (aY (np:=1) (fM (dE hu) (ah (pv 1)) (ak aI (cG (ae jc (ae jc aq))) (ak gE (cG (ae jc aq)) af)) (bj _)))) bF)
  (ay (aY (np:=1) (snd_and (fM (dE hu) (ah (pv 1)) (cG aq) (bj _)) (p6 (fM (dE hu) (aX (iT T 7) (hr.mono (by decide)) (by rfl) T.jv T.fU.kp T.jw (ae (ah (pv 2)) aq)) (ah (pv 0)) (bj _)))))))))
theorem pP:aN ["_law_script", "_law_cell", "_law_xs", "_law_told", "_law_text", "_law_last", "_law_words"] ["_law_script"] (ai lh):=⟨rfl,rfl,rfl,by decide +kernel,rfl,by decide +kernel,by decide +kernel⟩
theorem Oh(T:Tx w K mg a cl):bc Pr w K mg base gU 20 a.IE a.IF ["_law_script"] (oq ⟨K,cl⟩ 1 yH):=by
 refine lZ (k:=19) (m:=LR) T.QA pP rfl rfl fun cW A outer s H E P fm hF hr=>?_;subst fm;have hu:=hr.units;exact ao (mF PassesOwn.never rfl (zS (aX (y0 T) (hr.mono (by decide)) (by rfl) T.AO T.tj.kp T.AQ (ae (ak aI (cG (ae af (ae af (ae af (ae af aq))))) (ah (pv 0))) (ae af aq)))) (bK pP.nd rfl (Or.inl rfl) (hF 1 (by decide))) (ao (aO pP.nd rfl (Or.inl rfl) (hF 2 (by decide)) (aX (oK T) (hr.mono (by decide)) (by rfl) T.qO T.lB.kp T.qP (ae (ak eu (ah (pv 1)) af) (ae af aq))))
  (ao (uf (aX (tD T 6) (hr.mono (by decide)) (by rfl) T.pI T.lE.kp T.pJ (ae (aX (oK T) (hr.mono (by decide)) (by rfl) T.qO T.lB.kp T.qP (ae (ah (pv 1)) (ae af aq))) (ae af (ae af aq)))) (ue rfl (eg (bK pP.nd rfl (Or.inl rfl) (hF 3 (by decide))) (eg (bK pP.nd rfl (Or.inl rfl) (hF 4 (by decide))) (eg (bK pP.nd rfl (Or.inl rfl) (hF 5 (by decide))) p8)))))
  (ao (aO pP.nd rfl (Or.inl rfl) (hF 6 (by decide)) (ak aI (ak gE (cG (ae aP (ae aP aq))) (ak cm (bu (ah (pv 2)) af) af)) (yy PySem.F.slot_str_split PySem.F.type_str_split u9 (ah (pv 4)) (bw aP bT))))
  (ay (cI (kM (fN (aX (y6 T) (hr.mono (by decide)) (by rfl) T.AU T.tq.kp T.AV (ae (Ab aP (bw (aX (wN T) (hr.mono (by decide)) (by rfl) T.yT T.qR.kp T.yU (ae (ah (pv 6)) (ae (ah (pv 2)) aq))) bT)) aq)))) (ay (aY (np:=1) jc)) bF))))))
  (ay (aY (np:=1) jc))
variable {Pr:Program}{w:World}{K:PySem.W.Frag}{mg:Str->Option Value}{base:Heap}{a:Ad}{cl:Nat->Addr}
theorem all_mk{l:PySem.W.OpenLaw}{w:World}{h:Heap}{fa:Addr}(X:K.In h)(G:h.Ns mainGlobals mg)(hfa:mg "law" = some (.ref fa))
  {f0:Addr} {od0 Qd:Option Addr} {sl0:Array (Option Value)} {oc0 kV0 dc0 pm0 Zz ct0:Value}
  {f1:Addr} {od1 an1:Option Addr} {sl1:Array (Option Value)} {oc1 kV1 dc1 pm1 ZA ct1:Value}
  {f2:Addr} {od2 BS:Option Addr} {Rj:Array (Option Value)} {oc2 kV2 dc2 pm2 ZC ct2:Value}
  {f3:Addr} {od3 an3:Option Addr} {sl3:Array (Option Value)} {oc3 kV3 dc3 pm3 ZD ct3:Value}
  {f4:Addr} {od4 an4:Option Addr} {sl4:Array (Option Value)} {oc4 kV4 dc4 pm4 ZE ct4:Value}
  {f5:Addr} {od5 an5:Option Addr} {sl5:Array (Option Value)} {oc5 kV5 dc5 pm5 ZF ct5:Value}
  {f6:Addr} {od6 an6:Option Addr} {sl6:Array (Option Value)} {oc6 kV6 dc6 pm6 ZG ct6:Value}
  {f7:Addr} {od7 an7:Option Addr} {sl7:Array (Option Value)} {oc7 kV7 dc7 pm7 ZH ct7:Value}
  {f8:Addr} {od8 an8:Option Addr} {sl8:Array (Option Value)} {oc8 kV8 dc8 pm8 ZI ct8:Value}
  {f9:Addr} {od9 an9:Option Addr} {sl9:Array (Option Value)} {oc9 kV9 dc9 pm9 ZJ ct9:Value}
  {RM:Addr} {Vi Vj:Option Addr} {Vk:Array (Option Value)} {Vl Vm Vn Vo QD Vp:Value}
  {RN:Addr} {Vq Vr:Option Addr} {Vs:Array (Option Value)} {Vt Vu Vv Vw QE Vx:Value}
  {RO:Addr} {Vy Vz:Option Addr} {VA:Array (Option Value)} {VB VC VD VE QF VF:Value}
  {RP:Addr} {VG VH:Option Addr} {VI:Array (Option Value)} {VJ VL VM VN QG VO:Value}
  {RQ:Addr} {VP VQ:Option Addr} {VR:Array (Option Value)} {VS VT VU VV QH VW:Value}
  {RR:Addr} {VX VY:Option Addr} {VZ:Array (Option Value)} {V0 V1 V2 V3 QI V4:Value}
  {RU:Addr} {V5 V6:Option Addr} {V7:Array (Option Value)} {V8 V9 Wa Wb QJ Wc:Value}
  {RV:Addr} {We Wf:Option Addr} {Wg:Array (Option Value)} {Wh Wi Wj Wk QK Wl:Value}
  {RW:Addr} {Wm Wn:Option Addr} {Wo:Array (Option Value)} {Wq Wr Ws Wt QL Wu:Value}
  {RY:Addr} {Wv Ww:Option Addr} {Wx:Array (Option Value)} {Wy Wz WA WB QM WC:Value}
  {RZ:Addr} {WD WE:Option Addr} {WG:Array (Option Value)} {WH WI WJ WK QN WL:Value}
  {R0:Addr} {WM WN:Option Addr} {WO:Array (Option Value)} {WQ WR WS WT QO WU:Value}
  {R1:Addr} {WV WW:Option Addr} {WX:Array (Option Value)} {WY WZ W3 W4 QP W5:Value}
  {R3:Addr} {W6 W7:Option Addr} {W8:Array (Option Value)} {W9 Xa Xb Xc QQ Xd:Value}
  {R4:Addr} {Xe Xf:Option Addr} {Xg:Array (Option Value)} {Xh Xi Xj Xk QR Xl:Value}
  {R5:Addr} {Xm Xn:Option Addr} {Xo:Array (Option Value)} {Xp Xq Xr Xs QS Xt:Value}
  {R6:Addr} {Xu Xv:Option Addr} {Xw:Array (Option Value)} {Xx Xy Xz XA QT XB:Value}
  {R7:Addr} {XC XD:Option Addr} {XE:Array (Option Value)} {XF XG XH XI QU XJ:Value}
  {R8:Addr} {XM XN:Option Addr} {XO:Array (Option Value)} {XQ XR XS XT QV XU:Value}
  {R9:Addr} {XW XX:Option Addr} {XY:Array (Option Value)} {XZ X0 X1 X3 QW X4:Value}
  {X5:Addr} {X6 QX:Option Addr} {X7:Array (Option Value)} {X8 QY QZ Q1 Oi Q2:Value}
  {i9:Value}
  {ja:Value}
  {eo:Value}
  {dB:Value}
  {jb:Value}
  {eF:Addr}
  {wO:Option Addr} {nI:Array Value} {wQ:Nat} {wc:Array (Option Value)}
  {fR:Addr}
  {tF:Array DictEntry} {A1:Nat}
  {lz:Addr}
  {A2:Array DictEntry} {IJ:Nat}
  {dM:Addr}
  {nJ:Addr}
  {bL:Addr}
  {r6:Addr}
  {we:Addr}
  {wg:Addr}
  {wj:Addr}
  {y7:Addr}
  {r8:Addr}
  {se:Addr}
  {wk:Addr}
  {wm:Addr}
  (E5:PySem.W.nsIn K mainGlobals "Reader" = some (some (.ref dM)))
  (y8:PySem.W.nsIn K mainGlobals "JoinError" = some (some (.ref nJ)))
  (E6:PySem.W.nsIn K mainGlobals "NoLine" = some (some (.ref bL)))
  (CB:PySem.W.nsIn K mainGlobals "TooMuch" = some (some (.ref r6)))
  (E7:PySem.W.nsIn K mainGlobals "NoNest" = some (some (.ref we)))
  (E8:PySem.W.nsIn K mainGlobals "NoName" = some (some (.ref wg)))
  (E9:PySem.W.nsIn K mainGlobals "NoKind" = some (some (.ref wj)))
  (IK:PySem.W.nsIn K mainGlobals "Hangs" = some (some (.ref y7)))
  (CC:PySem.W.nsIn K mainGlobals "NoSteps" = some (some (.ref r8)))
  (CD:PySem.W.nsIn K mainGlobals "NoBoxes" = some (some (.ref se)))
  (Fb:PySem.W.nsIn K mainGlobals "NoTurn" = some (some (.ref wk)))
  (Fc:PySem.W.nsIn K mainGlobals "NoHead" = some (some (.ref wm)))
  (a0:PySem.W.findIn K (.ref dM) "__init__" = some (some (.ref f0)))
  (l0:K.lookup f0=some ⟨oc0,od0,.func (PySem.W.fnOf "__init__" "Reader.__init__" (aV cL) (aH cL) (ai cL) .none kV0 dc0 pm0 Qd Zz ct0),sl0⟩)
  (c0:PySem.W.codeIn K Zz "Reader.__init__" = true) (k0:keepIn K (.ref f0)=true)
  (a1:PySem.W.findIn K (.ref dM) "is_over" = some (some (.ref f1)))
  (l1:K.lookup f1=some ⟨oc1,od1,.func (PySem.W.fnOf "is_over" "Reader.is_over" (aV cY) (aH cY) (ai cY) .none kV1 dc1 pm1 an1 ZA ct1),sl1⟩)
  (c1:PySem.W.codeIn K ZA "Reader.is_over" = true) (k1:keepIn K (.ref f1)=true)
  (a2:PySem.W.findIn K (.ref dM) "ahead" = some (some (.ref f2)))
  (l2:K.lookup f2=some ⟨oc2,od2,.func (PySem.W.fnOf "ahead" "Reader.ahead" (aV dQ) (aH dQ) (ai dQ) .none kV2 dc2 pm2 BS ZC ct2),Rj⟩)
  (c2:PySem.W.codeIn K ZC "Reader.ahead" = true) (k2:keepIn K (.ref f2)=true)
  (a3:PySem.W.findIn K (.ref dM) "take" = some (some (.ref f3)))
  (l3:K.lookup f3=some ⟨oc3,od3,.func (PySem.W.fnOf "take" "Reader.take" (aV eh) (aH eh) (ai eh) .none kV3 dc3 pm3 an3 ZD ct3),sl3⟩)
  (c3:PySem.W.codeIn K ZD "Reader.take" = true) (k3:keepIn K (.ref f3)=true)
  (a4:PySem.W.nsIn K mainGlobals "are_signs_of" = some (some (.ref f4)))
  (l4:K.lookup f4=some ⟨oc4,od4,.func (PySem.W.fnOf "are_signs_of" "are_signs_of" (aV de) (aH de) (ai de) .none kV4 dc4 pm4 an4 ZE ct4),sl4⟩)
  (c4:PySem.W.codeIn K ZE "are_signs_of" = true) (k4:keepIn K (.ref f4)=true)
  (a5:PySem.W.nsIn K mainGlobals "is_name" = some (some (.ref f5)))
  (l5:K.lookup f5=some ⟨oc5,od5,.func (PySem.W.fnOf "is_name" "is_name" (aV g7) (aH g7) (ai g7) .none kV5 dc5 pm5 an5 ZF ct5),sl5⟩)
  (c5:PySem.W.codeIn K ZF "is_name" = true) (k5:keepIn K (.ref f5)=true)
  (a6:PySem.W.nsIn K mainGlobals "is_written_number" = some (some (.ref f6)))
  (l6:K.lookup f6=some ⟨oc6,od6,.func (PySem.W.fnOf "is_written_number" "is_written_number" (aV ck) (aH ck) (ai ck) .none kV6 dc6 pm6 an6 ZG ct6),sl6⟩)
  (c6:PySem.W.codeIn K ZG "is_written_number" = true) (k6:keepIn K (.ref f6)=true)
  (a7:PySem.W.nsIn K mainGlobals "read_number" = some (some (.ref f7)))
  (l7:K.lookup f7=some ⟨oc7,od7,.func (PySem.W.fnOf "read_number" "read_number" (aV ej) (aH ej) (ai ej) .none kV7 dc7 pm7 an7 ZH ct7),sl7⟩)
  (c7:PySem.W.codeIn K ZH "read_number" = true) (k7:keepIn K (.ref f7)=true)
  (a8:PySem.W.nsIn K mainGlobals "words_of" = some (some (.ref f8)))
  (l8:K.lookup f8=some ⟨oc8,od8,.func (PySem.W.fnOf "words_of" "words_of" (aV gb) (aH gb) (ai gb) .none kV8 dc8 pm8 an8 ZI ct8),sl8⟩)
  (c8:PySem.W.codeIn K ZI "words_of" = true) (k8:keepIn K (.ref f8)=true)
  (a9:PySem.W.nsIn K mainGlobals "taken_name" = some (some (.ref f9)))
  (l9:K.lookup f9=some ⟨oc9,od9,.func (PySem.W.fnOf "taken_name" "taken_name" (aV eP) (aH eP) (ai eP) .none kV9 dc9 pm9 an9 ZJ ct9),sl9⟩)
  (c9:PySem.W.codeIn K ZJ "taken_name" = true) (k9:keepIn K (.ref f9)=true)
  (a10:PySem.W.nsIn K mainGlobals "taken_parts" = some (some (.ref RM)))
  (l10:K.lookup RM=some ⟨Vl,Vi,.func (PySem.W.fnOf "taken_parts" "taken_parts" (aV bH) (aH bH) (ai bH) .none Vm Vn Vo Vj QD Vp),Vk⟩)
  (Uv:PySem.W.codeIn K QD "taken_parts" = true) (k10:keepIn K (.ref RM)=true)
  (a11:PySem.W.nsIn K mainGlobals "taken_within" = some (some (.ref RN)))
  (l11:K.lookup RN=some ⟨Vt,Vq,.func (PySem.W.fnOf "taken_within" "taken_within" (aV df) (aH df) (ai df) .none Vu Vv Vw Vr QE Vx),Vs⟩)
  (Uw:PySem.W.codeIn K QE "taken_within" = true) (k11:keepIn K (.ref RN)=true)
  (a12:PySem.W.nsIn K mainGlobals "taken_expression" = some (some (.ref RO)))
  (l12:K.lookup RO=some ⟨VB,Vy,.func (PySem.W.fnOf "taken_expression" "taken_expression" (aV cD) (aH cD) (ai cD) .none VC VD VE Vz QF VF),VA⟩)
  (Ux:PySem.W.codeIn K QF "taken_expression" = true) (k12:keepIn K (.ref RO)=true)
  (a13:PySem.W.nsIn K mainGlobals "check_over" = some (some (.ref RP)))
  (l13:K.lookup RP=some ⟨VJ,VG,.func (PySem.W.fnOf "check_over" "check_over" (aV eQ) (aH eQ) (ai eQ) .none VL VM VN VH QG VO),VI⟩)
  (Uy:PySem.W.codeIn K QG "check_over" = true) (k13:keepIn K (.ref RP)=true)
  (a14:PySem.W.nsIn K mainGlobals "read_expression" = some (some (.ref RQ)))
  (l14:K.lookup RQ=some ⟨VS,VP,.func (PySem.W.fnOf "read_expression" "read_expression" (aV bY) (aH bY) (ai bY) .none VT VU VV VQ QH VW),VR⟩)
  (Uz:PySem.W.codeIn K QH "read_expression" = true) (k14:keepIn K (.ref RQ)=true)
  (a15:PySem.W.nsIn K mainGlobals "parts_of" = some (some (.ref RR)))
  (l15:K.lookup RR=some ⟨V0,VX,.func (PySem.W.fnOf "parts_of" "parts_of" (aV gc) (aH gc) (ai gc) .none V1 V2 V3 VY QI V4),VZ⟩)
  (UA:PySem.W.codeIn K QI "parts_of" = true) (k15:keepIn K (.ref RR)=true)
  (a16:PySem.W.nsIn K mainGlobals "shown_expression" = some (some (.ref RU)))
  (l16:K.lookup RU=some ⟨V8,V5,.func (PySem.W.fnOf "shown_expression" "shown_expression" (aV bP) (aH bP) (ai bP) .none V9 Wa Wb V6 QJ Wc),V7⟩)
  (c16:PySem.W.codeIn K QJ "shown_expression" = true) (k16:keepIn K (.ref RU)=true)
  (a17:PySem.W.nsIn K mainGlobals "_law_cells" = some (some (.ref RV)))
  (l17:K.lookup RV=some ⟨Wh,We,.func (PySem.W.fnOf "_law_cells" "_law_cells" (aV eC) (aH eC) (ai eC) .none Wi Wj Wk Wf QK Wl),Wg⟩)
  (c17:PySem.W.codeIn K QK "_law_cells" = true) (k17:keepIn K (.ref RV)=true)
  (a18:PySem.W.nsIn K mainGlobals "_law_spread" = some (some (.ref RW)))
  (l18:K.lookup RW=some ⟨Wq,Wm,.func (PySem.W.fnOf "_law_spread" "_law_spread" (aV eR) (aH eR) (ai eR) .none Wr Ws Wt Wn QL Wu),Wo⟩)
  (c18:PySem.W.codeIn K QL "_law_spread" = true) (k18:keepIn K (.ref RW)=true)
  (a19:PySem.W.nsIn K mainGlobals "_law_kept" = some (some (.ref RY)))
  (l19:K.lookup RY=some ⟨Wy,Wv,.func (PySem.W.fnOf "_law_kept" "_law_kept" (aV gf) (aH gf) (ai gf) .none Wz WA WB Ww QM WC),Wx⟩)
  (c19:PySem.W.codeIn K QM "_law_kept" = true) (k19:keepIn K (.ref RY)=true)
  (a20:PySem.W.nsIn K mainGlobals "_law_kinds" = some (some (.ref RZ)))
  (l20:K.lookup RZ=some ⟨WH,WD,.func (PySem.W.fnOf "_law_kinds" "_law_kinds" (aV dY) (aH dY) (ai dY) .none WI WJ WK WE QN WL),WG⟩)
  (c20:PySem.W.codeIn K QN "_law_kinds" = true) (k20:keepIn K (.ref RZ)=true)
  (a21:PySem.W.nsIn K mainGlobals "_law_is_name" = some (some (.ref R0)))
  (l21:K.lookup R0=some ⟨WQ,WM,.func (PySem.W.fnOf "_law_is_name" "_law_is_name" (aV dG) (aH dG) (ai dG) .none WR WS WT WN QO WU),WO⟩)
  (c21:PySem.W.codeIn K QO "_law_is_name" = true) (k21:keepIn K (.ref R0)=true)
  (a22:PySem.W.nsIn K mainGlobals "_law_number_of" = some (some (.ref R1)))
  (l22:K.lookup R1=some ⟨WY,WV,.func (PySem.W.fnOf "_law_number_of" "_law_number_of" (aV dA) (aH dA) (ai dA) .none WZ W3 W4 WW QP W5),WX⟩)
  (c22:PySem.W.codeIn K QP "_law_number_of" = true) (k22:keepIn K (.ref R1)=true)
  (a23:PySem.W.nsIn K mainGlobals "_law_name" = some (some (.ref R3)))
  (l23:K.lookup R3=some ⟨W9,W6,.func (PySem.W.fnOf "_law_name" "_law_name" (aV gg) (aH gg) (ai gg) .none Xa Xb Xc W7 QQ Xd),W8⟩)
  (c23:PySem.W.codeIn K QQ "_law_name" = true) (k23:keepIn K (.ref R3)=true)
  (a24:PySem.W.nsIn K mainGlobals "_law_leaf" = some (some (.ref R4)))
  (l24:K.lookup R4=some ⟨Xh,Xe,.func (PySem.W.fnOf "_law_leaf" "_law_leaf" (aV gh) (aH gh) (ai gh) .none Xi Xj Xk Xf QR Xl),Xg⟩)
  (c24:PySem.W.codeIn K QR "_law_leaf" = true) (k24:keepIn K (.ref R4)=true)
  (a25:PySem.W.nsIn K mainGlobals "_law_made" = some (some (.ref R5)))
  (l25:K.lookup R5=some ⟨Xp,Xm,.func (PySem.W.fnOf "_law_made" "_law_made" (aV gi) (aH gi) (ai gi) .none Xq Xr Xs Xn QS Xt),Xo⟩)
  (c25:PySem.W.codeIn K QS "_law_made" = true) (k25:keepIn K (.ref R5)=true)
  (a26:PySem.W.nsIn K mainGlobals "_law_stands" = some (some (.ref R6)))
  (l26:K.lookup R6=some ⟨Xx,Xu,.func (PySem.W.fnOf "_law_stands" "_law_stands" (aV eS) (aH eS) (ai eS) .none Xy Xz XA Xv QT XB),Xw⟩)
  (c26:PySem.W.codeIn K QT "_law_stands" = true) (k26:keepIn K (.ref R6)=true)
  (a27:PySem.W.nsIn K mainGlobals "_law_word" = some (some (.ref R7)))
  (l27:K.lookup R7=some ⟨XF,XC,.func (PySem.W.fnOf "_law_word" "_law_word" (aV gj) (aH gj) (ai gj) .none XG XH XI XD QU XJ),XE⟩)
  (c27:PySem.W.codeIn K QU "_law_word" = true) (k27:keepIn K (.ref R7)=true)
  (a28:PySem.W.nsIn K mainGlobals "_law_spoilt" = some (some (.ref R8)))
  (l28:K.lookup R8=some ⟨XQ,XM,.func (PySem.W.fnOf "_law_spoilt" "_law_spoilt" (aV eT) (aH eT) (ai eT) .none XR XS XT XN QV XU),XO⟩)
  (c28:PySem.W.codeIn K QV "_law_spoilt" = true) (k28:keepIn K (.ref R8)=true)
  (a29:PySem.W.nsIn K mainGlobals "_law_right" = some (some (.ref R9)))
  (l29:K.lookup R9=some ⟨XZ,XW,.func (PySem.W.fnOf "_law_right" "_law_right" (aV ft) (aH ft) (ai ft) .none X0 X1 X3 XX QW X4),XY⟩)
  (c29:PySem.W.codeIn K QW "_law_right" = true) (k29:keepIn K (.ref R9)=true)
  (ZK:PySem.W.nsIn K mainGlobals "law" = some (some (.ref X5)))
  (l30:K.lookup X5=some ⟨X8,X6,.func (PySem.W.fnOf "law" "law" (aV lh) (aH lh) (ai lh) .none QY QZ Q1 QX Oi Q2),X7⟩)
  (c30:PySem.W.codeIn K Oi "law" = true) (k30:keepIn K (.ref X5)=true)
  (sf:PySem.W.nsIn K mainGlobals "LETTERS" = some (some i9)) (si:RelV (.str "abcdefghijklmnopqrstuvwxyz") i9)
  (sj:PySem.W.nsIn K mainGlobals "FIGURES" = some (some ja)) (so:RelV (.str "0123456789") ja)
  (jC:PySem.W.nsIn K mainGlobals "LONGEST_NAME" = some (some eo)) (jD:RelV (.int 8) eo)
  (hV:PySem.W.nsIn K mainGlobals "LONGEST_NUMBER" = some (some dB)) (hZ:RelV (.int 9) dB)
  (sr:PySem.W.nsIn K mainGlobals "DEEPEST" = some (some jb)) (su:RelV (.int 5) jb)
  (lJ:PySem.W.nsIn K mainGlobals "KEPT_WORDS" = some (some (.ref eF))) (lK:K.lookup eF=some ⟨.type "tuple", wO,.seq nI wQ,wc⟩) (lL:rO nI.toList=some iY)
  (pQ:PySem.W.nsIn K mainGlobals "WORKINGS" = some (some (.ref fR))) (pR:K.lookup fR=some ⟨.type "dict", none,.dict tF A1,#[]⟩) (pS:(fR==sysModules)=false) (pT:Ag w tF.toList aL)
  (y9:PySem.W.nsIn K mainGlobals "LOOKS" = some (some (.ref lz))) (za:K.lookup lz=some ⟨.type "dict", none,.dict A2 IJ,#[]⟩) (zb:(lz==sysModules)=false) (ze:Ag w A2.toList aU)
  (cb:makesIn K dM=true) (cd:keepIn K (.ref dM)=true) (ce:plainGet K dM Str.empty=true) (cf:hasDictIn K dM=true) (cg:plainOver K dM=true) (ch:PySem.W.findIn K (.ref dM) "__setattr__" = some (some (.builtin "object.__setattr__")))
  (ni1:PySem.W.findIn K (.ref dM) "things" = some none) (ni2:PySem.W.findIn K (.ref dM) "lacking" = some none) (ni3:PySem.W.findIn K (.ref dM) "place" = some none)
  (CG:isFn K (.ref f0)=true)
  (Fd:isFn K (.ref f1)=true)
  (Lk:isFn K (.ref f2)=true)
  (Oj:isFn K (.ref f3)=true)
  (kC:kitOne K (.ref bL) (.ref bL)=some true)
  (fK:kitOne K (.ref bL) (.type "ValueError")=some true)
  (jz:kitOne K (.ref bL) (.ref r6)=some false)
  (kD:kitOne K (.ref bL) (.ref we)=some false)
  (kE:kitOne K (.ref bL) (.ref wg)=some false)
  (kF:kitOne K (.ref bL) (.ref wj)=some false)
  (nq:kitOne K (.ref bL) (.ref y7)=some false)
  (jA:kitOne K (.ref bL) (.ref r8)=some false)
  (jB:kitOne K (.ref bL) (.ref se)=some false)
  (kG:kitOne K (.ref bL) (.ref wk)=some false)
  (kH:kitOne K (.ref bL) (.ref wm)=some false)
  (q1:(PySem.W.clsIn K bL).isSome=true) (q2:PySem.W.mroIn K bL (.type "object")=some true) (q3:PySem.W.mroIn K bL (.type "BaseException")=some true) (q4:PySem.W.findIn K (.ref bL) "__class__" = some (some (.builtin "object.__class__"))) (q5:PySem.W.findIn K (.ref bL) "__getattribute__" = some (some (.builtin "BaseException.__getattribute__"))) (q6:PySem.W.findIn K (.ref bL) "__getattr__" = some none)
  (q7:excIn K bL Rt "ValueError.__new__" = true) (q8:exmOne K (.ref bL) (.ref nJ)=some true)
  (zf:PySem.W.nsIn K mainGlobals "ValueError" = some none)
  (Q3:PySem.W.nsIn K mainGlobals "all" = some none)
  (Q4:PySem.W.nsIn K mainGlobals "int" = some none)
  (zg:PySem.W.nsIn K mainGlobals "isinstance" = some none)
  (Q5:PySem.W.nsIn K mainGlobals "len" = some none)
  (Ol:PySem.W.nsIn K mainGlobals "list" = some none)
  (Q6:PySem.W.nsIn K mainGlobals "max" = some none)
  (Ll:PySem.W.nsIn K mainGlobals "range" = some none)
  (CH:PySem.W.nsIn K mainGlobals "reversed" = some none)
  (Q7:PySem.W.nsIn K mainGlobals "str" = some none)
  (Lm:PySem.W.nsIn K mainGlobals "tuple" = some none)
  : ∃fd:FuncData,(∀(s:Shared)(v:Value),BindsTo s fd ⟨[v],[]⟩ [("_law_script", v)])/\∀base:Heap,K.In base->base.Ns mainGlobals mg->bc l.prog w K mg base gU 20 fa fd ["_law_script"] (PM K yH):=by
 have e:=hfa.symm.trans (mg_of X G ZK)
 cases e
 have F0:=bW (st:=cL) l0 c0 k0;have b0:=F0.binds (ps:=["self", "things", "lacking"]) fun _ _ _ _ _ _=>Nq fun _ _ _=>rfl;have F1:=bW (st:=cY) l1 c1 k1;have b1:=F1.binds (ps:=["self"]) fun _ _ _ _ _ _=>all1 fun _=>rfl;have F2:=bW (st:=dQ) l2 c2 k2;have b2:=F2.binds (ps:=["self"]) fun _ _ _ _ _ _=>all1 fun _=>rfl;have F3:=bW (st:=eh) l3 c3 k3;have b3:=F3.binds (ps:=["self"]) fun _ _ _ _ _ _=>all1 fun _=>rfl;have F4:=bW (st:=de) l4 c4 k4;have b4:=F4.binds (ps:=["text", "signs"]) fun _ _ _ _ _ _=>all2 fun _ _=>rfl;have F5:=bW (st:=g7) l5 c5 k5;have b5:=F5.binds (ps:=["text"]) fun _ _ _ _ _ _=>all1 fun _=>rfl;have F6:=bW (st:=ck) l6 c6 k6;have b6:=F6.binds (ps:=["text"]) fun _ _ _ _ _ _=>all1 fun _=>rfl;have F7:=bW (st:=ej) l7 c7 k7;have b7:=F7.binds (ps:=["text"]) fun _ _ _ _ _ _=>all1 fun _=>rfl;have F8:=bW (st:=gb) l8 c8 k8;have b8:=F8.binds (ps:=["text"]) fun _ _ _ _ _ _=>all1 fun _=>rfl;have F9:=bW (st:=eP) l9 c9 k9;have b9:=F9.binds (ps:=["words"]) fun _ _ _ _ _ _=>all1 fun _=>rfl;have ZL:=bW (st:=bH) l10 Uv k10;have b10:=ZL.binds (ps:=["words", "count", "room"]) fun _ _ _ _ _ _=>Nq fun _ _ _=>rfl;have ZM:=bW (st:=df) l11 Uw k11;have b11:=ZM.binds (ps:=["words", "room"]) fun _ _ _ _ _ _=>all2 fun _ _=>rfl;have ZN:=bW (st:=cD) l12 Ux k12;have b12:=ZN.binds (ps:=["words"]) fun _ _ _ _ _ _=>all1 fun _=>rfl;have ZO:=bW (st:=eQ) l13 Uy k13;have b13:=ZO.binds (ps:=["words"]) fun _ _ _ _ _ _=>all1 fun _=>rfl;have ZP:=bW (st:=bY) l14 Uz k14;have b14:=ZP.binds (ps:=["text"]) fun _ _ _ _ _ _=>all1 fun _=>rfl;have ZQ:=bW (st:=gc) l15 UA k15;have b15:=ZQ.binds (ps:=["E"]) fun _ _ _ _ _ _=>all1 fun _=>rfl;have ZR:=bW (st:=bP) l16 c16 k16;have b16:=ZR.binds (ps:=["E"]) fun _ _ _ _ _ _=>all1 fun _=>rfl;have ZS:=bW (st:=eC) l17 c17 k17;have b17:=ZS.binds (ps:=["_law_script", "_law_many"]) fun _ _ _ _ _ _=>all2 fun _ _=>rfl;have ZT:=bW (st:=eR) l18 c18 k18;have b18:=ZT.binds (ps:=["_law_cell", "_law_many"]) fun _ _ _ _ _ _=>all2 fun _ _=>rfl;have ZU:=bW (st:=gf) l19 c19 k19;have b19:=ZU.binds (ps:=[]) fun _ _ _ _ _ _=>PL rfl;have ZV:=bW (st:=dY) l20 c20 k20;have b20:=ZV.binds (ps:=["_law_e"]) fun _ _ _ _ _ _=>all1 fun _=>rfl;have ZW:=bW (st:=dG) l21 c21 k21;have b21:=ZW.binds (ps:=["_law_text"]) fun _ _ _ _ _ _=>all1 fun _=>rfl;have ZX:=bW (st:=dA) l22 c22 k22;have b22:=ZX.binds (ps:=["_law_text"]) fun _ _ _ _ _ _=>all1 fun _=>rfl;have ZY:=bW (st:=gg) l23 c23 k23;have b23:=ZY.binds (ps:=["_law_x"]) fun _ _ _ _ _ _=>all1 fun _=>rfl;have ZZ:=bW (st:=gh) l24 c24 k24;have b24:=ZZ.binds (ps:=["_law_x"]) fun _ _ _ _ _ _=>all1 fun _=>rfl;have Z0:=bW (st:=gi) l25 c25 k25;have b25:=Z0.binds (ps:=["_law_xs", "_law_at", "_law_room"]) fun _ _ _ _ _ _=>Nq fun _ _ _=>rfl;have Z1:=bW (st:=eS) l26 c26 k26;have b26:=Z1.binds (ps:=["_law_text"]) fun _ _ _ _ _ _=>all1 fun _=>rfl;have Z2:=bW (st:=gj) l27 c27 k27;have b27:=Z2.binds (ps:=["_law_x"]) fun _ _ _ _ _ _=>all1 fun _=>rfl;have Z3:=bW (st:=eT) l28 c28 k28;have b28:=Z3.binds (ps:=["_law_words", "_law_xs"]) fun _ _ _ _ _ _=>all2 fun _ _=>rfl;have Z4:=bW (st:=ft) l29 c29 k29;have b29:=Z4.binds (ps:=["_law_text"]) fun _ _ _ _ _ _=>all1 fun _=>rfl;have Z5:=bW (st:=lh) l30 c30 k30;have b30:=Z5.binds (ps:=["_law_script"]) fun _ _ _ _ _ _=>all1 fun _=>rfl;have T:Tx w K mg ⟨f0,_,f1,_,f2,_,f3,_,f4,_,f5,_,f6,_,f7,_,f8,_,f9,_,RM,_,RN,_,RO,_,RP,_,RQ,_,RR,_,RU,_,RV,_,RW,_,RY,_,RZ,_,R0,_,R1,_,R3,_,R4,_,R5,_,R6,_,R7,_,R8,_,R9,_,fa,_,i9,ja,eo,dB,jb,eF,fR,lz⟩ (fun n=>if n=11 then dM else if n=0 then nJ else if n=2 then bL else if n=1 then r6 else if n=3 then we else if n=4 then wg else if n=5 then wj else if n=6 then y7 else if n=7 then r8 else if n=8 then se else if n=9 then wk else if n=10 then wm else 0):=⟨F0,b0,F1,b1,F2,b2,F3,b3,mg_of X G a4,F4,b4,mg_of X G a5,F5,b5,mg_of X G a6,F6,b6,mg_of X G a7,F7,b7,mg_of X G a8,F8,b8,mg_of X G a9,F9,b9,mg_of X G a10,ZL,b10,mg_of X G a11,ZM,b11,mg_of X G a12,ZN,b12,mg_of X G a13,ZO,b13,mg_of X G a14,ZP,b14,mg_of X G a15,ZQ,b15,mg_of X G a16,ZR,b16,mg_of X G a17,ZS,b17,mg_of X G a18,ZT,b18,mg_of X G a19,ZU,b19,mg_of X G a20,ZV,b20,mg_of X G a21,ZW,b21,mg_of X G a22,ZX,b22,mg_of X G a23,ZY,b23,mg_of X G a24,ZZ,b24,mg_of X G a25,Z0,b25,mg_of X G a26,Z1,b26,mg_of X G a27,Z2,b27,mg_of X G a28,Z3,b28,mg_of X G a29,Z4,b29,mg_of X G ZK,Z5,b30,mg_of X G E5,⟨cb,a0,CG,cd⟩,⟨⟨ce,cf,cg,ch⟩,ni1,ni2,ni3⟩,mg_of X G y8,mg_of X G E6,mg_of X G CB,mg_of X G E7,mg_of X G E8,mg_of X G E9,mg_of X G IK,mg_of X G CC,mg_of X G CD,mg_of X G Fb,mg_of X G Fc,kC,fK,jz,kD,kE,kF,nq,jA,jB,kG,kH,⟨q1,q2,q3,q4,q5,q6⟩,q7,q8,⟨a1,Fd,k1⟩,⟨a2,Lk,k2⟩,⟨a3,Oj,k3⟩,mg_of X G sf,si,mg_of X G sj,so,mg_of X G jC,jD,mg_of X G hV,hZ,mg_of X G sr,su,mg_of X G lJ,fun _=>Lj lK lL,mg_of X G pQ,⟨pS,⟨_,_,pR,pT⟩,by decide +kernel⟩,mg_of X G y9,⟨zb,⟨_,_,za,ze⟩,by decide +kernel⟩,mg_none_of X G zf,mg_none_of X G Q3,mg_none_of X G Q4,mg_none_of X G zg,mg_none_of X G Q5,mg_none_of X G Ol,mg_none_of X G Q6,mg_none_of X G Ll,mg_none_of X G CH,mg_none_of X G Q7,mg_none_of X G Lm⟩;exact⟨PySem.W.fnOf "law" "law" (aV lh) (aH lh) (ai lh) .none QY QZ Q1 QX Oi Q2,fun s v=>.of_eq rfl,fun base _ _=>Nr (Oh T)⟩
end LW
noncomputable section
namespace HQ
open PySem PySem.W
variable (P:Params)
abbrev R(a:Addr):Value:=.ref a
abbrev S(x:Str)(n:Nat):Value:=.str x n
abbrev I(x:Int)(n:Nat):Value:=.int x n
abbrev N(o:Obj)(l r:BT):BT:=.node o l r
abbrev Z:BT:=.nil
abbrev Ty(x:String):Value:=.type x
abbrev Bi(x:String):Value:=.builtin x
abbrev E(x:Str)(n:Nat)(v:Value):DictEntry:=⟨PyData.keyHash P x,.str x n,v⟩
def stN:List Stmt->Nat->Stmt
 |x::_,0=>x
 |_::l,n+1=>stN l n
 |[],_=>.Pass ⟨0,0,0,0⟩
def fA:Stmt->Arguments
 |.FunctionDef _ a ..=>a
 |_=>⟨[],[],none,[],[],none,[]⟩
def fB:Stmt->List Stmt
 |.FunctionDef _ _ b ..=>b
 |_=>[]
def cB:Stmt->List Stmt
 |.ClassDef _ _ _ b ..=>b
 |_=>[]
def fS:Stmt->Scope
 |.FunctionDef _ _ _ _ _ _ s ..=>s
 |_=>default
abbrev Fn(x q:Str)(s:Stmt)(g:Addr)(m c:Value):Obj:={cls:=Ty "function",data:=Data.func {name:=x,qualname:=q,params:=fA s,body:=.stmts (fB s),scope:=fS s,globals:=g,closure:=[],defaults:=Value.none,kwdefaults:=Value.none,pyModule:=m,code:=c}}
abbrev Fz(x q:Str)(s:Stmt):Obj:={cls:=Value.none,data:=Data.func {name:=x,qualname:=q,params:=fA s,body:=.stmts (fB s),scope:=fS s,globals:=0,closure:=[],defaults:=Value.none,kwdefaults:=Value.none}}
abbrev Co(a:Str)(n:Nat)(b:Str)(n2 n3:Nat)(l c f:Int)(r:Nat)(k:Bool)(r2:Nat)(v1 v2 v3 v4:Value)(t:Int)(n4:Nat):Obj:={cls:=Ty "code",data:=Data.fields #[S a n,S b n2,S "/claim/cut.py" n3,I l 0,I c 0,I 0 0,I 0 0,I f 0,R r,Value.bool k,I 181 0,R r2,v1,v2,v3,v4,I t 0,I l 0,S "/claim/cut.py" n4]}
abbrev Di(l:List DictEntry)(n:Nat):Obj:={cls:=Ty "dict",data:=Data.dict (List.toArray l) n}
def B:List Stmt:=PySem.Challenge.pw_surejoin_k11_expressions_refused.main.body
def s13_0:Stmt:=stN (cB (stN B 13)) 0
def s13_2:Stmt:=stN (cB (stN B 13)) 2
def s13_1:Stmt:=stN (cB (stN B 13)) 1
def s13_3:Stmt:=stN (cB (stN B 13)) 3
def s27:Stmt:=stN B 27
def s23:Stmt:=stN B 23
def s25:Stmt:=stN B 25
def s28:Stmt:=stN B 28
def s26:Stmt:=stN B 26
def s24:Stmt:=stN B 24
def s38:Stmt:=stN B 38
def s40:Stmt:=stN B 40
def s33:Stmt:=stN B 33
def s35:Stmt:=stN B 35
def s29:Stmt:=stN B 29
def s42:Stmt:=stN B 42
def s31:Stmt:=stN B 31
def s32:Stmt:=stN B 32
def s34:Stmt:=stN B 34
def s39:Stmt:=stN B 39
def s37:Stmt:=stN B 37
def s41:Stmt:=stN B 41
def s30:Stmt:=stN B 30
def s44:Stmt:=stN B 44
def s46:Stmt:=stN B 46
def s48:Stmt:=stN B 48
def s50:Stmt:=stN B 50
def s43:Stmt:=stN B 43
def s45:Stmt:=stN B 45
def s49:Stmt:=stN B 49
def s47:Stmt:=stN B 47
def q0:Obj:={cls:=Ty "tuple",data:=Data.seq #[]}
def q1:Obj:={cls:=Ty "tuple",data:=Data.seq #[Ty "ValueError"]}
def q2:Obj:={cls:=Ty "builtin_function_or_method",data:=Data.fields #[Bi "object.__init_subclass__",R 37]}
def q3:Obj:=Di [E P "__module__" 196 (S "surejoin.errors" 187),E P "__firstlineno__" 200 (I 2 199),E P "__static_attributes__" 201 (R 22),E P "__weakref__" 203 (R 25),E P "__doc__" 204 (Value.none)] 3
def q4:Obj:={cls:=Value.none,data:=Data.fields #[]}
def q5:Obj:={cls:=Ty "builtin_function_or_method",data:=Data.fields #[Bi "object.__init_subclass__",R 24]}
def e0 (l : List DictEntry) : List DictEntry := E P "__name__" 165 (S "surejoin.errors" 187)::E P "__doc__" 166 (Value.none)::E P "__package__" 167 (Value.none)::E P "__loader__" 168 (Bi "__main__.__loader__#opaque")::E P "__spec__" 169 (Value.none)::E P "__annotations__" 170 (R 6)::E P "__builtins__" 171 (R 4)::E P "__file__" 173 (S "/claim/cut.py" 172)::E P "__cached__" 174 (Value.none)::E P "JoinError" 206 (R 24)::E P "TooMuch" 222 (R 37)::l
def q6:Obj:=Di (e0 P []) 11
def q7:Obj:=Co "TooMuch" 209 "TooMuch" 210 211 4 0 0 31 false 32 .none .none .none .none 212 213
def q8:Obj:=Di [E P "__module__" 196 (S "surejoin.errors" 187),E P "__qualname__" 198 (S "JoinError" 197),E P "__firstlineno__" 200 (I 2 199),E P "__static_attributes__" 201 (R 22)] 4
def q9:Obj:={cls:=Ty "getset_descriptor",data:=Data.fields #[S "__weakref__" 202,R 24,Bi "ExceptionGroup.__weakref__",Value.none]}
def q10:Obj:={cls:=Ty "type",data:=Data.cls {name:="TooMuch",bases:=[R 24],mro:=[R 37,R 24,Ty "ValueError",Ty "Exception",Ty "BaseException",Ty "object"],ns:=36,qualname:="TooMuch"},slots:=#[some (R 28),none,some (S "TooMuch" 207),some (S "TooMuch" 215),some (Bi "ValueError.__new__"),some (Value.bool true)]}
def q11:Obj:={cls:=Ty "frame",slots:=#[some (R 20),some (R 3),some (R 17),none,some (S "surejoin.errors" 187),none,some (R 0)]}
def q12:Obj:={cls:=Ty "builtin_function_or_method",data:=Data.fields #[Bi "type.__prepare__",Ty "type"]}
def q13:Obj:=Co "<module>" 182 "<module>" 183 184 1 0 0 11 false 12 .none .none .none .none 185 186
def q14:Obj:={cls:=Ty "type",data:=Data.cls {name:="JoinError",bases:=[Ty "ValueError"],mro:=[R 24,Ty "ValueError",Ty "Exception",Ty "BaseException",Ty "object"],ns:=23,qualname:="JoinError",subclasses:=[R 37]},slots:=#[some (R 15),none,some (S "JoinError" 189),some (S "JoinError" 197),some (Bi "ValueError.__new__"),some (Value.bool true)]}
def q15:Obj:=Di [E P "__module__" 214 (S "surejoin.errors" 187),E P "__firstlineno__" 218 (I 4 217),E P "__static_attributes__" 219 (R 35),E P "__doc__" 220 (Value.none)] 2
def q16:Obj:=Co "JoinError" 191 "JoinError" 192 193 2 0 0 18 false 19 .none .none .none .none 194 195
def q17:Obj:={cls:=Ty "tuple",data:=Data.seq #[R 24]}
def q18:Obj:={cls:=Value.none,data:=Data.fields #[I 2 0,I 0 0,R 20,I 4 0,I 0 0,R 33]}
def q19:Obj:={cls:=Ty "frame",slots:=#[some (R 33),some (R 3),some (R 30),none,some (S "surejoin.errors" 187),none,some (R 0)]}
def q20:Obj:={cls:=Ty "super",data:=Data.fields #[R 24,R 24,R 24]}
def q21:Obj:={cls:=Ty "super",data:=Data.fields #[R 37,R 37,R 37]}
def q22:Obj:=Di [E P "__module__" 214 (S "surejoin.errors" 187),E P "__qualname__" 216 (S "TooMuch" 215),E P "__firstlineno__" 218 (I 4 217),E P "__static_attributes__" 219 (R 35)] 4
def q23:Obj:={cls:=Ty "frame",slots:=#[some (R 13),some (R 3),some (R 3),none,some (S "__main__" 164),none,some (R 0)]}
def q24:Obj:={cls:=Ty "builtin_function_or_method",data:=Data.fields #[Bi "object.__init_subclass__",R 49]}
def q25:Obj:=Di (e0 P [E P "NoLine" 238 (R 49)]) 12
def q26:Obj:={cls:=Ty "type",data:=Data.cls {name:="NoLine",bases:=[R 24],mro:=[R 49,R 24,Ty "ValueError",Ty "Exception",Ty "BaseException",Ty "object"],ns:=48,qualname:="NoLine"},slots:=#[some (R 40),none,some (S "NoLine" 223),some (S "NoLine" 231),some (Bi "ValueError.__new__"),some (Value.bool true)]}
def q27:Obj:=Co "NoLine" 225 "NoLine" 226 227 6 0 0 43 false 44 .none .none .none .none 228 229
def q28:Obj:=Di [E P "__module__" 230 (S "surejoin.errors" 187),E P "__firstlineno__" 234 (I 6 233),E P "__static_attributes__" 235 (R 47),E P "__doc__" 236 (Value.none)] 2
def q29:Obj:={cls:=Ty "type",data:=Data.cls {name:="JoinError",bases:=[Ty "ValueError"],mro:=[R 24,Ty "ValueError",Ty "Exception",Ty "BaseException",Ty "object"],ns:=23,qualname:="JoinError",subclasses:=[R 37,R 49]},slots:=#[some (R 15),none,some (S "JoinError" 189),some (S "JoinError" 197),some (Bi "ValueError.__new__"),some (Value.bool true)]}
def q30:Obj:={cls:=Value.none,data:=Data.fields #[I 2 0,I 0 0,R 20,I 4 0,I 0 0,R 33,I 6 0,I 0 0,R 45]}
def q31:Obj:={cls:=Ty "super",data:=Data.fields #[R 49,R 49,R 49]}
def q32:Obj:=Di [E P "__module__" 230 (S "surejoin.errors" 187),E P "__qualname__" 232 (S "NoLine" 231),E P "__firstlineno__" 234 (I 6 233),E P "__static_attributes__" 235 (R 47)] 4
def q33:Obj:={cls:=Ty "frame",slots:=#[some (R 45),some (R 3),some (R 42),none,some (S "surejoin.errors" 187),none,some (R 0)]}
def q34:Obj:={cls:=Ty "builtin_function_or_method",data:=Data.fields #[Bi "object.__init_subclass__",R 61]}
def q35:Obj:=Di (e0 P [E P "NoLine" 238 (R 49),E P "NoNest" 254 (R 61)]) 13
def q36:Obj:=Co "NoNest" 241 "NoNest" 242 243 8 0 0 55 false 56 .none .none .none .none 244 245
def q37:Obj:={cls:=Ty "type",data:=Data.cls {name:="NoNest",bases:=[R 24],mro:=[R 61,R 24,Ty "ValueError",Ty "Exception",Ty "BaseException",Ty "object"],ns:=60,qualname:="NoNest"},slots:=#[some (R 52),none,some (S "NoNest" 239),some (S "NoNest" 247),some (Bi "ValueError.__new__"),some (Value.bool true)]}
def q38:Obj:={cls:=Ty "type",data:=Data.cls {name:="JoinError",bases:=[Ty "ValueError"],mro:=[R 24,Ty "ValueError",Ty "Exception",Ty "BaseException",Ty "object"],ns:=23,qualname:="JoinError",subclasses:=[R 37,R 49,R 61]},slots:=#[some (R 15),none,some (S "JoinError" 189),some (S "JoinError" 197),some (Bi "ValueError.__new__"),some (Value.bool true)]}
def q39:Obj:=Di [E P "__module__" 246 (S "surejoin.errors" 187),E P "__firstlineno__" 250 (I 8 249),E P "__static_attributes__" 251 (R 59),E P "__doc__" 252 (Value.none)] 2
def q40:Obj:={cls:=Value.none,data:=Data.fields #[I 2 0,I 0 0,R 20,I 4 0,I 0 0,R 33,I 6 0,I 0 0,R 45,I 8 0,I 0 0,R 57]}
def q41:Obj:={cls:=Ty "frame",slots:=#[some (R 57),some (R 3),some (R 54),none,some (S "surejoin.errors" 187),none,some (R 0)]}
def q42:Obj:=Di [E P "__module__" 246 (S "surejoin.errors" 187),E P "__qualname__" 248 (S "NoNest" 247),E P "__firstlineno__" 250 (I 8 249),E P "__static_attributes__" 251 (R 59)] 4
def q43:Obj:={cls:=Ty "super",data:=Data.fields #[R 61,R 61,R 61]}
def q44:Obj:={cls:=Ty "builtin_function_or_method",data:=Data.fields #[Bi "object.__init_subclass__",R 73]}
def e1(l:List DictEntry):List DictEntry:=e0 P (E P "NoLine" 238 (R 49)::E P "NoNest" 254 (R 61)::E P "NoName" 270 (R 73)::l)
def q45:Obj:=Di (e1 P []) 14
def q46:Obj:={cls:=Ty "type",data:=Data.cls {name:="NoName",bases:=[R 24],mro:=[R 73,R 24,Ty "ValueError",Ty "Exception",Ty "BaseException",Ty "object"],ns:=72,qualname:="NoName"},slots:=#[some (R 64),none,some (S "NoName" 255),some (S "NoName" 263),some (Bi "ValueError.__new__"),some (Value.bool true)]}
def q47:Obj:=Co "NoName" 257 "NoName" 258 259 10 0 0 67 false 68 .none .none .none .none 260 261
def q48:Obj:=Di [E P "__module__" 262 (S "surejoin.errors" 187),E P "__firstlineno__" 266 (I 10 265),E P "__static_attributes__" 267 (R 71),E P "__doc__" 268 (Value.none)] 2
def q49:Obj:={cls:=Ty "type",data:=Data.cls {name:="JoinError",bases:=[Ty "ValueError"],mro:=[R 24,Ty "ValueError",Ty "Exception",Ty "BaseException",Ty "object"],ns:=23,qualname:="JoinError",subclasses:=[R 37,R 49,R 61,R 73]},slots:=#[some (R 15),none,some (S "JoinError" 189),some (S "JoinError" 197),some (Bi "ValueError.__new__"),some (Value.bool true)]}
def q50:Obj:={cls:=Value.none,data:=Data.fields #[I 2 0,I 0 0,R 20,I 4 0,I 0 0,R 33,I 6 0,I 0 0,R 45,I 8 0,I 0 0,R 57,I 10 0,I 0 0,R 69]}
def q51:Obj:=Di [E P "__module__" 262 (S "surejoin.errors" 187),E P "__qualname__" 264 (S "NoName" 263),E P "__firstlineno__" 266 (I 10 265),E P "__static_attributes__" 267 (R 71)] 4
def q52:Obj:={cls:=Ty "super",data:=Data.fields #[R 73,R 73,R 73]}
def q53:Obj:={cls:=Ty "frame",slots:=#[some (R 69),some (R 3),some (R 66),none,some (S "surejoin.errors" 187),none,some (R 0)]}
def q54:Obj:={cls:=Ty "builtin_function_or_method",data:=Data.fields #[Bi "object.__init_subclass__",R 85]}
def q55:Obj:=Di (e1 P [E P "NoKind" 286 (R 85)]) 15
def q56:Obj:=Co "NoKind" 273 "NoKind" 274 275 12 0 0 79 false 80 .none .none .none .none 276 277
def q57:Obj:={cls:=Ty "type",data:=Data.cls {name:="NoKind",bases:=[R 24],mro:=[R 85,R 24,Ty "ValueError",Ty "Exception",Ty "BaseException",Ty "object"],ns:=84,qualname:="NoKind"},slots:=#[some (R 76),none,some (S "NoKind" 271),some (S "NoKind" 279),some (Bi "ValueError.__new__"),some (Value.bool true)]}
def q58:Obj:={cls:=Ty "type",data:=Data.cls {name:="JoinError",bases:=[Ty "ValueError"],mro:=[R 24,Ty "ValueError",Ty "Exception",Ty "BaseException",Ty "object"],ns:=23,qualname:="JoinError",subclasses:=[R 37,R 49,R 61,R 73,R 85]},slots:=#[some (R 15),none,some (S "JoinError" 189),some (S "JoinError" 197),some (Bi "ValueError.__new__"),some (Value.bool true)]}
def q59:Obj:=Di [E P "__module__" 278 (S "surejoin.errors" 187),E P "__firstlineno__" 282 (I 12 281),E P "__static_attributes__" 283 (R 83),E P "__doc__" 284 (Value.none)] 2
def q60:Obj:={cls:=Value.none,data:=Data.fields #[I 2 0,I 0 0,R 20,I 4 0,I 0 0,R 33,I 6 0,I 0 0,R 45,I 8 0,I 0 0,R 57,I 10 0,I 0 0,R 69,I 12 0,I 0 0,R 81]}
def q61:Obj:={cls:=Ty "frame",slots:=#[some (R 81),some (R 3),some (R 78),none,some (S "surejoin.errors" 187),none,some (R 0)]}
def q62:Obj:={cls:=Ty "super",data:=Data.fields #[R 85,R 85,R 85]}
def q63:Obj:=Di [E P "__module__" 278 (S "surejoin.errors" 187),E P "__qualname__" 280 (S "NoKind" 279),E P "__firstlineno__" 282 (I 12 281),E P "__static_attributes__" 283 (R 83)] 4
def q64:Obj:={cls:=Ty "builtin_function_or_method",data:=Data.fields #[Bi "object.__init_subclass__",R 97]}
def q65:Obj:=Di (e1 P [E P "NoKind" 286 (R 85),E P "Hangs" 302 (R 97)]) 16
def q66:Obj:={cls:=Ty "type",data:=Data.cls {name:="Hangs",bases:=[R 24],mro:=[R 97,R 24,Ty "ValueError",Ty "Exception",Ty "BaseException",Ty "object"],ns:=96,qualname:="Hangs"},slots:=#[some (R 88),none,some (S "Hangs" 287),some (S "Hangs" 295),some (Bi "ValueError.__new__"),some (Value.bool true)]}
def q67:Obj:=Co "Hangs" 289 "Hangs" 290 291 14 0 0 91 false 92 .none .none .none .none 292 293
def q68:Obj:=Di [E P "__module__" 294 (S "surejoin.errors" 187),E P "__firstlineno__" 298 (I 14 297),E P "__static_attributes__" 299 (R 95),E P "__doc__" 300 (Value.none)] 2
def q69:Obj:={cls:=Ty "type",data:=Data.cls {name:="JoinError",bases:=[Ty "ValueError"],mro:=[R 24,Ty "ValueError",Ty "Exception",Ty "BaseException",Ty "object"],ns:=23,qualname:="JoinError",subclasses:=[R 37,R 49,R 61,R 73,R 85,R 97]},slots:=#[some (R 15),none,some (S "JoinError" 189),some (S "JoinError" 197),some (Bi "ValueError.__new__"),some (Value.bool true)]}
def q70:Obj:={cls:=Value.none,data:=Data.fields #[I 2 0,I 0 0,R 20,I 4 0,I 0 0,R 33,I 6 0,I 0 0,R 45,I 8 0,I 0 0,R 57,I 10 0,I 0 0,R 69,I 12 0,I 0 0,R 81,I 14 0,I 0 0,R 93]}
def q71:Obj:={cls:=Ty "super",data:=Data.fields #[R 97,R 97,R 97]}
def q72:Obj:=Di [E P "__module__" 294 (S "surejoin.errors" 187),E P "__qualname__" 296 (S "Hangs" 295),E P "__firstlineno__" 298 (I 14 297),E P "__static_attributes__" 299 (R 95)] 4
def q73:Obj:={cls:=Ty "frame",slots:=#[some (R 93),some (R 3),some (R 90),none,some (S "surejoin.errors" 187),none,some (R 0)]}
def q74:Obj:={cls:=Ty "builtin_function_or_method",data:=Data.fields #[Bi "object.__init_subclass__",R 109]}
def e2(l:List DictEntry):List DictEntry:=e1 P (E P "NoKind" 286 (R 85)::E P "Hangs" 302 (R 97)::E P "NoSteps" 318 (R 109)::l)
def q75:Obj:=Di (e2 P []) 17
def q76:Obj:=Co "NoSteps" 305 "NoSteps" 306 307 16 0 0 103 false 104 .none .none .none .none 308 309
def q77:Obj:={cls:=Ty "type",data:=Data.cls {name:="NoSteps",bases:=[R 24],mro:=[R 109,R 24,Ty "ValueError",Ty "Exception",Ty "BaseException",Ty "object"],ns:=108,qualname:="NoSteps"},slots:=#[some (R 100),none,some (S "NoSteps" 303),some (S "NoSteps" 311),some (Bi "ValueError.__new__"),some (Value.bool true)]}
def q78:Obj:={cls:=Ty "type",data:=Data.cls {name:="JoinError",bases:=[Ty "ValueError"],mro:=[R 24,Ty "ValueError",Ty "Exception",Ty "BaseException",Ty "object"],ns:=23,qualname:="JoinError",subclasses:=[R 37,R 49,R 61,R 73,R 85,R 97,R 109]},slots:=#[some (R 15),none,some (S "JoinError" 189),some (S "JoinError" 197),some (Bi "ValueError.__new__"),some (Value.bool true)]}
def q79:Obj:=Di [E P "__module__" 310 (S "surejoin.errors" 187),E P "__firstlineno__" 314 (I 16 313),E P "__static_attributes__" 315 (R 107),E P "__doc__" 316 (Value.none)] 2
def q80:Obj:={cls:=Value.none,data:=Data.fields #[I 2 0,I 0 0,R 20,I 4 0,I 0 0,R 33,I 6 0,I 0 0,R 45,I 8 0,I 0 0,R 57,I 10 0,I 0 0,R 69,I 12 0,I 0 0,R 81,I 14 0,I 0 0,R 93,I 16 0,I 0 0,R 105]}
def q81:Obj:={cls:=Ty "frame",slots:=#[some (R 105),some (R 3),some (R 102),none,some (S "surejoin.errors" 187),none,some (R 0)]}
def q82:Obj:=Di [E P "__module__" 310 (S "surejoin.errors" 187),E P "__qualname__" 312 (S "NoSteps" 311),E P "__firstlineno__" 314 (I 16 313),E P "__static_attributes__" 315 (R 107)] 4
def q83:Obj:={cls:=Ty "super",data:=Data.fields #[R 109,R 109,R 109]}
def q84:Obj:={cls:=Ty "builtin_function_or_method",data:=Data.fields #[Bi "object.__init_subclass__",R 121]}
def q85:Obj:=Di (e2 P [E P "NoBoxes" 334 (R 121)]) 18
def q86:Obj:={cls:=Ty "type",data:=Data.cls {name:="NoBoxes",bases:=[R 24],mro:=[R 121,R 24,Ty "ValueError",Ty "Exception",Ty "BaseException",Ty "object"],ns:=120,qualname:="NoBoxes"},slots:=#[some (R 112),none,some (S "NoBoxes" 319),some (S "NoBoxes" 327),some (Bi "ValueError.__new__"),some (Value.bool true)]}
def q87:Obj:=Co "NoBoxes" 321 "NoBoxes" 322 323 18 0 0 115 false 116 .none .none .none .none 324 325
def q88:Obj:=Di [E P "__module__" 326 (S "surejoin.errors" 187),E P "__firstlineno__" 330 (I 18 329),E P "__static_attributes__" 331 (R 119),E P "__doc__" 332 (Value.none)] 2
def q89:Obj:={cls:=Ty "type",data:=Data.cls {name:="JoinError",bases:=[Ty "ValueError"],mro:=[R 24,Ty "ValueError",Ty "Exception",Ty "BaseException",Ty "object"],ns:=23,qualname:="JoinError",subclasses:=[R 37,R 49,R 61,R 73,R 85,R 97,R 109,R 121]},slots:=#[some (R 15),none,some (S "JoinError" 189),some (S "JoinError" 197),some (Bi "ValueError.__new__"),some (Value.bool true)]}
def q90:Obj:={cls:=Value.none,data:=Data.fields #[I 2 0,I 0 0,R 20,I 4 0,I 0 0,R 33,I 6 0,I 0 0,R 45,I 8 0,I 0 0,R 57,I 10 0,I 0 0,R 69,I 12 0,I 0 0,R 81,I 14 0,I 0 0,R 93,I 16 0,I 0 0,R 105,I 18 0,I 0 0,R 117]}
def q91:Obj:=Di [E P "__module__" 326 (S "surejoin.errors" 187),E P "__qualname__" 328 (S "NoBoxes" 327),E P "__firstlineno__" 330 (I 18 329),E P "__static_attributes__" 331 (R 119)] 4
def q92:Obj:={cls:=Ty "super",data:=Data.fields #[R 121,R 121,R 121]}
def q93:Obj:={cls:=Ty "frame",slots:=#[some (R 117),some (R 3),some (R 114),none,some (S "surejoin.errors" 187),none,some (R 0)]}
def q94:Obj:={cls:=Ty "builtin_function_or_method",data:=Data.fields #[Bi "object.__init_subclass__",R 133]}
def q95:Obj:=Di (e2 P [E P "NoBoxes" 334 (R 121),E P "NoTurn" 350 (R 133)]) 19
def q96:Obj:=Co "NoTurn" 337 "NoTurn" 338 339 20 0 0 127 false 128 .none .none .none .none 340 341
def q97:Obj:={cls:=Ty "type",data:=Data.cls {name:="NoTurn",bases:=[R 24],mro:=[R 133,R 24,Ty "ValueError",Ty "Exception",Ty "BaseException",Ty "object"],ns:=132,qualname:="NoTurn"},slots:=#[some (R 124),none,some (S "NoTurn" 335),some (S "NoTurn" 343),some (Bi "ValueError.__new__"),some (Value.bool true)]}
def q98:Obj:={cls:=Ty "type",data:=Data.cls {name:="JoinError",bases:=[Ty "ValueError"],mro:=[R 24,Ty "ValueError",Ty "Exception",Ty "BaseException",Ty "object"],ns:=23,qualname:="JoinError",subclasses:=[R 37,R 49,R 61,R 73,R 85,R 97,R 109,R 121,R 133]},slots:=#[some (R 15),none,some (S "JoinError" 189),some (S "JoinError" 197),some (Bi "ValueError.__new__"),some (Value.bool true)]}
def q99:Obj:=Di [E P "__module__" 342 (S "surejoin.errors" 187),E P "__firstlineno__" 346 (I 20 345),E P "__static_attributes__" 347 (R 131),E P "__doc__" 348 (Value.none)] 2
def q100:Obj:={cls:=Value.none,data:=Data.fields #[I 2 0,I 0 0,R 20,I 4 0,I 0 0,R 33,I 6 0,I 0 0,R 45,I 8 0,I 0 0,R 57,I 10 0,I 0 0,R 69,I 12 0,I 0 0,R 81,I 14 0,I 0 0,R 93,I 16 0,I 0 0,R 105,I 18 0,I 0 0,R 117,I 20 0,I 0 0,R 129]}
def q101:Obj:={cls:=Ty "frame",slots:=#[some (R 129),some (R 3),some (R 126),none,some (S "surejoin.errors" 187),none,some (R 0)]}
def q102:Obj:={cls:=Ty "super",data:=Data.fields #[R 133,R 133,R 133]}
def q103:Obj:=Di [E P "__module__" 342 (S "surejoin.errors" 187),E P "__qualname__" 344 (S "NoTurn" 343),E P "__firstlineno__" 346 (I 20 345),E P "__static_attributes__" 347 (R 131)] 4
def q104:Obj:={cls:=Ty "builtin_function_or_method",data:=Data.fields #[Bi "object.__init_subclass__",R 145]}
def e3 (l : List DictEntry) : List DictEntry := E P "__name__" 165 (S "surejoin.readers" 367)::E P "__doc__" 166 (Value.none)::E P "__package__" 167 (Value.none)::E P "__loader__" 168 (Bi "__main__.__loader__#opaque")::E P "__spec__" 169 (Value.none)::E P "__annotations__" 170 (R 6)::E P "__builtins__" 171 (R 4)::E P "__file__" 173 (S "/claim/cut.py" 172)::E P "__cached__" 174 (Value.none)::E P "JoinError" 206 (R 24)::E P "TooMuch" 222 (R 37)::E P "NoLine" 238 (R 49)::E P "NoNest" 254 (R 61)::E P "NoName" 270 (R 73)::E P "NoKind" 286 (R 85)::E P "Hangs" 302 (R 97)::E P "NoSteps" 318 (R 109)::E P "NoBoxes" 334 (R 121)::E P "NoTurn" 350 (R 133)::E P "NoHead" 366 (R 145)::l
def q105:Obj:=Di (e3 P []) 20
def q106:Obj:={cls:=Ty "type",data:=Data.cls {name:="NoHead",bases:=[R 24],mro:=[R 145,R 24,Ty "ValueError",Ty "Exception",Ty "BaseException",Ty "object"],ns:=144,qualname:="NoHead"},slots:=#[some (R 136),none,some (S "NoHead" 351),some (S "NoHead" 359),some (Bi "ValueError.__new__"),some (Value.bool true)]}
def q107:Obj:=Co "NoHead" 353 "NoHead" 354 355 22 0 0 139 false 140 .none .none .none .none 356 357
def q108:Obj:=Di [E P "__module__" 358 (S "surejoin.errors" 187),E P "__firstlineno__" 362 (I 22 361),E P "__static_attributes__" 363 (R 143),E P "__doc__" 364 (Value.none)] 2
def q109:Obj:={cls:=Ty "type",data:=Data.cls {name:="JoinError",bases:=[Ty "ValueError"],mro:=[R 24,Ty "ValueError",Ty "Exception",Ty "BaseException",Ty "object"],ns:=23,qualname:="JoinError",subclasses:=[R 37,R 49,R 61,R 73,R 85,R 97,R 109,R 121,R 133,R 145]},slots:=#[some (R 15),none,some (S "JoinError" 189),some (S "JoinError" 197),some (Bi "ValueError.__new__"),some (Value.bool true)]}
def q110:Obj:={cls:=Value.none,data:=Data.fields #[I 2 0,I 0 0,R 20,I 4 0,I 0 0,R 33,I 6 0,I 0 0,R 45,I 8 0,I 0 0,R 57,I 10 0,I 0 0,R 69,I 12 0,I 0 0,R 81,I 14 0,I 0 0,R 93,I 16 0,I 0 0,R 105,I 18 0,I 0 0,R 117,I 20 0,I 0 0,R 129,I 22 0,I 0 0,R 141]}
def q111:Obj:={cls:=Ty "super",data:=Data.fields #[R 145,R 145,R 145]}
def q112:Obj:=Di [E P "__module__" 358 (S "surejoin.errors" 187),E P "__qualname__" 360 (S "NoHead" 359),E P "__firstlineno__" 362 (I 22 361),E P "__static_attributes__" 363 (R 143)] 4
def q113:Obj:={cls:=Ty "frame",slots:=#[some (R 141),some (R 3),some (R 138),none,some (S "surejoin.errors" 187),none,some (R 0)]}
def q114:Obj:=Fz "__init__" "Reader.__init__" s13_0
def q115:Obj:=Fn "ahead" "Reader.ahead" s13_2 3 (S "surejoin.readers" 367) (R 174)
def q116:Obj:=Co "is_over" 390 "Reader.is_over" 391 392 32 1 3 162 true 163 .none (R 164) (R 165) (R 166) 394 395
def q117:Obj:={cls:=Ty "tuple",data:=Data.seq #[S "lacking" 412,S "place" 413,S "things" 414]}
def q118:Obj:={cls:=Ty "tuple",data:=Data.seq #[S "self" 400]}
def q119:Obj:={cls:=Ty "getset_descriptor",data:=Data.fields #[S "__weakref__" 418,R 185,Bi "ExceptionGroup.__weakref__",Value.none]}
def e4 (l : List DictEntry) : List DictEntry := E P "__name__" 165 (S "surejoin.words" 423)::E P "__doc__" 166 (Value.none)::E P "__package__" 167 (Value.none)::E P "__loader__" 168 (Bi "__main__.__loader__#opaque")::E P "__spec__" 169 (Value.none)::E P "__annotations__" 170 (R 6)::E P "__builtins__" 171 (R 4)::E P "__file__" 173 (S "/claim/cut.py" 172)::E P "__cached__" 174 (Value.none)::E P "JoinError" 206 (R 24)::E P "TooMuch" 222 (R 37)::E P "NoLine" 238 (R 49)::E P "NoNest" 254 (R 61)::E P "NoName" 270 (R 73)::E P "NoKind" 286 (R 85)::E P "Hangs" 302 (R 97)::E P "NoSteps" 318 (R 109)::E P "NoBoxes" 334 (R 121)::E P "NoTurn" 350 (R 133)::E P "NoHead" 366 (R 145)::E P "Reader" 422 (R 185)::E P "LETTERS" 426 (S "abcdefghijklmnopqrstuvwxyz" 425)::E P "FIGURES" 428 (S "0123456789" 427)::E P "LONGEST_NAME" 430 (I 8 429)::E P "LONGEST_NUMBER" 432 (I 9 431)::E P "DEEPEST" 434 (I 5 433)::l
def q120:Obj:=Di (e4 P []) 26
def q121:Obj:=Fn "__init__" "Reader.__init__" s13_0 3 (S "surejoin.readers" 367) (R 160)
def q122:Obj:=Co "Reader" 371 "Reader" 372 373 25 0 0 151 false 152 .none .none .none .none 374 375
def q123:Obj:={cls:=Ty "type",data:=Data.cls {name:="Reader",bases:=[Ty "object"],mro:=[R 185,Ty "object"],ns:=184,qualname:="Reader"},slots:=#[none,none,some (S "Reader" 369),some (S "Reader" 377),some (Bi "object.__new__"),some (Value.bool true)]}
def q124:Obj:=Co "take" 404 "Reader.take" 405 406 38 1 3 176 true 177 .none (R 178) (R 179) (R 180) 409 410
def q125:Obj:=Fz "ahead" "Reader.ahead" s13_2
def q126:Obj:={cls:=Ty "tuple",data:=Data.seq #[S "self" 384,S "things" 385,S "lacking" 386]}
def q127:Obj:={cls:=Ty "builtin_function_or_method",data:=Data.fields #[Bi "object.__init_subclass__",R 185]}
def q128:Obj:=Co "__init__" 381 "Reader.__init__" 382 383 27 3 3 155 true 156 .none (R 157) (R 158) (R 159) 387 388
def q129:Obj:=Fn "is_over" "Reader.is_over" s13_1 3 (S "surejoin.readers" 367) (R 167)
def q130:Obj:={cls:=Value.none,data:=Data.fields #[I 27 0,I 4 0,R 160,I 32 0,I 4 0,R 167,I 35 0,I 4 0,R 174,I 38 0,I 4 0,R 181]}
def e5(l:List DictEntry):List DictEntry:=E P "__module__" 376 (S "surejoin.readers" 367)::E P "__firstlineno__" 380 (I 25 379)::E P "__init__" 389 (R 161)::E P "is_over" 396 (R 168)::E P "ahead" 403 (R 175)::E P "take" 411 (R 182)::E P "__static_attributes__" 415 (R 183)::E P "__dict__" 417 (R 186)::E P "__weakref__" 419 (R 187)::E P "__doc__" 420 (Value.none)::l
def q131:Obj:=Di (e5 P []) 4
def q132:Obj:={cls:=Ty "tuple",data:=Data.seq #[S "self" 393]}
def q133:Obj:=Fz "take" "Reader.take" s13_3
def q134:Obj:={cls:=Ty "super",data:=Data.fields #[R 185,R 185,R 185]}
def q135:Obj:={cls:=Value.none,data:=Data.fields #[I 2 0,I 0 0,R 20,I 4 0,I 0 0,R 33,I 6 0,I 0 0,R 45,I 8 0,I 0 0,R 57,I 10 0,I 0 0,R 69,I 12 0,I 0 0,R 81,I 14 0,I 0 0,R 93,I 16 0,I 0 0,R 105,I 18 0,I 0 0,R 117,I 20 0,I 0 0,R 129,I 22 0,I 0 0,R 141,I 25 0,I 0 0,R 153]}
def q136:Obj:={cls:=Ty "tuple",data:=Data.seq #[S "self" 407,S "thing" 408]}
def q137:Obj:={cls:=Ty "frame",slots:=#[some (R 153),some (R 3),some (R 150),none,some (S "surejoin.readers" 367),none,some (R 0)]}
def q138:Obj:={cls:=Ty "getset_descriptor",data:=Data.fields #[S "__dict__" 416,R 185,Bi "function.__dict__",Bi "function.__dict__#set"]}
def q139:Obj:=Fz "is_over" "Reader.is_over" s13_1
def e6(l:List DictEntry):List DictEntry:=E P "__module__" 376 (S "surejoin.readers" 367)::E P "__qualname__" 378 (S "Reader" 377)::E P "__firstlineno__" 380 (I 25 379)::E P "__init__" 389 (R 161)::E P "is_over" 396 (R 168)::E P "ahead" 403 (R 175)::E P "take" 411 (R 182)::E P "__static_attributes__" 415 (R 183)::l
def q140:Obj:=Di (e6 P []) 8
def q141:Obj:=Fn "take" "Reader.take" s13_3 3 (S "surejoin.readers" 367) (R 181)
def q142:Obj:=Co "ahead" 397 "Reader.ahead" 398 399 35 1 3 169 true 170 .none (R 171) (R 172) (R 173) 401 402
def q143:Obj:=Di [E P "+" 462 (I 2 463),E P "-" 464 (I 2 465),E P "*" 466 (I 2 467),E P "div" 468 (I 2 469),E P "rem" 470 (I 2 471),E P "<" 472 (I 2 473),E P "=" 474 (I 2 475)] 7
def q144:Obj:=Fz "words_of" "words_of" s27
def q145:Obj:={cls:=Ty "tuple",data:=Data.seq #[S "text" 513]}
def q146:Obj:=Co "taken_name" 531 "taken_name" 532 533 65 1 3 226 true 227 .none (R 228) (R 229) (R 230) 536 537
def q147:Obj:=Fz "are_signs_of" "are_signs_of" s23
def q148:Obj:=Fn "is_written_number" "is_written_number" s25 3 (S "surejoin.words" 423) (R 210)
def q149:Obj:=Co "is_name" 503 "is_name" 504 505 53 1 3 198 true 199 .none (R 200) (R 201) (R 202) 507 508
def e7(l:List DictEntry):List DictEntry:=e4 P (E P "KEPT_WORDS" 461 (R 190)::E P "WORKINGS" 483 (R 191)::E P "LOOKS" 496 (R 192)::E P "are_signs_of" 502 (R 197)::E P "is_name" 509 (R 204)::E P "is_written_number" 516 (R 211)::E P "read_number" 523 (R 218)::E P "words_of" 530 (R 225)::E P "taken_name" 538 (R 232)::l)
def q150:Obj:=Di (e7 P []) 35
def q151:Obj:=Fn "words_of" "words_of" s27 3 (S "surejoin.words" 423) (R 224)
def q152:Obj:=Fz "is_written_number" "is_written_number" s25
def q153:Obj:=Co "read_number" 517 "read_number" 518 519 59 1 3 212 true 213 .none (R 214) (R 215) (R 216) 521 522
def q154:Obj:=Fn "are_signs_of" "are_signs_of" s23 3 (S "surejoin.words" 423) (R 196)
def q155:Obj:={cls:=Ty "tuple",data:=Data.seq #[S "text" 527]}
def q156:Obj:=Di [E P "size" 484 (I 0 485),E P "held" 486 (I 0 487),E P "has" 488 (I 1 489),E P "item" 490 (I 1 491)] 4
def q157:Obj:=Co "words_of" 524 "words_of" 525 526 63 1 3 219 true 220 .none (R 221) (R 222) (R 223) 528 529
def q158:Obj:={cls:=Ty "tuple",data:=Data.seq #[S "text" 506]}
def q159:Obj:=Fn "taken_name" "taken_name" s28 3 (S "surejoin.words" 423) (R 231)
def q160:Obj:=Fz "read_number" "read_number" s26
def q161:Obj:=Co "are_signs_of" 497 "are_signs_of" 498 499 51 2 3 193 true 194 .none .none .none (R 195) 500 501
def q162:Obj:={cls:=Ty "tuple",data:=Data.seq #[S "words" 534,S "word" 535]}
def q163:Obj:=Fn "is_name" "is_name" s24 3 (S "surejoin.words" 423) (R 203)
def q164:Obj:={cls:=Value.none,data:=Data.fields #[I 2 0,I 0 0,R 20,I 4 0,I 0 0,R 33,I 6 0,I 0 0,R 45,I 8 0,I 0 0,R 57,I 10 0,I 0 0,R 69,I 12 0,I 0 0,R 81,I 14 0,I 0 0,R 93,I 16 0,I 0 0,R 105,I 18 0,I 0 0,R 117,I 20 0,I 0 0,R 129,I 22 0,I 0 0,R 141,I 25 0,I 0 0,R 153,I 51 0,I 0 0,R 196,I 53 0,I 0 0,R 203,I 55 0,I 0 0,R 210,I 59 0,I 0 0,R 217,I 63 0,I 0 0,R 224,I 65 0,I 0 0,R 231]}
def q165:Obj:=Co "is_written_number" 510 "is_written_number" 511 512 55 1 3 205 true 206 .none (R 207) (R 208) (R 209) 514 515
def q166:Obj:=Fz "is_name" "is_name" s24
def q167:Obj:=Fn "read_number" "read_number" s26 3 (S "surejoin.words" 423) (R 217)
def q168:Obj:=Fz "taken_name" "taken_name" s28
def q169:Obj:={cls:=Ty "tuple",data:=Data.seq #[S "text" 520]}
def q170:Obj:={cls:=Ty "tuple",data:=Data.seq #[S "most" 435,S "set" 436,S "once" 437,S "row" 438,S "map" 439,S "job" 440,S "let" 441,S "put" 442,S "wait" 443,S "get" 444,S "tell" 445,S "if" 446,S "else" 447,S "while" 448,S "end" 449,S "begin" 450,S "stop" 451,S "ask" 452,S "least" 453,S "has" 454,S "many" 455,S "size" 456,S "held" 457,S "item" 458,S "div" 459,S "rem" 460]}
def q171:Obj:=Fz "_law_spread" "_law_spread" s38
def q172:Obj:=Co "parts_of" 579 "parts_of" 580 581 93 1 3 266 true 267 .none (R 268) (R 269) (R 270) 583 584
def q173:Obj:=Fn "_law_kinds" "_law_kinds" s40 3 (S "law_surejoin_k11_expressions_refused" 592) (R 302)
def q174:Obj:=Fz "read_expression" "read_expression" s33
def q175:Obj:=Co "_law_kept" 612 "_law_kept" 613 614 114 0 3 290 true 291 .none (R 292) (R 293) (R 294) 616 617
def q176:Obj:={cls:=Ty "tuple",data:=Data.seq #[S "_law_text" 636,S "_law_number" 637,S "_law_sign" 638]}
def q177:Obj:={cls:=Ty "tuple",data:=Data.seq #[S "words" 558]}
def q178:Obj:=Fz "shown_expression" "shown_expression" s35
def q179:Obj:=Co "_law_is_name" 627 "_law_is_name" 628 629 122 1 3 304 true 305 .none .none .none (R 306) 630 631
def q180:Obj:=Co "taken_within" 545 "taken_within" 546 547 74 2 3 238 true 239 .none (R 240) (R 241) (R 242) 552 553
def q181:Obj:={cls:=Ty "tuple",data:=Data.seq #[S "_law_e" 622,S "_law_kinds_here" 623]}
def q182:Obj:=Fz "taken_parts" "taken_parts" s29
def q183:Obj:=Fn "_law_number_of" "_law_number_of" s42 3 (S "law_surejoin_k11_expressions_refused" 592) (R 314)
def q184:Obj:=Fn "taken_expression" "taken_expression" s31 3 (S "surejoin.words" 423) (R 250)
def e8 (l : List DictEntry) : List DictEntry := E P "__name__" 165 (S "law_surejoin_k11_expressions_refused" 592)::E P "__doc__" 166 (Value.none)::E P "__package__" 167 (Value.none)::E P "__loader__" 168 (Bi "__main__.__loader__#opaque")::E P "__spec__" 169 (Value.none)::E P "__annotations__" 170 (R 6)::E P "__builtins__" 171 (R 4)::E P "__file__" 173 (S "/claim/cut.py" 172)::E P "__cached__" 174 (Value.none)::E P "JoinError" 206 (R 24)::E P "TooMuch" 222 (R 37)::E P "NoLine" 238 (R 49)::E P "NoNest" 254 (R 61)::E P "NoName" 270 (R 73)::E P "NoKind" 286 (R 85)::E P "Hangs" 302 (R 97)::E P "NoSteps" 318 (R 109)::E P "NoBoxes" 334 (R 121)::E P "NoTurn" 350 (R 133)::E P "NoHead" 366 (R 145)::E P "Reader" 422 (R 185)::E P "LETTERS" 426 (S "abcdefghijklmnopqrstuvwxyz" 425)::E P "FIGURES" 428 (S "0123456789" 427)::E P "LONGEST_NAME" 430 (I 8 429)::E P "LONGEST_NUMBER" 432 (I 9 431)::E P "DEEPEST" 434 (I 5 433)::E P "KEPT_WORDS" 461 (R 190)::E P "WORKINGS" 483 (R 191)::E P "LOOKS" 496 (R 192)::E P "are_signs_of" 502 (R 197)::E P "is_name" 509 (R 204)::E P "is_written_number" 516 (R 211)::E P "read_number" 523 (R 218)::E P "words_of" 530 (R 225)::E P "taken_name" 538 (R 232)::E P "taken_parts" 544 (R 237)::E P "taken_within" 554 (R 244)::E P "taken_expression" 561 (R 251)::E P "check_over" 569 (R 258)::E P "read_expression" 578 (R 265)::E P "parts_of" 585 (R 272)::E P "shown_expression" 591 (R 277)::E P "_law_cells" 599 (R 282)::E P "_law_spread" 611 (R 289)::E P "_law_kept" 618 (R 296)::E P "_law_kinds" 626 (R 303)::E P "_law_is_name" 632 (R 308)::E P "_law_number_of" 641 (R 315)::l
def q185:Obj:=Di (e8 P []) 48
def q186:Obj:=Co "check_over" 562 "check_over" 563 564 84 1 3 252 true 253 .none (R 254) (R 255) (R 256) 567 568
def q187:Obj:=Fn "_law_spread" "_law_spread" s38 3 (S "law_surejoin_k11_expressions_refused" 592) (R 288)
def q188:Obj:=Fn "read_expression" "read_expression" s33 3 (S "surejoin.words" 423) (R 264)
def q189:Obj:=Co "_law_cells" 594 "_law_cells" 595 596 104 2 3 278 true 279 .none .none .none (R 280) 597 598
def q190:Obj:=Fz "_law_number_of" "_law_number_of" s42
def q191:Obj:=Fz "taken_expression" "taken_expression" s31
def q192:Obj:={cls:=Ty "tuple",data:=Data.seq #[S "text" 573,S "words" 574,S "E" 575]}
def q193:Obj:=Fn "shown_expression" "shown_expression" s35 3 (S "surejoin.words" 423) (R 276)
def q194:Obj:=Fz "_law_kinds" "_law_kinds" s40
def q195:Obj:=Fn "taken_parts" "taken_parts" s29 3 (S "surejoin.words" 423) (R 236)
def q196:Obj:={cls:=Ty "tuple",data:=Data.seq #[S "_law_cell" 603,S "_law_many" 604,S "_law_number" 605,S "_law_found" 606,S "_law_k" 607,S "_law_more" 608]}
def q197:Obj:=Fz "check_over" "check_over" s32
def q198:Obj:=Co "_law_spread" 600 "_law_spread" 601 602 106 2 3 283 true 284 .none (R 285) (R 286) (R 287) 609 610
def q199:Obj:=Fn "parts_of" "parts_of" s34 3 (S "surejoin.words" 423) (R 271)
def q200:Obj:={cls:=Ty "tuple",data:=Data.seq #[S "words" 548,S "room" 549,S "word" 550,S "box" 551]}
def q201:Obj:=Co "read_expression" 570 "read_expression" 571 572 88 1 3 259 true 260 .none (R 261) (R 262) (R 263) 576 577
def q202:Obj:=Fn "_law_kept" "_law_kept" s39 3 (S "law_surejoin_k11_expressions_refused" 592) (R 295)
def q203:Obj:=Fz "_law_cells" "_law_cells" s37
def q204:Obj:={cls:=Ty "tuple",data:=Data.seq #[S "_law_words" 615]}
def q205:Obj:=Co "shown_expression" 586 "shown_expression" 587 588 97 1 3 273 true 274 .none .none .none (R 275) 589 590
def q206:Obj:=Fn "_law_is_name" "_law_is_name" s41 3 (S "law_surejoin_k11_expressions_refused" 592) (R 307)
def q207:Obj:=Fn "taken_within" "taken_within" s30 3 (S "surejoin.words" 423) (R 243)
def q208:Obj:={cls:=Ty "tuple",data:=Data.seq #[S "E" 582]}
def q209:Obj:=Co "taken_parts" 539 "taken_parts" 540 541 70 3 3 233 true 234 .none .none .none (R 235) 542 543
def q210:Obj:={cls:=Value.none,data:=Data.fields #[I 2 0,I 0 0,R 20,I 4 0,I 0 0,R 33,I 6 0,I 0 0,R 45,I 8 0,I 0 0,R 57,I 10 0,I 0 0,R 69,I 12 0,I 0 0,R 81,I 14 0,I 0 0,R 93,I 16 0,I 0 0,R 105,I 18 0,I 0 0,R 117,I 20 0,I 0 0,R 129,I 22 0,I 0 0,R 141,I 25 0,I 0 0,R 153,I 51 0,I 0 0,R 196,I 53 0,I 0 0,R 203,I 55 0,I 0 0,R 210,I 59 0,I 0 0,R 217,I 63 0,I 0 0,R 224,I 65 0,I 0 0,R 231,I 70 0,I 0 0,R 236,I 74 0,I 0 0,R 243,I 82 0,I 0 0,R 250,I 84 0,I 0 0,R 257,I 88 0,I 0 0,R 264,I 93 0,I 0 0,R 271,I 97 0,I 0 0,R 276,I 104 0,I 0 0,R 281,I 106 0,I 0 0,R 288,I 114 0,I 0 0,R 295,I 118 0,I 0 0,R 302,I 122 0,I 0 0,R 307,I 126 0,I 0 0,R 314]}
def q211:Obj:=Fn "check_over" "check_over" s32 3 (S "surejoin.words" 423) (R 257)
def q212:Obj:=Fz "_law_is_name" "_law_is_name" s41
def q213:Obj:=Fz "taken_within" "taken_within" s30
def q214:Obj:=Fn "_law_cells" "_law_cells" s37 3 (S "law_surejoin_k11_expressions_refused" 592) (R 281)
def q215:Obj:=Co "_law_number_of" 633 "_law_number_of" 634 635 126 1 3 309 true 310 .none (R 311) (R 312) (R 313) 639 640
def q216:Obj:=Co "taken_expression" 555 "taken_expression" 556 557 82 1 3 245 true 246 .none (R 247) (R 248) (R 249) 559 560
def q217:Obj:=Fz "_law_kept" "_law_kept" s39
def q218:Obj:=Fz "parts_of" "parts_of" s34
def q219:Obj:=Co "_law_kinds" 619 "_law_kinds" 620 621 118 1 3 297 true 298 .none (R 299) (R 300) (R 301) 624 625
def q220:Obj:={cls:=Ty "tuple",data:=Data.seq #[S "words" 565,S "word" 566]}
def q221:Obj:=Co "_law_made" 661 "_law_made" 662 663 152 3 3 330 true 331 .none (R 332) (R 333) (R 334) 679 680
def q222:Obj:={cls:=Ty "tuple",data:=Data.seq #[S "_law_script" 725,S "_law_cell" 726,S "_law_xs" 727,S "_law_told" 728,S "_law_text" 729,S "_law_last" 730,S "_law_words" 731]}
def q223:Obj:=Fz "_law_leaf" "_law_leaf" s44
def q224:Obj:=Fn "_law_stands" "_law_stands" s46 3 (S "law_surejoin_k11_expressions_refused" 592) (R 342)
def q225:Obj:=Fz "_law_spoilt" "_law_spoilt" s48
def q226:Obj:={cls:=Ty "tuple",data:=Data.seq #[S "_law_text" 685,S "_law_pile" 686,S "_law_word_here" 687,S "_law_bare" 688,S "_law_one" 689]}
def q227:Obj:=Fn "law" "law" s50 3 (S "law_surejoin_k11_expressions_refused" 592) (R 370)
def q228:Obj:=Co "_law_right" 712 "_law_right" 713 714 210 1 3 358 true 359 .none (R 360) (R 361) (R 362) 719 720
def e9(l:List DictEntry):List DictEntry:=e8 P (E P "_law_name" 651 (R 322)::E P "_law_leaf" 660 (R 329)::E P "_law_made" 681 (R 336)::E P "_law_stands" 692 (R 343)::E P "_law_word" 701 (R 350)::E P "_law_spoilt" 711 (R 357)::E P "_law_right" 721 (R 364)::E P "law" 734 (R 371)::l)
def q229:Obj:=Di (e9 P []) 56
def q230:Obj:=Co "_law_name" 642 "_law_name" 643 644 135 1 3 316 true 317 .none (R 318) (R 319) (R 320) 649 650
def q231:Obj:={cls:=Ty "tuple",data:=Data.seq #[S "_law_words" 705,S "_law_xs" 706,S "_law_at" 707,S "_law_way" 708]}
def q232:Obj:=Fz "law" "law" s50
def q233:Obj:=Fn "_law_leaf" "_law_leaf" s44 3 (S "law_surejoin_k11_expressions_refused" 592) (R 328)
def q234:Obj:={cls:=Ty "tuple",data:=Data.seq #[S "_law_x" 655,S "_law_name_here" 656,S "_law_number" 657]}
def q235:Obj:=Fn "_law_spoilt" "_law_spoilt" s48 3 (S "law_surejoin_k11_expressions_refused" 592) (R 356)
def q236:Obj:=Fz "_law_stands" "_law_stands" s46
def q237:Obj:=Co "_law_word" 693 "_law_word" 694 695 188 1 3 344 true 345 .none (R 346) (R 347) (R 348) 699 700
def q238:Obj:=Fz "_law_name" "_law_name" s43
def q239:Obj:=Fn "_law_made" "_law_made" s45 3 (S "law_surejoin_k11_expressions_refused" 592) (R 335)
def q240:Obj:=Co "_law_leaf" 652 "_law_leaf" 653 654 146 1 3 323 true 324 .none (R 325) (R 326) (R 327) 658 659
def q241:Obj:={cls:=Ty "tuple",data:=Data.seq #[S "_law_text" 715,S "_law_kinds_here" 716,S "_law_found" 717,S "_law_e" 718]}
def q242:Obj:=Co "_law_spoilt" 702 "_law_spoilt" 703 704 196 2 3 351 true 352 .none (R 353) (R 354) (R 355) 709 710
def q243:Obj:={cls:=Ty "tuple",data:=Data.seq #[S "_law_xs" 664,S "_law_at" 665,S "_law_room" 666,S "_law_x" 667,S "_law_way" 668,S "_law_told" 669,S "_law_text" 670,S "_law_box" 671,S "_law_word_here" 672,S "_law_one" 673,S "_law_first" 674,S "_law_behind" 675,S "_law_other" 676,S "_law_second" 677,S "_law_last" 678]}
def q244:Obj:=Fn "_law_right" "_law_right" s49 3 (S "law_surejoin_k11_expressions_refused" 592) (R 363)
def q245:Obj:=Fz "_law_word" "_law_word" s47
def q246:Obj:={cls:=Value.none,data:=Data.fields #[I 2 0,I 0 0,R 20,I 4 0,I 0 0,R 33,I 6 0,I 0 0,R 45,I 8 0,I 0 0,R 57,I 10 0,I 0 0,R 69,I 12 0,I 0 0,R 81,I 14 0,I 0 0,R 93,I 16 0,I 0 0,R 105,I 18 0,I 0 0,R 117,I 20 0,I 0 0,R 129,I 22 0,I 0 0,R 141,I 25 0,I 0 0,R 153,I 51 0,I 0 0,R 196,I 53 0,I 0 0,R 203,I 55 0,I 0 0,R 210,I 59 0,I 0 0,R 217,I 63 0,I 0 0,R 224,I 65 0,I 0 0,R 231,I 70 0,I 0 0,R 236,I 74 0,I 0 0,R 243,I 82 0,I 0 0,R 250,I 84 0,I 0 0,R 257,I 88 0,I 0 0,R 264,I 93 0,I 0 0,R 271,I 97 0,I 0 0,R 276,I 104 0,I 0 0,R 281,I 106 0,I 0 0,R 288,I 114 0,I 0 0,R 295,I 118 0,I 0 0,R 302,I 122 0,I 0 0,R 307,I 126 0,I 0 0,R 314,I 135 0,I 0 0,R 321,I 146 0,I 0 0,R 328,I 152 0,I 0 0,R 335,I 171 0,I 0 0,R 342,I 188 0,I 0 0,R 349,I 196 0,I 0 0,R 356,I 210 0,I 0 0,R 363,I 220 0,I 0 0,R 370]}
def q247:Obj:=Fn "_law_name" "_law_name" s43 3 (S "law_surejoin_k11_expressions_refused" 592) (R 321)
def q248:Obj:=Co "law" 722 "law" 723 724 220 1 3 365 true 366 .none (R 367) (R 368) (R 369) 732 733
def q249:Obj:=Fz "_law_right" "_law_right" s49
def q250:Obj:={cls:=Ty "tuple",data:=Data.seq #[S "_law_x" 696,S "_law_some" 697,S "_law_odd" 698]}
def q251:Obj:=Co "_law_stands" 682 "_law_stands" 683 684 171 1 3 337 true 338 .none (R 339) (R 340) (R 341) 690 691
def q252:Obj:=Fz "_law_made" "_law_made" s45
def q253:Obj:=Fn "_law_word" "_law_word" s47 3 (S "law_surejoin_k11_expressions_refused" 592) (R 349)
def q254:Obj:={cls:=Ty "tuple",data:=Data.seq #[S "_law_x" 645,S "_law_text" 646,S "_law_rest" 647,S "_law_k" 648]}
def t0:BT:=N (boot_o_7 P) (N q1 (N q0 Z Z) Z) (N (q3 P) (N q2 Z Z) Z)
def t1:BT:=N q0 (N q4 (N q0 Z Z) Z) (N q5 Z Z)
def t2:BT:=N (boot_o_9 P) (N (q8 P) (N q7 Z Z) Z) (N q9 Z Z)
def t3:BT:=N q13 (N q11 (N q10 Z Z) Z) (N q12 Z Z)
def t4:BT:=N (boot_o_8 P) (N q12 (N q4 Z Z) Z) (N q14 Z Z)
def t5:BT:=N q18 (N q16 (N (q15 P) Z Z) Z) (N q17 Z Z)
def t6:BT:=N (boot_o_10 P) (N q0 (N q19 Z Z) Z) (N q20 Z Z)
def t7:BT:=N q23 (N q0 (N q21 Z Z) Z) (N (q22 P) Z Z)
def t8:BT:=N (boot_o_0 P) (N (boot_o_1 P) (N (q6 P) (t0 P) t1) (N (boot_o_5 P) (t2 P) t3)) (N (boot_o_2 P) (N (boot_o_4 P) (t4 P) (t5 P)) (N (boot_o_6 P) (t6 P) (t7 P)))
def t9:BT:=N (boot_o_7 P) (N q1 (N q0 Z Z) (N q0 Z Z)) (N (q3 P) (N q2 Z Z) Z)
def t10:BT:=N q0 (N q4 (N q0 Z Z) (N q24 Z Z)) (N q5 (N q0 Z Z) Z)
def t11:BT:=N (boot_o_9 P) (N (q8 P) (N q7 Z Z) (N q26 Z Z)) (N q9 (N q12 Z Z) Z)
def t12:BT:=N q13 (N q11 (N q10 Z Z) Z) (N q12 (N q27 Z Z) Z)
def t13:BT:=N (boot_o_8 P) (N q12 (N q4 Z Z) (N (q28 P) Z Z)) (N q29 (N q17 Z Z) Z)
def t14:BT:=N q30 (N q16 (N (q15 P) Z Z) Z) (N q17 (N q4 Z Z) Z)
def t15:BT:=N (boot_o_10 P) (N q0 (N q19 Z Z) (N q31 Z Z)) (N q20 (N (q32 P) Z Z) Z)
def t16:BT:=N q23 (N q0 (N q21 Z Z) Z) (N (q22 P) (N q33 Z Z) Z)
def t17:BT:=N (boot_o_0 P) (N (boot_o_1 P) (N (q25 P) (t9 P) t10) (N (boot_o_5 P) (t11 P) t12)) (N (boot_o_2 P) (N (boot_o_4 P) (t13 P) (t14 P)) (N (boot_o_6 P) (t15 P) (t16 P)))
def t18:BT:=N q34 Z Z
def t19:BT:=N (boot_o_7 P) (N q1 (N q0 t18 Z) (N q0 Z Z)) (N (q3 P) (N q2 Z Z) (N q0 Z Z))
def t20:BT:=N q0 (N q4 (N q0 Z Z) (N q24 Z Z)) (N q5 (N q0 Z Z) (N q0 Z Z))
def t21:BT:=N (boot_o_9 P) (N (q8 P) (N q7 Z Z) (N q26 Z Z)) (N q9 (N q12 Z Z) (N q36 Z Z))
def t22:BT:=N q13 (N q11 (N q10 Z Z) (N q12 Z Z)) (N q12 (N q27 Z Z) (N q37 Z Z))
def t23:BT:=N (boot_o_8 P) (N q12 (N q4 Z Z) (N (q28 P) Z Z)) (N q38 (N q17 Z Z) (N q4 Z Z))
def t24:BT:=N q40 (N q16 (N (q15 P) Z Z) (N q17 Z Z)) (N q17 (N q4 Z Z) (N (q39 P) Z Z))
def t25:BT:=N (boot_o_10 P) (N q0 (N q19 Z Z) (N q31 Z Z)) (N q20 (N (q32 P) Z Z) (N q41 Z Z))
def t26:BT:=N q23 (N q0 (N q21 Z Z) (N (q42 P) Z Z)) (N (q22 P) (N q33 Z Z) (N q43 Z Z))
def t27:BT:=N (boot_o_0 P) (N (boot_o_1 P) (N (q35 P) (t19 P) t20) (N (boot_o_5 P) (t21 P) t22)) (N (boot_o_2 P) (N (boot_o_4 P) (t23 P) (t24 P)) (N (boot_o_6 P) (t25 P) (t26 P)))
def t28:BT:=N q0 Z Z
def t29:BT:=N (boot_o_7 P) (N q1 (N q0 t18 Z) (N q0 Z Z)) (N (q3 P) (N q2 t28 Z) (N q0 Z Z))
def t30:BT:=N q44 Z Z
def t31:BT:=N q0 (N q4 (N q0 t28 Z) (N q24 Z Z)) (N q5 (N q0 t30 Z) (N q0 Z Z))
def t32:BT:=N q12 Z Z
def t33:BT:=N q46 Z Z
def t34:BT:=N (boot_o_9 P) (N (q8 P) (N q7 t32 Z) (N q26 Z Z)) (N q9 (N q12 t33 Z) (N q36 Z Z))
def t35:BT:=N q47 Z Z
def t36:BT:=N q13 (N q11 (N q10 t35 Z) (N q12 Z Z)) (N q12 (N q27 Z Z) (N q37 Z Z))
def t37:BT:=N q17 Z Z
def t38:BT:=N (q48 P) Z Z
def t39:BT:=N (boot_o_8 P) (N q12 (N q4 t37 Z) (N (q28 P) Z Z)) (N q49 (N q17 (t38 P) Z) (N q4 Z Z))
def t40:BT:=N q4 Z Z
def t41:BT:=N q50 (N q16 (N (q15 P) t40 Z) (N q17 Z Z)) (N q17 (N q4 Z Z) (N (q39 P) Z Z))
def t42:BT:=N (q51 P) Z Z
def t43:BT:=N q52 Z Z
def t44:BT:=N (boot_o_10 P) (N q0 (N q19 (t42 P) Z) (N q31 Z Z)) (N q20 (N (q32 P) t43 Z) (N q41 Z Z))
def t45:BT:=N q53 Z Z
def t46:BT:=N q23 (N q0 (N q21 t45 Z) (N (q42 P) Z Z)) (N (q22 P) (N q33 Z Z) (N q43 Z Z))
def t47:BT:=N (boot_o_0 P) (N (boot_o_1 P) (N (q45 P) (t29 P) t31) (N (boot_o_5 P) (t34 P) t36)) (N (boot_o_2 P) (N (boot_o_4 P) (t39 P) (t41 P)) (N (boot_o_6 P) (t44 P) (t46 P)))
def t48:BT:=N q54 Z Z
def t49:BT:=N (boot_o_7 P) (N q1 (N q0 t18 Z) (N q0 t28 Z)) (N (q3 P) (N q2 t28 Z) (N q0 t48 Z))
def t50:BT:=N q0 (N q4 (N q0 t28 Z) (N q24 t28 Z)) (N q5 (N q0 t30 Z) (N q0 Z Z))
def t51:BT:=N q56 Z Z
def t52:BT:=N (boot_o_9 P) (N (q8 P) (N q7 t32 Z) (N q26 t51 Z)) (N q9 (N q12 t33 Z) (N q36 Z Z))
def t53:BT:=N q57 Z Z
def t54:BT:=N q13 (N q11 (N q10 t35 Z) (N q12 t53 Z)) (N q12 (N q27 t32 Z) (N q37 Z Z))
def t55:BT:=N (boot_o_8 P) (N q12 (N q4 t37 Z) (N (q28 P) t40 Z)) (N q58 (N q17 (t38 P) Z) (N q4 Z Z))
def t56:BT:=N (q59 P) Z Z
def t57:BT:=N q60 (N q16 (N (q15 P) t40 Z) (N q17 (t56 P) Z)) (N q17 (N q4 t37 Z) (N (q39 P) Z Z))
def t58:BT:=N q61 Z Z
def t59:BT:=N (boot_o_10 P) (N q0 (N q19 (t42 P) Z) (N q31 t58 Z)) (N q20 (N (q32 P) t43 Z) (N q41 Z Z))
def t60:BT:=N q62 Z Z
def t61:BT:=N (q63 P) Z Z
def t62:BT:=N q23 (N q0 (N q21 t45 Z) (N (q42 P) t60 Z)) (N (q22 P) (N q33 (t61 P) Z) (N q43 Z Z))
def t63:BT:=N (boot_o_0 P) (N (boot_o_1 P) (N (q55 P) (t49 P) t50) (N (boot_o_5 P) (t52 P) t54)) (N (boot_o_2 P) (N (boot_o_4 P) (t55 P) (t57 P)) (N (boot_o_6 P) (t59 P) (t62 P)))
def t64:BT:=N (boot_o_7 P) (N q1 (N q0 t18 t28) (N q0 t28 Z)) (N (q3 P) (N q2 t28 Z) (N q0 t48 Z))
def t65:BT:=N q64 Z Z
def t66:BT:=N q0 (N q4 (N q0 t28 t65) (N q24 t28 Z)) (N q5 (N q0 t30 Z) (N q0 t28 Z))
def t67:BT:=N q66 Z Z
def t68:BT:=N (boot_o_9 P) (N (q8 P) (N q7 t32 t67) (N q26 t51 Z)) (N q9 (N q12 t33 Z) (N q36 t32 Z))
def t69:BT:=N q67 Z Z
def t70:BT:=N q13 (N q11 (N q10 t35 Z) (N q12 t53 Z)) (N q12 (N q27 t32 Z) (N q37 t69 Z))
def t71:BT:=N (q68 P) Z Z
def t72:BT:=N (boot_o_8 P) (N q12 (N q4 t37 (t71 P)) (N (q28 P) t40 Z)) (N q69 (N q17 (t38 P) Z) (N q4 t37 Z))
def t73:BT:=N q70 (N q16 (N (q15 P) t40 Z) (N q17 (t56 P) Z)) (N q17 (N q4 t37 Z) (N (q39 P) t40 Z))
def t74:BT:=N q71 Z Z
def t75:BT:=N (q72 P) Z Z
def t76:BT:=N (boot_o_10 P) (N q0 (N q19 (t42 P) t74) (N q31 t58 Z)) (N q20 (N (q32 P) t43 Z) (N q41 (t75 P) Z))
def t77:BT:=N q73 Z Z
def t78:BT:=N q23 (N q0 (N q21 t45 Z) (N (q42 P) t60 Z)) (N (q22 P) (N q33 (t61 P) Z) (N q43 t77 Z))
def t79:BT:=N (boot_o_0 P) (N (boot_o_1 P) (N (q65 P) (t64 P) t66) (N (boot_o_5 P) (t68 P) t70)) (N (boot_o_2 P) (N (boot_o_4 P) (t72 P) (t73 P)) (N (boot_o_6 P) (t76 P) (t78 P)))
def t80:BT:=N q74 Z Z
def t81:BT:=N (boot_o_7 P) (N q1 (N q0 t18 t28) (N q0 t28 t80)) (N (q3 P) (N q2 t28 t28) (N q0 t48 Z))
def t82:BT:=N q0 (N q4 (N q0 t28 t65) (N q24 t28 Z)) (N q5 (N q0 t30 t28) (N q0 t28 Z))
def t83:BT:=N q76 Z Z
def t84:BT:=N (boot_o_9 P) (N (q8 P) (N q7 t32 t67) (N q26 t51 Z)) (N q9 (N q12 t33 t83) (N q36 t32 Z))
def t85:BT:=N q77 Z Z
def t86:BT:=N q13 (N q11 (N q10 t35 t32) (N q12 t53 Z)) (N q12 (N q27 t32 t85) (N q37 t69 Z))
def t87:BT:=N (boot_o_8 P) (N q12 (N q4 t37 (t71 P)) (N (q28 P) t40 Z)) (N q78 (N q17 (t38 P) t40) (N q4 t37 Z))
def t88:BT:=N (q79 P) Z Z
def t89:BT:=N q80 (N q16 (N (q15 P) t40 t37) (N q17 (t56 P) Z)) (N q17 (N q4 t37 (t88 P)) (N (q39 P) t40 Z))
def t90:BT:=N q81 Z Z
def t91:BT:=N (boot_o_10 P) (N q0 (N q19 (t42 P) t74) (N q31 t58 Z)) (N q20 (N (q32 P) t43 t90) (N q41 (t75 P) Z))
def t92:BT:=N (q82 P) Z Z
def t93:BT:=N q83 Z Z
def t94:BT:=N q23 (N q0 (N q21 t45 (t92 P)) (N (q42 P) t60 Z)) (N (q22 P) (N q33 (t61 P) t93) (N q43 t77 Z))
def t95:BT:=N (boot_o_0 P) (N (boot_o_1 P) (N (q75 P) (t81 P) t82) (N (boot_o_5 P) (t84 P) t86)) (N (boot_o_2 P) (N (boot_o_4 P) (t87 P) (t89 P)) (N (boot_o_6 P) (t91 P) (t94 P)))
def t96:BT:=N (boot_o_7 P) (N q1 (N q0 t18 t28) (N q0 t28 t80)) (N (q3 P) (N q2 t28 t28) (N q0 t48 t28))
def t97:BT:=N q84 Z Z
def t98:BT:=N q0 (N q4 (N q0 t28 t65) (N q24 t28 t28)) (N q5 (N q0 t30 t28) (N q0 t28 t97))
def t99:BT:=N q86 Z Z
def t100:BT:=N (boot_o_9 P) (N (q8 P) (N q7 t32 t67) (N q26 t51 t32)) (N q9 (N q12 t33 t83) (N q36 t32 t99))
def t101:BT:=N q87 Z Z
def t102:BT:=N q13 (N q11 (N q10 t35 t32) (N q12 t53 t101)) (N q12 (N q27 t32 t85) (N q37 t69 Z))
def t103:BT:=N (q88 P) Z Z
def t104:BT:=N (boot_o_8 P) (N q12 (N q4 t37 (t71 P)) (N (q28 P) t40 t37)) (N q89 (N q17 (t38 P) t40) (N q4 t37 (t103 P)))
def t105:BT:=N q90 (N q16 (N (q15 P) t40 t37) (N q17 (t56 P) t40)) (N q17 (N q4 t37 (t88 P)) (N (q39 P) t40 Z))
def t106:BT:=N (q91 P) Z Z
def t107:BT:=N q92 Z Z
def t108:BT:=N (boot_o_10 P) (N q0 (N q19 (t42 P) t74) (N q31 t58 (t106 P))) (N q20 (N (q32 P) t43 t90) (N q41 (t75 P) t107))
def t109:BT:=N q93 Z Z
def t110:BT:=N q23 (N q0 (N q21 t45 (t92 P)) (N (q42 P) t60 t109)) (N (q22 P) (N q33 (t61 P) t93) (N q43 t77 Z))
def t111:BT:=N (boot_o_0 P) (N (boot_o_1 P) (N (q85 P) (t96 P) t98) (N (boot_o_5 P) (t100 P) t102)) (N (boot_o_2 P) (N (boot_o_4 P) (t104 P) (t105 P)) (N (boot_o_6 P) (t108 P) (t110 P)))
def t112:BT:=N q34 (N q0 Z Z) Z
def t113:BT:=N q0 (N q94 Z Z) Z
def t114:BT:=N (boot_o_7 P) (N q1 (N q0 t112 t28) (N q0 t28 t80)) (N (q3 P) (N q2 t113 t28) (N q0 t48 t28))
def t115:BT:=N q0 (N q0 Z Z) Z
def t116:BT:=N q0 (N q4 (N q0 t115 t65) (N q24 t28 t28)) (N q5 (N q0 t30 t28) (N q0 t28 t97))
def t117:BT:=N q12 (N q96 Z Z) Z
def t118:BT:=N (boot_o_9 P) (N (q8 P) (N q7 t117 t67) (N q26 t51 t32)) (N q9 (N q12 t33 t83) (N q36 t32 t99))
def t119:BT:=N q47 (N q97 Z Z) Z
def t120:BT:=N q13 (N q11 (N q10 t119 t32) (N q12 t53 t101)) (N q12 (N q27 t32 t85) (N q37 t69 t32))
def t121:BT:=N q17 (N q4 Z Z) Z
def t122:BT:=N (boot_o_8 P) (N q12 (N q4 t121 (t71 P)) (N (q28 P) t40 t37)) (N q98 (N q17 (t38 P) t40) (N q4 t37 (t103 P)))
def t123:BT:=N q4 (N (q99 P) Z Z) Z
def t124:BT:=N q100 (N q16 (N (q15 P) (t123 P) t37) (N q17 (t56 P) t40)) (N q17 (N q4 t37 (t88 P)) (N (q39 P) t40 t37))
def t125:BT:=N (q51 P) (N q101 Z Z) Z
def t126:BT:=N (boot_o_10 P) (N q0 (N q19 (t125 P) t74) (N q31 t58 (t106 P))) (N q20 (N (q32 P) t43 t90) (N q41 (t75 P) t107))
def t127:BT:=N q53 (N q102 Z Z) Z
def t128:BT:=N (q103 P) Z Z
def t129:BT:=N q23 (N q0 (N q21 t127 (t92 P)) (N (q42 P) t60 t109)) (N (q22 P) (N q33 (t61 P) t93) (N q43 t77 (t128 P)))
def t130:BT:=N (boot_o_0 P) (N (boot_o_1 P) (N (q95 P) (t114 P) t116) (N (boot_o_5 P) (t118 P) t120)) (N (boot_o_2 P) (N (boot_o_4 P) (t122 P) (t124 P)) (N (boot_o_6 P) (t126 P) (t129 P)))
def t131:BT:=N (boot_o_7 P) (N q1 (N q0 t112 t28) (N q0 t115 t80)) (N (q3 P) (N q2 t113 t28) (N q0 t48 t28))
def t132:BT:=N q0 (N q104 Z Z) Z
def t133:BT:=N q44 (N q0 Z Z) Z
def t134:BT:=N q0 (N q4 (N q0 t115 t65) (N q24 t132 t28)) (N q5 (N q0 t133 t28) (N q0 t28 t97))
def t135:BT:=N q56 (N q106 Z Z) Z
def t136:BT:=N q46 (N q12 Z Z) Z
def t137:BT:=N (boot_o_9 P) (N (q8 P) (N q7 t117 t67) (N q26 t135 t32)) (N q9 (N q12 t136 t83) (N q36 t32 t99))
def t138:BT:=N q12 (N q107 Z Z) Z
def t139:BT:=N q13 (N q11 (N q10 t119 t32) (N q12 t53 t101)) (N q12 (N q27 t138 t85) (N q37 t69 t32))
def t140:BT:=N q4 (N (q108 P) Z Z) Z
def t141:BT:=N (q48 P) (N q17 Z Z) Z
def t142:BT:=N (boot_o_8 P) (N q12 (N q4 t121 (t71 P)) (N (q28 P) (t140 P) t37)) (N q109 (N q17 (t141 P) t40) (N q4 t37 (t103 P)))
def t143:BT:=N q110 (N q16 (N (q15 P) (t123 P) t37) (N q17 (t56 P) t40)) (N q17 (N q4 t121 (t88 P)) (N (q39 P) t40 t37))
def t144:BT:=N q61 (N q111 Z Z) Z
def t145:BT:=N q52 (N (q112 P) Z Z) Z
def t146:BT:=N (boot_o_10 P) (N q0 (N q19 (t125 P) t74) (N q31 t144 (t106 P))) (N q20 (N (q32 P) (t145 P) t90) (N q41 (t75 P) t107))
def t147:BT:=N (q63 P) (N q113 Z Z) Z
def t148:BT:=N q23 (N q0 (N q21 t127 (t92 P)) (N (q42 P) t60 t109)) (N (q22 P) (N q33 (t147 P) t93) (N q43 t77 (t128 P)))
def t149:BT:=N (boot_o_0 P) (N (boot_o_1 P) (N (q105 P) (t131 P) t134) (N (boot_o_5 P) (t137 P) t139)) (N (boot_o_2 P) (N (boot_o_4 P) (t142 P) (t143 P)) (N (boot_o_6 P) (t146 P) (t148 P)))
def t150:BT:=N q0 (N q114 Z Z) Z
def t151:BT:=N q74 (N q115 Z Z) Z
def t152:BT:=N q0 (N q116 Z Z) Z
def t153:BT:=N q54 (N q0 Z Z) Z
def t154:BT:=N q0 (N q117 Z Z) Z
def t155:BT:=N (boot_o_7 P) (N q1 (N q0 t112 t150) (N q0 t115 t151)) (N (q3 P) (N q2 t113 t152) (N q0 t153 t154))
def t156:BT:=N q64 (N q4 Z Z) Z
def t157:BT:=N q0 (N q118 Z Z) Z
def t158:BT:=N q84 (N q119 Z Z) Z
def t159:BT:=N q0 (N q4 (N q0 t115 t156) (N q24 t132 t115)) (N q5 (N q0 t133 t157) (N q0 t115 t158))
def t160:BT:=N q66 (N q121 Z Z) Z
def t161:BT:=N q12 (N q4 Z Z) Z
def t162:BT:=N q76 (N q0 Z Z) Z
def t163:BT:=N q12 (N q122 Z Z) Z
def t164:BT:=N q86 (N q123 Z Z) Z
def t165:BT:=N (boot_o_9 P) (N (q8 P) (N q7 t117 t160) (N q26 t135 t161)) (N q9 (N q12 t136 t162) (N q36 t163 t164))
def t166:BT:=N q12 (N q0 Z Z) Z
def t167:BT:=N q57 (N q12 Z Z) Z
def t168:BT:=N q87 (N q124 Z Z) Z
def t169:BT:=N q77 (N q125 Z Z) Z
def t170:BT:=N q67 (N q126 Z Z) Z
def t171:BT:=N q12 (N q127 Z Z) Z
def t172:BT:=N q13 (N q11 (N q10 t119 t166) (N q12 t167 t168)) (N q12 (N q27 t138 t169) (N q37 t170 t171))
def t173:BT:=N (q68 P) (N q128 Z Z) Z
def t174:BT:=N q17 (N q0 Z Z) Z
def t175:BT:=N q4 (N q129 Z Z) Z
def t176:BT:=N q17 (N q130 Z Z) Z
def t177:BT:=N (q88 P) (N (q131 P) Z Z) Z
def t178:BT:=N (boot_o_8 P) (N q12 (N q4 t121 (t173 P)) (N (q28 P) (t140 P) t174)) (N q109 (N q17 (t141 P) t175) (N q4 t176 (t177 P)))
def t179:BT:=N q17 (N q132 Z Z) Z
def t180:BT:=N (q59 P) (N q0 Z Z) Z
def t181:BT:=N q4 (N q133 Z Z) Z
def t182:BT:=N (q79 P) (N q0 Z Z) Z
def t183:BT:=N q4 (N q4 Z Z) Z
def t184:BT:=N q17 (N q134 Z Z) Z
def t185:BT:=N q135 (N q16 (N (q15 P) (t123 P) t179) (N q17 (t180 P) t181)) (N q17 (N q4 t121 (t182 P)) (N (q39 P) t183 t184))
def t186:BT:=N q71 (N q0 Z Z) Z
def t187:BT:=N (q91 P) (N q136 Z Z) Z
def t188:BT:=N q81 (N q4 Z Z) Z
def t189:BT:=N (q72 P) (N q137 Z Z) Z
def t190:BT:=N q92 (N q138 Z Z) Z
def t191:BT:=N (boot_o_10 P) (N q0 (N q19 (t125 P) t186) (N q31 t144 (t187 P))) (N q20 (N (q32 P) (t145 P) t188) (N q41 (t189 P) t190))
def t192:BT:=N (q82 P) (N q139 Z Z) Z
def t193:BT:=N q62 (N (q140 P) Z Z) Z
def t194:BT:=N q93 (N q141 Z Z) Z
def t195:BT:=N q83 (N q142 Z Z) Z
def t196:BT:=N q73 (N q0 Z Z) Z
def t197:BT:=N q23 (N q0 (N q21 t127 (t192 P)) (N (q42 P) (t193 P) t194)) (N (q22 P) (N q33 (t147 P) t195) (N q43 t196 (t128 P)))
def t198:BT:=N (boot_o_0 P) (N (boot_o_1 P) (N (q120 P) (t155 P) t159) (N (boot_o_5 P) (t165 P) t172)) (N (boot_o_2 P) (N (boot_o_4 P) (t178 P) (t185 P)) (N (boot_o_6 P) (t191 P) (t197 P)))
def t199:BT:=N q34 (N q0 Z Z) (N (q143 P) Z Z)
def t200:BT:=N q0 (N q114 Z Z) (N q144 Z Z)
def t201:BT:=N q0 (N q0 Z Z) (N q145 Z Z)
def t202:BT:=N q0 (N q94 Z Z) (N q4 Z Z)
def t203:BT:=N q0 (N q116 Z Z) (N q146 Z Z)
def t204:BT:=N q54 (N q0 Z Z) (N q0 Z Z)
def t205:BT:=N (boot_o_7 P) (N q1 (N q0 (t199 P) t200) (N q0 t201 t151)) (N (q3 P) (N q2 t202 t203) (N q0 t204 t154))
def t206:BT:=N q0 (N q0 Z Z) (N q147 Z Z)
def t207:BT:=N q64 (N q4 Z Z) (N q4 Z Z)
def t208:BT:=N q0 (N q104 Z Z) (N q148 Z Z)
def t209:BT:=N q44 (N q0 Z Z) (N q149 Z Z)
def t210:BT:=N q0 (N q0 Z Z) (N q0 Z Z)
def t211:BT:=N q0 (N q4 (N q0 t206 t207) (N q24 t208 t115)) (N q5 (N q0 t209 t157) (N q0 t210 t158))
def t212:BT:=N q12 (N q96 Z Z) (N q0 Z Z)
def t213:BT:=N q66 (N q121 Z Z) (N q151 Z Z)
def t214:BT:=N q56 (N q106 Z Z) (N q152 Z Z)
def t215:BT:=N q46 (N q12 Z Z) (N q0 Z Z)
def t216:BT:=N q12 (N q122 Z Z) (N q153 Z Z)
def t217:BT:=N (boot_o_9 P) (N (q8 P) (N q7 t212 t213) (N q26 t214 t161)) (N q9 (N q12 t215 t162) (N q36 t216 t164))
def t218:BT:=N q47 (N q97 Z Z) (N q154 Z Z)
def t219:BT:=N q12 (N q0 Z Z) (N q0 Z Z)
def t220:BT:=N q57 (N q12 Z Z) (N q4 Z Z)
def t221:BT:=N q12 (N q107 Z Z) (N q0 Z Z)
def t222:BT:=N q67 (N q126 Z Z) (N q155 Z Z)
def t223:BT:=N q13 (N q11 (N q10 t218 t219) (N q12 t220 t168)) (N q12 (N q27 t221 t169) (N q37 t222 t171))
def t224:BT:=N q17 (N q4 Z Z) (N (q156 P) Z Z)
def t225:BT:=N (q68 P) (N q128 Z Z) (N q157 Z Z)
def t226:BT:=N q4 (N (q108 P) Z Z) (N q0 Z Z)
def t227:BT:=N (q48 P) (N q17 Z Z) (N q158 Z Z)
def t228:BT:=N q4 (N q129 Z Z) (N q159 Z Z)
def t229:BT:=N q17 (N q130 Z Z) (N q160 Z Z)
def t230:BT:=N (boot_o_8 P) (N q12 (N q4 (t224 P) (t225 P)) (N (q28 P) (t226 P) t174)) (N q109 (N q17 (t227 P) t228) (N q4 t229 (t177 P)))
def t231:BT:=N q4 (N (q99 P) Z Z) (N q161 Z Z)
def t232:BT:=N q17 (N q132 Z Z) (N q162 Z Z)
def t233:BT:=N (q59 P) (N q0 Z Z) (N q0 Z Z)
def t234:BT:=N q17 (N q4 Z Z) (N q163 Z Z)
def t235:BT:=N q4 (N q4 Z Z) (N q4 Z Z)
def t236:BT:=N q164 (N q16 (N (q15 P) (t231 P) t232) (N q17 (t233 P) t181)) (N q17 (N q4 t234 (t182 P)) (N (q39 P) t235 t184))
def t237:BT:=N (q51 P) (N q101 Z Z) (N q4 Z Z)
def t238:BT:=N q71 (N q0 Z Z) (N q0 Z Z)
def t239:BT:=N q61 (N q111 Z Z) (N q165 Z Z)
def t240:BT:=N q52 (N (q112 P) Z Z) (N q166 Z Z)
def t241:BT:=N (q72 P) (N q137 Z Z) (N q167 Z Z)
def t242:BT:=N (boot_o_10 P) (N q0 (N q19 (t237 P) t238) (N q31 t239 (t187 P))) (N q20 (N (q32 P) (t240 P) t188) (N q41 (t241 P) t190))
def t243:BT:=N q53 (N q102 Z Z) (N q0 Z Z)
def t244:BT:=N (q82 P) (N q139 Z Z) (N q168 Z Z)
def t245:BT:=N q62 (N (q140 P) Z Z) (N q169 Z Z)
def t246:BT:=N (q63 P) (N q113 Z Z) (N q4 Z Z)
def t247:BT:=N q73 (N q0 Z Z) (N q0 Z Z)
def t248:BT:=N (q103 P) (N q170 Z Z) Z
def t249:BT:=N q23 (N q0 (N q21 t243 (t244 P)) (N (q42 P) (t245 P) t194)) (N (q22 P) (N q33 (t246 P) t195) (N q43 t247 (t248 P)))
def t250:BT:=N (boot_o_0 P) (N (boot_o_1 P) (N (q150 P) (t205 P) t211) (N (boot_o_5 P) (t217 P) t223)) (N (boot_o_2 P) (N (boot_o_4 P) (t230 P) (t236 P)) (N (boot_o_6 P) (t242 P) (t249 P)))
def t251:BT:=N q34 (N q0 (N q0 Z Z) Z) (N (q143 P) Z Z)
def t252:BT:=N q0 (N q114 (N q171 Z Z) Z) (N q144 Z Z)
def t253:BT:=N q0 (N q0 (N q172 Z Z) Z) (N q145 Z Z)
def t254:BT:=N q74 (N q115 (N q173 Z Z) Z) (N q4 Z Z)
def t255:BT:=N q0 (N q94 (N q174 Z Z) Z) (N q4 Z Z)
def t256:BT:=N q0 (N q116 (N q175 Z Z) Z) (N q146 Z Z)
def t257:BT:=N q54 (N q0 (N q4 Z Z) Z) (N q0 Z Z)
def t258:BT:=N q0 (N q117 (N q176 Z Z) Z) (N q177 Z Z)
def t259:BT:=N (boot_o_7 P) (N q1 (N q0 (t251 P) t252) (N q0 t253 t254)) (N (q3 P) (N q2 t255 t256) (N q0 t257 t258))
def t260:BT:=N q0 (N q0 (N q0 Z Z) Z) (N q147 Z Z)
def t261:BT:=N q64 (N q4 (N q4 Z Z) Z) (N q4 Z Z)
def t262:BT:=N q0 (N q104 (N q178 Z Z) Z) (N q148 Z Z)
def t263:BT:=N q0 (N q0 (N q179 Z Z) Z) (N q180 Z Z)
def t264:BT:=N q44 (N q0 (N q4 Z Z) Z) (N q149 Z Z)
def t265:BT:=N q0 (N q118 (N q181 Z Z) Z) (N q182 Z Z)
def t266:BT:=N q0 (N q0 (N q0 Z Z) Z) (N q0 Z Z)
def t267:BT:=N q84 (N q119 (N q183 Z Z) Z) (N q184 Z Z)
def t268:BT:=N q0 (N q4 (N q0 t260 t261) (N q24 t262 t263)) (N q5 (N q0 t264 t265) (N q0 t266 t267))
def t269:BT:=N q12 (N q96 (N q186 Z Z) Z) (N q0 Z Z)
def t270:BT:=N q66 (N q121 (N q187 Z Z) Z) (N q151 Z Z)
def t271:BT:=N q56 (N q106 (N q0 Z Z) Z) (N q152 Z Z)
def t272:BT:=N q12 (N q4 (N q4 Z Z) Z) (N q0 Z Z)
def t273:BT:=N q46 (N q12 (N q188 Z Z) Z) (N q0 Z Z)
def t274:BT:=N q76 (N q0 (N q0 Z Z) Z) (N q0 Z Z)
def t275:BT:=N q12 (N q122 (N q189 Z Z) Z) (N q153 Z Z)
def t276:BT:=N q86 (N q123 (N q190 Z Z) Z) (N q191 Z Z)
def t277:BT:=N (boot_o_9 P) (N (q8 P) (N q7 t269 t270) (N q26 t271 t272)) (N q9 (N q12 t273 t274) (N q36 t275 t276))
def t278:BT:=N q47 (N q97 (N q192 Z Z) Z) (N q154 Z Z)
def t279:BT:=N q12 (N q0 (N q0 Z Z) Z) (N q0 Z Z)
def t280:BT:=N q57 (N q12 (N q193 Z Z) Z) (N q4 Z Z)
def t281:BT:=N q87 (N q124 (N q0 Z Z) Z) (N q0 Z Z)
def t282:BT:=N q12 (N q107 (N q0 Z Z) Z) (N q0 Z Z)
def t283:BT:=N q77 (N q125 (N q194 Z Z) Z) (N q195 Z Z)
def t284:BT:=N q67 (N q126 (N q196 Z Z) Z) (N q155 Z Z)
def t285:BT:=N q12 (N q127 Z Z) (N q4 Z Z)
def t286:BT:=N q13 (N q11 (N q10 t278 t279) (N q12 t280 t281)) (N q12 (N q27 t282 t283) (N q37 t284 t285))
def t287:BT:=N q17 (N q4 (N q197 Z Z) Z) (N (q156 P) Z Z)
def t288:BT:=N (q68 P) (N q128 (N q198 Z Z) Z) (N q157 Z Z)
def t289:BT:=N q4 (N (q108 P) (N q199 Z Z) Z) (N q0 Z Z)
def t290:BT:=N q17 (N q0 (N q0 Z Z) Z) (N q200 Z Z)
def t291:BT:=N (q48 P) (N q17 (N q201 Z Z) Z) (N q158 Z Z)
def t292:BT:=N q4 (N q129 (N q202 Z Z) Z) (N q159 Z Z)
def t293:BT:=N q17 (N q130 (N q203 Z Z) Z) (N q160 Z Z)
def t294:BT:=N (q88 P) (N (q131 P) (N q0 Z Z) Z) (N q0 Z Z)
def t295:BT:=N (boot_o_8 P) (N q12 (N q4 (t287 P) (t288 P)) (N (q28 P) (t289 P) t290)) (N q109 (N q17 (t291 P) t292) (N q4 t293 (t294 P)))
def t296:BT:=N q4 (N (q99 P) (N q4 Z Z) Z) (N q161 Z Z)
def t297:BT:=N q17 (N q132 (N q204 Z Z) Z) (N q162 Z Z)
def t298:BT:=N (q59 P) (N q0 (N q205 Z Z) Z) (N q0 Z Z)
def t299:BT:=N q4 (N q133 (N q206 Z Z) Z) (N q207 Z Z)
def t300:BT:=N q17 (N q4 (N q208 Z Z) Z) (N q163 Z Z)
def t301:BT:=N (q79 P) (N q0 (N q0 Z Z) Z) (N q209 Z Z)
def t302:BT:=N q4 (N q4 (N q4 Z Z) Z) (N q4 Z Z)
def t303:BT:=N q17 (N q134 Z Z) (N q0 Z Z)
def t304:BT:=N q210 (N q16 (N (q15 P) (t296 P) t297) (N q17 (t298 P) t299)) (N q17 (N q4 t300 (t301 P)) (N (q39 P) t302 t303))
def t305:BT:=N (q51 P) (N q101 (N q211 Z Z) Z) (N q4 Z Z)
def t306:BT:=N q71 (N q0 (N q0 Z Z) Z) (N q0 Z Z)
def t307:BT:=N q61 (N q111 (N q4 Z Z) Z) (N q165 Z Z)
def t308:BT:=N (q91 P) (N q136 (N q212 Z Z) Z) (N q213 Z Z)
def t309:BT:=N q52 (N (q112 P) (N q0 Z Z) Z) (N q166 Z Z)
def t310:BT:=N q81 (N q4 (N q4 Z Z) Z) (N q4 Z Z)
def t311:BT:=N (q72 P) (N q137 (N q214 Z Z) Z) (N q167 Z Z)
def t312:BT:=N q92 (N q138 (N q215 Z Z) Z) (N q216 Z Z)
def t313:BT:=N (boot_o_10 P) (N q0 (N q19 (t305 P) t306) (N q31 t307 (t308 P))) (N q20 (N (q32 P) (t309 P) t310) (N q41 (t311 P) t312))
def t314:BT:=N q53 (N q102 (N q0 Z Z) Z) (N q0 Z Z)
def t315:BT:=N (q82 P) (N q139 (N q217 Z Z) Z) (N q168 Z Z)
def t316:BT:=N q62 (N (q140 P) (N q0 Z Z) Z) (N q169 Z Z)
def t317:BT:=N q93 (N q141 (N q4 Z Z) Z) (N q4 Z Z)
def t318:BT:=N (q63 P) (N q113 (N q218 Z Z) Z) (N q4 Z Z)
def t319:BT:=N q83 (N q142 (N q219 Z Z) Z) (N q0 Z Z)
def t320:BT:=N q73 (N q0 (N q0 Z Z) Z) (N q0 Z Z)
def t321:BT:=N (q103 P) (N q170 Z Z) (N q220 Z Z)
def t322:BT:=N q23 (N q0 (N q21 t314 (t315 P)) (N (q42 P) (t316 P) t317)) (N (q22 P) (N q33 (t318 P) t319) (N q43 t320 (t321 P)))
def t323:BT:=N (boot_o_0 P) (N (boot_o_1 P) (N (q185 P) (t259 P) t268) (N (boot_o_5 P) (t277 P) t286)) (N (boot_o_2 P) (N (boot_o_4 P) (t295 P) (t304 P)) (N (boot_o_6 P) (t313 P) (t322 P)))
def t324:BT:=N q34 (N q0 (N q0 Z Z) Z) (N (q143 P) (N q0 Z Z) Z)
def t325:BT:=N q0 (N q114 (N q171 Z Z) Z) (N q144 (N q0 Z Z) Z)
def t326:BT:=N q0 (N q0 (N q172 Z Z) Z) (N q145 (N q221 Z Z) Z)
def t327:BT:=N q74 (N q115 (N q173 Z Z) Z) (N q4 (N q222 Z Z) Z)
def t328:BT:=N q0 (N q94 (N q174 Z Z) Z) (N q4 (N q223 Z Z) Z)
def t329:BT:=N q0 (N q116 (N q175 Z Z) Z) (N q146 (N q4 Z Z) Z)
def t330:BT:=N q54 (N q0 (N q4 Z Z) Z) (N q0 (N q224 Z Z) Z)
def t331:BT:=N (boot_o_7 P) (N q1 (N q0 (t324 P) t325) (N q0 t326 t327)) (N (q3 P) (N q2 t328 t329) (N q0 t330 t258))
def t332:BT:=N q0 (N q0 (N q0 Z Z) Z) (N q147 (N q0 Z Z) Z)
def t333:BT:=N q64 (N q4 (N q4 Z Z) Z) (N q4 (N q225 Z Z) Z)
def t334:BT:=N q0 (N q104 (N q178 Z Z) Z) (N q148 (N q226 Z Z) Z)
def t335:BT:=N q0 (N q0 (N q179 Z Z) Z) (N q180 (N q227 Z Z) Z)
def t336:BT:=N q44 (N q0 (N q4 Z Z) Z) (N q149 (N q4 Z Z) Z)
def t337:BT:=N q0 (N q118 (N q181 Z Z) Z) (N q182 (N q228 Z Z) Z)
def t338:BT:=N q0 (N q0 (N q0 Z Z) Z) (N q0 (N q0 Z Z) Z)
def t339:BT:=N q0 (N q4 (N q0 t332 t333) (N q24 t334 t335)) (N q5 (N q0 t336 t337) (N q0 t338 t267))
def t340:BT:=N q12 (N q96 (N q186 Z Z) Z) (N q0 (N q230 Z Z) Z)
def t341:BT:=N q66 (N q121 (N q187 Z Z) Z) (N q151 (N q231 Z Z) Z)
def t342:BT:=N q56 (N q106 (N q0 Z Z) Z) (N q152 (N q0 Z Z) Z)
def t343:BT:=N q12 (N q4 (N q4 Z Z) Z) (N q0 (N q232 Z Z) Z)
def t344:BT:=N q46 (N q12 (N q188 Z Z) Z) (N q0 (N q233 Z Z) Z)
def t345:BT:=N q76 (N q0 (N q0 Z Z) Z) (N q0 (N q0 Z Z) Z)
def t346:BT:=N q12 (N q122 (N q189 Z Z) Z) (N q153 (N q4 Z Z) Z)
def t347:BT:=N (boot_o_9 P) (N (q8 P) (N q7 t340 t341) (N q26 t342 t343)) (N q9 (N q12 t344 t345) (N q36 t346 t276))
def t348:BT:=N q47 (N q97 (N q192 Z Z) Z) (N q154 (N q234 Z Z) Z)
def t349:BT:=N q12 (N q0 (N q0 Z Z) Z) (N q0 (N q235 Z Z) Z)
def t350:BT:=N q57 (N q12 (N q193 Z Z) Z) (N q4 (N q236 Z Z) Z)
def t351:BT:=N q12 (N q107 (N q0 Z Z) Z) (N q0 (N q0 Z Z) Z)
def t352:BT:=N q77 (N q125 (N q194 Z Z) Z) (N q195 (N q0 Z Z) Z)
def t353:BT:=N q67 (N q126 (N q196 Z Z) Z) (N q155 (N q237 Z Z) Z)
def t354:BT:=N q12 (N q127 (N q4 Z Z) Z) (N q4 Z Z)
def t355:BT:=N q13 (N q11 (N q10 t348 t349) (N q12 t350 t281)) (N q12 (N q27 t351 t352) (N q37 t353 t354))
def t356:BT:=N q17 (N q4 (N q197 Z Z) Z) (N (q156 P) (N q238 Z Z) Z)
def t357:BT:=N (q68 P) (N q128 (N q198 Z Z) Z) (N q157 (N q4 Z Z) Z)
def t358:BT:=N q4 (N (q108 P) (N q199 Z Z) Z) (N q0 (N q239 Z Z) Z)
def t359:BT:=N q17 (N q0 (N q0 Z Z) Z) (N q200 (N q0 Z Z) Z)
def t360:BT:=N (q48 P) (N q17 (N q201 Z Z) Z) (N q158 (N q240 Z Z) Z)
def t361:BT:=N q4 (N q129 (N q202 Z Z) Z) (N q159 (N q241 Z Z) Z)
def t362:BT:=N q17 (N q130 (N q203 Z Z) Z) (N q160 (N q0 Z Z) Z)
def t363:BT:=N (boot_o_8 P) (N q12 (N q4 (t356 P) (t357 P)) (N (q28 P) (t358 P) t359)) (N q109 (N q17 (t360 P) t361) (N q4 t362 (t294 P)))
def t364:BT:=N q4 (N (q99 P) (N q4 Z Z) Z) (N q161 (N q4 Z Z) Z)
def t365:BT:=N q17 (N q132 (N q204 Z Z) Z) (N q162 (N q242 Z Z) Z)
def t366:BT:=N (q59 P) (N q0 (N q205 Z Z) Z) (N q0 (N q0 Z Z) Z)
def t367:BT:=N q17 (N q4 (N q208 Z Z) Z) (N q163 (N q243 Z Z) Z)
def t368:BT:=N (q79 P) (N q0 (N q0 Z Z) Z) (N q209 (N q244 Z Z) Z)
def t369:BT:=N q4 (N q4 (N q4 Z Z) Z) (N q4 (N q245 Z Z) Z)
def t370:BT:=N q17 (N q134 (N q0 Z Z) Z) (N q0 Z Z)
def t371:BT:=N q246 (N q16 (N (q15 P) (t364 P) t365) (N q17 (t366 P) t299)) (N q17 (N q4 t367 (t368 P)) (N (q39 P) t369 t370))
def t372:BT:=N (q51 P) (N q101 (N q211 Z Z) Z) (N q4 (N q247 Z Z) Z)
def t373:BT:=N q71 (N q0 (N q0 Z Z) Z) (N q0 (N q0 Z Z) Z)
def t374:BT:=N q61 (N q111 (N q4 Z Z) Z) (N q165 (N q4 Z Z) Z)
def t375:BT:=N (q91 P) (N q136 (N q212 Z Z) Z) (N q213 (N q248 Z Z) Z)
def t376:BT:=N q52 (N (q112 P) (N q0 Z Z) Z) (N q166 (N q0 Z Z) Z)
def t377:BT:=N q81 (N q4 (N q4 Z Z) Z) (N q4 (N q249 Z Z) Z)
def t378:BT:=N (q72 P) (N q137 (N q214 Z Z) Z) (N q167 (N q250 Z Z) Z)
def t379:BT:=N (boot_o_10 P) (N q0 (N q19 (t372 P) t373) (N q31 t374 (t375 P))) (N q20 (N (q32 P) (t376 P) t377) (N q41 (t378 P) t312))
def t380:BT:=N q53 (N q102 (N q0 Z Z) Z) (N q0 (N q0 Z Z) Z)
def t381:BT:=N (q82 P) (N q139 (N q217 Z Z) Z) (N q168 (N q0 Z Z) Z)
def t382:BT:=N q62 (N (q140 P) (N q0 Z Z) Z) (N q169 (N q251 Z Z) Z)
def t383:BT:=N (q63 P) (N q113 (N q218 Z Z) Z) (N q4 (N q252 Z Z) Z)
def t384:BT:=N q83 (N q142 (N q219 Z Z) Z) (N q0 (N q4 Z Z) Z)
def t385:BT:=N q73 (N q0 (N q0 Z Z) Z) (N q0 (N q253 Z Z) Z)
def t386:BT:=N (q103 P) (N q170 (N q254 Z Z) Z) (N q220 Z Z)
def t387:BT:=N q23 (N q0 (N q21 t380 (t381 P)) (N (q42 P) (t382 P) t317)) (N (q22 P) (N q33 (t383 P) t384) (N q43 t385 (t386 P)))
def t388:BT:=N (boot_o_0 P) (N (boot_o_1 P) (N (q229 P) (t331 P) t339) (N (boot_o_5 P) (t347 P) t355)) (N (boot_o_2 P) (N (boot_o_4 P) (t363 P) (t371 P)) (N (boot_o_6 P) (t379 P) (t387 P)))
def l0:List Obj:=q248::q227::[]
def l1:List Obj:=q241::q0::q249::q228::q244::q0::q4::q222::q0::q232::l0
def l2:List Obj:=q253::q0::q4::q231::q0::q225::q242::q235::q0::q4::l1
def l3:List Obj:=q0::q236::q251::q224::q0::q4::q250::q0::q245::q237::l2
def l4:List Obj:=q0::q4::q243::q0::q252::q221::q239::q0::q4::q226::l3
def l5:List Obj:=q238::q230::q247::q0::q4::q234::q0::q223::q240::q233::l4
def l6:List Obj:=q4::q176::q0::q190::q215::q183::q0::q4::q254::q0::l5
def l7:List Obj:=q0::q194::q219::q173::q0::q4::q212::q179::q206::q0::l6
def l8:List Obj:=q0::q4::q204::q0::q217::q175::q202::q0::q4::q181::l7
def l9:List Obj:=q203::q189::q214::q0::q4::q196::q0::q171::q198::q187::l8
def l10:List Obj:=q218::q172::q199::q0::q4::q178::q205::q193::q0::q4::l9
def l11:List Obj:=q4::q192::q0::q174::q201::q188::q0::q4::q208::q0::l10
def l12:List Obj:=q216::q184::q0::q4::q220::q0::q197::q186::q211::q0::l11
def l13:List Obj:=q200::q0::q213::q180::q207::q0::q4::q177::q0::q191::l12
def l14:List Obj:=q168::q146::q159::q0::q4::q182::q209::q195::q0::q4::l13
def l15:List Obj:=q4::q155::q0::q144::q157::q151::q0::q4::q162::q0::l14
def l16:List Obj:=q165::q148::q0::q4::q169::q0::q160::q153::q167::q0::l15
def l17:List Obj:=q158::q0::q166::q149::q163::q0::q4::q145::q0::q152::l16
def l18:List Obj:=q170::(q143 P)::(q156 P)::q0::q4::q147::q161::q154::q0::q4::l17
def l19:List Obj:=q133::q124::q141::q117::(q131 P)::q123::q138::q119::q134::q127::l18 P
def l20:List Obj:=q4::q118::q0::q125::q142::q115::q0::q4::q136::q0::l19 P
def l21:List Obj:=q128::q121::q0::q4::q132::q0::q139::q116::q129::q0::l20 P
def l22:List Obj:=(q140 P)::q0::q130::q122::q137::q0::q4::q126::q0::q114::l21 P
def l23:List Obj:=q4::q107::q113::q0::(q108 P)::q106::q111::q104::q0::q12::l22 P
def l24:List Obj:=q101::q0::(q99 P)::q97::q102::q94::q17::q12::(q112 P)::q0::l23 P
def l25:List Obj:=(q88 P)::q86::q92::q84::q17::q12::(q103 P)::q0::q4::q96::l24 P
def l26:List Obj:=q83::q74::q17::q12::(q91 P)::q0::q4::q87::q93::q0::l25 P
def l27:List Obj:=q17::q12::(q82 P)::q0::q4::q76::q81::q0::(q79 P)::q77::l26 P
def l28:List Obj:=(q72 P)::q0::q4::q67::q73::q0::(q68 P)::q66::q71::q64::l27 P
def l29:List Obj:=q4::q56::q61::q0::(q59 P)::q57::q62::q54::q17::q12::l28 P
def l30:List Obj:=q53::q0::(q48 P)::q46::q52::q44::q17::q12::(q63 P)::q0::l29 P
def l31:List Obj:=(q39 P)::q37::q43::q34::q17::q12::(q51 P)::q0::q4::q47::l30 P
def l32:List Obj:=q31::q24::q17::q12::(q42 P)::q0::q4::q36::q41::q0::l31 P
def l33:List Obj:=q17::q12::(q32 P)::q0::q4::q27::q33::q0::(q28 P)::q26::l32 P
def l34:List Obj:=(q22 P)::q0::q4::q7::q19::q0::(q15 P)::q10::q21::q2::l33 P
def l35:List Obj:=q16::q11::q0::(q3 P)::q109::q9::q20::q5::q17::q12::l34 P
def l36:List Obj:=(boot_o_10 P)::q0::q246::q13::q23::q1::q12::(q8 P)::q0::q4::l35 P
def l37:List Obj:=(boot_o_0 P)::(boot_o_1 P)::(boot_o_2 P)::(q229 P)::(boot_o_4 P)::(boot_o_5 P)::(boot_o_6 P)::(boot_o_7 P)::(boot_o_8 P)::(boot_o_9 P)::l36 P
def h14:Heap:=Heap.mk (Array.mk (l37 P)) {}
end HQ
end
open PySem PySem.W
theorem HQ.aD9:(fun _:Params->BT=>true) HQ.t8=true:=by k_qdec
theorem HQ.Z6:(fun _:Params->BT=>true) HQ.t17=true:=by k_qdec
theorem HQ.Z7:(fun _:Params->BT=>true) HQ.t27=true:=by k_qdec
theorem HQ.Z8:(fun _:Params->BT=>true) HQ.t47=true:=by k_qdec
theorem HQ.Z9:(fun _:Params->BT=>true) HQ.t63=true:=by k_qdec
theorem HQ.aa0:(fun _:Params->BT=>true) HQ.t79=true:=by k_qdec
theorem HQ.aa1:(fun _:Params->BT=>true) HQ.t95=true:=by k_qdec
theorem HQ.X9:(fun _:Params->BT=>true) HQ.t111=true:=by k_qdec
theorem HQ.Ya:(fun _:Params->BT=>true) HQ.t130=true:=by k_qdec
theorem HQ.Yb:(fun _:Params->BT=>true) HQ.t149=true:=by k_qdec
theorem HQ.Yc:(fun _:Params->BT=>true) HQ.t198=true:=by k_qdec
theorem HQ.Yd:(fun _:Params->BT=>true) HQ.t250=true:=by k_qdec
theorem HQ.Ye:(fun _:Params->BT=>true) HQ.t323=true:=by k_qdec
theorem HQ.Yf:(fun _:Params->BT=>true) HQ.t388=true:=by k_qdec
theorem HQ.aa2:(fun _:Params->Heap=>true) HQ.h14=true:=by k_qdec
def PySem.W.Fast.tw17264735944259096869:PySem.Params->PySem.W.BT:=PySem.W.Fast.tw9604489905239003208
theorem PySem.W.Fast.te17264735944259096869:HQ.t8=PySem.W.Fast.tw17264735944259096869:=PySem.W.Fast.te9604489905239003208
def PySem.W.Fast.tw4269492503106434243:PySem.Params->PySem.W.BT:=PySem.W.Fast.tw15816068547178210222
theorem PySem.W.Fast.te4269492503106434243:HQ.t17=PySem.W.Fast.tw4269492503106434243:=PySem.W.Fast.te15816068547178210222
def PySem.W.Fast.tw7385076563994182393:PySem.Params->PySem.W.BT:=PySem.W.Fast.tw1571304242950677393
theorem PySem.W.Fast.te7385076563994182393:HQ.t27=PySem.W.Fast.tw7385076563994182393:=PySem.W.Fast.te1571304242950677393
def PySem.W.Fast.tw11376226474186725982:PySem.Params->PySem.W.BT:=PySem.W.Fast.tw10127109109268563387
theorem PySem.W.Fast.te11376226474186725982:HQ.t47=PySem.W.Fast.tw11376226474186725982:=PySem.W.Fast.te10127109109268563387
def PySem.W.Fast.tw7812597007624117827:PySem.Params->PySem.W.BT:=PySem.W.Fast.tw11761618153209770259
theorem PySem.W.Fast.te7812597007624117827:HQ.t63=PySem.W.Fast.tw7812597007624117827:=PySem.W.Fast.te11761618153209770259
def PySem.W.Fast.tw3149033847562109145:PySem.Params->PySem.W.BT:=PySem.W.Fast.tw2478732398655428896
theorem PySem.W.Fast.te3149033847562109145:HQ.t79=PySem.W.Fast.tw3149033847562109145:=PySem.W.Fast.te2478732398655428896
def PySem.W.Fast.tw14573832295069674849:PySem.Params->PySem.W.BT:=PySem.W.Fast.tw4263834943879327488
theorem PySem.W.Fast.te14573832295069674849:HQ.t95=PySem.W.Fast.tw14573832295069674849:=PySem.W.Fast.te4263834943879327488
def PySem.W.Fast.tw6575649196651829655:PySem.Params->PySem.W.BT:=PySem.W.Fast.tw3464415685822167468
theorem PySem.W.Fast.te6575649196651829655:HQ.t111=PySem.W.Fast.tw6575649196651829655:=PySem.W.Fast.te3464415685822167468
def PySem.W.Fast.tw12673658508921255069:PySem.Params->PySem.W.BT:=PySem.W.Fast.tw7683263471006807842
theorem PySem.W.Fast.te12673658508921255069:HQ.t130=PySem.W.Fast.tw12673658508921255069:=PySem.W.Fast.te7683263471006807842
def PySem.W.Fast.tw9795495252447287902:PySem.Params->PySem.W.BT:=PySem.W.Fast.tw18417745465433004823
theorem PySem.W.Fast.te9795495252447287902:HQ.t149=PySem.W.Fast.tw9795495252447287902:=PySem.W.Fast.te18417745465433004823
def PySem.W.Fast.tw1628068433633826175:PySem.Params->PySem.W.BT:=PySem.W.Fast.tw360184553041506788
theorem PySem.W.Fast.te1628068433633826175:HQ.t198=PySem.W.Fast.tw1628068433633826175:=PySem.W.Fast.te360184553041506788
def PySem.W.Fast.tw3353521700662172657:PySem.Params->PySem.W.BT:=PySem.W.Fast.tw18309413977989302556
theorem PySem.W.Fast.te3353521700662172657:HQ.t250=PySem.W.Fast.tw3353521700662172657:=PySem.W.Fast.te18309413977989302556
def PySem.W.Fast.tw543477608258619984:PySem.Params->PySem.W.BT:=PySem.W.Fast.tw1374995186179243782
theorem PySem.W.Fast.te543477608258619984:HQ.t323=PySem.W.Fast.tw543477608258619984:=PySem.W.Fast.te1374995186179243782
def PySem.W.Fast.tw7281358987177792939:PySem.Params->PySem.W.BT:=PySem.W.Fast.tw17119122753665780483
theorem PySem.W.Fast.te7281358987177792939:HQ.t388=PySem.W.Fast.tw7281358987177792939:=PySem.W.Fast.te17119122753665780483
def PySem.W.Fast.tw1515150037207397793:PySem.Params->PySem.Heap:=PySem.W.Fast.tw18302781947541313048
theorem PySem.W.Fast.te1515150037207397793:HQ.h14=PySem.W.Fast.tw1515150037207397793:=PySem.W.Fast.te18302781947541313048
open PySem PySem.W PyProof.Rows
set_option maxRecDepth 100000 in
set_option maxHeartbeats 0 in
theorem PySem.Challenge.cw_surejoin_k11_expressions_refused_holds : PySem.Challenge.rw_surejoin_k11_expressions_refused.Holds := by
 w_on;o_law;z_head;(case hw=>w_witness2)
 refine M.walkZ (l:=PySem.Challenge.rw_surejoin_k11_expressions_refused) (cf:=LW.yH) (k:=20) (x := "_law_script") (fun _=>by kernel_rfl) rfl rfl ⟨rfl,by decide,by decide,rfl⟩ ?F LW.ID
 case F =>
  intro w mg fa h KX G FY;refine' LW.all_mk KX G FY ?_ ?_ ?_ ?_ ?_ ?_ ?_ ?_ ?_ ?_ ?_ ?_ ?_ ?_ ?_ ?_ ?_ ?_ ?_ ?_ ?_ ?_ ?_ ?_ ?_ ?_ ?_ ?_ ?_ ?_ ?_ ?_ ?_ ?_ ?_ ?_ ?_ ?_ ?_ ?_ ?_ ?_ ?_ ?_ ?_ ?_ ?_ ?_ ?_ ?_ ?_ ?_ ?_ ?_ ?_ ?_ ?_ ?_ ?_ ?_ ?_ ?_ ?_ ?_ ?_ ?_ ?_ ?_ ?_ ?_ ?_ ?_ ?_ ?_ ?_ ?_ ?_ ?_ ?_ ?_ ?_ ?_ ?_ ?_ ?_ ?_ ?_ ?_ ?_ ?_ ?_ ?_ ?_ ?_ ?_ ?_ ?_ ?_ ?_ ?_ ?_ ?_ ?_ ?_ ?_ ?_ ?_ ?_ ?_ ?_ ?_ ?_ ?_ ?_ ?_ ?_ ?_ ?_ ?_ ?_ ?_ ?_ ?_ ?_ ?_ ?_ ?_ ?_ ?_ ?_ ?_ ?_ ?_ ?_ ?_ ?_ ?sf ?si ?sj ?so ?jC ?jD ?hV ?hZ ?sr ?su ?lJ ?lK ?lL ?pQ ?pR ?pS ?pT ?y9 ?za ?zb ?ze ?_ ?_ ?_ ?_ ?_ ?_ ?_ ?_ ?_ ?_ ?_ ?_ ?_ ?kC ?fK ?jz ?kD ?kE ?kF ?nq ?jA ?jB ?kG ?kH ?q1 ?_ ?_ ?_ ?_ ?_ ?q7 ?q8 ?_ ?_ ?_ ?_ ?_ ?_ ?_ ?_ ?_ ?_ ?_
  (case sf=>k_is)
  (case si=>exact⟨_,rfl⟩)
  (case sj=>k_is)
  (case so=>exact⟨_,rfl⟩)
  (case jC=>k_is)
  (case jD=>exact⟨_,rfl⟩)
  (case hV=>k_is)
  (case hZ=>exact⟨_,rfl⟩)
  (case sr=>k_is)
  (case su=>exact⟨_,rfl⟩)
  (case lJ=>k_is)
  (case lK=>k_is)
  (case lL=>kernel_rfl)
  (case pQ=>k_is)
  (case pR=>k_is)
  (case pS=>kernel_rfl)
  (case pT=>exact⟨⟨by kernel_rfl,⟨_,rfl⟩,⟨_,rfl⟩⟩,⟨⟨by kernel_rfl,⟨_,rfl⟩,⟨_,rfl⟩⟩,⟨⟨by kernel_rfl,⟨_,rfl⟩,⟨_,rfl⟩⟩,⟨⟨by kernel_rfl,⟨_,rfl⟩,⟨_,rfl⟩⟩,⟨⟨by kernel_rfl,⟨_,rfl⟩,⟨_,rfl⟩⟩,⟨⟨by kernel_rfl,⟨_,rfl⟩,⟨_,rfl⟩⟩,⟨⟨by kernel_rfl,⟨_,rfl⟩,⟨_,rfl⟩⟩,trivial⟩⟩⟩⟩⟩⟩⟩)
  (case y9=>k_is)
  (case za=>k_is)
  (case zb=>kernel_rfl)
  (case ze=>exact⟨⟨by kernel_rfl,⟨_,rfl⟩,⟨_,rfl⟩⟩,⟨⟨by kernel_rfl,⟨_,rfl⟩,⟨_,rfl⟩⟩,⟨⟨by kernel_rfl,⟨_,rfl⟩,⟨_,rfl⟩⟩,⟨⟨by kernel_rfl,⟨_,rfl⟩,⟨_,rfl⟩⟩,trivial⟩⟩⟩⟩)
  (case kC=>kernel_rfl)
  (case fK=>kernel_rfl)
  (case jz=>kernel_rfl)
  (case kD=>kernel_rfl)
  (case kE=>kernel_rfl)
  (case kF=>kernel_rfl)
  (case nq=>kernel_rfl)
  (case jA=>kernel_rfl)
  (case jB=>kernel_rfl)
  (case kG=>kernel_rfl)
  (case kH=>kernel_rfl)
  (case q1=>kernel_rfl)
  (case q7=>kernel_rfl)
  (case q8=>kernel_rfl)
  all_goals try k_is