import PyProof.Rows.All
import Wide.All
import OpenK.AllK
import Wide.FinOn
import PyProof.EqAt
import PyProof.EqKinds
import PyProof.TupleCall
import KE.KTryMore
import PyProof.ExcArgsOwn
import KE.KRevIter
import KE.KDictList
import KE.KIntText
import KE.KxMul
import PyProof.ExcAttrAll.ValueError
import KE.IntTextLaws
import PyProof.StrLawsRepr
import PyProof.Rows.MinMaxN
import KE.KDictLaws
import PyProof.WalksEnum
import PyProof.EnumMake
import PyProof.Rows.EnumRows
import PySem.Challenge.RW_surejoin_k02_joined
set_option Elab.async false
set_option linter.all false
set_option maxRecDepth 100000
set_option compiler.extract_closed false
noncomputable section
open List (all_cons all_eq_true all_map any_cons any_eq_true any_map append_assoc append_nil concat_eq_append countP_cons_of_pos drop_eq_getElem_cons drop_eq_nil_of_le drop_length drop_sublist eq_nil_or_concat ext_getElem? extract_eq_drop_take filterMap_cons filterMap_cons_none filterMap_cons_some find?_cons flatten_cons foldl_cons forIn_cons getD_eq_getElem?_getD getElem?_append_left getElem?_append_right getElem?_cons_succ getElem?_drop getElem?_eq_getElem getElem?_eq_none getElem?_map getElem?_range getElem?_set_ne getElem?_set_self getElem?_take getElem_drop getElem_mem getElem_take length_append length_cons length_drop length_map length_nil length_range length_set length_take length_zip map_append map_congr_left map_cons map_drop map_id map_map map_nil map_take mem_append mem_append_left mem_append_right mem_cons mem_cons_of_mem mem_cons_self mem_filter mem_iff_getElem mem_map mem_of_getElem? mem_of_mem_drop mem_of_mem_take mem_range mem_reverse mem_singleton mergeSort_perm nodup_append nodup_cons nodup_nil not_mem_nil of_mem_zip pairwise_append pairwise_cons pairwise_iff_getElem pairwise_map pairwise_singleton range_succ_eq_map reverse_perm size_toArray take_append_drop take_length take_of_length_le take_sublist take_succ_eq_append_getElem zipWith zip_cons_cons)
open PySem.W (InK WalkX callWith_K callWith_K0 cellsFrom_some emptyDict findIn hasDictIn instObj isFn kIn_of keepIn kia_one kitOne ksm_same lookIn makesIn makes_of methodCall_KW methodObj mg_none_of mg_of mroIn oi_run plainGet plainGet_of plainOver specialIn takesIn)
open Nat (add_assoc le_of_lt le_refl le_succ lt_irrefl lt_of_le_of_lt lt_of_lt_of_le lt_or_ge lt_succ_of_lt lt_succ_self lt_trans min_eq_left mod_lt ne_of_gt ne_of_lt not_lt_zero succ_pos zero_add zero_le)
open Array (forIn_toList getElem?_toList getElem_toList length_toList size_map toList_append toList_extract toList_push)
open Int (emod_lt_of_pos emod_nonneg le_trans not_lt toNat_natCast)
open Bool (and_eq_true and_eq_true_iff false_eq_true false_xor not_eq_false' not_eq_true' or_eq_true true_xor)
namespace L2
open PySem PySem.Spec PyProof.Rows
abbrev Key:=Sum Int Str
def sN:Key->Value->Bool
 |.inl k,v=>Value.isInt k v
 |.inr x,v=>Value.isStrOf x v
def VB(w:World):Key->Int
 |.inl k=>hashInt k
 |.inr x=>hashStr w x
theorem cR:∀{k:Key}{v:Value},sN k v=true->(∃i t,k=Sum.inl i/\v=Value.int i t)\/(∃x t,k=Sum.inr x/\v=Value.str x t)
 |.inl i,v,h=>by
  obtain⟨t,e⟩:=Value.isInt_shape (k:=i) (v:=v) h;exact .inl ⟨i,t,rfl,e⟩
 |.inr x,v,h=>by
  obtain⟨t,e⟩:=Value.isStrOf_shape (x:=x) (v:=v) h;exact .inr ⟨x,t,rfl,e⟩
theorem EL(i:Int)(t:Tok):sN (.inl i) (.int i t)=true:=by simp [sN,Value.isInt]
theorem EM(x:Str)(t:Tok):sN (.inr x) (.str x t)=true:=by simp [sN,Value.isStrOf]
theorem OD(a b:Int):decide ((Sum.inl a:Key)=Sum.inl b)=(a==b):=by
 by_cases e:a=b
 ·subst e;simp
 ·have h:¬(Sum.inl a:Key)=Sum.inl b:=fun q=>e (Sum.inl.inj q);rw [decide_eq_false h];exact(beq_eq_false_iff_ne.mpr e).symm
theorem OE(a b:Str):decide ((Sum.inr a:Key)=Sum.inr b)=decide (a=b):=by
 by_cases e:a=b
 ·subst e;simp
 ·have h:¬(Sum.inr a:Key)=Sum.inr b:=fun q=>e (Sum.inr.inj q);rw [decide_eq_false h,decide_eq_false e]
theorem OF(a:Int)(b:Str):decide ((Sum.inl a:Key)=Sum.inr b)=false:=decide_eq_false (fun q=>nomatch q)
theorem OG(a:Str)(b:Int):decide ((Sum.inr a:Key)=Sum.inl b)=false:=decide_eq_false (fun q=>nomatch q)
def bN(prog:Program)(w:World):PySem.KeyKind prog w Key where
 is:=sN
 hash:=VB w
 inj:=fun v a b ha hb=>by
  rcases cR ha with⟨i,t,rfl,rfl⟩|⟨x,t,rfl,rfl⟩
  ·rcases cR hb with⟨j,u,rfl,e⟩|⟨y,u,rfl,e⟩
   ·injection e with e1 _;rw [e1]
   ·exact nomatch e
  ·rcases cR hb with⟨j,u,rfl,e⟩|⟨y,u,rfl,e⟩
   ·exact nomatch e
   ·injection e with e1 _;rw [e1]
 byValue:=fun k v h=>by
  rcases cR h with⟨i,t,rfl,rfl⟩|⟨x,t,rfl,rfl⟩<;>rfl
 pyHash:=fun hv h=>by
  rcases cR hv with⟨i,t,rfl,rfl⟩|⟨x,t,rfl,rfl⟩
  ·exact wpAny_pyHash_int h
  ·exact wpAny_pyHash_str h
 eqBool:=fun hu hv h=>by
  rcases cR hu with⟨i,t,rfl,rfl⟩|⟨x,t,rfl,rfl⟩
  ·rcases cR hv with⟨j,u,rfl,rfl⟩|⟨y,u,rfl,rfl⟩
   ·rw [OD]at h;exact wpAny_eqBool_int h
   ·rw [OF]at h;exact SeqAt.EqAt.int_str i t y u _ _ _ _ h
  ·rcases cR hv with⟨j,u,rfl,rfl⟩|⟨y,u,rfl,rfl⟩
   ·rw [OG]at h;exact SeqAt.EqAt.str_int x t j u _ _ _ _ h
   ·rw [OE]at h;exact wpAny_eqBool_str h
 «strs»:=fun k x t v h=>by
  rcases cR h with⟨i,u,rfl,e⟩|⟨y,u,rfl,e⟩
  ·exact nomatch e
  ·injection e with e1 _;subst e1
   cases v<;>rfl
theorem qX(prog:Program)(w:World)(i:Int)(t:Tok):(bN prog w).is (.inl i) (.int i t)=true:=EL i t
theorem zH(prog:Program)(w:World)(x:Str)(t:Tok):(bN prog w).is (.inr x) (.str x t)=true:=EM x t
inductive V where
 |cg|bl (b:Bool)|int (i:Int)|str (x:Str)|GH (b:Array UInt8)|VC (b:UInt64)|ref (a:Addr)|ty (n:String)
 deriving DecidableEq
def RelV:V->Value->Prop
 |.cg,u=>u=Value.none
 |.bl b,u=>u=Value.bool b
 |.int i,u=>∃t,u=Value.int i t
 |.str x,u=>∃t,u=Value.str x t
 |.GH b,u=>∃t,u=Value.bytes b t
 |.VC b,u=>∃t,u=Value.float b t
 |.ref a,u=>u=Value.ref a
 |.ty n,u=>u=Value.type n
abbrev Vals:List V->List Value->Prop:=Paired RelV
theorem Vals.length{xs:List V}{us:List Value}(r:Vals xs us):xs.length=us.length:=Paired.length r
theorem Vals.get:∀{xs:List V}{us:List Value}{i:Nat}{x:V},Vals xs us->xs[i]?=some x->∃u,us[i]?=some u/\RelV x u
 |_,_,_,_,.nil,e=>by simp at e
 |_,_,0,_,.cons r _,e=>by simp at e;subst e;exact⟨_,rfl,r⟩
 |_,_,i+1,x,.cons _ t,e=>by
  obtain⟨u,h1,h2⟩:=Vals.get (i:=i) (x:=x) t (by simpa using e);exact⟨u,by simpa using h1,h2⟩
theorem Vals.set{x:V}{u:Value}(r:RelV x u):∀{xs:List V}{us:List Value}(i:Nat),Vals xs us->Vals (xs.set i x) (us.set i u)
 |_,_,_,.nil=>.nil
 |_,_,0,.cons _ t=>.cons r t
 |_,_,i+1,.cons q t=>.cons q (Vals.set r i t)
theorem Vals.append:∀{xs ys:List V}{us ws:List Value},Vals xs us->Vals ys ws->Vals (xs++ys) (us++ws)
 |_,_,_,_,.nil,s=>s
 |_,_,_,_,.cons r t,s=>.cons r (Vals.append t s)
theorem Vals.take:∀{xs:List V}{us:List Value}(n:Nat),Vals xs us->Vals (xs.take n) (us.take n)
 |_,_,0,_=>.nil
 |_,_,_+1,.nil=>.nil
 |_,_,n+1,.cons r t=>.cons r (Vals.take n t)
theorem Vals.drop:∀{xs:List V}{us:List Value}(n:Nat),Vals xs us->Vals (xs.drop n) (us.drop n)
 |_,_,0,r=>r
 |_,_,_+1,.nil=>.nil
 |_,_,n+1,.cons _ t=>Vals.drop n t
theorem Vals.none_of:∀{xs:List V}{us:List Value}{i:Nat},Vals xs us->xs[i]?=none->us[i]?=none:=fun{xs us i} r e=>by
 have h1:=r.length;have h2:xs.length<=i:=List.getElem?_eq_none_iff.mp e;exact List.getElem?_eq_none_iff.mpr (by omega)
def lP:Option V->Option Value->Prop
 |some v,some u=>RelV v u
 |none,none=>True
 |_,_=>False
def KV{κ:Type}:List (κ×V)->List (κ×Value)->Prop:=Paired fun(p:κ×V)(q:κ×Value)=>p.1=q.1/\RelV p.2 q.2
def kV:Key->V
 |.inl i=>.int i
 |.inr x=>.str x
inductive HO where
 |lst (xs:List V)
 |tup (xs:List V)
 |dK (kvs:List (Key×V))|dT (kvs:List (List Key×V))
 |set (S:Int->Bool) (n:Nat)
 |ins (C dx:Addr) (fs:List (Str×V))
 |own (x:Addr)
 |xd (fs:List (Str×V))
 |met (f x:Addr)
 |VD (lo hi:Int)
 |GI (o:Obj) (u:HO)
 |OH (ps:Array Value)
 |ext (φ:Heap->Prop)
abbrev Hp:=Addr->Option HO
def upd(H:Hp)(a:Addr)(o:HO):Hp:=fun b=>if b=a then some o else H b
theorem bB{H:Hp}{a:Addr}{o:HO}:upd H a o a=some o:=by unfold upd;rw [if_pos rfl]
theorem aV{H:Hp}{a b:Addr}{o:HO}(h:b≠a):upd H a o b=H b:=by unfold upd;rw [if_neg h]
theorem RS{H:Hp}{a b:Addr}{o u:HO}(h:H a=some o)(h':H b=some u)(d:o≠u):a≠b:=by
 intro e;subst e;rw [h]at h';exact d (Option.some.inj h')
theorem bT{H:Hp}{a b:Addr}{o:HO}(h:H a=some o)(h':H b=none):a≠b:=by
 intro e;subst e;rw [h]at h';cases h'
section
variable (P:Program)(w:World)
def eG(H:Hp)(h:Heap)(a:Addr):HO->Prop
 |.lst xs=>xs.length<=sizeLine/\∃(bo:List Value) (n:Nat),Vals xs bo/\h.get? a=some {cls:=.type "list", data:=.seq bo.toArray n}
 |.tup xs=>xs.length<=sizeLine/\∃bo:List Value,Vals xs bo/\IsTup h a bo.toArray
 |.dK kvs=>kvs.length<=sizeLine/\(a==sysModules)=false/\∃vs,KV kvs vs/\h.DictOf (bN P w) a vs
 |.dT kvs=>kvs.length<=sizeLine/\(a==sysModules)=false/\∃xs:List (List Key×Addr×Value),
   Paired (fun(p:List Key×V)(q:List Key×Addr×Value)=>p.1=q.1/\H q.2.1=some (.tup (p.1.map kV))/\RelV p.2 q.2.2) kvs xs /\
   ∃o es ep,h.get? a=some o/\o.ExactDict/\o.data=.dict es ep/\es.toList=xs.map (entryOfKey (tupleKind (bN P w)))/\(xs.map (·.1)).Nodup
 |.set S n=>h.SetOf (intKind P w) a S n
 |.ins C dx fs=>H dx=some (.own a)/\fs.length<=1000/\dx≠a/\h.get? a=some (instObj C dx) /\
   ∃mA,h.Ns1 dx mA/\(∀f,lP (fs.lookup f) (mA f))/\PySem.Within mA (fs.map (·.1))
 |.own _=>∃o,h.get? a=some o
 |.xd fs=>∃mA,h.Ns1 a mA/\∀f,lP (fs.lookup f) (mA f)
 |.VD lo hi=>∃t u v,h.get? a=some {cls:=.type "range", data:=.fields #[.int lo t,.int hi u,.int 1 v]}
 |.GI o u=>h.get? a=some o/\eG H h a u
 |.OH ps=>h.get? a=some {cls:=.none,data:=.fields ps}
 |.met f x=>h.get? a=some (methodObj (.ref f) (.ref x))
 |.ext φ=>φ h/\(∃o,h.get? a=some o)/\∀h1 h2:Heap,φ h1->(∀o,h1.get? a=some o->h2.get? a=some o)->φ h2
def pj(H:Hp)(h:Heap):Prop:=∀a o,H a=some o->eG P w H h a o
end
section
variable {P:Program}{w:World}{H H':Hp}{h h':Heap}{a:Addr}{o:HO}
theorem eG.lt(x:eG P w H h a o):a<h.objs.size:=by
 cases o with
 |lst xs=>obtain⟨_,_,_,_,e⟩:=x;exact Heap.lt_size e
 |tup xs=>obtain⟨_,_,_,p⟩:=x;exact p.lt
 |dK kvs=>obtain⟨_,_,_,_,o,_,_,e,_⟩:=x;exact Heap.lt_size e
 |dT kvs=>obtain⟨_,_,_,_,o,_,_,e,_⟩:=x;exact Heap.lt_size e
 |set S n=>obtain⟨o,_,_,_,e,_⟩:=x;exact Heap.lt_size e
 |ins C dx fs=>obtain⟨_,_,_,e,_⟩:=x;exact Heap.lt_size e
 |own y=>obtain⟨_,e⟩:=x;exact Heap.lt_size e
 |xd fs=>obtain⟨_,⟨_,_,_,e,_⟩,_⟩:=x;exact Heap.lt_size e
 |VD lo hi=>obtain⟨_,_,_,e⟩:=x;exact Heap.lt_size e
 |GI ob u=>obtain⟨e,_⟩:=x;exact Heap.lt_size e
 |OH ps=>exact Heap.lt_size (show h.get? a=some _ from x)
 |met f y=>exact Heap.lt_size (show h.get? a=some _ from x)
 |ext φ=>obtain⟨_,⟨_,e⟩,_⟩:=x;exact Heap.lt_size e
theorem Paired.OI{α β:Type}{F G:α->β->Prop}:∀{l₁:List α}{l₂:List β},Paired F l₁ l₂->(∀a b,F a b->G a b)->Paired G l₁ l₂
 |_,_,.nil,_=>.nil
 |_,_,.cons r t,f=>.cons (f _ _ r) (Paired.OI t f)
theorem eG.qq(x:eG P w H h a o)(k:∀b u,(b=a\/H b=some (.own a))->h.get? b=some u->h'.get? b=some u)
  (ho:∀b,H b=some (.own a)->H' b=some (.own a)) (ht:∀b xs,H b=some (.tup xs)->H' b=some (.tup xs)):eG P w H' h' a o:=by
 induction o with
 |lst xs=>obtain⟨z,bo,n,r,e⟩:=x;exact⟨z,bo,n,r,k _ _ (.inl rfl) e⟩
 |tup xs=>obtain⟨z,bo,r,ob,e,c⟩:=x;exact⟨z,bo,r,ob,k _ _ (.inl rfl) e,c⟩
 |dK kvs=>obtain⟨z,y,vs,r,ob,es,ep,e,c⟩:=x;exact⟨z,y,vs,r,ob,es,ep,k _ _ (.inl rfl) e,c⟩
 |dT kvs =>
  obtain⟨z,y,xs,r,ob,es,ep,e,c⟩:=x;exact⟨z,y,xs,Paired.OI r fun p q z=>⟨z.1,ht _ _ z.2.1,z.2.2⟩,ob,es,ep,k _ _ (.inl rfl) e,c⟩
 |set S n=>obtain⟨ob,es,ep,t,e,c⟩:=x;exact⟨ob,es,ep,t,k _ _ (.inl rfl) e,c⟩
 |ins C dx fs =>
  obtain⟨d,z,ne,e,mA,⟨od,es,ep,e2,c⟩,r⟩:=x;exact⟨ho _ d,z,ne,k _ _ (.inl rfl) e,mA,⟨od,es,ep,k _ _ (.inr d) e2,c⟩,r⟩
 |own y=>obtain⟨ob,e⟩:=x;exact⟨ob,k _ _ (.inl rfl) e⟩
 |xd fs=>obtain⟨mA,⟨od,es,ep,e,c⟩,r⟩:=x;exact⟨mA,⟨od,es,ep,k _ _ (.inl rfl) e,c⟩,r⟩
 |VD lo hi=>obtain⟨t,u,v,e⟩:=x;exact⟨t,u,v,k _ _ (.inl rfl) e⟩
 |GI ob u ih=>obtain⟨e,q⟩:=x;exact⟨k _ _ (.inl rfl) e,ih q⟩
 |OH ps =>
  have e:h.get? a=some {cls:=.none,data:=.fields ps}:=x;show h'.get? a=some {cls:=.none,data:=.fields ps};exact k a _ (.inl rfl) e
 |met f y =>
  have e:h.get? a=some (methodObj (.ref f) (.ref y)):=x;show h'.get? a=some (methodObj (.ref f) (.ref y));exact k a _ (.inl rfl) e
 |ext φ=>obtain⟨p,⟨o,e⟩,st⟩:=x;exact⟨st _ _ p fun o q=>k _ _ (.inl rfl) q,⟨o,k _ _ (.inl rfl) e⟩,st⟩
theorem pj.lt(x:pj P w H h)(e:H a=some o):a<h.objs.size:=(x a o e).lt
theorem pj.fresh(x:pj P w H h)(e:h.objs.size<=a):H a=none:=by
 cases q:H a with
 |none=>rfl
 |some u=>exact absurd (lt_of_lt_of_le (x.lt q) e) (lt_irrefl _)
theorem pj.kept(x:pj P w H h)(k:∀b u,h.get? b=some u->h'.get? b=some u):pj P w H h':=fun a o e =>
 (x a o e).qq (fun b u _ q=>k b u q) (fun _ q=>q) fun _ _ q=>q
theorem pj.laid(x:pj P w H h)(k:∀b u,h.get? b=some u->h'.get? b=some u)(hp:h.objs.size<=a)(new:eG P w (upd H a o) h' a o):pj P w (upd H a o) h':=fun b u e=>by
 have hn:=x.fresh hp;by_cases hb:b=a
 ·subst hb;rw [bB]at e;cases e;exact new
 ·rw [aV hb]at e;exact(x b u e).qq (fun c v _ q=>k c v q) (fun c q=>by rw [aV (bT q hn)];exact q) fun c xs q=>by rw [aV (bT q hn)];exact q
end
def Rd(H:Hp)(a:Addr)(u:HO):Prop:=H a=some u\/∃o,H a=some (.GI o u)
theorem Rd.of{H:Hp}{a:Addr}{u:HO}(h:H a=some u):Rd H a u:=.inl h
theorem Rd.ok{P:Program}{w:World}{H:Hp}{h:Heap}{a:Addr}{u:HO}(r:Rd H a u)(x:pj P w H h):eG P w H h a u:=by
 rcases r with r|⟨o,r⟩
 ·exact x a u r
 ·obtain⟨_,q⟩:=x a _ r;exact q
def RT:Option HO->Prop
 |some (.lst _)=>True
 |some (.dK _)=>True
 |some (.dT _)=>True
 |some (.set _ _)=>True
 |some (.ins _ _ _)=>True
 |some (.ext _)=>True
 |_=>False
section
variable {P:Program}{w:World}{H:Hp}{h h':Heap}{x e:Addr}{o':HO}
theorem pj.write(ok:pj P w H h)(mu:RT (H x))(he:e=x\/H e=some (.own x))(k:∀b u,b≠e->h.get? b=some u->h'.get? b=some u)(Rp:∃u,h'.get? e=some u)
  (new:eG P w (upd H x o') h' x o'):pj P w (upd H x o') h':=fun b u q=>by
 have OJ:∀c y,H c=some (.own y)->c≠x:=fun c y r z=>by subst z;rw [r]at mu;exact mu
 have VE:∀c xs,H c=some (.tup xs)->c≠x:=fun c xs r z=>by subst z;rw [r]at mu;exact mu
 by_cases hb:b=x
 ·subst hb;rw [bB]at q;cases q;exact new
 ·rw [aV hb]at q;by_cases OK:b=e
  ·have q':H b=some (.own x):=by
    rcases he with z|z
    ·exact absurd (OK.trans z) hb
    ·rw [OK];exact z
   rw [q]at q';cases q'
   obtain⟨v,hv⟩:=Rp;exact⟨v,by rw [OK];exact hv⟩
  ·refine(ok b u q).qq (fun c v hc r=>k c v ?_ r) (fun c r=>by rw [aV (OJ c b r)];exact r) fun c xs r=>by rw [aV (VE c xs r)];exact r
   rcases hc with rfl|hc
   ·exact OK
   ·rintro rfl;rcases he with z|z
    ·exact OJ c b hc z
    ·rw [hc]at z;cases z;exact hb rfl
end
structure Un(fs ex:List Addr)(H H':Hp)(h h':Heap):Prop where
 keep:∀b o,h.get? b=some o->H b=none->b∉fs->b∉ex->h'.get? b=some o
 slot:∀b o,h.get? b=some o->H b=none->b∈fs->b∉ex->∃sl,h'.get? b=some {o with slots:=sl}
 free:∀b o,h.get? b=some o->H b=none->b∉ex->H' b=none
 there:∀b o,h.get? b=some o->b∉ex->∃o',h'.get? b=some o'
 qt:∀b xs,H b=some (.tup xs)->H' b=some (.tup xs)
 pk:∀b o u,H b=some (.GI o u)->H' b=some (.GI o u)
 qu:∀b ps,H b=some (.OH ps)->∃more,H' b=some (.OH (ps++more))
section
variable {fs VF ex ex':List Addr}{H H1 H2:Hp}{h h1 h2 h':Heap}{a x e:Addr}{o:HO}
theorem Un.any(u:Un fs ex H H1 h h1){b:Addr}{ob:Obj}(q:h.get? b=some ob)(n:H b=none)(hx:b∉ex):∃sl,h1.get? b=some {ob with slots:=sl}:=by
 by_cases hb:b∈fs
 ·exact u.slot b ob q n hb hx
 ·exact⟨ob.slots,u.keep b ob q n hb hx⟩
theorem Un.trans(a:Un fs ex H H1 h h1)(b:Un fs ex H1 H2 h1 h2):Un fs ex H H2 h h2 where
 keep:=fun c ob q n hc hx=>b.keep c ob (a.keep c ob q n hc hx) (a.free c ob q n hx) hc hx
 slot:=fun c ob q n hc hx=>by
  obtain⟨sl,e1⟩:=a.slot c ob q n hc hx;obtain⟨VG,e2⟩:=b.slot c _ e1 (a.free c ob q n hx) hc hx;exact⟨VG,e2⟩
 free:=fun c ob q n hx=>by
  obtain⟨o',e1⟩:=a.there c ob q hx;exact b.free c o' e1 (a.free c ob q n hx) hx
 there:=fun c ob q hx=>by
  obtain⟨o',e1⟩:=a.there c ob q hx;exact b.there c o' e1 hx
 qt:=fun c xs q=>b.qt c xs (a.qt c xs q)
 pk:=fun c ob xs q=>b.pk c ob xs (a.pk c ob xs q)
 qu:=fun c ps q=>by
  obtain⟨m1,e1⟩:=a.qu c ps q;obtain⟨m2,e2⟩:=b.qu c _ e1;exact⟨m1++m2,by rw [e2,Array.append_assoc]⟩
theorem Un.kept(k:∀b u,h.get? b=some u->h'.get? b=some u):Un fs ex H H h h' :=
 ⟨fun b ob q _ _ _=>k b ob q,fun b ob q _ _ _=>⟨ob.slots,k b ob q⟩,fun _ _ _ n _=>n,fun b ob q _=>⟨ob,k b ob q⟩,fun _ _ q=>q,fun _ _ _ q=>q,fun _ ps q=>⟨#[],by rw [q];simp⟩⟩
theorem Un.refl:Un fs ex H H h h:=Un.kept fun _ _ q=>q
theorem Un.laid(k:∀b u,h.get? b=some u->h'.get? b=some u)(hp:h.objs.size<=a)(hn:H a=none):Un fs ex H (upd H a o) h h' where
 keep:=fun b u q _ _ _=>k b u q
 slot:=fun b u q _ _ _=>⟨u.slots,k b u q⟩
 free:=fun b u q n _=>by rw [aV (ne_of_lt (lt_of_lt_of_le (Heap.lt_size q) hp))];exact n
 there:=fun b u q _=>⟨u,k b u q⟩
 qt:=fun b xs q=>by rw [aV (bT q hn)];exact q
 pk:=fun b u xs q=>by rw [aV (bT q hn)];exact q
 qu:=fun b ps q=>⟨#[],by rw [aV (bT q hn),q];simp⟩
theorem Un.write(mu:RT (H x))(he:e=x\/H e=some (.own x))(k:∀b u,b≠e->h.get? b=some u->h'.get? b=some u)(Rp:∃u,h'.get? e=some u):Un fs ex H (upd H x o) h h':=by
 have hx:∀b,H b=none->b≠x:=fun b n z=>by subst z;rw [n]at mu;exact mu
 have hb:∀b,H b=none->b≠e:=fun b n z=>by
  subst z;rcases he with r|r
  ·exact hx b n r
  ·rw [n]at r;cases r
 have hm:∀b u,H b=some u->¬RT (some u)->b≠x:=fun b u q nm z=>by subst z;rw [q]at mu;exact nm mu
 refine⟨fun b u q n _ _=>k b u (hb b n) q,fun b u q n _ _=>⟨u.slots,k b u (hb b n) q⟩,fun b u q n _=>by rw [aV (hx b n)];exact n,fun b u q _=>?_,
  fun b xs q=>by rw [aV (hm b _ q fun z=>z)];exact q,fun b u xs q=>by rw [aV (hm b _ q fun z=>z)];exact q,fun b ps q=>⟨#[],by rw [aV (hm b _ q fun z=>z),q];simp⟩⟩
 by_cases OK:b=e
 ·subst OK;exact Rp
 ·exact⟨u,k b u OK q⟩
theorem Un.mono(u:Un fs ex H H1 h h1)(hs:∀b∈fs,b∈VF)(hx:∀b∈ex,b∈ex'):Un VF ex' H H1 h h1 :=
 ⟨fun b ob q n hb he=>u.keep b ob q n (fun z=>hb (hs b z)) fun z=>he (hx b z),fun _ _ q n _ he=>u.any q n fun z=>he (hx _ z),fun b ob q n he=>u.free b ob q n fun z=>he (hx b z),fun b ob q he=>u.there b ob q fun z=>he (hx b z),u.qt,u.pk,u.qu⟩
end
def UH(h:Heap)(H:Hp):List Addr:=(List.range h.objs.size).filter fun a=>(H a).isSome
def xD(h:Heap)(H:Hp):Heap:=PySem.W.hideAll h (UH h H)
theorem EN(h:Heap)(H:Hp):(xD h H).objs.size=h.objs.size:=PySem.W.hideAll_size _ _
theorem GJ{h:Heap}{H:Hp}{b:Addr}{o:Obj}(e:h.get? b=some o)(n:H b=none):(xD h H).get? b=some o :=
 PySem.W.hideAll_get _ e fun hm=>by
  have q:(H b).isSome=true:=(mem_filter.mp hm).2;rw [n]at q;simp at q
theorem Kg{h:Heap}{H:Hp}{b:Addr}{o:Obj}(e:(xD h H).get? b=some o):h.get? b=some o/\H b=none:=by
 have e':h.get? b=some o:=PySem.W.of_hideAll (UH h H) e;refine⟨e',?_⟩
 cases q:H b with
 |none=>rfl
 |some x =>
  have hm:b∈UH h H:=mem_filter.mpr ⟨mem_range.mpr (Heap.lt_size e'),by simp [q]⟩;have z:(xD h H).get? b=none:=PySem.W.hideAll_none (UH h H) hm;rw [z]at e;cases e
def Kh(g h:Heap)(L:Addr):List (Addr×Obj):=(List.range h.objs.size).filterMap fun a=>if a=L\/(g.get? a).isSome=true then none else(h.get? a).map fun o=>(a,o)
def rest(g h:Heap)(L d:Addr):List (Addr×Obj):=(Kh g h L).filter fun p=>decide (p.1≠d)
structure Mod(K:PySem.W.Frag)(mg:Str->Option Value)(base:Heap):Prop where
 UI:K.In base
 glob:base.Ns mainGlobals mg
 blt:∃mb,base.Ns builtinsNs mb/\∀x:Str,x ≠ "__name__" -> mb x=bootBuiltins x
 nolimit:base.NoLimit
set_option genInjectivity false in
set_option genSizeOf false in
structure Cx where
 prog:Program
 w:World
 K:PySem.W.Frag
 mg:Str->Option Value
 base:Heap
 A:Around
 N:List Str
 s₀:Shared
 H₀:Hp
 env:Env
 outer:List Env
 stack:List Env
 ex:List Addr
 fn:Str->Bool
 calm:Bool
 pn:List (Addr×Obj)
 xe:Value->Shared->Prop
def GK(l:List Env):List Addr:=l.filterMap (·.frame)
abbrev Cx.fs(X:Cx):List Addr:=GK X.outer
def UJ(sc:Scope)(x:Str):Prop:=sc.names.lookup x=some .local\/sc.names.lookup x=some .cell\/sc.names.lookup x=some .free
def Loc(sc:Scope)(x:Str):Prop:=sc.names.lookup x=some .local\/sc.names.lookup x=some .cell
def Look(env:Env)(h:Heap)(m:Str->Option Value)(x:Str)(u:Value):Prop :=
 (env.kindOf x=some .local/\m x=some u)\/((env.kindOf x=some .cell\/env.kindOf x=some .free)/\∃c,env.cells.lookup x=some c/\h.IsCell c (some u))
structure Cx.Ok(X:Cx):Prop where
 mod:Mod X.K X.mg X.base
 kind:X.env.scope.kind=.function
 glob:X.env.globals=mainGlobals
 blt:X.env.builtins=builtinsNs
 above:X.s₀.heap.objs.size<=X.env.locals
 inj:∀x y c,X.env.cells.lookup x=some c->X.env.cells.lookup y=some c->x=y
 has:∀x,(X.env.kindOf x=some .cell\/X.env.kindOf x=some .free)->∃c,X.env.cells.lookup x=some c
 Rq:∀x c,X.fn x=true->X.env.cells.lookup x=some c->X.s₀.heap.objs.size<=c
 hd:X.calm=true->X.A.handled=none
 frames:X.A.frames=some X.stack
 RU:X.stack=X.outer\/(X.stack=X.env::X.outer/\X.env.frame=some X.env.locals)
 VH:∀b∈X.ex,b≠X.env.locals/\∀x c,X.env.cells.lookup x=some c->c≠b
 bs:∀b o,X.base.get? b=some o->X.s₀.heap.get? b=some o/\X.H₀ b=none
 GL:X.base.objs.size<=X.s₀.heap.objs.size
 EO:∀b o,X.base.get? b=some o->b∉X.ex
 GN:∀b∈X.ex,b∉X.fs
 qv:X.s₀.heap.FunFrames X.base X.outer
 Nq:∀b∈X.fs,X.H₀ b=none
structure Inv(X:Cx)(pins:List (Addr×Obj))(σ:List (Option V))(H:Hp)(s:Shared):Prop where
 ok:X.Ok
 os:s.os=X.s₀.os
 bare:AllBare s.gens
 base:Un X.fs X.ex X.H₀ H X.s₀.heap s.heap
 loc:∃m,s.heap.Ns X.env.locals m/\∀(i:Nat)(x:Str)(v:V),X.N[i]?=some x->σ[i]?=some (some v)->UJ X.env.scope x->∃u,RelV v u/\Look X.env s.heap m x u
 cell:∀x c,X.env.cells.lookup x=some c->∃v,s.heap.IsCell c v
 free:H X.env.locals=none
 nZ:∀x c,X.env.cells.lookup x=some c->H c=none
 pin:∀p∈X.pn++pins,s.heap.get? p.1=some p.2/\H p.1=none/\p.1≠X.env.locals/\p.1∉X.fs/\∀v,p.2.data ≠ .cell v
 dG:pj X.prog X.w H s.heap
 len:σ.length=X.N.length
section
variable {X:Cx}{pins:List (Addr×Obj)}{σ:List (Option V)}{H H':Hp}{s:Shared}{h':Heap}
theorem Cx.Ok.VI(ok:X.Ok){b:Addr}{o:Obj}(e:X.base.get? b=some o):b∉X.fs:=fun hb=>by
 have:=(ok.qv.mem hb).1;rw [e]at this;cases this
theorem Inv.bs(I:Inv X pins σ H s):∀b o,X.base.get? b=some o->s.heap.get? b=some o/\H b=none:=fun b o e =>
 ⟨I.base.keep b o (I.ok.bs b o e).1 (I.ok.bs b o e).2 (I.ok.VI e) (I.ok.EO b o e),I.base.free b o (I.ok.bs b o e).1 (I.ok.bs b o e).2 (I.ok.EO b o e)⟩
theorem Inv.bk(I:Inv X pins σ H s):∀b o,X.base.get? b=some o->s.heap.get? b=some o:=fun b o e=>(I.bs b o e).1
theorem Inv.mod(I:Inv X pins σ H s):Mod X.K X.mg X.base:=I.ok.mod
theorem Inv.wx(I:Inv X pins σ H s):X.K.In s.heap:=I.ok.mod.UI.keeps I.bk
theorem Inv.nolimit(I:Inv X pins σ H s):s.heap.NoLimit:=I.ok.mod.nolimit.keeps I.bk
theorem Inv.fr(I:Inv X pins σ H s):∃m,Fr X.base X.env.locals s.heap m :=
 let⟨m,hn,_⟩:=I.loc
 ⟨m,hn,I.bk,Nat.le_trans I.ok.GL I.ok.above⟩
theorem Inv.lt(I:Inv X pins σ H s):X.env.locals<s.heap.objs.size:=let⟨_,hn,_⟩:=I.loc;hn.lt
theorem Inv.sz(I:Inv X pins σ H s):X.s₀.heap.objs.size<=s.heap.objs.size:=Nat.le_trans I.ok.above (le_of_lt I.lt)
theorem Inv.VJ(I:Inv X pins σ H s){a:Addr}(h:s.heap.objs.size<=a):a∉X.fs:=fun hb=>by
 obtain⟨_,o,ho,_⟩:=I.ok.qv.mem hb;exact absurd (lt_of_lt_of_le (Heap.lt_size ho) (Nat.le_trans I.sz h)) (lt_irrefl _)
theorem Inv.OL(I:Inv X pins σ H s):∀x c,X.env.cells.lookup x=some c->c≠X.env.locals:=fun x c e z=>by
 obtain⟨v,o,ho,hd⟩:=I.cell x c e;obtain⟨m,⟨o',es,ep,OM,hd',_⟩,_⟩:=I.loc;rw [z,OM]at ho;cases ho;rw [hd']at hd;cases hd
theorem Inv.qv(I:Inv X pins σ H s):s.heap.FunFrames X.base X.outer:=by
 have all:∀(l:List Env),(∀b∈GK l,b∈X.fs)->X.s₀.heap.FunFrames X.base l->s.heap.FunFrames X.base l:=by
  intro l
  induction l with
  |nil=>intro _ _;trivial
  |cons env r ih =>
   intro hs hl;obtain⟨hk,⟨L,o,hf,hn,ho,hd⟩,hr⟩:=hl;have hL:L∈X.fs:=hs L (by unfold GK;rw [filterMap_cons,hf];exact mem_cons_self);obtain⟨sl,e⟩:=I.base.slot L o ho (I.ok.Nq L hL) hL fun z=>I.ok.GN L z hL;exact⟨hk,⟨L,_,hf,hn,e,hd⟩,ih (fun b hb=>hs b (by unfold GK;rw [filterMap_cons,hf];exact mem_cons_of_mem _ hb)) hr⟩
 exact all X.outer (fun _ hb=>hb) I.ok.qv
theorem Inv.stack(I:Inv X pins σ H s):s.heap.FunFrames X.base X.stack:=by
 rcases I.ok.RU with e|⟨e,hf⟩
 ·rw [e];exact I.qv
 ·rw [e];obtain⟨m,hn,_⟩:=I.loc;refine .cons (by rw [I.ok.kind];decide) hf hn ?_ I.qv;exact Heap.get?_none_of_le (Nat.le_trans I.ok.GL I.ok.above)
theorem Inv.xE(I:Inv X pins σ H s):∀b∈GK X.stack,b∈X.env.locals::X.fs:=fun b hb=>by
 rcases I.ok.RU with e|⟨e,hf⟩
 ·rw [e]at hb;exact mem_cons_of_mem _ hb
 ·rw [e]at hb;unfold GK at hb;rw [filterMap_cons,hf]at hb;exact hb
theorem Inv.DA(I:Inv X pins σ H s):∀b∈GK X.stack,H b=none:=fun b hb=>by
 rcases mem_cons.mp (I.xE b hb)with e|hb
 ·rw [e];exact I.free
 ·obtain⟨_,o,ho,_⟩:=I.ok.qv.mem hb;exact I.base.free b o ho (I.ok.Nq b hb) fun z=>I.ok.GN b z hb
theorem Inv.step{g':Array GenState}{t':Nat}{d':Drawn}{ch:List Addr}(I:Inv X pins σ H s)
  (JZ:∀b∈ch,(b∈X.ex\/X.s₀.heap.objs.size<=b)/\b≠X.env.locals/\(∀x c,X.env.cells.lookup x=some c->c≠b)/\∀p∈X.pn++pins,p.1≠b)
  (keep:∀b o,b≠X.env.locals->b∉X.fs->b∉ch->s.heap.get? b=some o->H b=none->h'.get? b=some o)
  (slot:∀b o,b≠X.env.locals->b∈X.fs->b∉ch->s.heap.get? b=some o->H b=none->∃sl,h'.get? b=some {o with slots:=sl}) (free:∀b o,b∉ch->s.heap.get? b=some o->H b=none->H' b=none)
  (there:∀b o,b∉ch->s.heap.get? b=some o->∃o',h'.get? b=some o')
  (qt:∀b xs,H b=some (.tup xs)->H' b=some (.tup xs)) (pk:∀b o u,H b=some (.GI o u)->H' b=some (.GI o u)) (qu:∀b ps,H b=some (.OH ps)->∃more,H' b=some (.OH (ps++more)))
  (ns:∀m,s.heap.Ns X.env.locals m->h'.Ns X.env.locals m) (dG:pj X.prog X.w H' h') (hg:AllBare g') :
  Inv X pins σ H' {s with heap:=h',gens:=g',drawn:=d',toks:=t'}:=by
 have neL:∀b o,X.s₀.heap.get? b=some o->b≠X.env.locals:=fun b o e=>ne_of_lt (lt_of_lt_of_le (Heap.lt_size e) I.ok.above);have UK:∀b o,X.s₀.heap.get? b=some o->b∉X.ex->b∉ch:=fun b o e hx hb=>by
  rcases(JZ b hb).1 with z|z
  ·exact hx z
  ·exact absurd (lt_of_lt_of_le (Heap.lt_size e) z) (lt_irrefl _)
 have cellK:∀x c,X.env.cells.lookup x=some c->∀v,s.heap.IsCell c v->h'.IsCell c v:=fun x c e v ⟨o,ho,hd⟩=>by
  have RV:c∉ch:=fun z=>(JZ c z).2.2.1 x c e rfl;by_cases hc:c∈X.fs
  ·obtain⟨sl,q⟩:=slot c o (I.OL x c e) hc RV ho (I.nZ x c e);exact⟨_,q,hd⟩
  ·exact⟨o,keep c o (I.OL x c e) hc RV ho (I.nZ x c e),hd⟩
 refine⟨I.ok,I.os,hg,⟨fun b o e n hb hx=>?_,fun b o e n hb hx=>?_,fun b o e n hx=>?_,fun b o e hx=>?_,fun b xs e=>qt b xs (I.base.qt b xs e),fun b o xs e=>pk b o xs (I.base.pk b o xs e),fun b ps e=>?_⟩,?_,fun x c e=>?_,?_,fun x c e=>?_,fun p hp=>?_,dG,I.len⟩
 ·exact keep b o (neL b o e) hb (UK b o e hx) (I.base.keep b o e n hb hx) (I.base.free b o e n hx)
 ·obtain⟨sl,e1⟩:=I.base.slot b o e n hb hx;obtain⟨VG,e2⟩:=slot b _ (neL b o e) hb (UK b o e hx) e1 (I.base.free b o e n hx);exact⟨VG,e2⟩
 ·obtain⟨o',e1⟩:=I.base.there b o e hx;exact free b o' (UK b o e hx) e1 (I.base.free b o e n hx)
 ·obtain⟨o',e1⟩:=I.base.there b o e hx;exact there b o' (UK b o e hx) e1
 ·obtain⟨m1,e1⟩:=I.base.qu b ps e;obtain⟨m2,e2⟩:=qu b _ e1;exact⟨m1++m2,by rw [e2,Array.append_assoc]⟩
 ·obtain⟨m,hn,hl⟩:=I.loc;refine⟨m,ns m hn,fun i x v e1 e2 e3=>?_⟩;obtain⟨u,r,l⟩:=hl i x v e1 e2 e3;refine⟨u,r,?_⟩;rcases l with l|⟨k,c,e,z⟩
  ·exact .inl l
  ·exact .inr ⟨k,c,e,cellK x c e _ z⟩
 ·obtain⟨v,z⟩:=I.cell x c e;exact⟨v,cellK x c e v z⟩
 ·obtain⟨m,⟨o,_,_,ho,_⟩,_⟩:=I.loc;exact free _ o (fun z=>(JZ _ z).2.1 rfl) ho I.free
 ·obtain⟨v,o,ho,hd⟩:=I.cell x c e;exact free c o (fun z=>(JZ c z).2.2.1 x c e rfl) ho (I.nZ x c e)
 ·obtain⟨e,n,ne,nf,d⟩:=I.pin p hp;have RV:p.1∉ch:=fun z=>(JZ p.1 z).2.2.2 p hp rfl;exact⟨keep p.1 p.2 ne nf RV e n,free p.1 p.2 RV e n,ne,nf,d⟩
theorem Inv.un{t':Nat}(I:Inv X pins σ H s)(u:Un X.fs [] H H' s.heap h')(dG:pj X.prog X.w H' h'):Inv X pins σ H' {s with heap:=h',toks:=t'}:=by
 obtain⟨m,⟨o,es,ep,ho,r⟩,_⟩:=id I.loc;obtain⟨sl,hL⟩:=u.any ho I.free (by simp);exact I.step (g':=s.gens) (d':=s.drawn) (ch:=[]) (fun _ z=>nomatch z) (fun b o _ hb _ e n=>u.keep b o e n hb (by simp)) (fun b o _ hb _ e n=>u.slot b o e n hb (by simp)) (fun b o _ e n=>u.free b o e n (by simp)) (fun b o _ e=>u.there b o e (by simp)) u.qt u.pk u.qu (fun m' hm=>by
  obtain⟨o',rP,VL,OM,r'⟩:=hm;rw [ho]at OM;cases OM
  exact⟨_,rP,VL,hL,r'⟩) dG I.bare
theorem Inv.call{g':Array GenState}{t':Nat}{d':Drawn}{ch:List Addr}(I:Inv X pins σ H s)(u:Un (GK X.stack) ch H H' s.heap h')(dG:pj X.prog X.w H' h')(hg:AllBare g')
  (JZ:∀b∈ch,(b∈X.ex\/X.s₀.heap.objs.size<=b)/\b≠X.env.locals/\(∀x c,X.env.cells.lookup x=some c->c≠b)/\∀p∈X.pn++pins,p.1≠b) :
  Inv X pins σ H' {s with heap:=h',gens:=g',drawn:=d',toks:=t'}:=by
 obtain⟨m,⟨o,es,ep,ho,r⟩,_⟩:=id I.loc;obtain⟨sl,hL⟩:=u.any ho I.free fun z=>(JZ _ z).2.1 rfl;exact I.step (ch:=ch) JZ (fun b o hL hb hc e n=>u.keep b o e n (fun z=>(mem_cons.mp (I.xE b z)).elim hL hb) hc) (fun b o _ _ hc e n=>u.any e n hc) (fun b o hc e n=>u.free b o e n hc) (fun b o hc e=>u.there b o e hc) u.qt u.pk u.qu (fun m' hm=>by
  obtain⟨o',rP,VL,OM,r'⟩:=hm;rw [ho]at OM;cases OM
  exact⟨_,rP,VL,hL,r'⟩) dG hg
theorem Inv.turned{t':Nat}{it:Addr}(I:Inv X pins σ H s)(k:∀b o,b≠it->s.heap.get? b=some o->h'.get? b=some o)(hn:H it=none)(hL:it≠X.env.locals)
  (h1:it∈X.ex\/X.s₀.heap.objs.size<=it) (h2:∀x c,X.env.cells.lookup x=some c->c≠it) (h3:∀p∈X.pn++pins,p.1≠it):Inv X pins σ H {s with heap:=h',toks:=t'}:=by
 have Nr:∀b u,H b=some u->b≠it:=fun b u e z=>by rw [z,hn]at e;cases e
 refine I.step (g':=s.gens) (d':=s.drawn) (ch:=[it]) (fun b hb=>?_) (fun b o _ _ hc e _=>k b o (fun z=>hc (by simp [z])) e) (fun b o _ _ hc e _=>⟨o.slots,k b o (fun z=>hc (by simp [z])) e⟩) (fun _ _ _ _ n=>n)
  (fun b o hc e=>⟨o,k b o (fun z=>hc (by simp [z])) e⟩) (fun _ _ e=>e) (fun _ _ _ e=>e) (fun b ps e=>⟨#[],by rw [e];simp⟩) (fun m hm=>?_) (fun b u e=>?_) I.bare
 ·have e:b=it:=by simpa using hb
  subst e;exact⟨h1,hL,h2,h3⟩
 ·obtain⟨o,es,ep,ho,r⟩:=hm;exact⟨o,es,ep,k _ o (Ne.symm hL) ho,r⟩
 ·refine(I.dG b u e).qq (fun c v hc q=>k c v ?_ q) (fun _ q=>q) fun _ _ q=>q;rcases hc with z|z
  ·rw [z];exact Nr b u e
  ·exact Nr c _ z
theorem Inv.tok(I:Inv X pins σ H s)(t:Nat):Inv X pins σ H {s with toks:=t}:=I.un (h':=s.heap) (t':=t) Un.refl I.dG
theorem Inv.kept{t':Nat}(I:Inv X pins σ H s)(k:∀b u,s.heap.get? b=some u->h'.get? b=some u):Inv X pins σ H {s with heap:=h',toks:=t'}:=I.un (Un.kept k) (I.dG.kept k)
theorem Inv.laid{a:Addr}{o:HO}{t':Nat}(I:Inv X pins σ H s)(k:∀b u,s.heap.get? b=some u->h'.get? b=some u)(hp:s.heap.objs.size<=a)(new:eG X.prog X.w (upd H a o) h' a o):
  Inv X pins σ (upd H a o) {s with heap:=h',toks:=t'}:=I.un (Un.laid k hp (I.dG.fresh hp)) (I.dG.laid k hp new)
theorem Inv.write{x e:Addr}{o:HO}{t':Nat}(I:Inv X pins σ H s)(mu:RT (H x))(he:e=x\/H e=some (.own x))(k:∀b u,b≠e->s.heap.get? b=some u->h'.get? b=some u)(Rp:∃u,h'.get? e=some u)
  (new:eG X.prog X.w (upd H x o) h' x o):Inv X pins σ (upd H x o) {s with heap:=h',toks:=t'}:=I.un (Un.write mu he k Rp) (I.dG.write mu he k Rp new)
theorem Inv.DB{Nt:List (Addr×Obj)}(I:Inv X pins σ H s)(h:∀p∈Nt,s.heap.get? p.1=some p.2/\H p.1=none/\p.1≠X.env.locals/\p.1∉X.fs/\∀v,p.2.data ≠ .cell v):Inv X Nt σ H s :=
 ⟨I.ok,I.os,I.bare,I.base,I.loc,I.cell,I.free,I.nZ,fun p hp=>(mem_append.mp hp).elim (fun z=>I.pin p (mem_append_left _ z)) (h p),I.dG,I.len⟩
theorem zI{N:List Str}(hN:N.Nodup){i j:Nat}{x:Str}(a:N[i]?=some x)(b:N[j]?=some x):i=j:=by
 obtain⟨h1,e1⟩:=List.getElem?_eq_some_iff.mp a;obtain⟨h2,e2⟩:=List.getElem?_eq_some_iff.mp b;exact(List.getElem_inj hN).mp (e1.trans e2.symm)
theorem wy{M:Model}{A:Around}{E:Value->Shared->Prop}{i:Nat}{x:Str}{v:V}{u:Value}{Q:Unit->Shared->Prop}(I:Inv X pins σ H s)(hN:X.N.Nodup)(hi:X.N[i]?=some x)(hx:Loc X.env.scope x)(r:RelV v u)
  (h:∀s',Inv X pins (σ.set i (some v)) H s'->(∃a,Heap.SameBut a s.heap s'.heap/\(a=X.env.locals\/X.env.cells.lookup x=some a))->Q () s') (hf:X.fn x=true\/X.env.scope.names.lookup x=some .local):wpAny M A (storeName X.env x u) Q E s:=by
 obtain⟨m,hn,hl⟩:=id I.loc;have VM:(X.env.scope.kind == .class||(X.env.scope.kind == .module&&X.env.locals != X.env.globals))=false:=by rw [I.ok.kind];rfl
 have hiσ:i<σ.length:=by rw [I.len];exact(List.getElem?_eq_some_iff.mp hi).1
 have OL:=I.OL;have tracked:∀{a:Addr}{h':Heap},(∃o,s.heap.get? a=some o/\H a=none)->Heap.SameBut a s.heap h'->pj X.prog X.w H h':=fun{a h'} ha hs b ob e=>by
  obtain⟨_,_,Nu⟩:=ha;refine(I.dG b ob e).qq (fun c w' hc q=>(hs.2 c ?_).trans q) (fun _ q=>q) fun _ _ q=>q;rintro rfl;rcases hc with rfl|hc
  ·rw [Nu]at e;cases e
  ·rw [Nu]at hc;cases hc
 rcases hx with hk|hk
 ·refine wpAny_storeName_local hk hn (fun h' VN hs=>?_) VM;obtain⟨oL,_,_,hoL,_⟩:=id hn;refine h _ ⟨I.ok,I.os,I.bare,⟨fun b o e n hb hx=>?_,fun b o e n hb hx=>?_,I.base.free,fun b o e hx=>?_,I.base.qt,I.base.pk,I.base.qu⟩,⟨_,VN,fun j y v' e1 e2 e3=>?_⟩,fun y c e=>?_,I.free,I.nZ,fun p hp=>?_,tracked ⟨oL,hoL,I.free⟩ hs,by simpa using I.len⟩ ⟨_,hs,.inl rfl⟩
  ·exact(hs.2 b (ne_of_lt (lt_of_lt_of_le (Heap.lt_size e) I.ok.above))).trans (I.base.keep b o e n hb hx)
  ·obtain⟨sl,e1⟩:=I.base.slot b o e n hb hx;exact⟨sl,(hs.2 b (ne_of_lt (lt_of_lt_of_le (Heap.lt_size e) I.ok.above))).trans e1⟩
  ·obtain⟨o',e1⟩:=I.base.there b o e hx;exact⟨o',(hs.2 b (ne_of_lt (lt_of_lt_of_le (Heap.lt_size e) I.ok.above))).trans e1⟩
  ·by_cases hj:j=i
   ·subst hj;rw [hi]at e1;cases e1
    rw [getElem?_set_self hiσ]at e2
    cases e2
    exact⟨u,r,.inl ⟨hk,by simp⟩⟩
   ·rw [getElem?_set_ne (Ne.symm hj)]at e2;obtain⟨u',r',q⟩:=hl j y v' e1 e2 e3;refine⟨u',r',?_⟩;rcases q with⟨k,e⟩|⟨k,c,e,z⟩
    ·refine .inl ⟨k,?_⟩;have:y≠x:=fun e=>hj (zI hN e1 (e▸hi));simp [this,e]
    ·exact .inr ⟨k,c,e,z.sameBut hs (OL y c e)⟩
  ·obtain⟨w',z⟩:=I.cell y c e;exact⟨w',z.sameBut hs (OL y c e)⟩
  ·obtain⟨e,n,ne,nf,d⟩:=I.pin p hp;exact⟨(hs.2 p.1 ne).trans e,n,ne,nf,d⟩
 ·have VO:X.fn x=true:=by
   rcases hf with z|z
   ·exact z
   ·rw [z]at hk;cases hk
  obtain⟨c,hc⟩:=I.ok.has x (.inl hk);obtain⟨w',z⟩:=I.cell x c hc;refine wpAny_storeName_cell I.ok.kind hk hc z (fun h' UL hs=>?_);obtain⟨oc,hoc,VP⟩:=id z;refine h {s with heap:=h'} ⟨I.ok,I.os,I.bare,⟨fun b o e n hb hx=>?_,fun b o e n hb hx=>?_,I.base.free,fun b o e hx=>?_,I.base.qt,I.base.pk,I.base.qu⟩,⟨m,hn.sameBut hs (Ne.symm (OL x c hc)),fun j y v' e1 e2 e3=>?_⟩,fun y c' e=>?_,I.free,I.nZ,fun p hp=>?_,tracked ⟨oc,hoc,I.nZ x c hc⟩ hs,by simpa using I.len⟩ ⟨c,hs,.inr hc⟩
  ·exact(hs.2 b (ne_of_lt (lt_of_lt_of_le (Heap.lt_size e) (I.ok.Rq x c VO hc)))).trans (I.base.keep b o e n hb hx)
  ·obtain⟨sl,e1⟩:=I.base.slot b o e n hb hx;exact⟨sl,(hs.2 b (ne_of_lt (lt_of_lt_of_le (Heap.lt_size e) (I.ok.Rq x c VO hc)))).trans e1⟩
  ·obtain⟨o',e1⟩:=I.base.there b o e hx;exact⟨o',(hs.2 b (ne_of_lt (lt_of_lt_of_le (Heap.lt_size e) (I.ok.Rq x c VO hc)))).trans e1⟩
  ·by_cases hj:j=i
   ·subst hj;rw [hi]at e1;cases e1
    rw [getElem?_set_self hiσ]at e2
    cases e2
    exact⟨u,r,.inr ⟨.inl hk,c,hc,UL⟩⟩
   ·rw [getElem?_set_ne (Ne.symm hj)]at e2;obtain⟨u',r',q⟩:=hl j y v' e1 e2 e3;refine⟨u',r',?_⟩;rcases q with q|⟨k,c',e,z'⟩
    ·exact .inl q
    ·refine .inr ⟨k,c',e,z'.sameBut hs ?_⟩;rintro rfl;exact hj (zI hN e1 (I.ok.inj _ _ _ e hc▸hi))
  ·by_cases hcc:c'=c
   ·subst hcc;exact⟨_,UL⟩
   ·obtain⟨w2,z2⟩:=I.cell y c' e;exact⟨w2,z2.sameBut hs hcc⟩
  ·obtain⟨e,n,ne,nf,d⟩:=I.pin p hp;refine⟨(hs.2 p.1 ?_).trans e,n,ne,nf,d⟩;intro q;rw [q,hoc]at e;have q':oc=p.2:=Option.some.inj e;exact d w' (by rw [<-q'];exact VP)
theorem zJ{M:Model}{A:Around}{E:Value->Shared->Prop}{i:Nat}{x:Str}{v:V}{u:Value}{Q:Unit->Shared->Prop}(I:Inv X pins σ H s)(hN:X.N.Nodup)(hi:X.N[i]?=some x)(hx:Loc X.env.scope x)(r:RelV v u)
  (h:∀s',Inv X pins (σ.set i (some v)) H s'->Q () s') (hf:X.fn x=true\/X.env.scope.names.lookup x=some .local:=by first|exact .inl rfl|exact .inr rfl|assumption):wpAny M A (storeName X.env x u) Q E s :=
 wy I hN hi hx r (fun s' I' _=>h s' I') hf
theorem Inv.RW{s':Shared}{ch:List Addr}(I:Inv X pins σ H s)(ho:s'.os=s.os)(u:Un (GK X.stack) ch H H' s.heap s'.heap)(dG:pj X.prog X.w H' s'.heap)(hg:AllBare s'.gens)
  (JZ:∀b∈ch,(b∈X.ex\/X.s₀.heap.objs.size<=b)/\b≠X.env.locals/\(∀x c,X.env.cells.lookup x=some c->c≠b)/\∀p∈X.pn++pins,p.1≠b):Inv X pins σ H' s':=by
 obtain⟨h',g',d',t',o'⟩:=s';have e:o'=s.os:=ho;subst e;exact I.call (g':=g') (t':=t') (d':=d') u dG hg JZ
end
abbrev XK:=Value->Option Addr->Hp->Prop
abbrev St:=List (Option V)
abbrev VK:=V->Hp->Prop
abbrev TE:=St->Hp->VK->Prop
abbrev TT:=St->Hp->(Bool->Hp->Prop)->Prop
abbrev TA:=St->Hp->(List V->Hp->Prop)->Prop
structure Ends where
 nx:St->Hp->Prop
 rt:VK
 bk:St->Hp->Prop:=fun _ _=>False
 ct:St->Hp->Prop:=fun _ _=>False
abbrev TS:=Ends->St->Hp->Prop
def EP(X:Cx)(pins:List (Addr×Obj))(σ:St)(Q:VK)(u:Value)(s':Shared):Prop:=∃v H',Inv X pins σ H' s'/\RelV v u/\Q v H'
def TP(X:Cx)(pins:List (Addr×Obj))(σ:St)(Q:Bool->Hp->Prop)(b:Bool)(s':Shared):Prop:=∃H',Inv X pins σ H' s'/\Q b H'
def AP(X:Cx)(pins:List (Addr×Obj))(σ:St)(Q:List V->Hp->Prop)(us:List Value)(s':Shared):Prop:=∃vs H',Inv X pins σ H' s'/\Vals vs us/\Q vs H'
def SP(X:Cx)(pins:List (Addr×Obj))(D:Ends)(f:Flow)(s':Shared):Prop :=
 match f with
 |.next=>∃σ' H',Inv X pins σ' H' s'/\D.nx σ' H'
 |.brk=>∃σ' H',Inv X pins σ' H' s'/\D.bk σ' H'
 |.cont=>∃σ' H',Inv X pins σ' H' s'/\D.ct σ' H'
 |.ret u=>∃v σ' H',Inv X pins σ' H' s'/\RelV v u/\D.rt v H'
def PE(X:Cx)(e:Expr)(t:TE):Prop :=
 ∀(pins:List (Addr×Obj))(s:Shared)(σ:St)(H:Hp)(Q:VK),Inv X pins σ H s->t σ H Q->wpAny (model X.prog X.w) X.A (eval e X.env) (EP X pins σ Q) X.xe s
def PT(X:Cx)(e:Expr)(t:TT):Prop :=
 ∀(pins:List (Addr×Obj))(s:Shared)(σ:St)(H:Hp)(Q:Bool->Hp->Prop),Inv X pins σ H s->t σ H Q->wpAny (model X.prog X.w) X.A (isTrue e X.env (eval e X.env)) (TP X pins σ Q) X.xe s
def PW(X:Cx)(e:Expr)(t:TT):Prop :=
 ∀(whole:Sem Value)(pins:List (Addr×Obj))(s:Shared)(σ:St)(H:Hp)(Q:Bool->Hp->Prop),Inv X pins σ H s->t σ H Q->wpAny (model X.prog X.w) X.A (isTrue e X.env whole) (TP X pins σ Q) X.xe s
theorem PW.pt{X:Cx}{e:Expr}{t:TT}(h:PW X e t):PT X e t:=h _
def PA(X:Cx)(es:List Expr)(t:TA):Prop :=
 ∀(pos:Pos)(pins:List (Addr×Obj))(s:Shared)(σ:St)(H:Hp)(Q:List V->Hp->Prop),Inv X pins σ H s->t σ H Q->wpAny (model X.prog X.w) X.A (spliced (backTo pos (starEach es X.env))) (AP X pins σ Q) X.xe s
def PS(X:Cx)(st:Stmt)(t:TS):Prop :=
 ∀(pins:List (Addr×Obj))(s:Shared)(σ:St)(H:Hp)(D:Ends),Inv X pins σ H s->t D σ H->wpAny (model X.prog X.w) X.A (exec st X.env) (SP X pins D) X.xe s
def vi(X:Cx)(st:List Stmt)(t:TS):Prop :=
 ∀(pins:List (Addr×Obj))(s:Shared)(σ:St)(H:Hp)(D:Ends),Inv X pins σ H s->t D σ H->wpAny (model X.prog X.w) X.A (execs st X.env) (SP X pins D) X.xe s
theorem eC{α:Type}{t:Sem α}{Q Q':α->Shared->Prop}{M:Model}{A:Around}{E:Value->Shared->Prop}{s:Shared}(h:wpAny M A t Q E s)(hQ:∀a s,Q a s->Q' a s):wpAny M A t Q' E s:=wpAny_mono h hQ fun _ _ x=>x
section
variable {X:Cx}
def ER(i:Nat):TE:=fun σ H Q=>∃v,σ[i]?=some (some v)/\Q v H
def tC(v:V):TE:=fun _ H Q=>Q v H
theorem ON{i:Nat}{x:Str}{pos:Pos}(hN:X.N[i]?=some x)(hv:UJ X.env.scope x)(hd:(x==("__debug__" : Str))=false:=by decide)(ES:(x==("__classdict__" : Str))=false:=by decide):PE X (.Name x pos) (ER i):=by
 intro pins s σ H Q I h;obtain⟨v,e,h⟩:=h;obtain⟨m,hn,hl⟩:=I.loc;obtain⟨u,r,l⟩:=hl i x v hN e hv;have fin:EP X pins σ Q u s:=⟨v,H,I,r,h⟩;rcases l with⟨hk,hm⟩|⟨hk,c,hc,DC⟩
 ·exact wpAny_Name (wpAny_loadName_local I.ok.kind hk hn hm fin) hd
 ·rcases hk with hk|hk
  ·exact wpAny_Name (wpAny_loadName_cell I.ok.kind hk hc DC fin) hd
  ·exact wpAny_Name (wpAny_loadName_free I.ok.kind hk hc DC fin ES) hd
theorem OO{i j pos}:PE X (.Constant (.int i) j pos) (tC (.int i)):=fun _ _ _ H _ I h=>wpAny_Constant_int ⟨.int i,H,I.tok _,⟨_,rfl⟩,h⟩
theorem RX{b j pos}:PE X (.Constant (.bool b) j pos) (tC (.bl b)):=fun _ _ _ H _ I h=>Constant_bool ⟨.bl b,H,I,rfl,h⟩
theorem OP{j pos}:PE X (.Constant .none j pos) (tC .cg):=fun _ _ _ H _ I h=>Constant_none ⟨.cg,H,I,rfl,h⟩
theorem OQ{x j pos}:PE X (.Constant (.str x) j pos) (tC (.str x)):=fun _ _ _ H _ I h=>Calls.Constant_str ⟨.str x,H,I.tok _,⟨_,rfl⟩,h⟩
def Gl(X:Cx)(x:Str):Prop:=X.env.kindOf x=some .globalImplicit
theorem xF{E:Value->Shared->Prop}{pins:List (Addr×Obj)}{s:Shared}{σ:St}{H:Hp}{x:Str}{u:Value}{pos:Pos}{Q:Value->Shared->Prop}(I:Inv X pins σ H s)(hg:Gl X x)(hm:X.mg x=some u)(h:Q u s)
  (hd:(x==("__debug__" : Str))=false:=by decide):wpAny (model X.prog X.w) X.A (eval (.Name x pos) X.env) Q E s :=
 Calls.Name_function_global I.ok.kind hg (Calls.loadGlobal_global (by rw [I.ok.glob];exact I.mod.glob.keeps I.bk) hm h) hd
theorem iG{E:Value->Shared->Prop}{pins:List (Addr×Obj)}{s:Shared}{σ:St}{H:Hp}{x:Str}{u:Value}{pos:Pos}{Q:Value->Shared->Prop}(I:Inv X pins σ H s)(hg:Gl X x)(hm:X.mg x=none)(hv:bootBuiltins x=some u)(h:Q u s)
  (hn:x ≠ "__name__" := by decide) (hd:(x==("__debug__" : Str))=false:=by decide):wpAny (model X.prog X.w) X.A (eval (.Name x pos) X.env) Q E s:=by
 obtain⟨mb,h1,h2⟩:=I.mod.blt;exact Calls.Name_function_global I.ok.kind hg (Calls.loadGlobal_builtin (by rw [I.ok.glob];exact I.mod.glob.keeps I.bk) hm (by rw [I.ok.blt];exact h1.keeps I.bk) ((h2 x hn).trans hv) h) hd
theorem Ki{x:Str}{v:V}{u:Value}{pos:Pos}(hg:Gl X x)(hm:X.mg x=some u)(r:RelV v u)(hd:(x==("__debug__" : Str))=false:=by decide):PE X (.Name x pos) (tC v) :=
 fun _ _ _ H _ I h=>xF I hg hm ⟨v,H,I,r,h⟩ hd
theorem Kj{x:Str}{v:V}{u:Value}{pos:Pos}(hg:Gl X x)(hm:X.mg x=none)(hv:bootBuiltins x=some u)(r:RelV v u)(hn:x ≠ "__name__" := by decide)(hd:(x==("__debug__" : Str))=false:=by decide):PE X (.Name x pos) (tC v) :=
 fun _ _ _ H _ I h=>iG I hg hm hv ⟨v,H,I,r,h⟩ hn hd
variable {a b:Expr}{ta tb:TE}{pos:Pos}
def tB(t:TE):TT:=fun σ H Q=>t σ H fun x H1=>∃c,x=.bl c/\Q c H1
theorem OR{e:Expr}{t:TE}(h:PE X e t)(he:∀whole,isTrue e X.env whole=(do let v<-whole;standAt e.pos;holding [v] (truthy v)):=by intro _;rfl):PT X e (tB t):=by
 intro pins s σ H Q I hw;refine isTrue_plain (eC (h pins s σ H _ I hw) fun v s1 ⟨x,H1,I1,r1,q1⟩=>?_) (he _);obtain⟨d,rfl,q⟩:=q1
 cases r1
 exact wpAny_truthy_bool ⟨H1,I1,q⟩
variable {tA UM:TT}{rest:List Expr}
def VQ(t u:TT):TT:=fun σ H Q=>t σ H fun c H1=>if c=true then u σ H1 Q else Q false H1
def tOr(t u:TT):TT:=fun σ H Q=>t σ H fun c H1=>if c=true then Q true H1 else u σ H1 Q
def VR(t:TT):TT:=fun σ H Q=>t σ H fun c H1=>Q (!c) H1
theorem Kk(ha:PT X a tA):PW X (.BoolOp .And [a] pos) tA:=by
 intro wh pins s σ H Q I h;refine isTrue_and (eC (ha pins s σ H Q I h) fun c s1 e=>?_)
 cases c with
 |true=>exact isTrue_and_nil e
 |false=>exact e
theorem OS(ha:PT X a tA):PW X (.BoolOp .Or [a] pos) tA:=by
 intro wh pins s σ H Q I h;refine isTrue_or (eC (ha pins s σ H Q I h) fun c s1 e=>?_)
 cases c with
 |false=>exact isTrue_or_nil e
 |true=>exact e
theorem GO(ha:PT X a tA)(hb:PW X (.BoolOp .And (b::rest) pos) UM):PW X (.BoolOp .And (a::b::rest) pos) (VQ tA UM):=by
 intro wh pins s σ H Q I h;refine isTrue_and (eC (ha pins s σ H _ I h) fun c s1 ⟨H1,I1,q1⟩=>?_)
 cases c with
 |true=>exact hb wh pins s1 σ H1 Q I1 q1
 |false=>exact⟨H1,I1,q1⟩
theorem Nv(ha:PT X a tA)(hb:PW X (.BoolOp .Or (b::rest) pos) UM):PW X (.BoolOp .Or (a::b::rest) pos) (tOr tA UM):=by
 intro wh pins s σ H Q I h;refine isTrue_or (eC (ha pins s σ H _ I h) fun c s1 ⟨H1,I1,q1⟩=>?_)
 cases c with
 |true=>exact⟨H1,I1,q1⟩
 |false=>exact hb wh pins s1 σ H1 Q I1 q1
theorem OT(ha:PT X a tA):PT X (.UnaryOp .Not a pos) (VR tA):=by
 intro pins s σ H Q I h;exact isTrue_not (ha pins s σ H (fun c H1=>Q (!c) H1) I h)
def RY(ta tb:TE):TE:=fun σ H Q=>ta σ H fun x H1=>∃c,x=.bl c/\if c=true then tb σ H1 Q else Q (.bl false) H1
def VS(ta tb:TE):TE:=fun σ H Q=>ta σ H fun x H1=>∃c,x=.bl c/\if c=true then Q (.bl true) H1 else tb σ H1 Q
def RZ(ta:TE):TE:=fun σ H Q=>ta σ H fun x H1=>∃c,x=.bl c/\Q (.bl (!c)) H1
theorem OU{op}{t:TE}(h:PE X a t):PE X (.BoolOp op [a] pos) t:=fun pins s σ H Q I hw=>BoolOp_one (h pins s σ H Q I hw)
theorem GP(ha:PE X a ta)(hb:PE X (.BoolOp .And (b::rest) pos) tb):PE X (.BoolOp .And (a::b::rest) pos) (RY ta tb):=by
 intro pins s σ H Q I h;refine BoolOp_and (eC (ha pins s σ H _ I h) fun v s1 ⟨x,H1,I1,r1,q1⟩=>?_);obtain⟨c,rfl,q1⟩:=q1
 cases r1
 refine wpAny_truthy_bool ?_
 cases c with
 |true=>exact hb pins s1 σ H1 Q I1 q1
 |false=>exact⟨.bl false,H1,I1,rfl,q1⟩
theorem Nw(ha:PE X a ta)(hb:PE X (.BoolOp .Or (b::rest) pos) tb):PE X (.BoolOp .Or (a::b::rest) pos) (VS ta tb):=by
 intro pins s σ H Q I h;refine BoolOp_or (eC (ha pins s σ H _ I h) fun v s1 ⟨x,H1,I1,r1,q1⟩=>?_);obtain⟨c,rfl,q1⟩:=q1
 cases r1
 refine wpAny_truthy_bool ?_
 cases c with
 |false=>exact hb pins s1 σ H1 Q I1 q1
 |true=>exact⟨.bl true,H1,I1,rfl,q1⟩
theorem OV(ha:PE X a ta):PE X (.UnaryOp .Not a pos) (RZ ta):=by
 intro pins s σ H Q I h;refine UnaryOp_ (eC (ha pins s σ H _ I h) fun v s1 ⟨x,H1,I1,r1,q1⟩=>?_);obtain⟨c,rfl,q1⟩:=q1
 cases r1
 exact not_of (wpAny_truthy_bool ⟨.bl (!c),H1,I1,rfl,q1⟩)
def tIf(t:TT)(ta tb:TE):TE:=fun σ H Q=>t σ H fun c H1=>if c=true then ta σ H1 Q else tb σ H1 Q
theorem zK{c:Expr}(hc:PT X c tA)(ha:PE X a ta)(hb:PE X b tb):PE X (.IfExp c a b pos) (tIf tA ta tb):=by
 intro pins s σ H Q I h;refine wpAny_IfExp (eC (hc pins s σ H _ I h) fun d s1 ⟨H1,I1,q1⟩=>?_)
 cases d with
 |true=>exact ha pins s1 σ H1 Q I1 q1
 |false=>exact hb pins s1 σ H1 Q I1 q1
end
def nV(K:PySem.W.Frag)(H:Hp)(a:Addr)(xs:List V):Prop :=
 Rd H a (.lst xs) \/
  ∃(o:Obj) (bo:Array Value) (n:Nat),K.lookup a=some o/\o.cls=.type "list" /\ o.dict=none/\o.data=.seq bo n/\bo.size<=sizeLine/\Vals xs bo.toList
def vm(K:PySem.W.Frag)(H:Hp)(a:Addr)(xs:List V):Prop :=
 Rd H a (.tup xs) \/
  ∃(o:Obj) (bo:Array Value) (n:Nat),K.lookup a=some o/\o.cls=.type "tuple" /\ o.data=.seq bo n/\bo.size<=sizeLine/\Vals xs bo.toList
def VT:Value->Option V
 |.none=>some .cg
 |.bool b=>some (.bl b)
 |.int i _=>some (.int i)
 |.str x _=>some (.str x)
 |.bytes b _=>some (.GH b)
 |.float b _=>some (.VC b)
 |.ref a=>some (.ref a)
 |.type n=>some (.ty n)
 |_=>none
theorem RelV.abs{x:V}{u:Value}(r:RelV x u):VT u=some x:=by
 cases x with
 |cg=>cases r;rfl
 |bl _=>cases r;rfl
 |int _=>obtain⟨t,rfl⟩:=r;rfl
 |str _=>obtain⟨t,rfl⟩:=r;rfl
 |GH _=>obtain⟨t,rfl⟩:=r;rfl
 |VC _=>obtain⟨t,rfl⟩:=r;rfl
 |ref _=>cases r;rfl
 |ty _=>cases r;rfl
theorem RelV.inj{x y:V}{u:Value}(r:RelV x u)(q:RelV y u):x=y:=Option.some.inj (r.abs.symm.trans q.abs)
theorem Vals.inj{xs ys:List V}{us:List Value}(h:Vals xs us):Vals ys us->xs=ys:=by
 induction h generalizing ys with
 |nil=>intro q;cases q;rfl
 |cons r t ih=>intro q;cases q with|cons r' t'=>rw [r.inj r',ih t']
section
variable {X:Cx}{pins:List (Addr×Obj)}{σ:St}{H:Hp}{s:Shared}{a:Addr}{xs ys:List V}
theorem nV.of{K:PySem.W.Frag}(h:H a=some (.lst xs)):nV K H a xs:=.inl (.inl h)
theorem vm.of{K:PySem.W.Frag}(h:H a=some (.tup xs)):vm K H a xs:=.inl (.inl h)
theorem Inv.list(I:Inv X pins σ H s)(h:nV X.K H a xs):∃bo:List Value,Vals xs bo/\PlainL s.heap a bo.toArray/\xs.length<=sizeLine:=by
 rcases h with h|⟨o,bo,n,hk,hc,hd,hs,hz,r⟩
 ·obtain⟨z,bo,n,r,e⟩:=h.ok I.dG;exact⟨bo,r,⟨_,n,e,rfl,rfl,rfl⟩,z⟩
 ·refine⟨bo.toList,r,⟨o,n,I.wx a o hk,hc,hd,by simpa using hs⟩,?_⟩;have e:=r.length;simp only [length_toList]at e;omega
theorem Inv.tuple(I:Inv X pins σ H s)(h:vm X.K H a xs):∃bo:List Value,Vals xs bo/\IsTup s.heap a bo.toArray/\xs.length<=sizeLine:=by
 rcases h with h|⟨o,bo,n,hk,hc,hs,hz,r⟩
 ·obtain⟨z,bo,r,p⟩:=h.ok I.dG;exact⟨bo,r,p,z⟩
 ·refine⟨bo.toList,r,⟨o,I.wx a o hk,hc,n,by simpa using hs⟩,?_⟩;have e:=r.length;simp only [length_toList]at e;omega
theorem Inv.sO(I:Inv X pins σ H s)(h:nV X.K H a xs)(h':nV X.K H a ys):xs=ys:=by
 obtain⟨bo,r,⟨o,n,e,_,_,d⟩,_⟩:=I.list h;obtain⟨its',r',⟨o',n',e',_,_,d'⟩,_⟩:=I.list h';rw [e]at e';cases e'
 rw [d]at d';injection d' with d1 _;have:bo=its':=by simpa using congrArg Array.toList d1
 subst this;exact r.inj r'
theorem Inv.ET(I:Inv X pins σ H s)(h:vm X.K H a xs)(h':vm X.K H a ys):xs=ys:=by
 obtain⟨bo,r,⟨o,e,_,n,d⟩,_⟩:=I.tuple h;obtain⟨its',r',⟨o',e',_,n',d'⟩,_⟩:=I.tuple h';rw [e]at e';cases e'
 rw [d]at d';injection d' with d1 _;have:bo=its':=by simpa using congrArg Array.toList d1
 subst this;exact r.inj r'
end
abbrev Cx.rQ(X:Cx)(E:Value->Shared->Prop):Cx:={X with xe:=E}
abbrev Cx.GQ(X:Cx):Cx:=X.rQ fun _ _=>False
theorem Cx.Ok.rQ{X:Cx}(ok:X.Ok)(E:Value->Shared->Prop):(X.rQ E).Ok :=
 ⟨ok.mod,ok.kind,ok.glob,ok.blt,ok.above,ok.inj,ok.has,ok.Rq,ok.hd,ok.frames,ok.RU,ok.VH,ok.bs,ok.GL,ok.EO,ok.GN,ok.qv,ok.Nq⟩
theorem Cx.Ok.ji{X:Cx}{E:Value->Shared->Prop}(ok:(X.rQ E).Ok):X.Ok :=
 ⟨ok.mod,ok.kind,ok.glob,ok.blt,ok.above,ok.inj,ok.has,ok.Rq,ok.hd,ok.frames,ok.RU,ok.VH,ok.bs,ok.GL,ok.EO,ok.GN,ok.qv,ok.Nq⟩
section
variable {X:Cx}{pins:List (Addr×Obj)}{σ:St}{H:Hp}{s:Shared}{E:Value->Shared->Prop}
theorem Inv.rQ(I:Inv X pins σ H s)(E:Value->Shared->Prop):Inv (X.rQ E) pins σ H s:=⟨I.ok.rQ E,I.os,I.bare,I.base,I.loc,I.cell,I.free,I.nZ,I.pin,I.dG,I.len⟩
theorem Inv.ji(I:Inv (X.rQ E) pins σ H s):Inv X pins σ H s:=⟨I.ok.ji,I.os,I.bare,I.base,I.loc,I.cell,I.free,I.nZ,I.pin,I.dG,I.len⟩
theorem SP.ji{D:Ends}{f:Flow}{s':Shared}(h:SP (X.rQ E) pins D f s'):SP X pins D f s':=by
 cases f with
 |next=>obtain⟨σ',H',I,q⟩:=h;exact⟨σ',H',I.ji,q⟩
 |brk=>obtain⟨σ',H',I,q⟩:=h;exact⟨σ',H',I.ji,q⟩
 |cont=>obtain⟨σ',H',I,q⟩:=h;exact⟨σ',H',I.ji,q⟩
 |ret u=>obtain⟨v,σ',H',I,r,q⟩:=h;exact⟨v,σ',H',I.ji,r,q⟩
theorem PE.GQ{e:Expr}{t:TE}(h:PE X.GQ e t):PE X e t:=fun pins s σ H Q I hw =>
 wpAny_mono (h pins s σ H Q (I.rQ _) hw) (fun _ _ ⟨v,H',I',r,q⟩=>⟨v,H',I'.ji,r,q⟩) fun _ _ z=>False.elim z
theorem PT.GQ{e:Expr}{t:TT}(h:PT X.GQ e t):PT X e t:=fun pins s σ H Q I hw =>
 wpAny_mono (h pins s σ H Q (I.rQ _) hw) (fun _ _ ⟨H',I',q⟩=>⟨H',I'.ji,q⟩) fun _ _ z=>False.elim z
theorem vi.GQ{st:List Stmt}{t:TS}(h:vi X.GQ st t):vi X st t:=fun pins s σ H D I hw =>
 wpAny_mono (h pins s σ H D (I.rQ _) hw) (fun _ _ q=>q.ji) fun _ _ z=>False.elim z
end
section
variable {X:Cx}{st:Stmt}{rest:List Stmt}{t u:TS}{e:Expr}{te:TE}{pos:Pos}
def R0:TS:=fun D σ H=>D.nx σ H
def VU(t u:TS):TS:=fun D σ H=>t {D with nx:=u D} σ H
theorem Kl:vi X [] R0:=fun _ _ σ H _ I h=>wpAny_execs_nil ⟨σ,H,I,h⟩
theorem zL(h1:PS X st t)(h2:vi X rest u):vi X (st::rest) (VU t u):=by
 intro pins s σ H D I h;refine wpAny_execs_cons (eC (h1 pins s σ H {D with nx:=u D} I h) fun f s1 q=>?_)
 cases f with
 |next =>
  obtain⟨σ',H',I',q⟩:=q;exact h2 pins s1 σ' H' D I' q
 |ret v=>exact q
 |brk=>exact q
 |cont=>exact q
theorem Km(h1:PS X st t):vi X [st] t:=by
 intro pins s σ H D I h;refine wpAny_execs_cons (eC (h1 pins s σ H D I h) fun f s1 q=>?_)
 cases f with
 |next=>exact wpAny_execs_nil q
 |ret v=>exact q
 |brk=>exact q
 |cont=>exact q
theorem Inv.quiet{pins:List (Addr×Obj)}{σ:St}{H:Hp}{s:Shared}(I:Inv X pins σ H s):interactive X.env=false:=by simp [interactive,I.ok.kind]
def R1(te:TE):TS:=fun D σ H=>te σ H fun _ H1=>D.nx σ H1
theorem DD(he:PE X e te)(hs:swapsWith e none pos.line X.env=pure false:=by rfl):PS X (.Expr e pos) (R1 te):=by
 intro pins s σ H D I h;exact wpAny_Expr_any (eC (he pins s σ H _ I h) fun v s1 ⟨x,H1,I1,r1,q1⟩=>⟨σ,H1,I1,q1⟩) I.quiet hs
def VV(te:TE):TS:=fun D σ H=>te σ H D.rt
theorem GR(he:PE X e te):PS X (.Return (some e) pos) (VV te):=by
 intro pins s σ H D I h;exact wpAny_Return_some (eC (he pins s σ H _ I h) fun v s1 ⟨x,H1,I1,r1,q1⟩=>⟨x,σ,H1,I1,r1,q1⟩)
def R3:TS:=fun D _ H=>D.rt .cg H
theorem Kn:PS X (.Return none pos) R3:=fun _ _ σ H _ I h=>wpAny_Return_none ⟨.cg,σ,H,I,rfl,h⟩
def VW(c:TT)(t u:TS):TS:=fun D σ H=>c σ H fun b H1=>if b=true then t D σ H1 else u D σ H1
theorem GS{c:Expr}{a b:List Stmt}{tc:TT}(hc:PT X c tc)(ha:vi X a t)(hb:vi X b u):PS X (.If c a b pos) (VW tc t u):=by
 intro pins s σ H D I h;refine wpAny_If (eC (hc pins s σ H _ I h) fun d s1 ⟨H1,I1,q1⟩=>?_)
 cases d with
 |true=>exact ha pins s1 σ H1 D I1 q1
 |false=>exact hb pins s1 σ H1 D I1 q1
def OW:TS:=fun _ _ _=>False
theorem jI{sts:List Stmt}:vi X sts OW:=fun _ _ _ _ _ _ h=>h.elim
end
abbrev TG:=V->St->Hp->(St->Hp->Prop)->Prop
abbrev Ko:=List V->St->Hp->(St->Hp->Prop)->Prop
def PG(X:Cx)(target:Expr)(t:TG):Prop :=
 ∀(pins:List (Addr×Obj))(s:Shared)(σ:St)(H:Hp)(v:V)(u:Value)(Q:St->Hp->Prop),Inv X pins σ H s->RelV v u->t v σ H Q ->
  wpAny (model X.prog X.w) X.A (assign target X.env u) (fun _ s'=>∃σ' H',Inv X pins σ' H' s'/\Q σ' H') X.xe s
def Kp(X:Cx)(ts:List Expr)(t:Ko):Prop :=
 ∀(pins:List (Addr×Obj))(s:Shared)(σ:St)(H:Hp)(vs:List V)(us:List Value)(Q:St->Hp->Prop),Inv X pins σ H s->Vals vs us->t vs σ H Q ->
  wpAny (model X.prog X.w) X.A (assignInOrder ((assignEach ts X.env).map (·.2)) us) (fun _ s'=>∃σ' H',Inv X pins σ' H' s'/\Q σ' H') X.xe s
abbrev VX:=V->V->V->Hp->(Hp->Prop)->Prop
section
variable {X:Cx}{pos:Pos}
def Nx(i:Nat):TG:=fun v σ H Q=>Q (σ.set i (some v)) H
theorem Kq{i:Nat}{x:Str}(hN:X.N.Nodup)(hi:X.N[i]?=some x)(hx:Loc X.env.scope x)(hf:X.fn x=true\/X.env.scope.names.lookup x=some .local:=by first|exact .inl rfl|exact .inr rfl|assumption):PG X (.Name x pos) (Nx i):=by
 intro pins s σ H v u Q I r h;exact wpAny_assign_Name (zJ I hN hi hx r (fun s' I'=>⟨_,H,I',h⟩) hf)
def VY:Ko:=fun vs σ H Q=>vs=[]/\Q σ H
def R4(t:TG)(u:Ko):Ko:=fun vs σ H Q=>∃v r,vs=v::r/\t v σ H fun σ' H'=>u r σ' H' Q
theorem Kr:Kp X [] VY:=by
 intro pins s σ H vs us Q I r h;obtain⟨e,h⟩:=h;subst e
 cases r
 exact assignInOrder_nil ⟨σ,H,I,h⟩
theorem GU{e:Expr}{es:List Expr}{t:TG}{u:Ko}(h1:PG X e t)(h2:Kp X es u)
  (hs:(assignEach (e::es) X.env).map (·.2)=assign e X.env::(assignEach es X.env).map (·.2):=by rfl):Kp X (e::es) (R4 t u):=by
 intro pins s σ H vs us Q I r h;obtain⟨v,vr,e1,h⟩:=h;subst e1
 cases r with
 |cons r rr =>
  rw [hs];refine assignInOrder_cons (eC (h1 pins s σ H _ _ _ I r h) fun _ s1 ⟨σ1,H1,I1,q1⟩=>?_);exact h2 pins s1 σ1 H1 _ _ Q I1 rr q1
def VZ(K:PySem.W.Frag)(n:Nat)(t:Ko):TG:=fun v σ H Q=>∃a xs,v=.ref a/\vm K H a xs/\xs.length=n/\t xs σ H Q
theorem OX{es:List Expr}{k:Nat}{t:Ko}{n:Nat}(hc:X.calm=true)(h:Kp X es t)
  (hn:(assignEach es X.env).length=n:=by rfl) (B9:(assignEach es X.env).findIdx? (·.1)=none:=by rfl):PG X (.Tuple es k pos) (VZ X.K n t):=by
 intro pins s σ H v u Q I r hw;obtain⟨a,xs,e1,hq,hl,hw⟩:=hw;subst e1
 cases r
 obtain⟨bo,rv,ht,hz⟩:=I.tuple hq;refine assign_Tuple_tuple (I.ok.hd hc) ht (by simp [hn,<-hl,rv.length]) B9 fun h' hx=>?_;have I1:Inv X pins σ H {s with heap:=h'}:=I.kept (t':=s.toks) fun b o e=>hx b o (ne_of_lt (Heap.lt_size e)) e;exact h pins _ σ H xs _ Q I1 (by simpa using rv) hw
def Ca(to ti:TE)(t:VX):TG:=fun v σ H Q=>to σ H fun o H1=>ti σ H1 fun i H2=>t o i v H2 fun H3=>Q σ H3
def R5(te:TE)(g:TG):TS:=fun D σ H=>te σ H fun x H1=>g x σ H1 D.nx
theorem OY{tg e:Expr}{te:TE}{g:TG}(he:PE X e te)(hg:PG X tg g)(hs:swapsWithSole [tg] e pos.line X.env=pure false:=by rfl)(hw:swappedStores [tg] e X.env=pure none:=by rfl)
  (h1:(assignEach [tg] X.env).map (·.2)=[assign tg X.env]:=by rfl):PS X (.Assign [tg] e pos) (R5 te g):=by
 intro pins s σ H D I h;refine wpAny_Assign_stores (eC (he pins s σ H _ I h) fun v s1 ⟨x,H1,I1,r1,q1⟩=>?_) hs hw;rw [h1];exact eC (hg pins s1 σ H1 x v _ I1 r1 q1) fun _ s2 q=>q
theorem OZ{i:Nat}{x:Str}{e:Expr}{te:TE}{pos':Pos}(hN:X.N.Nodup)(hi:X.N[i]?=some x)(hx:Loc X.env.scope x)(he:PE X e te)(hs:swapsWith e (some (.Name x pos')) pos.line X.env=pure false:=by rfl)(hf:X.fn x=true\/X.env.scope.names.lookup x=some .local:=by first|exact .inl rfl|exact .inr rfl|assumption):
  PS X (.Assign [.Name x pos'] e pos) (R5 te (Nx i)):=by
 intro pins s σ H D I h;refine wpAny_Assign_Name (eC (he pins s σ H _ I h) fun v s1 ⟨y,H1,I1,r1,q1⟩=>?_) hs;exact zJ I1 hN hi hx r1 (fun s2 I2=>⟨_,H1,I2,q1⟩) hf
end
structure It where
 go:Nat->Hp->Prop
 V0:Nat->Hp->V->Hp->Prop
 stop:Nat->Hp->Prop
def qw(X:Cx)(pins:List (Addr×Obj))(H:Hp)(b:Addr):Prop :=
 H b=none/\b≠X.env.locals/\b∉X.fs/\(b∈X.ex\/X.s₀.heap.objs.size<=b)/\(∀x c,X.env.cells.lookup x=some c->c≠b)/\∀p∈X.pn++pins,p.1≠b
theorem Inv.EU{X:Cx}{pins:List (Addr×Obj)}{σ:St}{H H':Hp}{s:Shared}{b:Addr}(I:Inv X pins σ H s)(hb:s.heap.objs.size<=b)(hn:H' b=none):qw X pins H' b:=by
 refine⟨hn,ne_of_gt (lt_of_lt_of_le I.lt hb),I.VJ hb,.inr (Nat.le_trans I.sz hb),fun x c e z=>?_,fun p hp z=>?_⟩
 ·obtain⟨v,q⟩:=I.cell x c e;exact absurd (lt_of_lt_of_le q.lt (by rw [z];exact hb)) (lt_irrefl _)
 ·exact absurd (lt_of_lt_of_le (Heap.lt_size (I.pin p hp).1) (by rw [z];exact hb)) (lt_irrefl _)
structure Turn(P:Program)(w:World)(K:PySem.W.Frag)(tg:Expr)(J:It)(fp:List Addr)(it:Addr)(tn:Nat->Heap->Prop):Prop where
 mem:it∈fp
 obj:∀i h,tn i h->∀b∈fp,∃o,h.get? b=some o/\∀v,o.data ≠ .cell v
 keep:∀i h h',tn i h->(∀b∈fp,∀o,h.get? b=some o->h'.get? b=some o)->tn i h'
 item:∀(X:Cx),X.prog=P->X.w=w->X.K=K->X.calm=true->∀(i:Nat)(pins:List (Addr×Obj))(s:Shared)(σ:St)(H:Hp)(E:Value->Shared->Prop),Inv X pins σ H s->(∀b∈fp,qw X pins H b)->tn i s.heap->J.go i H ->
  wpAny (model P w) X.A (pyNext (.ref it)) (fun r s1=>∃u,r=some u /\
   wpAny (model P w) X.A (letOwnedTupleGo tg (.ref it) u) (fun _ s2=>∃x H',Inv X pins σ H' s2/\RelV x u/\J.V0 i H x H'/\tn (i+1) s2.heap/\∀b∈fp,H' b=none) E s1) E s
 done:∀(X:Cx),X.prog=P->X.w=w->X.K=K->X.calm=true->∀(i:Nat)(pins:List (Addr×Obj))(s:Shared)(σ:St)(H:Hp)(E:Value->Shared->Prop),Inv X pins σ H s->(∀b∈fp,qw X pins H b)->tn i s.heap->J.stop i H ->
  wpAny (model P w) X.A (pyNext (.ref it)) (fun r s1=>r=none/\Inv X pins σ H s1) E s
 self:∀(A:Around)(i:Nat)(s:Shared)(Q:Value->Shared->Prop)(E:Value->Shared->Prop),tn i s.heap->Q (.ref it) s->wpAny (model P w) A (pyIter (.ref it)) Q E s
abbrev TI:=St->Hp->(It->Hp->Prop)->Prop
def PIE(X:Cx)(pins:List (Addr×Obj))(σ:St)(tg:Expr)(R:It->Hp->Prop)(V1:Value)(s2:Shared):Prop :=
 ∃(it:Addr) (fp:List Addr) (tn:Nat->Heap->Prop) (J:It) (H':Hp),V1=.ref it/\Inv X pins σ H' s2/\Turn X.prog X.w X.K tg J fp it tn/\tn 0 s2.heap/\(∀b∈fp,qw X pins H' b)/\R J H'
def PI(X:Cx)(tg iter:Expr)(wi:TI):Prop :=
 ∀(pins:List (Addr×Obj))(s:Shared)(σ:St)(H:Hp)(R:It->Hp->Prop),Inv X pins σ H s->wi σ H R ->
  wpAny (model X.prog X.w) X.A (eval iter X.env) (fun v s1=>wpAny (model X.prog X.w) X.A (pyIter v) (PIE X pins σ tg R) X.xe s1) X.xe s
theorem GV{M:Model}{A:Around}{E:Value->Shared->Prop}{s:Shared}{tg:Expr}{it:Addr}{u:Value}{o:Obj}{n:String}{vs:Array Value}{Q:Unit->Shared->Prop}(ho:s.heap.get? it=some o)(hc:o.cls=.type n)(hd:o.data=.fields vs)
  (hn:["enumerate", "zip", "dict_itemiterator", "dict_reverseitemiterator", "odict_iterator", "itertools.zip_longest", "itertools.pairwise"].contains n=false) (hQ:Q () s):wpAny M A (letOwnedTupleGo tg (.ref it) u) Q E s:=by
 unfold letOwnedTupleGo
 cases tg<;>first
  |exact wpAny_pure hQ
  |(cases u<;>first
    |exact wpAny_pure hQ
    |(refine wpAny_bind (wpAny_load ho ?_)
      rw [hc,hd];show wpAny M A (if(["enumerate", "zip", "dict_itemiterator", "dict_reverseitemiterator", "odict_iterator", "itertools.zip_longest", "itertools.pairwise"].contains n&&vs[0]?==some (rawInt _))=true then _ else _) Q E s;rw [if_neg (by intro h;rw [hn,Bool.false_and]at h;cases h)];exact wpAny_pure hQ))
def Itl(K:PySem.W.Frag)(a:Addr):It :=
 ⟨fun i H=>∃xs x,nV K H a xs/\xs[i]?=some x,fun i H x H'=>H'=H/\∀xs,nV K H a xs->xs[i]?=some x,fun i H=>∃xs,nV K H a xs/\xs.length<=i⟩
def Itt(K:PySem.W.Frag)(a:Addr):It :=
 ⟨fun i H=>∃xs x,vm K H a xs/\xs[i]?=some x,fun i H x H'=>H'=H/\∀xs,vm K H a xs->xs[i]?=some x,fun i H=>∃xs,vm K H a xs/\xs.length<=i⟩
def V2(lo:Int)(n:Nat):It:=⟨fun i _=>i<n,fun i H x H'=>H'=H/\x=.int (lo+i),fun i _=>n<=i⟩
theorem EV{P:Program}{w:World}{K:PySem.W.Frag}{tg:Expr}(a it:Addr):Turn P w K tg (Itl K a) [it] it (fun i h=>h.IsListIter it a i)where
 mem:=by simp
 obj:=fun i h st b hb=>by
  have e:b=it:=by simpa using hb
  subst e;obtain⟨o,e,c,d⟩:=st;exact⟨o,e,fun v z=>by rw [d]at z;cases z⟩
 keep:=fun i h h' st k=>st.at fun o e=>k it (by simp) o e
 item:=by
  intro X hP hw hK hc i pins s σ H E I hf st hg;subst hP hw hK;obtain⟨xs,x,hq,hx⟩:=hg;obtain⟨bo,rv,p,hz⟩:=I.list hq;obtain⟨u,hu,ru⟩:=rv.get hx;obtain⟨f0,f1,f2,f3,f4,f5⟩:=hf it (by simp);refine wpAny_pyNext_list_item st p.isList (x:=u) (by simpa using hu) fun h' aK sb=>?_;have I1:Inv X pins σ H {s with heap:=h'}:=I.turned (t':=s.toks) (fun b o hb e=>(sb.2 b hb).trans e) f0 f1 f3 f4 f5;obtain⟨o,e,c,d⟩:=id aK;exact⟨u,rfl,GV (s:={s with heap:=h'}) e c d (by decide) ⟨x,H,I1,ru,⟨rfl,fun ys hy=>by rw [I.sO hy hq];exact hx⟩,aK,fun b hb=>(hf b hb).1⟩⟩
 done:=by
  intro X hP hw hK hc i pins s σ H E I hf st hg;subst hP hw hK;obtain⟨xs,hq,hx⟩:=hg;obtain⟨bo,rv,p,hz⟩:=I.list hq;obtain⟨f0,f1,f2,f3,f4,f5⟩:=hf it (by simp);have hl:=rv.length;exact wpAny_pyNext_list_end (I.ok.hd hc) st p.isList (by simp;omega) fun h' eb=>⟨rfl,I.turned (t':=s.toks) (fun b o hb e=>eb b o hb e) f0 f1 f3 f4 f5⟩
 self:=fun _ _ _ _ _ st h=>wpAny_pyIter_listiter st h
theorem Cb{P:Program}{w:World}{K:PySem.W.Frag}{tg:Expr}(a it:Addr):Turn P w K tg (Itt K a) [it] it (fun i h=>h.IsTupleIter it a i)where
 mem:=by simp
 obj:=fun i h st b hb=>by
  have e:b=it:=by simpa using hb
  subst e;obtain⟨o,e,c,d⟩:=st;exact⟨o,e,fun v z=>by rw [d]at z;cases z⟩
 keep:=fun i h h' st k=>st.at fun o e=>k it (by simp) o e
 item:=by
  intro X hP hw hK hc i pins s σ H E I hf st hg;subst hP hw hK;obtain⟨xs,x,hq,hx⟩:=hg;obtain⟨bo,rv,p,hz⟩:=I.tuple hq;obtain⟨u,hu,ru⟩:=rv.get hx;obtain⟨f0,f1,f2,f3,f4,f5⟩:=hf it (by simp);refine wpAny_pyNext_tuple_item st (show s.heap.IsTuple a bo.toArray from p) (x:=u) (by simpa using hu) fun h' aK sb=>?_;have I1:Inv X pins σ H {s with heap:=h'}:=I.turned (t':=s.toks) (fun b o hb e=>(sb.2 b hb).trans e) f0 f1 f3 f4 f5;obtain⟨o,e,c,d⟩:=id aK;exact⟨u,rfl,GV (s:={s with heap:=h'}) e c d (by decide) ⟨x,H,I1,ru,⟨rfl,fun ys hy=>by rw [I.ET hy hq];exact hx⟩,aK,fun b hb=>(hf b hb).1⟩⟩
 done:=by
  intro X hP hw hK hc i pins s σ H E I hf st hg;subst hP hw hK;obtain⟨xs,hq,hx⟩:=hg;obtain⟨bo,rv,p,hz⟩:=I.tuple hq;obtain⟨f0,f1,f2,f3,f4,f5⟩:=hf it (by simp);have hl:=rv.length;exact wpAny_pyNext_tuple_end (I.ok.hd hc) st (show s.heap.IsTuple a bo.toArray from p) (by simp;omega) fun h' eb=>⟨rfl,I.turned (t':=s.toks) (fun b o hb e=>eb b o hb e) f0 f1 f3 f4 f5⟩
 self:=fun _ _ _ _ _ st h=>wpAny_pyIter_tupleiter st h
theorem Cc{P:Program}{w:World}{K:PySem.W.Frag}{tg:Expr}(it:Addr)(lo:Int)(n:Nat):Turn P w K tg (V2 lo n) [it] it (fun i h=>IsRangeIter h it (lo+(i:Nat)*1) ((n:Int)-(i:Nat)) 1)where
 mem:=by simp
 obj:=fun i h st b hb=>by
  have e:b=it:=by simpa using hb
  subst e;exact⟨_,st,fun v z=>by
   have z':Data.fields _=Data.cell v:=z
   cases z'⟩
 keep:=fun i h h' st k=>k it (by simp) _ st
 item:=by
  intro X hP hw hK hc i pins s σ H E I hf st hg;subst hP hw hK;obtain⟨f0,f1,f2,f3,f4,f5⟩:=hf it (by simp);have W:=Walks.range (prog:=X.prog) (w:=X.w) (I.ok.hd hc) it lo 1 n;refine W.item i s _ _ hg st fun v h' tk hv aK kk=>?_;obtain⟨t,rfl⟩:=hv;have I1:Inv X pins σ H {s with heap:=h',toks:=tk}:=I.turned (fun b o hb e=>kk b o (by simpa using hb) e) f0 f1 f3 f4 f5;refine⟨_,rfl,GV (s:={s with heap:=h',toks:=tk}) (n := "range_iterator") aK rfl rfl (by decide) ⟨.int (lo+i),H,I1,⟨t,?_⟩,⟨rfl,rfl⟩,aK,fun b hb=>(hf b hb).1⟩⟩;rw [Int.mul_one]
 done:=by
  intro X hP hw hK hc i pins s σ H E I hf st hg;subst hP hw hK;obtain⟨f0,f1,f2,f3,f4,f5⟩:=hf it (by simp);exact wpAny_pyNext_range_end (I.ok.hd hc) st (by have:n<=i:=hg;omega) fun h' eb=>⟨rfl,I.turned (t':=s.toks) (fun b o hb e=>eb b o hb e) f0 f1 f3 f4 f5⟩
 self:=fun _ _ _ _ _ st h=>wpAny_pyIter_rangeiter st h
section
variable {X:Cx}{tg:Expr}
def R6(K:PySem.W.Frag)(tl:TE):TI:=fun σ H R=>tl σ H fun x H1=>∃a,x=.ref a/\(∃xs,nV K H1 a xs)/\R (Itl K a) H1
def V3(K:PySem.W.Frag)(tl:TE):TI:=fun σ H R=>tl σ H fun x H1=>∃a,x=.ref a/\(∃xs,vm K H1 a xs)/\R (Itt K a) H1
theorem Ks{l:Expr}{tl:TE}(hl:PE X l tl):PI X tg l (R6 X.K tl):=by
 intro pins s σ H R I h;refine eC (hl pins s σ H _ I h) fun v s1 ⟨x,H1,I1,r1,q1⟩=>?_;obtain⟨a,e,⟨xs,hq⟩,q⟩:=q1;subst e
 cases r1
 obtain⟨bo,rv,p,hz⟩:=I1.list hq;refine wpAny_pyIter_list p.isList ?_;refine⟨s1.heap.objs.size,[s1.heap.objs.size],_,_,H1,rfl,I1.kept (t':=s1.toks) fun b o e=>Heap.get?_push_of_some _ e,EV a _,⟨_,Heap.get?_push_size _ rfl,rfl,rfl⟩,fun b hb=>?_,q⟩;have e:b=s1.heap.objs.size:=by simpa using hb
 subst e;exact I1.EU (le_refl _) (I1.dG.fresh (le_refl _))
theorem O0{l:Expr}{tl:TE}(hl:PE X l tl):PI X tg l (V3 X.K tl):=by
 intro pins s σ H R I h;refine eC (hl pins s σ H _ I h) fun v s1 ⟨x,H1,I1,r1,q1⟩=>?_;obtain⟨a,e,⟨xs,hq⟩,q⟩:=q1;subst e
 cases r1
 obtain⟨bo,rv,p,hz⟩:=I1.tuple hq;refine wpAny_pyIter_tuple (show s1.heap.IsTuple a bo.toArray from p) ?_;refine⟨s1.heap.objs.size,[s1.heap.objs.size],_,_,H1,rfl,I1.kept (t':=s1.toks) fun b o e=>Heap.get?_push_of_some _ e,Cb a _,⟨_,Heap.get?_push_size _ rfl,rfl,rfl⟩,fun b hb=>?_,q⟩;have e:b=s1.heap.objs.size:=by simpa using hb
 subst e;exact I1.EU (le_refl _) (I1.dG.fresh (le_refl _))
theorem GW{pins:List (Addr×Obj)}{σ:St}{H:Hp}{s:Shared}{R:It->Hp->Prop}{E:Value->Shared->Prop}{lo hi:Int}{t u v:Tok}{tk:Nat}(I:Inv X pins σ H s)(h1:-(2 ^ 62)<=lo)(h2:lo<2 ^ 62)(h3:-(2 ^ 62)<=hi)(h4:hi<2 ^ 62)
  (q:R (V2 lo (hi-lo).toNat) H):wpAny (model X.prog X.w) X.A (pyIter (.ref s.heap.objs.size)) (PIE X pins σ tg R) E {s with heap:=s.heap.push {cls:=.type "range", data:=.fields #[.int lo t,.int hi u,.int 1 v]},toks:=tk}:=by
 refine wpAny_pyIter_range (IsRange.new ..) (small_one h1 h2 h3 h4) ?_;have I1:Inv X pins σ H {s with heap:=s.heap.push {cls:=.type "range", data:=.fields #[.int lo t,.int hi u,.int 1 v]},toks:=tk}:=I.kept fun b o e=>Heap.get?_push_of_some _ e;refine⟨(s.heap.push {cls:=.type "range", data:=.fields #[.int lo t,.int hi u,.int 1 v]}).objs.size,[(s.heap.push {cls:=.type "range", data:=.fields #[.int lo t,.int hi u,.int 1 v]}).objs.size],_,_,H,rfl,
  I1.kept (t':=tk) fun b o e=>Heap.get?_push_of_some _ e,Cc _ lo (hi-lo).toNat,?_,fun b hb=>?_,q⟩
 ·have e1:lo+((0:Nat):Int)*1=lo:=by simp
  have e2:(((hi-lo).toNat:Nat):Int)-((0:Nat):Int)=Builtin.Range.rangeSize lo hi 1:=by rw [rangeSize_one];split<;>omega
  show IsRangeIter _ _ (lo+((0:Nat):Int)*1) ((((hi-lo).toNat:Nat):Int)-((0:Nat):Int)) 1;rw [e1,e2];exact Heap.get?_push_size _ rfl
 ·have e:b=(s.heap.push {cls:=.type "range", data:=.fields #[.int lo t,.int hi u,.int 1 v]}).objs.size:=by simpa using hb
  subst e;exact I1.EU (le_refl _) (I1.dG.fresh (le_refl _))
def R7(ta:TA):TI:=fun σ H R=>ta σ H fun vs H1=>∃j:Int,vs=[.int j]/\-(2 ^ 62)<=j/\j<2 ^ 62/\R (V2 0 j.toNat) H1
theorem EW{a:Expr}{ta:TA}{p pos:Pos}(hg:Gl X "range")(hm:X.mg "range" = none)(ha:PA X [a] ta)(hs:starEach [a] X.env=[(false,eval a X.env)]:=by rfl):PI X tg (.Call (.Name "range" p) [a] [] pos) (R7 ta):=by
 intro pins s σ H R I h;refine Call_ (iG I hg hm boot_range (PyProof.Rows.callWith_type1 (eC (ha pos pins s σ H _ I h) fun us s1 ⟨vs,H1,I1,r1,q1⟩=>?_) hs rfl));obtain⟨j,e,q1,q2,q⟩:=q1;subst e
 cases r1 with
 |cons r rr =>
  cases rr
  obtain⟨t,rfl⟩:=r;exact call_range_1 (GW I1 (by omega) (by omega) q1 q2 (by simpa using q))
def V4(wi:TI)(g:TG)(tb:TS):TS:=fun D σ H=>wi σ H fun J H1=>∃W:Nat->Nat->St->Hp->Prop,(∃m,W 0 m σ H1)/\∀i m σ H,W i m σ H ->
 (J.stop i H/\D.nx σ H)\/(J.go i H/\∃N:St->Hp->Prop,(∀σ' H',N σ' H'->∃m',m'<m/\W (i+1) m' σ' H')/\∀x H',J.V0 i H x H'->g x σ H' fun σ2 H2=>tb {D with nx:=N,ct:=N,bk:=D.nx} σ2 H2)
def sP(fp:List Addr)(h:Heap):List (Addr×Obj):=fp.filterMap fun b=>(h.get? b).map fun o=>(b,o)
theorem iH{fp:List Addr}{h:Heap}{b:Addr}{o:Obj}(hb:b∈fp)(e:h.get? b=some o):(b,o)∈sP fp h:=List.mem_filterMap.mpr ⟨b,hb,by rw [e];rfl⟩
theorem EX{fp:List Addr}{h:Heap}{p:Addr×Obj}(hp:p∈sP fp h):p.1∈fp/\h.get? p.1=some p.2:=by
 obtain⟨b,hb,e⟩:=List.mem_filterMap.mp hp
 cases q:h.get? b with
 |none=>rw [q]at e;cases e
 |some o =>
  rw [q]at e;have e':(b,o)=p:=Option.some.inj e;subst e';exact⟨hb,q⟩
theorem Inv.pinned{pins:List (Addr×Obj)}{σ:St}{H:Hp}{s:Shared}{fp:List Addr}(I:Inv X pins σ H s)(hf:∀b∈fp,qw X pins H b)(ho:∀b∈fp,∃o,s.heap.get? b=some o/\∀v,o.data ≠ .cell v):Inv X (pins++sP fp s.heap) σ H s :=
 I.DB fun p hp=>(mem_append.mp hp).elim (fun z=>I.pin p (mem_append_right _ z)) fun z=>by
  obtain⟨hb,e⟩:=EX z;obtain⟨f0,f1,f2,_⟩:=hf p.1 hb;obtain⟨o,e',d⟩:=ho p.1 hb;rw [e]at e';cases e'
  exact⟨e,f0,f1,f2,d⟩
theorem Inv.lQ{pins pl:List (Addr×Obj)}{σ:St}{H:Hp}{s:Shared}(I:Inv X (pins++pl) σ H s):Inv X pins σ H s:=I.DB fun p hp=>I.pin p (mem_append_right _ (mem_append_left _ hp))
theorem O1{iter:Expr}{body:List Stmt}{wi:TI}{g:TG}{tb:TS}{pos:Pos}(hp:PassesOwn (model X.prog X.w) X.A X.env X.xe)(hc:X.calm=true)(hi:PI X tg iter wi)(hg:PG X tg g)(hb:vi X body tb)
  (hs:∀x,foldedSetIterable iter X.env x=pure x:=by intro _;rfl):PS X (.For tg iter body [] pos) (V4 wi g tb):=by
 intro pins s σ H D I h;refine wpAny_For (eC (hi pins s σ H _ I h) fun v s1 h1=>eC h1 fun V1 s2 h2=>?_) hs;obtain⟨it,fp,tn,J,H2,e,I2,T,zM,f2,W,⟨m0,w0⟩,turn⟩:=h2;subst e
 -- V5 stays true of GX O2 objects through GX loop
 have O3:∀{H':Hp},(∀b∈fp,H' b=none)->∀b∈fp,qw X pins H' b:=fun hn b hb=>⟨hn b hb,(f2 b hb).2⟩;refine codeAny_forLoop_any (fun n s'=>∃i σ' H',Inv X pins σ' H' s'/\tn i s'.heap/\(∀b∈fp,H' b=none)/\W i n σ' H') ?_ m0 ⟨0,σ,H2,I2,zM,fun b hb=>(f2 b hb).1,w0⟩;rintro n s3 ⟨i,σ3,H3,I3,st3,fr3,w3⟩;rcases turn i n σ3 H3 w3 with⟨stop,qn⟩|⟨go,N,hN,step⟩
 ·refine wpAny_passesOwn hp (eC (T.done X rfl rfl rfl hc i pins s3 σ3 H3 X.xe I3 (O3 fr3) st3 stop) fun r s4 ⟨hr,I4⟩=>?_);subst hr;exact wpAny_execs_nil ⟨σ3,H3,I4,qn⟩
 ·refine wpAny_passesOwn hp (eC (T.item X rfl rfl rfl hc i pins s3 σ3 H3 X.xe I3 (O3 fr3) st3 go) fun r s4 ⟨u,hr,h4⟩=>?_);subst hr;refine wpAny_passesOwn hp (eC h4 fun _ s5 ⟨x,H5,I5,r5,y5,V6,fr5⟩=>?_);have I5':=I5.pinned (O3 fr5) (T.obj _ _ V6);refine wpAny_passesOwn hp (eC (hg _ s5 σ3 H5 x u _ I5' r5 (step x H5 y5)) fun _ s6 ⟨σ6,H6,I6,q6⟩=>?_);refine wpAny_passesOwn hp (eC (hb _ s6 σ6 H6 _ I6 q6) fun f s7 q7=>?_);have again:∀{σ7:St}{H7:Hp},Inv X (pins++sP fp s5.heap) σ7 H7 s7->N σ7 H7->∃m,m<n/\∃i σ' H',Inv X pins σ' H' s7/\tn i s7.heap/\(∀b∈fp,H' b=none)/\W i m σ' H':=fun{σ7 H7} I7 n7=>by
   obtain⟨m',hm,w7⟩:=hN σ7 H7 n7;refine⟨m',hm,i+1,σ7,H7,I7.lQ,T.keep _ _ _ V6 fun b hb o e=>(I7.pin (b,o) (mem_append_right _ (mem_append_right _ (iH hb e)))).1,fun b hb=>?_,w7⟩;obtain⟨o,e,d⟩:=T.obj _ _ V6 b hb;exact(I7.pin (b,o) (mem_append_right _ (mem_append_right _ (iH hb e)))).2.1
  cases f with
  |next=>obtain⟨σ7,H7,I7,n7⟩:=q7;exact again I7 n7
  |cont=>obtain⟨σ7,H7,I7,n7⟩:=q7;exact again I7 n7
  |brk=>obtain⟨σ7,H7,I7,q7⟩:=q7;exact⟨σ7,H7,I7.lQ,q7⟩
  |ret v=>obtain⟨x7,σ7,H7,I7,r7,q7⟩:=q7;exact⟨x7,σ7,H7,I7.lQ,r7,q7⟩
end
abbrev R2:=V->V->Hp->VK->Prop
def lN(X:Cx)(f:Value->Value->Sem Value)(r:R2):Prop :=
 ∀(pins:List (Addr×Obj))(s:Shared)(σ:St)(H:Hp)(x y:V)(v u:Value)(Q:VK),Inv X pins σ H s->RelV x v->RelV y u->r x y H Q ->
  wpAny (model X.prog X.w) X.A (f v u) (EP X pins σ Q) X.xe s
def V7(X:Cx)(f:Value->Sem Value)(r:V->Hp->VK->Prop):Prop :=
 ∀(pins:List (Addr×Obj))(s:Shared)(σ:St)(H:Hp)(x:V)(v:Value)(Q:VK),Inv X pins σ H s->RelV x v->r x H Q ->
  wpAny (model X.prog X.w) X.A (f v) (EP X pins σ Q) X.xe s
def gx(X:Cx)(f:Value)(r:List V->Hp->VK->Prop):Prop :=
 ∀(pins:List (Addr×Obj))(s:Shared)(σ:St)(H:Hp)(xs:List V)(us:List Value)(Q:VK),Inv X pins σ H s->Vals xs us->r xs H Q ->
  wpAny (model X.prog X.w) X.A (call f us) (EP X pins σ Q) X.xe s
def R8(r:R2)(ta tb:TE):TE:=fun σ H Q=>ta σ H fun x H1=>tb σ H1 fun y H2=>r x y H2 Q
def tUn(r:V->Hp->VK->Prop)(ta:TE):TE:=fun σ H Q=>ta σ H fun x H1=>r x H1 Q
def rI(C:Int->Int->Prop)(g:Int->Int->V):R2:=fun x y H Q=>∃i j,x=.int i/\y=.int j/\C i j/\Q (g i j) H
def Ny(g:Int->Int->V):R2:=fun x y H Q=>∃i j,x=.int i/\y=.int j/\Q (g i j) H
def rU(g:Int->V):V->Hp->VK->Prop:=fun x H Q=>∃i,x=.int i/\Q (g i) H
section
variable {X:Cx}{a b c:Expr}{ta tb tc:TE}{pos:Pos}
theorem O4(ha:PE X a ta)(hb:PE X b tb){pins:List (Addr×Obj)}{s:Shared}{σ:St}{H:Hp}{R:V->V->Hp->Prop}(I:Inv X pins σ H s)
  (h:ta σ H fun x H1=>tb σ H1 fun y H2=>R x y H2) {Q:Value->Shared->Prop} {f:Value->Value->Sem Value}
  (hf:∀v u s2 x y H2,Inv X pins σ H2 s2->RelV x v->RelV y u->R x y H2->wpAny (model X.prog X.w) X.A (f v u) Q X.xe s2) :
  wpAny (model X.prog X.w) X.A (eval a X.env) (fun v s₁=>wpAny (model X.prog X.w) X.A (eval b X.env) (fun u s₂=>wpAny (model X.prog X.w) X.A (f v u) Q X.xe s₂) X.xe s₁) X.xe s:=by
 refine eC (ha pins s σ H _ I h) fun v s1 ⟨x,H1,I1,r1,q1⟩=>?_;refine eC (hb pins s1 σ H1 _ I1 q1) fun u s2 ⟨y,H2,I2,r2,q2⟩=>?_;exact hf v u s2 x y H2 I2 r1 r2 q2
theorem R9{op:Operator}{r:R2}(ho:lN X (binaryOp op) r)(ha:PE X a ta)(hb:PE X b tb):PE X (.BinOp a op b pos) (R8 r ta tb):=by
 intro pins s σ H Q I h;exact wpAny_BinOp (O4 ha hb I h fun v u s2 x y H2 I2 rx ry q=>ho pins s2 σ H2 x y v u Q I2 rx ry q)
theorem Sa{op:UnaryOp}{r:V->Hp->VK->Prop}(ho:V7 X (unaryOp op) r)(ha:PE X a ta):PE X (.UnaryOp op a pos) (tUn r ta):=by
 intro pins s σ H Q I h;exact UnaryOp_ (eC (ha pins s σ H _ I h) fun v s1 ⟨x,H1,I1,r1,q1⟩=>ho pins s1 σ H1 x v Q I1 r1 q1)
theorem UN{f:Value->Value->Sem Value}{C:Int->Int->Prop}{g:Int->Int->Int}
  (rule:∀(i j:Int)(t u:Tok)(s:Shared)(Q:Value->Shared->Prop)(E:Value->Shared->Prop),C i j->Q (.int (g i j) s.toks) {s with toks:=s.toks+1}->wpAny (model X.prog X.w) X.A (f (.int i t) (.int j u)) Q E s) :
  lN X f (rI C fun i j=>.int (g i j)):=by
 intro pins s σ H x y v u Q I rx ry h;obtain⟨i,j,rfl,rfl,hc,q⟩:=h;obtain⟨t,rfl⟩:=rx;obtain⟨t',rfl⟩:=ry;exact rule i j t t' s _ _ hc ⟨.int (g i j),H,I.tok _,⟨_,rfl⟩,q⟩
theorem Sb{f:Value->Value->Sem Value}{g:Int->Int->Int}
  (rule:∀(i j:Int)(t u:Tok)(s:Shared)(Q:Value->Shared->Prop)(E:Value->Shared->Prop),Q (.int (g i j) s.toks) {s with toks:=s.toks+1}->wpAny (model X.prog X.w) X.A (f (.int i t) (.int j u)) Q E s) :
  lN X f (Ny fun i j=>.int (g i j)):=by
 intro pins s σ H x y v u Q I rx ry h;obtain⟨i,j,rfl,rfl,q⟩:=h;obtain⟨t,rfl⟩:=rx;obtain⟨t',rfl⟩:=ry;exact rule i j t t' s _ _ ⟨.int (g i j),H,I.tok _,⟨_,rfl⟩,q⟩
theorem Se{f:Value->Value->Sem Value}{g:Int->Int->Bool}
  (rule:∀(i j:Int)(t u:Tok)(s:Shared)(Q:Value->Shared->Prop)(E:Value->Shared->Prop),Q (.bool (g i j)) s->wpAny (model X.prog X.w) X.A (f (.int i t) (.int j u)) Q E s) :
  lN X f (Ny fun i j=>.bl (g i j)):=by
 intro pins s σ H x y v u Q I rx ry h;obtain⟨i,j,rfl,rfl,q⟩:=h;obtain⟨t,rfl⟩:=rx;obtain⟨t',rfl⟩:=ry;exact rule i j t t' s _ _ ⟨.bl (g i j),H,I,rfl,q⟩
def V8(i j:Int):Prop:=0<j/\j<1073741824
def V9(i j:Int):Prop:=0<=j/\j<=1000000/\i.natAbs<2 ^ 64
def O5(i j:Int):Prop:=(-(2 ^ 64)<i/\i<2 ^ 64)\/(-(2 ^ 64)<j/\j<2 ^ 64)
theorem O5.ok{i j:Int}(h:O5 i j):IntMulOk i j:=by
 rcases h with⟨h1,h2⟩|⟨h1,h2⟩
 ·exact .of_left (intBits_le_64 h1 h2)
 ·exact .of_right (intBits_le_64 h1 h2)
theorem O6:lN X (binaryOp .Add) (Ny fun i j=>.int (i+j)):=Sb fun _ _ _ _ _ _ _ q=>add_int q
theorem O7:lN X (binaryOp .Sub) (Ny fun i j=>.int (i-j)):=Sb fun _ _ _ _ _ _ _ q=>sub_int q
theorem O8:lN X (binaryOp .Mult) (rI O5 fun i j=>.int (i*j)):=UN fun _ _ _ _ _ _ _ hc q=>mul_int q hc.ok
theorem Kt:lN X (binaryOp .FloorDiv) (rI V8 fun i j=>.int (i / j)):=UN fun i j _ _ _ _ _ hc q=>by
 have h1:(0:Int)<j:=hc.1;have h2:j<1073741824:=hc.2;exact floordiv_int (by omega) (by rw [Int.fdiv_eq_ediv_of_nonneg i (by omega)];exact q) (.inl (PyProof.noPylong_small (by omega)))
theorem O9:lN X (binaryOp .Mod) (rI (fun _ j=>0<j) fun i j=>.int (i % j)):=UN fun i j _ _ _ _ _ hc q=>by
 have h1:(0:Int)<j:=hc;exact mod_int' (by omega) (by rw [Int.fmod_eq_emod_of_nonneg i (by omega)];exact q)
theorem Pa:lN X (binaryOp .Pow) (rI V9 fun i j=>.int (i ^ j.toNat)):=UN fun _ _ _ _ _ _ _ hc q=>pow_int_small hc.1 hc.2.1 hc.2.2 q
theorem unI{f:Value->Sem Value}{g:Int->Int}
  (rule:∀(i:Int)(t:Tok)(s:Shared)(Q:Value->Shared->Prop)(E:Value->Shared->Prop),Q (.int (g i) s.toks) {s with toks:=s.toks+1}->wpAny (model X.prog X.w) X.A (f (.int i t)) Q E s) :
  V7 X f (rU fun i=>.int (g i)):=by
 intro pins s σ H x v Q I rx h;obtain⟨i,rfl,q⟩:=h;obtain⟨t,rfl⟩:=rx;exact rule i t s _ _ ⟨.int (g i),H,I.tok _,⟨_,rfl⟩,q⟩
theorem Pb:V7 X (unaryOp .USub) (rU fun i=>.int (-i)):=unI fun _ _ _ _ _ q=>neg_int q
end
def sQ:V->V->Bool
 |.cg,.cg=>true | .cg,.int _=>true | .int _,.cg=>true | .cg,.bl _=>true | .bl _,.cg=>true | .cg,.str _=>true | .str _,.cg=>true
 |.int _,.int _=>true | .bl _,.bl _=>true | .str _,.str _=>true | .GH _,.GH _=>true
 |.int _,.str _=>true | .str _,.int _=>true | .bl _,.str _=>true | .str _,.bl _=>true
 |_,_=>false
def rEq:R2:=fun x y H Q=>sQ x y=true/\Q (.bl (decide (x=y))) H
def rNe:R2:=fun x y H Q=>sQ x y=true/\Q (.bl (!decide (x=y))) H
theorem DE{i j:Int}:decide (V.int i=V.int j)=(i==j):=by
 rw [Bool.eq_iff_iff];simp
theorem GY{i j:Bool}:decide (V.bl i=V.bl j)=(i==j):=by
 rw [Bool.eq_iff_iff];simp
theorem DF{i j:Str}:decide (V.str i=V.str j)=(i==j):=by
 rw [Bool.eq_iff_iff];simp
theorem DG{i j:Array UInt8}:decide (V.GH i=V.GH j)=(i.toList==j.toList):=by
 rw [Bool.eq_iff_iff]
 cases i
 cases j
 simp
section
variable {X:Cx}{a b c:Expr}{ta tb tc:TE}{pos:Pos}
theorem bF{pins:List (Addr×Obj)}{σ:St}{H:Hp}{s:Shared}{Q:VK}{k k':Bool}(I:Inv X pins σ H s)(q:Q (.bl k) H)(e:k=k'):EP X pins σ Q (.bool k') s:=by
 subst e;exact⟨.bl k,H,I,rfl,q⟩
theorem Sf:lN X (compareOp .Eq) rEq:=by
 intro pins s σ H x y v u Q I rx ry h;obtain⟨hs,q⟩:=h
 cases x with
 |cg =>
  cases rx
  cases y with
  |cg=>cases ry;exact PySem.EqNone.eq_none_none (bF I q (by simp))
  |bl j=>cases ry;exact PySem.EqNone.eq_none_bool (bF I q (by simp))
  |int j=>obtain⟨t',rfl⟩:=ry;exact PySem.EqNone.eq_none_int (bF I q (by simp))
  |str j=>obtain⟨t',rfl⟩:=ry;exact PySem.EqNone.eq_none_str (bF I q (by simp))
  |_=>exact absurd (show false=true from hs) Bool.false_ne_true
 |bl i =>
  cases rx
  cases y with
  |cg=>cases ry;exact PySem.EqNone.eq_bool_none (bF I q (by simp))
  |bl j=>cases ry;exact eq_bool (bF I q GY)
  |str j=>obtain⟨t',rfl⟩:=ry;exact PySem.EqMixed.eq_bool_str (bF I q (by simp))
  |_=>exact absurd (show false=true from hs) Bool.false_ne_true
 |int i =>
  obtain⟨t,rfl⟩:=rx
  cases y with
  |cg=>cases ry;exact PySem.EqNone.eq_int_none (bF I q (by simp))
  |int j=>obtain⟨t',rfl⟩:=ry;exact eq_int (bF I q DE)
  |str j=>obtain⟨t',rfl⟩:=ry;exact PySem.EqMixed.eq_int_str (bF I q (by simp))
  |_=>exact absurd (show false=true from hs) Bool.false_ne_true
 |str i =>
  obtain⟨t,rfl⟩:=rx
  cases y with
  |cg=>cases ry;exact PySem.EqNone.eq_str_none (bF I q (by simp))
  |bl j=>cases ry;exact PySem.EqMixed.eq_str_bool (bF I q (by simp))
  |int j=>obtain⟨t',rfl⟩:=ry;exact PySem.EqMixed.eq_str_int (bF I q (by simp))
  |str j=>obtain⟨t',rfl⟩:=ry;exact eq_str (bF I q DF)
  |_=>exact absurd (show false=true from hs) Bool.false_ne_true
 |GH i =>
  obtain⟨t,rfl⟩:=rx
  cases y with
  |GH j=>obtain⟨t',rfl⟩:=ry;exact PySem.W.eq_bytes (bF I q DG)
  |_=>exact absurd (show false=true from hs) Bool.false_ne_true
 |_=>cases y<;>exact absurd (show false=true from hs) Bool.false_ne_true
theorem Nz:lN X (compareOp .NotEq) rNe:=by
 intro pins s σ H x y v u Q I rx ry h;obtain⟨hs,q⟩:=h
 cases x with
 |cg =>
  cases rx
  cases y with
  |cg=>cases ry;exact PySem.EqNone.ne_none_none (bF I q (by simp))
  |bl j=>cases ry;exact PySem.EqNone.ne_none_bool (bF I q (by simp))
  |int j=>obtain⟨t',rfl⟩:=ry;exact PySem.EqNone.ne_none_int (bF I q (by simp))
  |str j=>obtain⟨t',rfl⟩:=ry;exact PySem.EqNone.ne_none_str (bF I q (by simp))
  |_=>exact absurd (show false=true from hs) Bool.false_ne_true
 |bl i =>
  cases rx
  cases y with
  |cg=>cases ry;exact PySem.EqNone.ne_bool_none (bF I q (by simp))
  |bl j=>cases ry;exact ne_bool (bF I q (congrArg not GY))
  |str j=>obtain⟨t',rfl⟩:=ry;exact PySem.EqMixed.ne_bool_str (bF I q (by simp))
  |_=>exact absurd (show false=true from hs) Bool.false_ne_true
 |int i =>
  obtain⟨t,rfl⟩:=rx
  cases y with
  |cg=>cases ry;exact PySem.EqNone.ne_int_none (bF I q (by simp))
  |int j=>obtain⟨t',rfl⟩:=ry;exact ne_int (bF I q (congrArg not DE))
  |str j=>obtain⟨t',rfl⟩:=ry;exact PySem.EqMixed.ne_int_str (bF I q (by simp))
  |_=>exact absurd (show false=true from hs) Bool.false_ne_true
 |str i =>
  obtain⟨t,rfl⟩:=rx
  cases y with
  |cg=>cases ry;exact PySem.EqNone.ne_str_none (bF I q (by simp))
  |bl j=>cases ry;exact PySem.EqMixed.ne_str_bool (bF I q (by simp))
  |int j=>obtain⟨t',rfl⟩:=ry;exact PySem.EqMixed.ne_str_int (bF I q (by simp))
  |str j=>obtain⟨t',rfl⟩:=ry;exact ne_str (bF I q (congrArg not DF))
  |_=>exact absurd (show false=true from hs) Bool.false_ne_true
 |GH i =>
  obtain⟨t,rfl⟩:=rx
  cases y with
  |GH j=>obtain⟨t',rfl⟩:=ry;exact PySem.W.ne_bytes (bF I q (congrArg not DG))
  |_=>exact absurd (show false=true from hs) Bool.false_ne_true
 |_=>cases y<;>exact absurd (show false=true from hs) Bool.false_ne_true
theorem Sg:lN X (compareOp .Lt) (Ny fun i j=>.bl (decide (i<j))):=Se fun _ _ _ _ _ _ _ q=>lt_int q
theorem Sh:lN X (compareOp .Gt) (Ny fun i j=>.bl (decide (j<i))):=Se fun _ _ _ _ _ _ _ q=>gt_int q
theorem Pc:lN X (compareOp .Is) (fun x y H Q=>y=.cg/\Q (.bl (decide (x=.cg))) H):=by
 intro pins s σ H x y v u Q I rx ry h;obtain⟨rfl,q⟩:=h
 cases ry
 refine is_none_gen (bF I q ?_)
 cases x<;>first
  |(cases rx;rfl)
  |(obtain⟨t,rfl⟩:=rx;rfl)
theorem Ku:lN X (compareOp .IsNot) (fun x y H Q=>y=.cg/\Q (.bl (!decide (x=.cg))) H):=by
 intro pins s σ H x y v u Q I rx ry h;obtain⟨rfl,q⟩:=h
 cases ry
 refine isnot_none_gen (bF I q ?_)
 cases x<;>first
  |(cases rx;rfl)
  |(obtain⟨t,rfl⟩:=rx;rfl)
theorem lN.or{f:Value->Value->Sem Value}{r r':R2}(h:lN X f r)(h':lN X f r'):lN X f (fun x y H Q=>r x y H Q\/r' x y H Q):=by
 intro pins s σ H x y v u Q I rx ry q;rcases q with q|q
 ·exact h pins s σ H x y v u Q I rx ry q
 ·exact h' pins s σ H x y v u Q I rx ry q
theorem az(b:Expr){op:CmpOp}(h:op ≠ .In:=by decide)(h2:op ≠ .NotIn:=by decide):behindInMarks op b=false:=by
 have e1:(op==CmpOp.In)=false:=by cases op<;>first|rfl|exact absurd rfl h
 have e2:(op==CmpOp.NotIn)=false:=by cases op<;>first|rfl|exact absurd rfl h2
 cases b<;>simp [behindInMarks,e1,e2]
theorem Kv{op:CmpOp}{r:R2}(ho:lN X (compareOp op) r)(ha:PE X a ta)(hb:PE X b tb)(hm:behindInMarks op b=false):PE X (.Compare a [op] [b] pos) (R8 r ta tb):=by
 intro pins s σ H Q I h;exact wpAny_Compare1 (O4 ha hb I h fun v u s2 x y H2 I2 rx ry q=>ho pins s2 σ H2 x y v u Q I2 rx ry q) hm
def Si(t:TE):TT:=fun σ H Q=>t σ H fun x H'=>∃k,x=.bl k/\Q k H'
theorem DH{op:CmpOp}{r:R2}(ho:lN X (compareOp op) r)(ha:PE X a ta)(hb:PE X b tb)(hm:behindInMarks op b=false):PT X (.Compare a [op] [b] pos) (Si (R8 r ta tb)):=by
 intro pins s σ H Q I h;refine wpAny_isTrue_Compare1 (eC (ha pins s σ H _ I h) fun v s1 ⟨x,H1,I1,r1,q1⟩=>eC (hb pins s1 σ H1 _ I1 q1) fun u s2 ⟨y,H2,I2,r2,q2⟩ =>
  eC (ho pins s2 σ H2 x y v u _ I2 r1 r2 q2) fun c s3 ⟨z,H3,I3,r3,k,e,q3⟩=>?_) hm
 subst e
 cases r3
 exact wpAny_truthy_bool ⟨H3,I3,q3⟩
theorem xG:(sizeLine:Nat)<2 ^ 63:=by rw [sizeLine_eq];decide
theorem Cd:lN X (binaryOp .Add) (fun x y H Q=>∃i j,x=.str i/\y=.str j/\i.length+j.length<=sizeLine/\Q (.str (i++j)) H):=by
 intro pins s σ H x y v u Q I rx ry h;obtain⟨i,j,rfl,rfl,hz,q⟩:=h;obtain⟨t,rfl⟩:=rx;obtain⟨t',rfl⟩:=ry;exact add_str (fun t' tk=>⟨.str (i++j),H,I.tok _,⟨_,rfl⟩,q⟩) hz
theorem vals1{x:V}{us:List Value}(r:Vals [x] us):∃u,us=[u]/\RelV x u:=by
 cases r with
 |cons r1 r2=>cases r2;exact⟨_,rfl,r1⟩
theorem vals2{x y:V}{us:List Value}(r:Vals [x,y] us):∃u w',us=[u,w']/\RelV x u/\RelV y w':=by
 cases r with
 |cons r1 r2 =>
  cases r2 with
  |cons r3 r4=>cases r4;exact⟨_,_,rfl,r1,r3⟩
end
structure GZ(h:Heap)(x dx C:Addr)(mA:Str->Option Value):Prop where
 obj:h.get? x=some (instObj C dx)
 ns:h.Ns1 dx mA
 ne:dx≠x
theorem EY{h:Heap}{dx:Addr}{mA:Str->Option Value}(n:h.Ns1 dx mA):∃od,h.get? dx=some od/\∀name,lookIn name od=some (mA name):=by
 obtain⟨o,es,ep,ho,hd,hk,_,hm⟩:=n;refine⟨o,ho,fun name=>?_⟩;have e:=hm name;unfold nsFind findBy at e;rw [<-Array.find?_toList]at e;unfold lookIn;rw [hd];dsimp only;split
 ·rename_i y q;rw [q]at e;exact congrArg some e
 ·rename_i q;rw [q]at e;have a:es.toList.any (·.refKey)=false:=by
   rw [List.any_eq_false];intro y hy;obtain⟨z,t,Kw⟩:=hk y (Array.mem_toList_iff.mp hy);simp [DictEntry.refKey,Kw]
  have a':¬es.toList.any (·.refKey)=true:=by rw [a];exact Bool.false_ne_true
  rw [if_neg a'];exact congrArg some e
theorem GZ.look{h:Heap}{x dx C:Addr}{mA:Str->Option Value}(I:GZ h x dx C mA):∃od,PySem.W.InstAt h x (instObj C dx) C (some od)/\∀name,lookIn name od=some (mA name) :=
 let⟨od,ho,hl⟩:=EY I.ns
 ⟨od,⟨I.obj,rfl,rfl,ho⟩,hl⟩
section
variable {prog:Program}{w:World}{A:Around}{E:Value->Shared->Prop}{s:Shared}{K:PySem.W.Frag}{x dx C f:Addr}{mA:Str->Option Value}{name:Str}{v:Value}
theorem G0{pl:Sem Bool}{Q:Value×List Value->Shared->Prop}(X:K.In s.heap)(I:GZ s.heap x dx C mA)(hg:plainGet K C name=true)
  (hf:findIn K (.ref C) name=some (some (.ref f))) (ht:isFn K (.ref f)=true) (hv:mA name=none) (h:Q (.ref f,[.ref x]) s) :
  wpAny (model prog w) A (getMethod (.ref x) name pl) Q E s:=by
 obtain⟨od,J,hl⟩:=I.look;exact PySem.W.method_fn X J (plainGet_of hg).1 (plainGet_of hg).2 hf (beq_iff_eq.mp ht) (by show(lookIn name od).map (·.isSome)=some false;rw [hl,hv];rfl) h
theorem EZ{R:Result->Shared->Prop}(X:K.In s.heap)(hm:makesIn K C=true)
  (hi:findIn K (.ref C) "__init__" = some (some (.builtin "object.__init__")))
  (hb:∀self,PySem.W.Looks (model prog w) s.heap (bindSpecial (.builtin "object.__init__") self) (.builtin "object.__init__", [self]))
  (h:codeAny (model prog w) (A.under (.builtin "type.__call__" ⟨[.ref C],[]⟩)) (.call (.builtin "object.__init__") ⟨[.ref (s.heap.objs.size+1)],[]⟩) (PySem.W.InitBack (s.heap.objs.size+1) R)
   {s with heap:=(s.heap.push emptyDict).push (instObj C s.heap.objs.size)}) :
  codeAny (model prog w) A (.call (.ref C) ⟨[],[]⟩) R s:=by
 obtain⟨hh,g,d,t,os⟩:=s;exact PySem.W.make_core (makes_of X hm) (PySem.W.looks_findIn X hi) hb (.inr ⟨rfl,rfl⟩) h
end
theorem lP.some_of{v:V}{o:Option Value}(r:lP (some v) o):∃u,o=some u/\RelV v u:=by
 cases o with
 |none=>exact(show False from r).elim
 |some u=>exact⟨u,rfl,r⟩
theorem lP.none_of{o:Option Value}(r:lP none o):o=none:=by
 cases o with
 |none=>rfl
 |some u=>exact(show False from r).elim
section
variable {P:Program}{w:World}{H H':Hp}{h h':Heap}{a C dx:Addr}{fs VF:List (Str×V)}
theorem Kx(dG:pj P w H h)(e:H a=some (.ins C dx fs)):∃mA,GZ h a dx C mA/\(∀f,lP (fs.lookup f) (mA f))/\PySem.Within mA (fs.map (·.1))/\fs.length<=1000/\H dx=some (.own a):=by
 obtain⟨d,z,ne,ob,mA,n,r,q⟩:=(show eG P w H h a (.ins C dx fs) from dG a _ e);exact⟨mA,⟨ob,n,ne⟩,r,q,z,d⟩
end
structure Gy(K:PySem.W.Frag)(C:Addr):Prop where
 pg:plainGet K C Str.empty=true
 hd:hasDictIn K C=true
 po:plainOver K C=true
 sa:findIn K (.ref C) "__setattr__" = some (some (.builtin "object.__setattr__"))
theorem Gy.get{K:PySem.W.Frag}{C:Addr}(c:Gy K C)(f:Str):plainGet K C f=true:=c.pg
structure Meth(K:PySem.W.Frag)(C:Addr)(m:Str)(f:Addr):Prop where
 at_:findIn K (.ref C) m=some (some (.ref f))
 fn:isFn K (.ref f)=true
 kp:keepIn K (.ref f)=true
section
variable {X:Cx}{pins:List (Addr×Obj)}{σ:St}{H:Hp}{s:Shared}{a C dx:Addr}{fs:List (Str×V)}{f:Str}{v:V}{A:Around}{E:Value->Shared->Prop}
theorem sS{m:Str}{g:Addr}{pl:Sem Bool}{Q:Value×List Value->Shared->Prop}(I:Inv X pins σ H s)(e:H a=some (.ins C dx fs))(c:Gy X.K C)(k:Meth X.K C m g)(l:fs.lookup m=none)
  (h:Q (.ref g,[.ref a]) s):wpAny (model X.prog X.w) A (getMethod (.ref a) m pl) Q E s:=by
 obtain⟨mA,O,r,_,_,_⟩:=Kx I.dG e;have hn:mA m=none:=lP.none_of (by rw [<-l];exact r m);exact G0 I.wx O (c.get m) k.at_ k.fn hn h
theorem Inv.made(I:Inv X pins σ H s):Inv X pins σ (upd (upd H s.heap.objs.size (.own (s.heap.objs.size+1))) (s.heap.objs.size+1) (.ins C s.heap.objs.size []))
  {s with heap:=(s.heap.push emptyDict).push (instObj C s.heap.objs.size)}:=by
 have e1:(s.heap.push emptyDict).get? s.heap.objs.size=some emptyDict:=Heap.get?_push_size s.heap rfl;have e2:((s.heap.push emptyDict).push (instObj C s.heap.objs.size)).get? (s.heap.objs.size+1)=some (instObj C s.heap.objs.size):=by
  have:=Heap.get?_push_size (s.heap.push emptyDict) (o:=instObj C s.heap.objs.size) rfl;rwa [Heap.size_push]at this
 have e3:(s.heap.push emptyDict).Ns s.heap.objs.size (fun _=>none):=⟨emptyDict,#[],_,e1,rfl,(fun e he=>absurd he (by simp)),fun _=>rfl⟩;have I1:=I.laid (a:=s.heap.objs.size) (o:=.own (s.heap.objs.size+1)) (h':=s.heap.push emptyDict) (t':=s.toks) (fun b u q=>Heap.get?_push_of_some _ q) (le_refl _) ⟨_,e1⟩;refine I1.laid (a:=s.heap.objs.size+1) (o:=.ins C s.heap.objs.size []) (t':=s.toks) (fun b u q=>Heap.get?_push_of_some _ q) (Nat.le_of_eq (Heap.size_push _ _)) ?_;have ne:s.heap.objs.size≠s.heap.objs.size+1:=ne_of_lt (lt_succ_self _);refine⟨by rw [aV ne,bB],zero_le _,ne,e2,fun _=>none,(Heap.Ns1.of_empty e3).at fun o q=>Heap.get?_push_of_some _ q,fun _=>True.intro,fun y hy=>absurd rfl hy⟩
end
section
variable {X:Cx}{o e value:Expr}{f:Str}{pos pos' Pd:Pos}{ta tv:TE}
end
section
variable {X:Cx}{pins:List (Addr×Obj)}{σ:St}{H:Hp}{s:Shared}{A:Around}{E:Value->Shared->Prop}{Q:Value->Shared->Prop}{c:Value}{b:Bool}
end
structure dr(k:Nat)(A:Around):Prop where
 hd:A.handled=none
 dp:A.depth+3*k+5<recursionLimit
 un:A.units+16*k+200<cLine
 gd:A.guards=some []
theorem dr.mono{j k:Nat}{A:Around}(r:dr k A)(h:j<=k):dr j A:=⟨r.hd,by have:=r.dp;omega,by have:=r.un;omega,r.gd⟩
theorem dr.deeper{k:Nat}{A:Around}(r:dr (k+1) A)(env:Env):dr k (A.deeper env) :=
 ⟨r.hd,by have:=r.dp;show A.depth+1+3*k+5<_;omega,by have:=r.un;show A.units+3+16*k+200<_;omega,r.gd⟩
theorem dr.in1{k:Nat}{A:Around}(r:dr (k+1) A):dr k A.in1 :=
 ⟨r.hd,by have:=r.dp;show A.depth+3*k+5<_;omega,by have:=r.un;show A.units+1+16*k+200<_;omega,r.gd⟩
theorem dr.depth{k:Nat}{A:Around}(r:dr k A):A.depth<recursionLimit:=by have:=r.dp;omega
theorem dr.units{k:Nat}{A:Around}(r:dr k A):A.units+64<cLine:=by have:=r.un;omega
def Sj:TA:=fun _ H Q=>Q [] H
def Sk(ta:TE)(tr:TA):TA:=fun σ H Q=>ta σ H fun x H1=>tr σ H1 fun xs H2=>Q (x::xs) H2
section
variable {X:Cx}{e:Expr}{es:List Expr}{te:TE}{t:TA}{pos:Pos}
theorem qx:PA X [] Sj:=fun _ _ _ _ H Q I h=>Calls.spliced_nil ⟨[],H,I,.nil,h⟩
theorem gL(ha:PE X e te)(hr:PA X es t)(hs:starEach (e::es) X.env=(false,eval e X.env)::starEach es X.env:=by rfl):PA X (e::es) (Sk te t):=by
 intro pos pins s σ H Q I h;rw [hs];show wpAny _ _ (spliced ((false,eval e X.env)::backTo pos (starEach es X.env))) _ _ s;refine Calls.spliced_cons (eC (ha pins s σ H _ I h) fun u s1 ⟨x,H1,I1,r1,q1⟩=>?_);exact eC (hr pos pins s1 σ H1 _ I1 q1) fun us s2 ⟨xs,H2,I2,r2,q2⟩=>⟨x::xs,H2,I2,.cons r1 r2,q2⟩
def Wa(t:TA):TE:=fun σ H Q=>t σ H fun xs H1=>xs.length<=sizeLine/\∀p,H1 p=none->Q (.ref p) (upd H1 p (.tup xs))
def Wb(t:TA):TE:=fun σ H Q=>t σ H fun xs H1=>xs.length<=sizeLine/\∀p,H1 p=none->Q (.ref p) (upd H1 p (.lst xs))
theorem Pe{x1}(h:PA X es t):PE X (.Tuple es x1 pos) (Wa t):=by
 intro pins s σ H Q I hq;refine wpAny_Tuple_spliced (eC (h pos pins s σ H _ I hq) fun us s1 ⟨xs,H1,I1,r,z,q⟩=>⟨by rw [<-r.length];exact z,?_⟩);have hf:H1 s1.heap.objs.size=none:=I1.dG.fresh (le_refl _);refine⟨.ref s1.heap.objs.size,upd H1 s1.heap.objs.size (.tup xs),I1.laid (t':=s1.toks) (fun b u e=>Heap.get?_push_of_some _ e) (le_refl _) ?_,rfl,q _ hf⟩;exact⟨z,us,r,⟨_,Heap.get?_push_size _ rfl,rfl,_,rfl⟩⟩
theorem Pf(h:PA X es t):PE X (.List es pos) (Wb t):=by
 intro pins s σ H Q I hq;refine wpAny_List_spliced (eC (h pos pins s σ H _ I hq) fun us s1 ⟨xs,H1,I1,r,z,q⟩=>⟨by rw [<-r.length];exact z,?_⟩);have hf:H1 s1.heap.objs.size=none:=I1.dG.fresh (le_refl _);refine⟨.ref s1.heap.objs.size,upd H1 s1.heap.objs.size (.lst xs),I1.laid (t':=s1.toks) (fun b u e=>Heap.get?_push_of_some _ e) (le_refl _) ?_,rfl,q _ hf⟩;exact⟨z,us,0,r,Heap.get?_push_size _ rfl⟩
end
abbrev Sp:=List V->Hp->VK->XK->Prop
abbrev DI:=List Env->Hp->Shared->XK->Value->Shared->Prop
structure Ce(P:Program)(w:World)(K:PySem.W.Frag)(mg:Str->Option Value)(base:Heap)(A:Around)(outer:List Env)(s:Shared)(H:Hp):Prop where
 frames:A.frames=some outer
 mod:Mod K mg base
 bs:∀b o,base.get? b=some o->s.heap.get? b=some o/\H b=none
 GL:base.objs.size<=s.heap.objs.size
 qv:s.heap.FunFrames base outer
 Nq:∀b∈GK outer,H b=none
 dG:pj P w H s.heap
 bare:AllBare s.gens
def CE(outer:List Env)(P:Program)(w:World)(H:Hp)(s:Shared)(Q:VK)(u:Value)(s':Shared):Prop :=
 ∃v H',s'.os=s.os/\AllBare s'.gens/\Un (GK outer) [] H H' s.heap s'.heap/\pj P w H' s'.heap/\RelV v u/\Q v H'
def CR(CX:DI)(outer:List Env)(P:Program)(w:World)(H:Hp)(s:Shared)(Q:VK)(E:XK)(r:Result)(s':Shared):Prop :=
 match r with
 |.ok (.ret u)=>CE outer P w H s Q u s'
 |.ok _=>False
 |.error e=>CX outer H s E e s'
structure bP(P:Program)(w:World)(K:PySem.W.Frag)(mg:Str->Option Value)(base:Heap)(CX:DI)(k:Nat)(f:Addr)(fd:FuncData)(ps:List Str)(sp:Sp):Prop where
 len:∀vs H Q E,sp vs H Q E->vs.length=ps.length
 run:∀(A:Around)(outer:List Env)(s:Shared)(H:Hp)(args:Args)(us:List Value)(vs:List V)(Q:VK)(E:XK),dr k A->Ce P w K mg base A outer s H->BindsTo s fd args (ps.zip us)->Vals vs us->sp vs H Q E ->
  codeAny (model P w) A (.call (.ref f) args) (CR CX outer P w H s Q E) s
theorem bP.mono{P:Program}{w:World}{K:PySem.W.Frag}{mg:Str->Option Value}{base:Heap}{CX:DI}{j k:Nat}{f:Addr}{fd:FuncData}{ps:List Str}{sp:Sp}(F:bP P w K mg base CX j f fd ps sp)(h:j<=k):
  bP P w K mg base CX k f fd ps sp:=⟨F.len,fun A outer s H args us vs Q E hr=>F.run A outer s H args us vs Q E (hr.mono h)⟩
theorem bP.imp{P:Program}{w:World}{K:PySem.W.Frag}{mg:Str->Option Value}{base:Heap}{CX:DI}{k:Nat}{f:Addr}{fd:FuncData}{ps:List Str}{sp sp':Sp}(F:bP P w K mg base CX k f fd ps sp)
  (h:∀vs H Q E,sp' vs H Q E->sp vs H Q E):bP P w K mg base CX k f fd ps sp' :=
 ⟨fun vs H Q E q=>F.len vs H Q E (h _ _ _ _ q),fun A outer s H args us vs Q E hr he hb hv hs=>F.run A outer s H args us vs Q E hr he hb hv (h _ _ _ _ hs)⟩
theorem Ce.in1{P:Program}{w:World}{K:PySem.W.Frag}{mg:Str->Option Value}{base:Heap}{A:Around}{outer:List Env}{s:Shared}{H:Hp}(e:Ce P w K mg base A outer s H):
  Ce P w K mg base A.in1 outer s H:=⟨e.frames,e.mod,e.bs,e.GL,e.qv,e.Nq,e.dG,e.bare⟩
section
variable {X:Cx}{pins:List (Addr×Obj)}{σ:St}{H:Hp}{s s':Shared}
theorem Inv.Wc(I:Inv X pins σ H s):Ce X.prog X.w X.K X.mg X.base X.A X.stack s H :=
 ⟨I.ok.frames,I.ok.mod,I.bs,Nat.le_trans I.ok.GL I.sz,I.stack,I.DA,I.dG,I.bare⟩
theorem Inv.after{Q:VK}{u:Value}(I:Inv X pins σ H s)(h:CE X.stack X.prog X.w H s Q u s'):EP X pins σ Q u s':=by
 obtain⟨v,H',os,bare,un,dG,r,q⟩:=h;obtain⟨hh,g,d,t,Wd⟩:=s';obtain rfl:Wd=s.os:=os;exact⟨v,H',I.call (h':=hh) (g':=g) (d':=d) (t':=t) (ch:=[]) un dG bare (fun b z=>absurd z (by simp)),r,q⟩
end
def Sl(sp:Sp)(dvs:List V)(E:XK)(t:TA):TE:=fun σ H Q=>t σ H fun vs H1=>sp (vs++dvs) H1 Q E
def NA(C:Addr)(m:Str)(sp:Sp)(dvs:List V)(E:XK)(ta:TE)(t:TA):TE:=fun σ H Q=>ta σ H fun x H1=>∃a dx fs,x=.ref a/\H1 a=some (.ins C dx fs)/\fs.lookup m=none /\
 t σ H1 fun vs H2=>sp (x::(vs++dvs)) H2 Q E
def Binds(K:PySem.W.Frag)(fd:FuncData)(ps:List Str)(ds:List Value):Prop :=
 ∀(s:Shared)(us:List Value),K.In s.heap->(us++ds).length=ps.length->BindsTo s fd ⟨us,[]⟩ (ps.zip (us++ds))
theorem Binds.all{K:PySem.W.Frag}{fd:FuncData}{ps:List Str}(h:∀us:List Value,us.length=ps.length->bindArgs fd ⟨us,[]⟩=pure (ps.zip us)):Binds K fd ps []:=fun s us _ hl=>by
 rw [append_nil]at hl ⊢;exact .of_eq (h us hl)
def Passes(CX:DI)(X:Cx)(E:XK):Prop:=∀(pins:List (Addr×Obj))(σ:St)(H:Hp)(s:Shared)(e:Value)(s':Shared),Inv X pins σ H s->CX X.stack H s E e s'->X.xe e s'
section
variable {X:Cx}{CX:DI}{k:Nat}{f C:Addr}{fd:FuncData}{ps:List Str}{sp:Sp}{dvs:List V}{ds:List Value}{E:XK}{x m:Str}{p pos apos:Pos}{e o:Expr}{es:List Expr}{ta:TE}{t:TA}
theorem Cf{pins:List (Addr×Obj)}{σ:St}{H:Hp}{s:Shared}{Q:VK}{us:List Value}{vs:List V}(F:bP X.prog X.w X.K X.mg X.base CX k f fd ps sp)(hr:dr k X.A)(hb:Binds X.K fd ps ds)(hd:Vals dvs ds)(hx:Passes CX X E)
  (I:Inv X pins σ H s) (r:Vals vs us) (h:sp (vs++dvs) H Q E):wpAny (model X.prog X.w) X.A (call (.ref f) us) (EP X pins σ Q) X.xe s:=by
 have r2:Vals (vs++dvs) (us++ds):=r.append hd;have hl:(us++ds).length=ps.length:=by rw [<-r2.length];exact F.len _ _ _ _ h
 refine wpAny_call (codeAny_mono (F.run X.A X.stack s H ⟨us,[]⟩ (us++ds) (vs++dvs) Q E hr I.Wc (hb s us I.wx hl) r2 h) fun r s' hq=>?_)
 cases r with
 |error e=>exact hx pins σ H s e s' I hq
 |ok fl =>
  cases fl with
  |ret u=>exact I.after hq
  |next=>exact False.elim hq
  |brk=>exact False.elim hq
  |cont=>exact False.elim hq
theorem r8(F:bP X.prog X.w X.K X.mg X.base CX k f fd ps sp)(hr:dr k X.A)(hg:Gl X x)(hm:X.mg x=some (.ref f))(hk:keepIn X.K (.ref f)=true)(hb:Binds X.K fd ps ds)(hd:Vals dvs ds)(hx:Passes CX X E)
  (ha:PA X (e::es) t) (sU:(x==("__debug__" : Str))=false:=by decide) (he:starEach (e::es) X.env=(false,eval e X.env)::starEach es X.env:=by rfl) (nt:(backTo pos (starEach es X.env)).any (·.1)=false:=by rfl) :
  PE X (.Call (.Name x p) (e::es) [] pos) (Sl sp dvs E t):=by
 intro pins s σ H Q I h;refine wpAny_Call_Name_kw (xF I hg hm ?_ sU);refine callWith_K (h₀:=X.base) I.ok.mod.UI hk (eC (ha pos pins s σ H _ I h) fun us s1 ⟨vs,H1,I1,r,q⟩=>⟨I1.wx,?_⟩) he nt;exact Cf F hr hb hd hx I1 r q
theorem Ky{pl:Sem Bool}(he:PE X o ta)(c:Gy X.K C)(hm:Meth X.K C m f)(F:bP X.prog X.w X.K X.mg X.base CX k f fd ps sp)(hr:dr k X.A)(hb:Binds X.K fd ps ds)(hd:Vals dvs ds)(hx:Passes CX X E)(ha:PA X (e::es) t)
  (B9:starEach (e::es) X.env=(false,eval e X.env)::starEach es X.env:=by rfl) (nt:(backTo pos (starEach es X.env)).any (·.1)=false:=by rfl)
  (ht:eval (.Call (.Attribute o m apos) (e::es) [] pos) X.env=(do
   let ov<-eval o X.env
   standAt apos.atName
   let(f,first)<-holding [ov] (getMethod ov m pl)
   callWith pos f first (backTo pos (starEach (e::es) X.env)) (backToKw pos (keywordEach [] X.env))):=by rfl) :
  PE X (.Call (.Attribute o m apos) (e::es) [] pos) (NA C m sp dvs E ta t):=by
 intro pins s σ H Q I h;refine methodCall_KW (pl:=pl) (eC (he pins s σ H _ I h) fun u s1 ⟨x,H1,I1,rx,a,dx,fs,ex,ea,l,q⟩=>?_) ht;subst ex;obtain rfl:u=Value.ref a:=rx;refine sS I1 ea c hm l ?_;refine callWith_K (first:=[.ref a]) (h₀:=X.base) I.ok.mod.UI hm.kp (eC (ha pos pins s1 σ H1 _ I1 q) fun us s2 ⟨vs,H2,I2,r,q2⟩=>⟨I2.wx,?_⟩) B9 nt;exact Cf (us:=.ref a::us) (vs:=.ref a::vs) F hr hb hd hx I2 (.cons rfl r) q2
theorem G6{pl:Sem Bool}(he:PE X o ta)(c:Gy X.K C)(hm:Meth X.K C m f)(F:bP X.prog X.w X.K X.mg X.base CX k f fd ps sp)(hr:dr k X.A)(hb:Binds X.K fd ps ds)(hd:Vals dvs ds)(hx:Passes CX X E)
  (ht:eval (.Call (.Attribute o m apos) [] [] pos) X.env=(do
   let ov<-eval o X.env
   standAt apos.atName
   let(f,first)<-holding [ov] (getMethod ov m pl)
   callWith pos f first (backTo pos (starEach [] X.env)) (backToKw pos (keywordEach [] X.env))):=by rfl) :
  PE X (.Call (.Attribute o m apos) [] [] pos) (NA C m sp dvs E ta Sj):=by
 intro pins s σ H Q I h;refine methodCall_KW (pl:=pl) (eC (he pins s σ H _ I h) fun u s1 ⟨x,H1,I1,rx,a,dx,fs,ex,ea,l,q⟩=>?_) ht;subst ex;obtain rfl:u=Value.ref a:=rx;refine sS I1 ea c hm l ?_;exact callWith_K0 (first:=[.ref a]) I1.wx hm.kp (Cf (us:=[.ref a]) (vs:=[.ref a]) F hr hb hd hx I1 (.cons rfl .nil) q)
end
section
variable {X:Cx}{CX:DI}{k:Nat}{f C:Addr}{fd:FuncData}{ps ks:List Str}{sp:Sp}{E:XK}{x m:Str}{p pos apos as4:Pos}{e o:Expr}{es:List Expr}{kws:List Keyword}{te ta:TE}{t tk:TA}{nm:Option Str}
variable {g:List Value->List Value->List Value}{gV:List V->List V->List V}
end
structure aT(N P:List Str)(sc:Scope):Prop where
 kind:sc.kind=.function
 co:sc.isCoroutine=false
 gen:sc.isGenerator=false
 nd:N.Nodup
 pre:N.take P.length=P
 par:∀x∈P,sc.names.lookup x=some .local\/sc.names.lookup x=some .cell
 Pg:∀y∈sc.names,y.2 ≠ .free
theorem wz{kindOf:Str->Option NameKind}{x:Str}:∀{binds:List (Str×Value)}{m:Str->Option Value},(∀v,(x,v)∉binds)->bindL kindOf binds m x=m x
 |[],_,_=>rfl
 |(n,v)::r,m,h=>by
  unfold bindL;rw [wz fun w hw=>h w (mem_cons_of_mem _ hw)];split
  ·have:x≠n:=by rintro rfl;exact h v mem_cons_self
   simp [this]
  ·rfl
theorem wA{kindOf:Str->Option NameKind}{x:Str}:∀{binds:List (Str×Value)}{m:Str->Option Value},(∀v,(x,v)∉binds)->bindC kindOf binds m x=m x
 |[],_,_=>rfl
 |(n,v)::r,m,h=>by
  unfold bindC;rw [wA fun w hw=>h w (mem_cons_of_mem _ hw)];split
  ·rfl
  ·have:x≠n:=by rintro rfl;exact h v mem_cons_self
   simp [this]
theorem wB{kindOf:Str->Option NameKind}{x:Str}{v:Value}:∀{P:List Str}{vs:List Value}{i:Nat}{m:Str->Option Value},P.Nodup->P[i]?=some x->vs[i]?=some v->kindOf x=some .local ->
  bindL kindOf (P.zip vs) m x=some v
 |[],_,_,_,_,h,_,_=>by simp at h
 |_::_,[],_,_,_,_,h,_=>by simp at h
 |p::P,w::vs,0,m,nd,h1,h2,hk=>by
  simp at h1 h2;subst h1;subst h2;show bindL kindOf ((p,w)::P.zip vs) m p=_;unfold bindL;rw [wz fun v hv=>(nodup_cons.mp nd).1 (of_mem_zip hv).1,if_pos hk];simp
 |p::P,w::vs,i+1,m,nd,h1,h2,hk=>by
  show bindL kindOf ((p,w)::P.zip vs) m x=_;unfold bindL;exact wB (i:=i) (nodup_cons.mp nd).2 (by simpa using h1) (by simpa using h2) hk
theorem wC{kindOf:Str->Option NameKind}{x:Str}{v:Value}:∀{P:List Str}{vs:List Value}{i:Nat}{m:Str->Option Value},P.Nodup->P[i]?=some x->vs[i]?=some v->kindOf x≠some .local ->
  bindC kindOf (P.zip vs) m x=some v
 |[],_,_,_,_,h,_,_=>by simp at h
 |_::_,[],_,_,_,_,h,_=>by simp at h
 |p::P,w::vs,0,m,nd,h1,h2,hk=>by
  simp at h1 h2;subst h1;subst h2;show bindC kindOf ((p,w)::P.zip vs) m p=_;unfold bindC;rw [wA fun v hv=>(nodup_cons.mp nd).1 (of_mem_zip hv).1,if_neg hk];simp
 |p::P,w::vs,i+1,m,nd,h1,h2,hk=>by
  show bindC kindOf ((p,w)::P.zip vs) m x=_;unfold bindC;exact wC (i:=i) (nodup_cons.mp nd).2 (by simpa using h1) (by simpa using h2) hk
def start(N:List Str)(vs:List V):St:=vs.map some++List.replicate (N.length-vs.length) none
def xH(CX:DI)(P:Program)(w:World)(K:PySem.W.Frag)(mg:Str->Option Value)(base:Heap)(N:List Str)(qual:Str)(scope:Scope)(f:Addr)(cd:Value)(A:Around)(outer:List Env)(s:Shared)(H:Hp)(E:XK):Cx where
 prog:=P
 w:=w
 K:=K
 mg:=mg
 base:=base
 A:=A.deeper (envOfC qual scope s.heap.objs.size f cd)
 N:=N
 s₀:=s
 H₀:=H
 env:=envOfC qual scope s.heap.objs.size f cd
 outer:=outer
 stack:=envOfC qual scope s.heap.objs.size f cd::outer
 ex:=[]
 calm:=true
 fn:=fun _=>true
 pn:=[]
 xe:=fun e s'=>wpAny (model P w) (A.deeper (envOfC qual scope s.heap.objs.size f cd)) (leaving (envOfC qual scope s.heap.objs.size f cd) e) (fun _ We=>CX outer H s E e We) (fun e' We=>CX outer H s E e' We) s'
theorem zN{sc:Scope}{n:Nat}{x:Str}(h:sc.names.lookup x=some .cell):∃c,(cellsFrom n sc.names []).lookup x=some c:=by
 have q:=cellsFrom_some sc.names n [] (.inl h);exact Option.isSome_iff_exists.mp q
theorem E1{CX:DI}{P:Program}{w:World}{K:PySem.W.Frag}{mg:Str->Option Value}{base:Heap}{N ps:List Str}{qual:Str}{scope:Scope}{f:Addr}{cd:Value}{A:Around}{outer:List Env}{s s1:Shared}{H:Hp}{E:XK}{us:List Value}{vs:List V}
  (S:aT N ps scope) (hd:A.handled=none) (e0:Ce P w K mg base A outer s H) (hl:vs.length=ps.length) (r:Vals vs us)
  (x:InCallC s s.heap.objs.size (bindL (envOfC qual scope s.heap.objs.size f cd).kindOf (ps.zip us) fun _=>none) (cellsFrom (s.heap.objs.size+1) scope.names []) (bindC (envOfC qual scope s.heap.objs.size f cd).kindOf (ps.zip us) fun _=>none) s1) :
  Inv (xH CX P w K mg base N qual scope f cd A outer s H E) [] (start N vs) H s1:=by
 have nt:ps.length<=N.length:=by have:=congrArg List.length S.pre;rw [length_take]at this;omega
 obtain⟨h1,tk,rfl,hk⟩:=x.done;have Sm:∀b:Addr,b∉(xH CX P w K mg base N qual scope f cd A outer s H E).ex:=fun b z=>absurd (show b∈([]:List Addr) from z) (by simp);refine⟨⟨e0.mod,S.kind,rfl,rfl,le_refl _,fun y z c h1 h2=>?_,fun y hy=>?_,fun y c _ h=>?_,fun _=>hd,Around.frames_deeper e0.frames,.inr ⟨rfl,rfl⟩,fun b z=>absurd z (Sm b),e0.bs,e0.GL,fun b _ _=>Sm b,fun b z=>absurd z (Sm b),e0.qv,e0.Nq⟩,
  rfl,e0.bare,Un.kept hk,⟨_,x.toInCall.ns,fun i y v h1 h2 h3=>?_⟩,fun y c h=>⟨_,x.cell y c h⟩,e0.dG.fresh (le_refl _),fun y c h=>?_,fun p hp=>absurd (show p∈([]:List (Addr×Obj)) from hp) (by simp),e0.dG.kept hk,?_⟩
 ·exact name_of_addr x.apart (PySem.mem_of_lookup h1) (PySem.mem_of_lookup h2)
 ·have hy:scope.names.lookup y=some .cell\/scope.names.lookup y=some .free:=hy;rcases hy with hy|hy
  ·exact zN hy
  ·exact absurd rfl (S.Pg _ (PySem.mem_of_lookup hy))
 ·exact le_of_lt (x.above y c (PySem.mem_of_lookup h))
 ·have hi:i<vs.length:=by
   unfold start at h2;by_cases hi:i<vs.length
   ·exact hi
   ·rw [getElem?_append_right (by simpa using hi)]at h2;rw [List.getElem?_replicate]at h2;split at h2<;>cases h2
  have ha:vs[i]?=some v:=by
   unfold start at h2;rw [getElem?_append_left (by simpa using hi),getElem?_map]at h2
   cases e:vs[i]? with
   |none=>rw [e]at h2;cases h2
   |some a=>rw [e]at h2;cases h2;rfl
  obtain⟨u,hu,rv⟩:=r.get ha;have hp:ps[i]?=some y:=by
   rw [<-S.pre,List.getElem?_take_of_lt (by omega)];exact h1
  have ndP:ps.Nodup:=by rw [<-S.pre];exact S.nd.sublist (take_sublist _ _)
  refine⟨u,rv,?_⟩;rcases S.par y (mem_of_getElem? hp)with k|k
  ·exact .inl ⟨k,wB ndP hp hu k⟩
  ·obtain⟨c,e⟩:=zN (n:=s.heap.objs.size+1) k;refine .inr ⟨.inl k,c,e,?_⟩;have q:=x.cell y c e;rw [wC ndP hp hu (by show scope.names.lookup y≠_;rw [k];decide)]at q;exact q
 ·exact e0.dG.fresh (le_of_lt (x.above y c (PySem.mem_of_lookup h)))
 ·unfold start;show _=N.length;rw [length_append,length_map,List.length_replicate];omega
theorem Sn{CX:DI}{P:Program}{w:World}{K:PySem.W.Frag}{mg:Str->Option Value}{base:Heap}{k:Nat}{f:Addr}{name qual:Str}{params:Arguments}{body:List Stmt}{scope:Scope}{dV kV doc pm jW ct oc:Value}{an od:Option Addr}
  {NB:Array (Option Value)} {N ps:List Str} {sp:Sp} (lk:K.lookup f=some ⟨oc,od,.func (PySem.W.fnOf name qual params body scope dV kV doc pm an jW ct),NB⟩) (ES:PySem.W.codeIn K jW qual=true) (S:aT N ps scope)
  (len:∀vs H Q E,sp vs H Q E->vs.length=ps.length)
  (G7:∀(A:Around)(outer:List Env)(s:Shared)(H:Hp)(vs:List V)(Q:VK)(E:XK),dr k (A.deeper (envOfC qual scope s.heap.objs.size f jW))->sp vs H Q E ->
   ∃t,vi (xH CX P w K mg base N qual scope f jW A outer s H E) body t/\t {nx:=fun _ H'=>Q .cg H',rt:=Q} (start N vs) H) :
  bP P w K mg base CX (k+1) f (PySem.W.fnOf name qual params body scope dV kV doc pm an jW ct) ps sp:=by
 refine⟨len,fun A outer s H args us vs Q E hr e0 hb r NC=>?_⟩;have hl:=len _ _ _ _ NC;have KX:K.In s.heap:=e0.mod.UI.keeps fun b o e=>(e0.bs b o e).1;have lim:s.heap.NoLimit:=e0.mod.nolimit.keeps fun b o e=>(e0.bs b o e).1;have So:∀y∈ps.zip us,scope.names.lookup y.1=some .local\/(scope.names.lookup y.1=some .cell/\((cellsFrom (s.heap.objs.size+1) scope.names []).lookup y.1).isSome=true):=fun⟨n,v⟩ hy=>by
  rcases S.par n (of_mem_zip hy).1 with q|q
  ·exact .inl q
  ·exact .inr ⟨q,cellsFrom_some _ _ _ (.inl q)⟩
 refine codeAny_call_function hr.depth (KX _ _ lk) rfl S.co S.gen rfl (PySem.W.codeRec_of KX ES) (hb _ _ _ _ ?_);refine wpAny_newFunctionEnv_cells S.kind So fun env he s1 x=>?_;subst he;refine⟨lim.keeps x.toInCall.keep,codeAny_func ?_⟩;obtain⟨t,ht,hq⟩:=G7 A outer s H vs Q E (hr.deeper _) NC;have I:Inv (xH CX P w K mg base N qual scope f jW A outer s H E) [] (start N vs) H s1:=E1 S hr.hd e0 hl r x;refine wpAny_mono (ht [] s1 (start N vs) H _ I hq) (fun fl s' hs=>?_) fun e s' hs=>hs;have fin:∀{σ':St}{H':Hp}{v:V}{u:Value},Inv (xH CX P w K mg base N qual scope f jW A outer s H E) [] σ' H' s'->RelV v u->Q v H'->CE outer P w H s Q u s' :=
  fun{σ' H' v u} J rv q=>⟨v,H',J.os,J.bare,J.base,J.dG,rv,q⟩
 cases fl with
 |ret u =>
  obtain⟨v,σ',H',J,rv,q⟩:=hs;exact fin J rv q
 |next =>
  obtain⟨σ',H',J,q⟩:=hs;exact fin (v:=V.cg) (u:=Value.none) J rfl q
 |brk =>
  obtain⟨_,_,_,q⟩:=hs;exact False.elim q
 |cont =>
  obtain⟨_,_,_,q⟩:=hs;exact False.elim q
section
variable {X:Cx}{x:Str}{p pos:Pos}{e:Expr}{es:List Expr}{t:TA}{id T:String}{r:List V->Hp->VK->Prop}
def Wf(r:List V->Hp->VK->Prop)(t:TA):TE:=fun σ H Q=>t σ H fun vs H1=>r vs H1 Q
theorem sV(hc:gx X (.builtin id) r)(hg:Gl X x)(hm:X.mg x=none)(hv:bootBuiltins x=some (.builtin id))(ha:PA X (e::es) t)(hn:x ≠ "__name__" := by decide)(sU:(x==("__debug__" : Str))=false:=by decide)
  (he:starEach (e::es) X.env=(false,eval e X.env)::starEach es X.env:=by rfl) (nt:(backTo pos (starEach es X.env)).any (·.1)=false:=by rfl):PE X (.Call (.Name x p) (e::es) [] pos) (Wf r t):=by
 intro pins s σ H Q I h;refine wpAny_Call_Name_kw (iG I hg hm hv ?_ hn sU);exact PyProof.Rows.callWith_builtin1 (eC (ha pos pins s σ H _ I h) fun us s1 ⟨vs,H1,I1,r1,q1⟩=>hc pins s1 σ H1 vs us Q I1 r1 q1) he nt
theorem E2(hc:gx X (.type T) r)(hg:Gl X x)(hm:X.mg x=none)(hv:bootBuiltins x=some (.type T))(ha:PA X (e::es) t)(hn:x ≠ "__name__" := by decide)(sU:(x==("__debug__" : Str))=false:=by decide)
  (he:starEach (e::es) X.env=(false,eval e X.env)::starEach es X.env:=by rfl) (nt:(backTo pos (starEach es X.env)).any (·.1)=false:=by rfl):PE X (.Call (.Name x p) (e::es) [] pos) (Wf r t):=by
 intro pins s σ H Q I h;refine wpAny_Call_Name_kw (iG I hg hm hv ?_ hn sU);exact PyProof.Rows.callWith_type1 (eC (ha pos pins s σ H _ I h) fun us s1 ⟨vs,H1,I1,r1,q1⟩=>hc pins s1 σ H1 vs us Q I1 r1 q1) he nt
end
end L2
namespace HT
open PySem PyProof.Rows
section
open PySem.SeqAt
open PySem.AutoSeq1 (wpAny_loadPart')
open PySem.MeetsSeq PySem.MeetsSeq2 PySem.MeetsSeq3
end
section
variable {prog:Program}{w:World}{A:Around}{E:Value->Shared->Prop}{s:Shared}
def vn(n d:Nat):Option Int->Nat
 |none=>d
 |some v=>if v<0 then(v+(n:Int)).toNat else min v.toNat n
theorem zO(n d:Nat):vn n d none=d:=rfl
theorem DJ(n d k:Nat):vn n d (some (k:Int))=min k n:=by
 show(if(k:Int)<0 then((k:Int)+(n:Int)).toNat else min (k:Int).toNat n)=min k n;rw [if_neg (by omega),toNat_natCast]
end
end HT
namespace L2
open PySem PySem.Spec PyProof.Rows
abbrev TO:=St->Hp->(Option Int->Hp->Prop)->Prop
def PO(X:Cx)(e:Option Expr)(t:TO):Prop :=
 ∀(pins:List (Addr×Obj))(s:Shared)(σ:St)(H:Hp)(Q:Option Int->Hp->Prop),Inv X pins σ H s->t σ H Q ->
  wpAny (model X.prog X.w) X.A (evalPart e X.env) (fun u s'=>∃o H',Inv X pins σ H' s'/\IsPart u o/\Q o H') X.xe s
def Kz:TO:=fun _ H Q=>Q none H
def Sq(t:TE):TO:=fun σ H Q=>t σ H fun x H1=>∃i,x=.int i/\Q (some i) H1
theorem intsAre_of{ns:List Int}:∀{us:List Value},Vals (ns.map V.int) us->IntsAre us ns:=by
 induction ns with
 |nil=>intro us r;rw [map_nil]at r;cases r;exact .nil
 |cons n ns ih =>
  intro us r;rw [map_cons]at r
  cases r with
  |cons r1 r2 =>
   obtain⟨t,e⟩:=r1;subst e;exact .cons n t (ih r2)
section
variable {X:Cx}{e:Expr}{te:TE}{lo hi:Option Expr}{tl th:TO}{pos p2:Pos}
theorem KA:PO X none Kz:=by
 intro pins s σ H Q I h;rw [evalPart_none];exact wpAny_pure ⟨none,H,I,.none,h⟩
theorem KD(h:PE X e te):PO X (some e) (Sq te):=by
 intro pins s σ H Q I hw;rw [evalPart_some];refine eC (h pins s σ H _ I hw) fun u s1 ⟨x,H1,I1,r1,q1⟩=>?_;obtain⟨i,rfl,q⟩:=q1;obtain⟨t,rfl⟩:=r1;exact⟨some i,H1,I1,.int i t,q⟩
def Rr(X:Cx)(r:V->Option Int->Option Int->Hp->VK->Prop):Prop :=
 ∀(pins:List (Addr×Obj))(s:Shared)(σ:St)(H:Hp)(x:V)(v vl vu:Value)(lo hi:Option Int)(sl:Addr)(Q:VK),Inv X pins σ H s->RelV x v->s.heap.IsSliceOf sl vl vu .none->IsPart vl lo->IsPart vu hi->r x lo hi H Q ->
  ∃T id,typeLookup (.type T) "__getitem__" = pure (some (.builtin id))/\s.TypeIs v T/\wpAny (model X.prog X.w) X.A (getItem v (.ref sl)) (EP X pins σ Q) X.xe s
theorem Rr.or{r r':V->Option Int->Option Int->Hp->VK->Prop}(h:Rr X r)(h':Rr X r'):Rr X (fun x lo hi H Q=>r x lo hi H Q\/r' x lo hi H Q):=by
 intro pins s σ H x v vl vu lo hi sl Q I rx hs pl pu q;rcases q with q|q
 ·exact h pins s σ H x v vl vu lo hi sl Q I rx hs pl pu q
 ·exact h' pins s σ H x v vl vu lo hi sl Q I rx hs pl pu q
def tSl(r:V->Option Int->Option Int->Hp->VK->Prop)(te:TE)(tl th:TO):TE:=fun σ H Q=>te σ H fun x H1=>tl σ H1 fun l H2=>th σ H2 fun u H3=>r x l u H3 Q
theorem G8{r:V->Option Int->Option Int->Hp->VK->Prop}(hr:Rr X r)(he:PE X e te)(hl:PO X lo tl)(hu:PO X hi th):PE X (.Subscript e (.Slice lo hi none p2) pos) (tSl r te tl th):=by
 intro pins s σ H Q I h;refine Subscript_ (eC (he pins s σ H _ I h) fun v s1 ⟨x,H1,I1,r1,q1⟩=>?_);refine wpAny_Slice (eC (hl pins s1 σ H1 _ I1 q1) fun vl s2 ⟨l,H2,I2,pl,q2⟩=>eC (hu pins s2 σ H2 _ I2 q2) fun vu s3 ⟨u,H3,I3,pu,q3⟩=>?_);rw [evalPart_none];refine wpAny_pure ?_;have I4:Inv X pins σ H3 {s3 with heap:=s3.heap.push {cls:=.type "slice", data:=.fields #[vl,vu,.none]}}:=I3.kept (t':=s3.toks) fun b ob q=>Heap.get?_push_of_some _ q;obtain⟨T,id,hT,ht,hg⟩:=hr pins {s3 with heap:=s3.heap.push {cls:=.type "slice", data:=.fields #[vl,vu,.none]}} σ H3 x v vl vu l u s3.heap.objs.size Q I4 r1 (Heap.IsSliceOf.new ..) pl pu q3;show wpAny (model X.prog X.w) X.A (subscriptTail e (.Slice lo hi none p2) v (.ref s3.heap.objs.size)) (EP X pins σ Q) X.xe {s3 with heap:=s3.heap.push {cls:=.type "slice", data:=.fields #[vl,vu,.none]}};exact tail_any (ops:=[.ref s3.heap.objs.size,v]) ht hT hg (by with_unfolding_all rfl)
def E3(xs:List V)(lo hi:Option Int):List V:=(xs.drop (HT.vn xs.length 0 lo)).take (HT.vn xs.length xs.length hi-HT.vn xs.length 0 lo)
theorem zP(xs:List V)(lo hi:Option Int):(E3 xs lo hi).length<=xs.length:=by
 unfold E3;rw [length_take,length_drop];exact Nat.le_trans (Nat.min_le_right _ _) (Nat.sub_le _ _)
end
def Gz(n:Nat)(i:Int):Option Nat:=if 0<=i then(if i<n then some i.toNat else none)else if -(n:Int)<=i then some (i+n).toNat else none
def jU{α:Type}(xs:List α)(i:Int):Option α:=(Gz xs.length i).bind fun j=>xs[j]?
theorem KG{n:Nat}{i:Int}{j:Nat}(h:Gz n i=some j):seqIndex? i n=some j/\j<n/\-(n:Int)<=i/\i<n:=by
 unfold Gz at h;by_cases h0:0<=i
 ·rw [if_pos h0]at h;by_cases h1:i<n
  ·rw [if_pos h1]at h;have e:i.toNat=j:=Option.some.inj h;exact⟨by rw [seqIndex_of h0 h1,e],by omega,by omega,h1⟩
  ·rw [if_neg h1]at h;cases h
 ·rw [if_neg h0]at h;by_cases h1:-(n:Int)<=i
  ·rw [if_pos h1]at h;have e:(i+n).toNat=j:=Option.some.inj h;exact⟨by rw [seqIndex_neg (by omega) h1,e],by omega,h1,by omega⟩
  ·rw [if_neg h1]at h;cases h
theorem DK{α:Type}{xs:List α}{i:Int}{v:α}(h:jU xs i=some v):∃j,seqIndex? i xs.length=some j/\xs[j]?=some v/\j<xs.length/\-(xs.length:Int)<=i/\i<xs.length:=by
 unfold jU at h
 cases e:Gz xs.length i with
 |none=>rw [e]at h;cases h
 |some j =>
  rw [e]at h;obtain⟨h1,h2,h3,h4⟩:=KG e;exact⟨j,h1,h,h2,h3,h4⟩
theorem jX{α:Type}{xs:List α}{j:Nat}{v:α}(h:xs[j]?=some v):jU xs (j:Int)=some v:=by
 have hj:j<xs.length:=(List.getElem?_eq_some_iff.mp h).1;have e:Gz xs.length (j:Int)=some j:=by
  unfold Gz;rw [if_pos (by omega),if_pos (by omega)];simp
 unfold jU;rw [e];exact h
def DL(b:Expr):Prop:=∀o i,subscripted b false o i=operate [o,i] (getItem o i)
def GA(X:Cx)(r:R2):Prop :=
 ∀(value slice:Expr)(pins:List (Addr×Obj))(s:Shared)(σ:St)(H:Hp)(x y:V)(v u:Value)(Q:VK),Inv X pins σ H s->RelV x v->RelV y u->r x y H Q ->
  subscripted slice false v u=operate [v,u] (getItem v u)->wpAny (model X.prog X.w) X.A (subscriptTail value slice v u) (EP X pins σ Q) X.xe s
def Rt(X:Cx)(id:String)(r:V->List V->Hp->VK->Prop):Prop :=
 ∀(pins:List (Addr×Obj))(s:Shared)(σ:St)(H:Hp)(x:V)(xs:List V)(v:Value)(us:List Value)(Q:VK),Inv X pins σ H s->RelV x v->Vals xs us->r x xs H Q ->
  wpAny (model X.prog X.w) X.A (call (.builtin id) (v::us)) (EP X pins σ Q) X.xe s
section
variable {X:Cx}{a b:Expr}{ta tb:TE}{pos:Pos}
theorem GA.or{r r':R2}(h:GA X r)(h':GA X r'):GA X (fun x y H Q=>r x y H Q\/r' x y H Q):=by
 intro value slice pins s σ H x y v u Q I rx ry q hs;rcases q with q|q
 ·exact h value slice pins s σ H x y v u Q I rx ry q hs
 ·exact h' value slice pins s σ H x y v u Q I rx ry q hs
theorem Rt.or{id:String}{r r':V->List V->Hp->VK->Prop}(h:Rt X id r)(h':Rt X id r'):Rt X id (fun x xs H Q=>r x xs H Q\/r' x xs H Q):=by
 intro pins s σ H x xs v us Q I rx rs q;rcases q with q|q
 ·exact h pins s σ H x xs v us Q I rx rs q
 ·exact h' pins s σ H x xs v us Q I rx rs q
theorem Sr{r:R2}(hr:GA X r)(ha:PE X a ta)(hb:PE X b tb)(hs:DL b):PE X (.Subscript a b pos) (R8 r ta tb):=by
 intro pins s σ H Q I h;exact Subscript_ (O4 ha hb I h fun v u s2 x y H2 I2 rx ry q=>hr a b pins s2 σ H2 x y v u Q I2 rx ry q (hs _ _))
def Wg(K:PySem.W.Frag):R2:=fun x y H Q=>∃p xs i v,x=.ref p/\y=.int i/\nV K H p xs/\jU xs i=some v/\Q v H
def Wh(K:PySem.W.Frag):R2:=fun x y H Q=>∃p xs i v,x=.ref p/\y=.int i/\vm K H p xs/\jU xs i=some v/\Q v H
theorem KH:GA X (Wg X.K):=by
 intro value slice pins s σ H x y v u Q I rx ry h hs;obtain⟨p,xs,i,z,rfl,rfl,hq,he,q⟩:=h
 cases rx
 obtain⟨t,rfl⟩:=ry;obtain⟨bo,r,pl,hz⟩:=I.list hq;obtain⟨j,h1,h2,h3,h4,h5⟩:=DK he;obtain⟨w,ew,Ph⟩:=r.get h2;have hl:=r.length;have hn:=xG;have fin:EP X pins σ Q w s:=⟨z,H,I,Ph,q⟩;by_cases h0:0<=i
 ·have hj:i.toNat=j:=by
   rw [seqIndex_of h0 h5]at h1;exact Option.some.inj h1
  exact item_listR pl.isList h0 (by omega) (by rw [hj];simpa using ew) fin hs
 ·have hj:(i+(bo.toArray.size:Int)).toNat=j:=by
   rw [seqIndex_neg (by omega) h4]at h1;rw [size_toArray,<-hl];exact Option.some.inj h1
  exact subscriptTail_builtinR (x:=w) pl.isList.typeIs slot_list_getitem.lookup
   (wpAny_getItem_list_neg (Q:=fun r s'=>r=w/\EP X pins σ Q r s') pl.isList (by omega) (by rw [size_toArray]<;>omega) (by omega) (by rw [hj];simpa using ew) ⟨rfl,fin⟩) hs
theorem Pj:GA X (Wh X.K):=by
 intro value slice pins s σ H x y v u Q I rx ry h hs;obtain⟨p,xs,i,z,rfl,rfl,hq,he,q⟩:=h
 cases rx
 obtain⟨t,rfl⟩:=ry;obtain⟨bo,r,pl,hz⟩:=I.tuple hq;obtain⟨j,h1,h2,h3,h4,h5⟩:=DK he;obtain⟨w,ew,Ph⟩:=r.get h2;have hl:=r.length;have hn:=xG;have fin:EP X pins σ Q w s:=⟨z,H,I,Ph,q⟩;exact subscriptTail_builtinR (x:=w) pl.typeIs slot_tuple_getitem.lookup
  (getItem_tuple (j:=j) (Q:=fun r s'=>r=w/\EP X pins σ Q r s') pl (by omega) (by omega) (by rw [size_toArray,<-hl];exact h1) (by simpa using ew) ⟨rfl,fin⟩) hs
theorem Inv.lst{pins:List (Addr×Obj)}{σ:St}{H:Hp}{s:Shared}{p:Addr}{xs:List V}(I:Inv X pins σ H s)(h:H p=some (.lst xs)):
  ∃(bo:List Value) (n:Nat),Vals xs bo/\s.heap.get? p=some {cls:=.type "list", data:=.seq bo.toArray n}/\xs.length<=sizeLine:=by
 obtain⟨z,bo,n,r,e⟩:=I.dG p _ h;exact⟨bo,n,r,e,z⟩
theorem sW(i:Int)(n d:Nat):(sliceBounds (some i) none none n).1=((HT.vn n d (some i):Nat):Int):=by
 simp only [sliceBounds,HT.vn,Option.getD_none,show(1:Int)>0 by decide,if_true];by_cases h:i<0
 ·simp only [h,if_true];rw [Int.min_eq_left (by have:=Int.add_le_add_right (Int.le_of_lt h) (n:Int);rwa [Int.zero_add]at this),Int.max_comm,Int.ofNat_toNat]
 ·simp only [h,if_false];obtain⟨k,rfl⟩:=Int.eq_ofNat_of_zero_le (not_lt.mp h);rw [toNat_natCast];rcases Nat.le_total k n with e|e
  ·rw [Int.min_eq_left (Int.ofNat_le.mpr e),min_eq_left e,Int.max_eq_right (Int.natCast_nonneg _)]
  ·rw [Int.min_eq_right (Int.ofNat_le.mpr e),Nat.min_eq_right e,Int.max_eq_right (Int.natCast_nonneg _)]
theorem xI(lo hi:Option Int)(n:Nat):(sliceBounds lo hi none n).1=((HT.vn n 0 lo:Nat):Int)/\(sliceBounds lo hi none n).2.1=((HT.vn n n hi:Nat):Int)/\(sliceBounds lo hi none n).2.2=1:=by
 refine⟨?_,?_,rfl⟩
 ·cases lo with
  |none=>rfl
  |some i=>exact sW i n 0
 ·cases hi with
  |none=>rfl
  |some i=>exact sW i n n
theorem vo(bo:List Value)(lo hi:Option Int):slicePick bo.toArray lo hi none=((bo.drop (HT.vn bo.length 0 lo)).take (HT.vn bo.length bo.length hi-HT.vn bo.length 0 lo)).toArray:=by
 obtain⟨h1,h2,h3⟩:=xI lo hi bo.toArray.size;unfold slicePick;rw [h1,h2,h3];simp only [sliceRange_one,pick_run,size_toArray]<;>rfl
def Wi(K:PySem.W.Frag):V->Option Int->Option Int->Hp->VK->Prop:=fun x lo hi H Q=>∃a xs,x=.ref a/\nV K H a xs/\∀p,H p=none->Q (.ref p) (upd H p (.lst (E3 xs lo hi)))
theorem KI:Rr X (Wi X.K):=by
 intro pins s σ H x v vl vu lo hi sl Q I rx hs pl pu h;obtain⟨a,xs,rfl,hx,q⟩:=h
 cases rx
 obtain⟨bo,r,ht,hz⟩:=I.list hx;have hlen:=r.length;refine⟨"list", _,slot_list_getitem.lookup,ht.isList.typeIs,?_⟩;refine wpAny_getItem_list_slice ht.isList hs pl pu .none (by simp) ?_ (by rw [size_toArray]<;>omega);rw [vo,<-hlen];refine⟨.ref s.heap.objs.size,_,I.laid (t':=s.toks) (o:=.lst (E3 xs lo hi)) (fun b ob q=>Heap.get?_push_of_some _ q) (le_refl _) ?_,rfl,q _ (I.dG.fresh (le_refl _))⟩;exact⟨Nat.le_trans (zP xs lo hi) hz,_,0,(r.drop (HT.vn xs.length 0 lo)).take (HT.vn xs.length xs.length hi-HT.vn xs.length 0 lo),Heap.get?_push_size _ rfl⟩
theorem xJ:gx X (.builtin "len") (fun xs H Q=>∃p ys,xs=[.ref p]/\(nV X.K H p ys\/vm X.K H p ys)/\Q (.int ys.length) H):=by
 intro pins s σ H xs us Q I r h;obtain⟨p,ys,rfl,hq,q⟩:=h;obtain⟨u,rfl,rx⟩:=vals1 r
 cases rx
 have hn:=xG;rcases hq with hq|hq
 ·obtain⟨bo,r',pl,hz⟩:=I.list hq;have hlen:=r'.length;exact Calls.call_len_list pl.isList (by simp only [size_toArray]<;>omega) ⟨.int ys.length,H,I.tok _,⟨s.toks+1,by rw [size_toArray,hlen]⟩,q⟩
 ·obtain⟨bo,r',pl,hz⟩:=I.tuple hq;have hlen:=r'.length;exact len_tuple pl (by simp only [size_toArray]<;>omega) ⟨.int ys.length,H,I.tok _,⟨s.toks+1,by rw [size_toArray,hlen]⟩,q⟩
theorem xK:gx X (.builtin "len") (fun xs H Q=>∃z,xs=[.str z]/\z.length<=sizeLine/\Q (.int z.length) H):=by
 intro pins s σ H xs us Q I r h;obtain⟨z,rfl,hz,q⟩:=h;obtain⟨u,rfl,t,rfl⟩:=vals1 r;have hn:=xG;exact len_str (by omega) ⟨.int z.length,H,I.tok _,⟨_,rfl⟩,q⟩
theorem gx.or{f:Value}{r r':List V->Hp->VK->Prop}(h:gx X f r)(h':gx X f r'):gx X f (fun xs H Q=>r xs H Q\/r' xs H Q):=by
 intro pins s σ H xs us Q I rs q;rcases q with q|q
 ·exact h pins s σ H xs us Q I rs q
 ·exact h' pins s σ H xs us Q I rs q
theorem xM:gx X (.type "list") (fun xs H Q=>∃p ys,xs=[.ref p]/\(nV X.K H p ys\/vm X.K H p ys)/\∀l,H l=none->Q (.ref l) (upd H l (.lst ys))):=by
 intro pins s σ H xs us Q I r h;obtain⟨p,ys,rfl,hq,q⟩:=h;obtain⟨u,rfl,rx⟩:=vals1 r
 cases rx
 have fin:∀(bo:List Value),Vals ys bo->ys.length<=sizeLine->∀(h':Heap)(c':Nat),(∀b o',s.heap.get? b=some o'->h'.get? b=some o') ->
   h'.get? s.heap.objs.size=some {cls:=.type "list", dict:=none,data:=.seq bo.toArray c',slots:=#[]}->EP X pins σ Q (.ref s.heap.objs.size) {s with heap:=h'}:=fun bo r' hz h' c' kp e =>
  ⟨.ref s.heap.objs.size,_,I.laid (t':=s.toks) kp (le_refl _) (show eG X.prog X.w _ h' _ (.lst ys) from⟨hz,bo,c',r',e⟩),rfl,q _ (I.dG.fresh (le_refl _))⟩
 rcases hq with hq|hq
 ·obtain⟨bo,r',pl,hz⟩:=I.list hq;have hlen:=r'.length;obtain⟨o,ho,hc,n,hd⟩:=pl.isList;exact call_list_seq p (.inl rfl) ho hc hd (fun h' c' kp e=>fin bo r' hz h' c' kp e) (by simp only [size_toArray]<;>omega)
 ·obtain⟨bo,r',pl,hz⟩:=I.tuple hq;have hlen:=r'.length;obtain⟨o,ho,hc,n,hd⟩:=pl;exact call_list_seq p (.inr rfl) ho hc hd (fun h' c' kp e=>fin bo r' hz h' c' kp e) (by simp only [size_toArray]<;>omega)
def tyV(K:PySem.W.Frag)(T:String)(x:V)(H:Hp):Prop:=match x with
 |.str _=>T = "str"
 |.int _=>T = "int"
 |.ref p=>(T = "list" /\ ∃xs,nV K H p xs)\/(T = "tuple" /\ ∃o,K.lookup p=some o/\o.cls=.type "tuple" /\ o.dict=none) \/
   (T = "dict" /\ ((∃kvs,H p=some (.dK kvs))\/∃kvs,H p=some (.dT kvs)))\/(T = "set" /\ ∃S n,H p=some (.set S n))
 |_=>False
theorem Pk{pins:List (Addr×Obj)}{σ:St}{H:Hp}{s:Shared}{T:String}{x:V}{v:Value}(I:Inv X pins σ H s)(r:RelV x v)(ty:tyV X.K T x H):
  s.TypeIs v T/\∀a,v=.ref a->∃ob,s.heap.get? a=some ob/\ob.dict=none:=by
 cases x with
 |str z =>
  obtain⟨t,rfl⟩:=r
  cases(show T = "str" from ty)
  exact⟨typeIs_str s z t,fun _ e=>nomatch e⟩
 |int i =>
  obtain⟨t,rfl⟩:=r
  cases(show T = "int" from ty)
  exact⟨typeIs_int s i t,fun _ e=>nomatch e⟩
 |ref p =>
  cases r
  rcases ty with⟨rfl,xs,hq⟩|⟨rfl,o,hk,hc,hd⟩|⟨rfl,hk⟩|⟨rfl,S,n,hk⟩
  ·obtain⟨bo,_,pl,_⟩:=I.list hq;refine⟨pl.isList.typeIs,fun a e=>?_⟩
   cases e
   obtain⟨o,n,e,c,hd,_⟩:=pl;exact⟨o,e,hd⟩
  ·refine⟨⟨o,I.wx p o hk,hc⟩,fun a e=>?_⟩
   cases e
   exact⟨o,I.wx _ o hk,hd⟩
  ·have z:∃o,s.heap.get? p=some o/\o.ExactDict:=by
    rcases hk with⟨kvs,hk⟩|⟨kvs,hk⟩
    ·obtain⟨_,_,_,_,o,_,_,e,ex,_⟩:=I.dG p _ hk;exact⟨o,e,ex⟩
    ·obtain⟨_,_,_,_,o,_,_,e,ex,_⟩:=I.dG p _ hk;exact⟨o,e,ex⟩
   obtain⟨o,e,ex⟩:=z;refine⟨⟨o,e,ex.1⟩,fun a e2=>?_⟩
   cases e2
   exact⟨o,e,ex.2.1⟩
  ·obtain⟨o,_,_,_,e,ex,_⟩:=I.dG p _ hk;refine⟨⟨o,e,ex.1⟩,fun a e2=>?_⟩
   cases e2
   exact⟨o,e,ex.2.1⟩
 |_=>exact False.elim ty
def tBM(K:PySem.W.Frag)(T:String)(r:V->List V->Hp->VK->Prop)(to:TE)(t:TA):TE:=fun σ H Q=>to σ H fun x H1=>tyV K T x H1/\t σ H1 fun xs H2=>r x xs H2 Q
variable {o e:Expr}{es:List Expr}{to:TE}{t:TA}{name:Str}{apos gY:Pos}{T id:String}{r:V->List V->Hp->VK->Prop}
theorem Ss(pa:PlainAttrs T)(slot:Slot T name id)(hty:typeOf (.builtin id)=pure (.type "method_descriptor"))(hm:Rt X id r)(ho:PE X o to)(ha:PA X (e::es) t)
  (G9:attributeBase o name X.env (eval o X.env)=eval o X.env:=by rfl)
  (Pl:((backTo gY (starEach (e::es) X.env)).all (fun x=>!x.1)&&(backToKw gY (keywordEach [] X.env)).all (fun x=>x.1.isSome)
   && decide ((e::es).length+([]:List Keyword).length+(if([]:List Keyword).isEmpty then 0 else 1)<30))=true:=by rfl)
  (Ha:(apos.endLine==gY.line)=true:=by rfl) (hs:starEach (e::es) X.env=(false,eval e X.env)::starEach es X.env:=by rfl) (Cg:(backTo gY (starEach es X.env)).any (·.1)=false:=by rfl) :
  PE X (.Call (.Attribute o name apos) (e::es) [] gY) (tBM X.K T r to t):=by
 intro pins s σ H Q I h;refine wpAny_Call_method_late G9 Pl Ha rfl (eC (ho pins s σ H _ I h) fun v s1 ⟨x,H1,I1,r1,ty,q1⟩=>?_);obtain⟨h1,h2⟩:=Pk I1 r1 ty;refine⟨T,id,pa,slot,hty,h1,h2,?_⟩;have hA:=ha gY pins s1 σ H1 _ I1 q1;rw [hs]at hA ⊢;refine Calls.callWith_builtin (by show(false||(backTo gY (starEach es X.env)).any (·.1))=false;rw [Cg]<;>rfl) (Calls.evalArgs_plain ?_);exact eC hA fun us s2 ⟨vs,H2,I2,r2,q2⟩=>hm pins s2 σ H2 x vs v us Q I2 r1 r2 q2
/- xs.append(e),list.index on a Hb tuple .. are Rt facts of 06m -/
end
def MtM(X:Cx)(id:String)(r:V->List V->Hp->VK->Prop):Prop :=
 ∀(pins:List (Addr×Obj))(s:Shared)(σ:St)(H:Hp)(x:V)(xs:List V)(v:Value)(us:List Value)(Q:VK),Inv X pins σ H s->RelV x v->Vals xs us->r x xs H Q ->
  wpAny (model X.prog X.w) X.A (call (.builtin id) (v::us)) (EP X pins σ Q) X.xe s
theorem Paired.Wj{α β:Type}{F:α->β->Prop}{l:List β}(h:Paired F [] l):l=[]:=by cases h;rfl
theorem Paired.Su{α β:Type}{F:α->β->Prop}{a:α}{m:List α}{l:List β}(h:Paired F (a::m) l):∃b n,l=b::n/\F a b/\Paired F m n:=by cases h with|cons r t=>exact⟨_,_,rfl,r,t⟩
theorem Vals.one{x:V}{us:List Value}(h:Vals [x] us):∃u,us=[u]/\RelV x u:=by
 obtain⟨b,n,rfl,r,t⟩:=Paired.Su h;exact⟨b,by rw [Paired.Wj t],r⟩
theorem Vals.two:∀{x y:V}{us:List Value},Vals [x,y] us->∃u v,us=[u,v]/\RelV x u/\RelV y v
 |_,_,_,.cons r (.cons q .nil)=>⟨_,_,rfl,r,q⟩
theorem Vals.zero:∀{us:List Value},Vals [] us->us=[]
 |_,.nil=>rfl
theorem Vals.eraseIdx:∀{xs:List V}{us:List Value}(i:Nat),Vals xs us->Vals (xs.eraseIdx i) (us.eraseIdx i)
 |_,_,_,.nil=>.nil
 |_,_,0,.cons _ t=>t
 |_,_,i+1,.cons r t=>.cons r (Vals.eraseIdx i t)
theorem Vals.reverse{xs:List V}{us:List Value}(h:Vals xs us):Vals xs.reverse us.reverse:=by
 induction h with
 |nil=>exact .nil
 |cons r t ih=>rw [List.reverse_cons,List.reverse_cons];exact Vals.append ih (.cons r .nil)
section
variable {X:Cx}{pins:List (Addr×Obj)}{σ:St}{H:Hp}{s:Shared}{l b:Addr}{xs ys zs:List V}
theorem Inv.Wk{bo its':List Value}{n:Nat}{f:Array Value->Array Value}{t':Nat}(I:Inv X pins σ H s)(hH:H l=some (.lst xs))
  (e:s.heap.get? l=some {cls:=.type "list", data:=.seq bo.toArray n}) (hf:f bo.toArray=its'.toArray) (hv:Vals ys its') (hz:ys.length<=sizeLine) :
  Inv X pins σ (upd H l (.lst ys)) {s with heap:=s.heap.update l (Obj.mapSeq f),toks:=t'}:=by
 have q:=PySem.IsL.update e f;rw [hf]at q;refine I.write (x:=l) (e:=l) (by rw [hH];exact trivial) (.inl rfl) (fun b' u hb hu=>(Heap.get?_update_other s.heap (Obj.mapSeq f) (Ne.symm hb)).trans hu) ⟨_,q⟩ ?_;exact⟨hz,its',_,hv,q⟩
theorem Inv.Sv{bo:List Value}{t':Nat}(I:Inv X pins σ H s)(hv:Vals ys bo)(hz:ys.length<=sizeLine):
  Inv X pins σ (upd H s.heap.objs.size (.lst ys)) {s with heap:=s.heap.push {cls:=.type "list", data:=.seq bo.toArray},toks:=t'} :=
 I.laid (fun _ _ q=>Heap.get?_push_of_some _ q) (le_refl _) ⟨hz,bo,0,hv,Heap.get?_push_size _ rfl⟩
theorem Inv.fresh(I:Inv X pins σ H s):H s.heap.objs.size=none:=I.dG.fresh (le_refl _)
theorem Inv.Wl(I:Inv X pins σ H s)(hH:H l=some (.lst xs)):xs.length<=sizeLine/\∃(bo:List Value) (n:Nat),Vals xs bo/\xs.length=bo.length/\s.heap.get? l=some {cls:=.type "list", data:=.seq bo.toArray n}:=by
 obtain⟨z,bo,n,r,e⟩:=I.dG l _ hH;exact⟨z,bo,n,r,r.length,e⟩
end
section
variable {X:Cx}
def KJ:V->List V->Hp->VK->Prop:=fun x vs H Q=>∃l xs y,x=.ref l/\vs=[y]/\H l=some (.lst xs)/\xs.length<sizeLine/\Q .cg (upd H l (.lst (xs++[y])))
theorem wD:MtM X "list.append" KJ:=by
 intro pins s σ H x vs v us Q I rx rv h;obtain⟨l,xs,y,rfl,rfl,hH,hz,q⟩:=h
 cases rx
 obtain⟨u,rfl,ru⟩:=rv.one;obtain⟨z,bo,n,r,hl,e⟩:=I.Wl hH;refine call_meets F.slot_list_append ⟨_,e,rfl⟩ F.entry_list_append (F.args_list_append_2 _ _) (PySem.list_append l bo.toArray n u (by rw [size_toArray];omega)) ⟨e,?_⟩;refine⟨.cg,_,I.Wk (its':=bo++[u]) hH e (by simp) (r.append (.cons ru .nil)) ?_,rfl,q⟩;rw [length_append,List.length_singleton];omega
end
section
variable {prog:Program}{w:World}{A:Around}{E:Value->Shared->Prop}{s:Shared}
set_option maxRecDepth 100000 in
end
section
variable {X:Cx}
end
section
variable {κ:Type}[DecidableEq κ]
def jJ(kvs:List (κ×V))(k:κ):Option V:=(kvs.find? fun kv=>decide (kv.1=k)).map (·.2)
def putK(kvs:List (κ×V))(k:κ)(v:V):List (κ×V) :=
 if(kvs.any fun kv=>decide (kv.1=k))=true then kvs.map (fun kv=>if kv.1=k then(kv.1,v)else kv)else kvs++[(k,v)]
def ND(kvs:List (κ×V))(k:κ):List (κ×V):=kvs.filter fun kv=>decide (kv.1≠k)
theorem sZ{p:κ×V}{r:List (κ×V)}{k:κ}(e:p.1=k):jJ (p::r) k=some p.2:=by simp [jJ,find?_cons,e]
theorem tf{p:κ×V}{r:List (κ×V)}{k:κ}(e:¬p.1=k):jJ (p::r) k=jJ r k:=by simp [jJ,find?_cons,e]
theorem zQ(k:κ):∀kvs:List (κ×V),(kvs.any fun kv=>decide (kv.1=k))=(jJ kvs k).isSome
 |[]=>rfl
 |p::r=>by
  rw [any_cons];by_cases e:p.1=k
  ·simp only [sZ e,decide_eq_true e,Bool.true_or,Option.isSome_some]
  ·rw [tf e,decide_eq_false e,Bool.false_or];exact zQ k r
theorem lR(kvs:List (κ×V))(k:κ)(v:V):(putK kvs k v).length<=kvs.length+1:=by
 unfold putK;split
 ·rw [length_map];omega
 ·rw [length_append,length_cons,length_nil];omega
theorem lP.E4{o:Option V}{u:Option Value}(r:lP o u):o.isSome=u.isSome:=by
 cases o with
 |none=>cases u with
  |none=>rfl
  |some _=>exact(show False from r).elim
 |some _=>cases u with
  |none=>exact(show False from r).elim
  |some _=>rfl
theorem lP.getD{o:Option V}{u:Option Value}{d:V}{d':Value}(r:lP o u)(rd:RelV d d'):RelV (o.getD d) (u.getD d'):=by
 cases o with
 |none=>cases u with
  |none=>exact rd
  |some _=>exact(show False from r).elim
 |some _=>cases u with
  |none=>exact(show False from r).elim
  |some _=>exact r
theorem KV.val{kvs:List (κ×V)}{vs:List (κ×Value)}(r:KV kvs vs)(k:κ):lP (jJ kvs k) (valueAt vs k):=by
 unfold KV at r
 induction r with
 |nil=>exact True.intro
 |@cons p q ps qs h t ih =>
  obtain⟨h1,h2⟩:=h;by_cases e:p.1=k
  ·have e':q.1=k:=h1.symm.trans e;have b:valueAt (q::qs) k=some q.2:=by simp [valueAt,find?_cons,e']
   rw [sZ e,b];exact h2
  ·have e':¬q.1=k:=fun z=>e (h1.trans z);have b:valueAt (q::qs) k=valueAt qs k:=by simp [valueAt,find?_cons,e']
   rw [tf e,b];exact ih
theorem KV.any{kvs:List (κ×V)}{vs:List (κ×Value)}(r:KV kvs vs)(k:κ):(kvs.any fun kv=>decide (kv.1=k))=vs.any fun kv=>decide (kv.1=k):=by
 unfold KV at r
 induction r with
 |nil=>rfl
 |cons h t ih=>rw [any_cons,any_cons,ih,h.1]
theorem KV.Pm{kvs:List (κ×V)}{vs:List (κ×Value)}(r:KV kvs vs)(k:κ){y:V}{u:Value}(ry:RelV y u):
  KV (kvs.map fun kv=>if kv.1=k then(kv.1,y)else kv) (vs.map fun kv=>if kv.1=k then(kv.1,u)else kv):=by
 unfold KV at r ⊢
 induction r with
 |nil=>exact .nil
 |@cons p q ps qs h t ih =>
  rw [map_cons,map_cons];refine .cons ?_ ih;obtain⟨h1,h2⟩:=h;by_cases e:p.1=k
  ·rw [if_pos e,if_pos (h1.symm.trans e)];exact⟨h1,ry⟩
  ·rw [if_neg e,if_neg (fun z=>e (h1.trans z))];exact⟨h1,h2⟩
theorem KV.put{kvs:List (κ×V)}{vs:List (κ×Value)}(r:KV kvs vs)(k:κ){y:V}{u:Value}(ry:RelV y u):KV (putK kvs k y) (stored vs k u):=by
 unfold putK stored;rw [r.any k];by_cases e:(vs.any fun kv=>decide (kv.1=k))=true
 ·rw [if_pos e,if_pos e];exact r.Pm k ry
 ·rw [if_neg e,if_neg e];exact Paired.snoc r ⟨rfl,ry⟩
theorem KV.drop{kvs:List (κ×V)}{vs:List (κ×Value)}(r:KV kvs vs)(k:κ):KV (ND kvs k) (without vs k):=by
 unfold KV at r ⊢;unfold ND without
 induction r with
 |nil=>exact .nil
 |@cons p q ps qs h t ih =>
  obtain⟨h1,h2⟩:=h;rw [List.filter_cons,List.filter_cons];by_cases e:p.1=k
  ·have a:¬decide (p.1≠k)=true:=by simp [e]
   have b:¬decide (q.1≠k)=true:=by simp [h1.symm.trans e]
   rw [if_neg a,if_neg b];exact ih
  ·have e':¬q.1=k:=fun z=>e (h1.trans z);have a:decide (p.1≠k)=true:=by simp [e]
   have b:decide (q.1≠k)=true:=by simp [e']
   rw [if_pos a,if_pos b];exact .cons ⟨h1,h2⟩ ih
theorem KV.keys{kvs:List (κ×V)}{vs:List (κ×Value)}(r:KV kvs vs):kvs.map (·.1)=vs.map (·.1):=by
 unfold KV at r
 induction r with
 |nil=>rfl
 |cons h t ih=>rw [map_cons,map_cons,ih,h.1]
theorem KV.length{kvs:List (κ×V)}{vs:List (κ×Value)}(r:KV kvs vs):kvs.length=vs.length:=Paired.length r
end
theorem Hc{P:Program}{w:World}{k:Key}{u:Value}(r:RelV (kV k) u):(bN P w).is k u=true:=by
 cases k with
 |inl i=>obtain⟨t,e⟩:=(show ∃t,u=Value.int i t from r);subst e;exact qX P w i t
 |inr x=>obtain⟨t,e⟩:=(show ∃t,u=Value.str x t from r);subst e;exact zH P w x t
theorem wF{P:Program}{w:World}:∀{ks:List Key}{us:List Value},Vals (ks.map kV) us->ItemsAre (bN P w) ks us
 |[],_,r=>by rw [map_nil]at r;cases r;exact .nil
 |k::ks,_,r=>by
  rw [map_cons]at r
  cases r with
  |cons h t=>exact .cons (Hc h) (wF t)
abbrev KT(H:Hp):List (List Key×V)->List (List Key×Addr×Value)->Prop:=Paired fun p q=>p.1=q.1/\H q.2.1=some (.tup (p.1.map kV))/\RelV p.2 q.2.2
theorem KT.val{H:Hp}{kvs:List (List Key×V)}{xs:List (List Key×Addr×Value)}(r:KT H kvs xs)(k:List Key):lP (jJ kvs k) ((atKey xs k).map (·.2)):=by
 induction r with
 |nil=>exact True.intro
 |@cons p q ps qs h t ih =>
  obtain⟨h1,_,h2⟩:=h;by_cases e:p.1=k
  ·have e':q.1=k:=h1.symm.trans e;have b:atKey (q::qs) k=some q.2:=by simp [atKey,find?_cons,e']
   rw [sZ e,b];exact h2
  ·have e':¬q.1=k:=fun z=>e (h1.trans z);have b:atKey (q::qs) k=atKey qs k:=by simp [atKey,find?_cons,e']
   rw [tf e,b];exact ih
theorem KT.Pm{H:Hp}{kvs:List (List Key×V)}{xs:List (List Key×Addr×Value)}(r:KT H kvs xs)(k:List Key){y:V}{u:Value}(ry:RelV y u):
  KT H (kvs.map fun kv=>if kv.1=k then(kv.1,y)else kv) (xs.map (putAt k u)):=by
 induction r with
 |nil=>exact .nil
 |@cons p q ps qs h t ih =>
  rw [map_cons,map_cons];refine .cons ?_ ih;obtain⟨h1,h2,h3⟩:=h;unfold putAt;by_cases e:p.1=k
  ·rw [if_pos e,if_pos (h1.symm.trans e)];exact⟨h1,h2,ry⟩
  ·rw [if_neg e,if_neg (fun z=>e (h1.trans z))];exact⟨h1,h2,h3⟩
theorem KT.put{H:Hp}{kvs:List (List Key×V)}{xs:List (List Key×Addr×Value)}(r:KT H kvs xs)(k:List Key){b:Addr}{y:V}{u:Value}(hb:H b=some (.tup (k.map kV)))(ry:RelV y u):
  KT H (putK kvs k y) (storedH xs k b u):=by
 have e:(kvs.any fun kv=>decide (kv.1=k))=(atKey xs k).isSome:=by
  rw [zQ,(r.val k).E4,Option.isSome_map]
 unfold putK storedH;rw [e];by_cases q:(atKey xs k).isSome=true
 ·rw [if_pos q,if_pos q];exact r.Pm k ry
 ·rw [if_neg q,if_neg q];exact Paired.snoc r ⟨rfl,hb,ry⟩
theorem KT.keeps{H H':Hp}{kvs:List (List Key×V)}{xs:List (List Key×Addr×Value)}(r:KT H kvs xs)(ht:∀b ys,H b=some (.tup ys)->H' b=some (.tup ys)):KT H' kvs xs :=
 Paired.OI r fun _ _ z=>⟨z.1,ht _ _ z.2.1,z.2.2⟩
section
variable {P:Program}{w:World}{H:Hp}{h:Heap}{a:Addr}
theorem NF{u:HO}(ok:pj P w H h)(e:Rd H a u):eG P w H h a u:=e.ok ok
theorem Hd{kvs:List (Key×V)}(ok:pj P w H h)(e:Rd H a (.dK kvs)):kvs.length<=sizeLine/\(a==sysModules)=false/\∃vs,KV kvs vs/\h.DictOf (bN P w) a vs :=
 show eG P w H h a (.dK kvs) from NF ok e
theorem NG{kvs:List (Key×V)}(ok:pj P w H h)(e:H a=some (.dK kvs)):kvs.length<=sizeLine/\(a==sysModules)=false/\∃vs,KV kvs vs/\h.DictOf (bN P w) a vs:=Hd ok (.inl e)
theorem He{ks:List Key}(ok:pj P w H h)(e:H a=some (.tup (ks.map kV))):(tupleKind (bN P w)).is h ks a:=by
 obtain⟨_,bo,r,o,h1,h2,n,h3⟩:=(show eG P w H h a (.tup (ks.map kV)) from ok a _ e);exact⟨o,bo.toArray,n,h1,h2,h3,by simpa using wF r⟩
theorem NH{kvs:List (List Key×V)}(ok:pj P w H h)(e:Rd H a (.dT kvs)):kvs.length<=sizeLine/\(a==sysModules)=false /\
  ∃xs,KT H kvs xs/\h.DictOfH (tupleKind (bN P w)) a xs:=by
 obtain⟨z,y,xs,r,o,es,ep,h1,h2,h3,h4,h5⟩:=(show eG P w H h a (.dT kvs) from NF ok e);refine⟨z,y,xs,r,o,es,ep,h1,h2,h3,h4,fun x hx=>?_,h5⟩;have all:∀{l:List (List Key×V)}{m:List (List Key×Addr×Value)},KT H l m->∀x∈m,(tupleKind (bN P w)).is h x.1 x.2.1:=by
  intro l m q
  induction q with
  |nil=>intro x hx;exact nomatch hx
  |@cons p q ps qs hq t ih =>
   intro x hx;rcases mem_cons.mp hx with e|hx
   ·subst e;exact He ok (by rw [<-hq.1];exact hq.2.1)
   ·exact ih x hx
 exact all r x hx
theorem Sw{kvs:List (List Key×V)}(ok:pj P w H h)(e:H a=some (.dT kvs)):kvs.length<=sizeLine/\(a==sysModules)=false /\
  ∃xs,KT H kvs xs/\h.DictOfH (tupleKind (bN P w)) a xs:=NH ok (.inl e)
end
def KL(H:Hp)(a:Addr)(y:V)(r:Option V):Prop :=
 (∃kvs k,Rd H a (.dK kvs)/\y=kV k/\r=jJ kvs k)\/∃kvs k b,Rd H a (.dT kvs)/\y=.ref b/\H b=some (.tup (k.map kV))/\r=jJ kvs k
def Ci(H:Hp)(a:Addr)(y v:V)(H':Hp):Prop :=
 (∃kvs k,H a=some (.dK kvs)/\y=kV k/\kvs.length<sizeLine/\H'=upd H a (.dK (putK kvs k v))) \/
 ∃kvs k b,H a=some (.dT kvs)/\y=.ref b/\H b=some (.tup (k.map kV))/\kvs.length<sizeLine/\H'=upd H a (.dT (putK kvs k v))
theorem KL.k{H:Hp}{a:Addr}{kvs:List (Key×V)}{k:Key}(e:H a=some (.dK kvs)):KL H a (kV k) (jJ kvs k):=.inl ⟨kvs,k,.inl e,rfl,rfl⟩
theorem KL.t{H:Hp}{a b:Addr}{kvs:List (List Key×V)}{k:List Key}(e:H a=some (.dT kvs))(eb:H b=some (.tup (k.map kV))):KL H a (.ref b) (jJ kvs k):=.inr ⟨kvs,k,b,.inl e,rfl,eb,rfl⟩
theorem Ci.k{H:Hp}{a:Addr}{kvs:List (Key×V)}{k:Key}{v:V}(e:H a=some (.dK kvs))(hl:kvs.length<sizeLine):Ci H a (kV k) v (upd H a (.dK (putK kvs k v))):=.inl ⟨kvs,k,e,rfl,hl,rfl⟩
theorem Ci.t{H:Hp}{a b:Addr}{kvs:List (List Key×V)}{k:List Key}{v:V}(e:H a=some (.dT kvs))(eb:H b=some (.tup (k.map kV)))(hl:kvs.length<sizeLine):
  Ci H a (.ref b) v (upd H a (.dT (putK kvs k v))):=.inr ⟨kvs,k,b,e,rfl,eb,hl,rfl⟩
section
variable {X:Cx}{pins:List (Addr×Obj)}{σ:St}{H:Hp}{s:Shared}{a:Addr}{y v:V}{u r:Value}{o:Option V}{A:Around}{E:Value->Shared->Prop}
theorem Inv.big(I:Inv X pins σ H s):sysModules<s.heap.objs.size:=by
 have h:mainGlobals<s.heap.objs.size:=(I.mod.glob.keeps I.bk).lt;exact lt_trans (by decide) h
theorem xN{h':Heap}{t':Nat}{ob:HO}(I:Inv X pins σ H s)(mu:RT (H a))(hs:Heap.SameBut a s.heap h')(he:∃q,h'.get? a=some q)(new:eG X.prog X.w (upd H a ob) h' a ob):
  Inv X pins σ (upd H a ob) {s with heap:=h',toks:=t'} :=
 I.write (x:=a) (e:=a) mu (.inl rfl) (fun b q hb z=>(hs.2 b hb).trans z) he new
theorem Hf{P:Program}{w:World}{H':Hp}{h':Heap}{kvs:List (Key×V)}{vs:List (Key×Value)}(z:kvs.length<=sizeLine)(hd:(a==sysModules)=false)(rel:KV kvs vs)(dd:h'.DictOf (bN P w) a vs):
  eG P w H' h' a (.dK kvs):=⟨z,hd,vs,rel,dd⟩
theorem E5{H':Hp}{Q:Unit->Shared->Prop}(hu:A.units+1<cLine)(I:Inv X pins σ H s)(g:Ci H a y v H')(ry:RelV y u)(rv:RelV v r)(h:∀s',Inv X pins σ H' s'->Q () s'):
  wpAny (model X.prog X.w) A (setItem (.ref a) u r) Q E s:=by
 rcases g with⟨kvs,k,e,ey,l,eH⟩|⟨kvs,k,b,e,ey,eb,l,eH⟩
 ·subst ey eH;obtain⟨z,hd,vs,rel,dd⟩:=NG I.dG e;have hz:vs.length<=sizeLine:=by rw [<-rel.length];exact z
  have hl:(putK kvs k v).length<=sizeLine:=by have:=lR kvs k v;omega
  refine wpAny_setItem_pairs (hsz:=hz) (Hc ry) dd fun h' Pn hs=>h _ ?_;have he:∃q,h'.get? a=some q:=let⟨q,_,_,hq,_⟩:=Pn;⟨q,hq⟩
  exact xN I (by rw [e];exact True.intro) hs he (Hf hl hd (rel.put k rv) Pn)
 ·subst ey eH
  cases(show u=Value.ref b from ry)
  obtain⟨z,hd,xs,rel,dd⟩:=Sw I.dG e;have hz:xs.length<=sizeLine:=by rw [<-Paired.length rel];exact z
  have hl:(putK kvs k v).length<=sizeLine:=by have:=lR kvs k v;omega
  refine wpAny_setItem_heap (hsz:=hz) (tupleKind_room_in1 hu) (He I.dG eb) dd fun h' Pn hs=>h _ ?_;obtain⟨q,es,ep,hq,h2,h3,h4,_,h5⟩:=Pn;refine xN I (by rw [e];exact True.intro) hs ⟨q,hq⟩ ⟨hl,hd,_,(rel.put k eb rv).keeps fun c ys ec=>?_,q,es,ep,hq,h2,h3,h4,h5⟩;rw [aV (RS ec e (fun z=>nomatch z))];exact ec
end
section
variable {X:Cx}{pins:List (Addr×Obj)}{σ:St}{H:Hp}{s:Shared}{a:Addr}{kvs:List (Key×V)}{k:Key}{u:Value}{A:Around}{E:Value->Shared->Prop}
theorem Sx{Q:Value->Shared->Prop}(I:Inv X pins σ H s)(e:Rd H a (.dK kvs))(h:∀t s',Inv X pins σ H s'->Q (.int kvs.length t) s'):wpAny (model X.prog X.w) A (call (.builtin "len") [.ref a]) Q E s:=by
 obtain⟨z,hd,vs,rel,dd⟩:=Hd I.dG e;refine call_len_dict hd dd (by rw [<-rel.length];rw [sizeLine_eq]at z;omega) ?_;rw [<-rel.length];exact h _ _ (I.tok _)
end
def Sy(td ty tv:TE):TS:=fun D σ H=>tv σ H fun v H1=>td σ H1 fun x H2=>ty σ H2 fun y H3=>∃a H4,x=.ref a/\Ci H3 a y v H4/\D.nx σ H4
section
variable {X:Cx}{o i e value:Expr}{pos pos' Pd:Pos}{td ty tv:TE}
theorem KO(hu:X.A.units+1<cLine)(ho:PE X o td)(hi:PE X i ty)(hv:PE X value tv)(hs:swapsWith value (some (.Subscript o i pos')) pos.line X.env=pure false):
  PS X (.Assign [.Subscript o i pos'] value pos) (Sy td ty tv):=by
 intro pins s σ H D I h;refine wpAny_Assign_Subscript (eC (hv pins s σ H _ I h) fun r s1 ⟨v,H1,I1,rv,q1⟩=>eC (ho pins s1 σ H1 _ I1 q1) fun u s2 ⟨x,H2,I2,rx,q2⟩=>eC (hi pins s2 σ H2 _ I2 q2) fun iv s3 ⟨y,H3,I3,ry,a,H4,ex,g,q3⟩=>?_) hs;subst ex;obtain rfl:u=Value.ref a:=rx;exact E5 hu I3 g ry rv fun s4 I4=>⟨σ,H4,I4,q3⟩
end
theorem Hg{P:Program}{w:World}{H:Hp}(h:Heap)(hb:sysModules<h.objs.size):eG P w H (h.push {cls:=.type "dict", data:=.dict #[]}) h.objs.size (.dK []) :=
 ⟨zero_le _,beq_eq_false_iff_ne.mpr (Ne.symm (ne_of_lt hb)),[],.nil,Heap.DictOf.new h⟩
def Po:TE:=fun _ H Q=>∀p,H p=none->Q (.ref p) (upd H p (.dK []))
section
variable {X:Cx}{pos:Pos}
theorem Hh:PE X (.Dict [] [] pos) Po:=fun pins s σ H Q I h =>
 wpAny_Dict_empty ⟨.ref s.heap.objs.size,_,I.laid (a:=s.heap.objs.size) (o:=.dK []) (t':=s.toks) (fun _ _ q=>Heap.get?_push_of_some _ q) (le_refl _) (Hg s.heap I.big),rfl,h _ (I.dG.fresh (le_refl _))⟩
end
def Pq(kvs more:List (Key×V)):List (Key×V):=more.foldl (fun acc kv=>putK acc kv.1 kv.2) kvs
theorem KV.merge:∀{more:List (Key×V)}{rs:List (Key×Value)}{kvs:List (Key×V)}{vs:List (Key×Value)},KV more rs->KV kvs vs->KV (Pq kvs more) (merged vs rs):=by
 intro more rs kvs vs r;unfold KV at r
 induction r generalizing kvs vs with
 |nil=>intro q;exact q
 |@cons p q ps qs h t ih =>
  intro r0;have e:KV (putK kvs p.1 p.2) (stored vs q.1 q.2):=by
   have:=r0.put p.1 h.2;rw [<-h.1];exact this
  exact ih e
structure M2(X:Cx)(o:Expr)(m:Str)(apos:Pos)(e f:Expr)(gY:Pos):Prop where
 base:attributeBase o m X.env (eval o X.env)=eval o X.env
 NI:((backTo gY (starEach [e,f] X.env)).all (fun x=>!x.1)&&(backToKw gY (keywordEach [] X.env)).all (fun x=>x.1.isSome)
  && decide (([e,f]:List Expr).length+([]:List Keyword).length+(if([]:List Keyword).isEmpty then 0 else 1)<30))=true
 line:(apos.endLine==gY.line)=true
 trees:backTo gY (starEach [e,f] X.env)=[(false,eval e X.env),(false,eval f X.env)]
def IsD(H:Hp)(a:Addr):Prop:=(∃kvs,Rd H a (.dK kvs))\/∃kvs,Rd H a (.dT kvs)
theorem Pt{X:Cx}{pins:List (Addr×Obj)}{σ:St}{H:Hp}{s:Shared}{a:Addr}(I:Inv X pins σ H s)(d:IsD H a):
  s.TypeIs (.ref a) "dict" /\ (∀b,Value.ref a=.ref b->∃ob,s.heap.get? b=some ob/\ob.dict=none)/\(a==sysModules)=false:=by
 rcases d with⟨kvs,e⟩|⟨kvs,e⟩
 ·obtain⟨_,hd,vs,_,dd⟩:=Hd I.dG e;refine⟨dd.typeIs,fun b q=>?_,hd⟩
  cases q
  obtain⟨ob,_,_,h1,h2,_⟩:=dd;exact⟨ob,h1,h2.2.1⟩
 ·obtain⟨_,hd,xs,_,dd⟩:=NH I.dG e;refine⟨dd.typeIs,fun b q=>?_,hd⟩
  cases q
  obtain⟨ob,_,_,h1,h2,_⟩:=dd;exact⟨ob,h1,h2.2.1⟩
section
variable {X:Cx}{pins:List (Addr×Obj)}{σ:St}{H:Hp}{s:Shared}{a:Addr}{y d:V}{u r:Value}{o:Option V}{A:Around}{E:Value->Shared->Prop}
end
section
variable {X:Cx}{o e f:Expr}{apos gY:Pos}{td ty tx:TE}
end
section
variable {X:Cx}{pins:List (Addr×Obj)}{σ:St}{H:Hp}{s:Shared}{a:Addr}{kvs:List (Key×V)}{A:Around}{E:Value->Shared->Prop}
end
section
variable {X:Cx}{pins:List (Addr×Obj)}{σ:St}{H:Hp}{s:Shared}{a:Addr}{y:V}{u:Value}{A:Around}{E:Value->Shared->Prop}
end
end L2
namespace Att
open PySem PySem.W PySem.Calls PyProof.Rows
theorem rR{P:Params}{h:Heap}:∀(ns:List Int)(vs:List Value),WellAll P h vs (ns.map WData.int)->IntsAre vs ns:=by
 intro ns
 induction ns with
 |nil =>
  intro vs w;rw [map_nil]at w
  cases w
  exact .nil
 |cons n ns ih =>
  intro vs w;rw [map_cons]at w
  cases w with
  |cons a b =>
   cases a
   exact .cons _ _ (ih _ b)
theorem E6{l:OpenLaw}{n:Nat}(hn:l.most=some n){P:Params}{h:Heap}{args:List WData}{vals:List Value}
  (E7:l.row.toRowW.claim.pre args=true) (SA:WellAll P h vals args) :
  ∃a vs ns,vals=[Value.ref a]/\args=[WData.list (ns.map WData.int)]/\h.get? a=some {cls:=.type "list", data:=.seq vs.toArray}/\IntsAre vs ns/\ns.length<=n:=by
 have hsh:WShape.hasAll [] args [.list .int]=true:=(pre_splitW E7).1;have hc:l.pre.holds [] {args:=args}=true:=(pre_splitW E7).2;obtain⟨d,r,rfl,h1,h2⟩:=hasAllW_cons hsh;obtain rfl:=hasAllW_nil h2;obtain⟨xs,rfl,h3⟩:=hasW_list h1;obtain⟨ns,rfl⟩:=items_int h3;have hlen:ns.length<=n:=by
  unfold OpenLaw.pre at hc;have h4:(WTm.not (.lt (.lit (.int (n:Int))) (.len (.arg 0)))).holds [] {args:=[.list (ns.map .int)]}=true:=by
   have h4:=(holds_andW hc).1;rw [hn]at h4;exact h4
  have h5:=condW_of h4 (w_not (w_lt w_lit (w_len_list (w_arg rfl))));rw [length_map]at h5;refine Nat.le_of_not_lt fun q=>?_;have q':(n:Int)<((ns.length:Nat):Int):=by omega
  first
   |(rw [decide_eq_true q']at h5;exact absurd h5 (by decide))
   |(simp at h5;omega)
 cases SA with
 |cons w1 w2 =>
  cases w2
  cases w1 with
  |list ho Wm=>exact⟨_,_,ns,rfl,rfl,ho,rR ns _ Wm,hlen⟩
theorem E8(l:OpenLaw)(args:List WData):l.row.toRowW.claim.post args (.bool true) args=true :=
 postW_of (r:=l.row.toRowW) (X:=(true==true))
  (show WShape.has [] (.bool true) .bool=true by first|rfl|decide|simp [WShape.has,WShape.arms,WShape.armsAll])
  (show(WTm.eq .res (.lit (.bool true))).value [] {args:=args,res:=some (.bool true),after:=args}=some (.bool (true==true)) from w_eq_bool (w_res rfl) w_lit) rfl
theorem zR{l:OpenLaw}{n:Nat}{q:Program}{loose:List Str}{XP:(Str->Option Value)->Heap->Prop}{YP:World->Heap->Prop}{d:DefRec}
  (hn:l.most=some n) (KP:d.params.defaults=[])
  (call:∀(w:World)(s₀ s₁:Shared)(mg mb:Str->Option Value)(fa:Addr)(o:Obj)(pm cd doc:Value)(a:Addr)(vs:List Value)(ns:List Int),
   Ground q loose [] XP w s₀ mg mb s₁.heap->YP w s₁.heap ->
   s₁.heap.get? fa=some o->o.data=.func (docDef d.name d.params d.body d.scope pm cd doc)->s₁.heap.CodeRec cd d.name->mg d.name=some (.ref fa) ->
   s₁.heap.get? a=some {cls:=.type "list", data:=.seq vs.toArray}->IntsAre vs ns->ns.length<=n->s₁.gens=#[] ->
   codeAny (model l.prog w) callerA (.call (.ref fa) ⟨[.ref a],[]⟩) (fun r s'=>r=.ok (.ret (.bool true))/\OldK s₁.heap s'.heap/\s'.os=s₁.os/\AllBare s'.gens) s₁) :
  WalkO q loose XP YP l.row.toRowW d [] (fun f vs=>PySem.call f vs):=by
 intro w s₀ s₁ mg mb G Y fa o pm cd doc dV kV ho hd ES hD KQ hg args vals as E7 SD hrd SA Wn;obtain rfl:dV=.none:=Dflts.none hD KP;obtain rfl:kV=.none:=Dflts.noKw hD;obtain⟨a,vs,ns,rfl,rfl,Pu,hints,hlen⟩:=E6 hn E7 SA;refine enter_call (codeAny_mono (call w s₀ s₁ mg mb fa o pm cd doc a vs ns G Y ho (fd_plain hd) ES KQ Pu hints hlen hg) fun r s' hq=>?_);obtain⟨rfl,h2,h3,h4⟩:=hq;exact⟨.inl ⟨.bool true,.bool true,[],rfl,fun _=>rfl,.bool true,E8 l _,fun _=>⟨List.Pairwise.nil,fun _ hm=>(nomatch hm)⟩⟩,h2,h3,h4⟩
section
variable {prog:Program}{w:World}{A:Around}{E:Value->Shared->Prop}{s:Shared}{K:Frag}
def ledger(h:Heap)(L d:Addr):List (Addr×Obj):=(List.range h.objs.size).filterMap fun a=>if a=L\/a=d then none else(h.get? a).map fun o=>(a,o)
end
end Att
namespace L2
open PySem PySem.Spec PyProof.Rows
theorem jK:∀{vs:List Value}{ns:List Int},IntsAre vs ns->Vals (ns.map V.int) vs
 |_,_,.nil=>.nil
 |_,_,.cons n t h=>.cons ⟨t,rfl⟩ (jK h)
def Pw(H:Hp):Prop:=∀b,H b=none\/∃o xs,H b=some (.GI o (.lst xs))
theorem Hj{P:Program}{w:World}{K:PySem.W.Frag}{mg mb:Str->Option Value}{CX:DI}{k:Nat}{fa a:Addr}{fd:FuncData}{x:Str}{sp:Sp}{s₁:Shared}{vs:List Value}{ns:List Int}
  (KX:K.In s₁.heap) (vp:s₁.heap.Ns mainGlobals mg) (hb:s₁.heap.Ns builtinsNs mb) (hbb:∀x:Str,x ≠ "__name__" -> mb x=bootBuiltins x) (Wo:s₁.heap.NoLimit) (hg:s₁.gens=#[])
  (ha:s₁.heap.get? a=some {cls:=.type "list", data:=.seq vs.toArray}) (hi:IntsAre vs ns) (hl:ns.length<=sizeLine) (hr:dr k callerA)
  (F:∀base:Heap,K.In base->base.Ns mainGlobals mg->bP P w K mg base CX k fa fd [x] sp) (SE:∀(s:Shared)(u:Value),BindsTo s fd ⟨[u],[]⟩ [(x,u)])
  (NC:∀H:Hp,Pw H->nV K H a (ns.map V.int)->sp [.ref a] H (fun v _=>v=.bl true) fun _ _ _=>False)
  (Wq:∀H e s',CX [] H s₁ (fun _ _ _=>False) e s'->False) :
  codeAny (model P w) callerA (.call (.ref fa) ⟨[.ref a],[]⟩) (fun r s'=>r=.ok (.ret (.bool true))/\OldK s₁.heap s'.heap/\s'.os=s₁.os/\AllBare s'.gens) s₁:=by
 have rv:=jK hi;have Wr:=hi.length
 -- from an abstract heap in af1 nothing but GX script may be tracked
 have core:∀H:Hp,Pw H->nV K H a (ns.map V.int)->pj P w H s₁.heap->(∀b,H b≠none->b=a)->(H a≠none->K.lookup a=none) ->
   codeAny (model P w) callerA (.call (.ref fa) ⟨[.ref a],[]⟩) (fun r s'=>r=.ok (.ret (.bool true))/\OldK s₁.heap s'.heap/\s'.os=s₁.os/\AllBare s'.gens) s₁:=by
  intro H hO hS dG hA hK;have DM:∀{b:Addr}{o:Obj},s₁.heap.get? b=some o->H b=none->(xD s₁.heap H).get? b=some o:=fun e n=>GJ e n;have Sm:∀{b:Addr}{o:Obj}{es:Array DictEntry}{ep:Nat},s₁.heap.get? b=some o->o.data=.dict es ep->H b=none:=fun{b o es ep} e d=>by
   cases q:H b with
   |none=>rfl
   |some u =>
    have e':b=a:=hA b (by rw [q];simp);subst e';rw [ha]at e;cases e
    have d':Data.seq vs.toArray _=Data.dict es ep:=d
    cases d'
  have UO:∀{b:Addr}{m:Str->Option Value},s₁.heap.Ns b m->(xD s₁.heap H).Ns b m:=fun{b m} ⟨o,es,ep,e,d,r⟩=>⟨o,es,ep,DM e (Sm e d),d,r⟩;have hKb:K.In (xD s₁.heap H):=fun b o e=>DM (KX b o e) (by
   cases q:H b with
   |none=>rfl
   |some u =>
    have e':b=a:=hA b (by rw [q];simp);subst e';rw [hK (by rw [q];simp)]at e;cases e)
  have hM:Mod K mg (xD s₁.heap H):=⟨hKb,UO vp,⟨mb,UO hb,hbb⟩,let⟨mc,h1,h2⟩:=Wo;⟨mc,UO h1,h2⟩⟩;have e0:Ce P w K mg (xD s₁.heap H) callerA [] s₁ H:=⟨rfl,hM,fun b o e=>Kg e,Nat.le_of_eq (EN _ _),trivial,fun b hb=>absurd (show b∈([]:List Addr) from hb) (by simp),dG,.of_eq hg⟩;refine codeAny_mono ((F _ hKb (UO vp)).run callerA [] s₁ H ⟨[.ref a],[]⟩ [.ref a] [.ref a] _ _ hr e0 (SE s₁ (.ref a)) (.cons rfl .nil) (NC H hO hS)) fun r s' h=>?_
  cases r with
  |error e=>exact(Wq H e s' h).elim
  |ok fl =>
   cases fl with
   |next=>exact False.elim h
   |brk=>exact False.elim h
   |cont=>exact False.elim h
   |ret u =>
    obtain⟨v,H',os,bare,un,Ws,r',q⟩:=h;have q':v=.bl true:=q;subst q';obtain rfl:u=Value.bool true:=r';refine⟨rfl,OldK.of_keep fun b o e=>?_,os,bare⟩
    cases q:H b with
    |none=>exact un.keep b o e q (by intro z;exact absurd (show b∈([]:List Addr) from z) (by simp)) (by simp)
    |some u =>
     rcases hO b with z|⟨ob,xs,z⟩
     ·rw [q]at z;cases z
     ·have z2:=un.pk b ob _ z;obtain⟨e1,_⟩:=dG b _ z;obtain⟨e2,_⟩:=Ws b _ z2;rw [e]at e1;cases e1
      exact e2
 cases hk:K.lookup a with
 |some o =>
  -- GX script is one of GX Hb own objects
  have e:=KX a o hk;rw [ha]at e
  cases e
  refine core (fun _=>none) (fun _=>.inl rfl) (.inr ⟨_,vs.toArray,_,hk,rfl,rfl,rfl,by rw [size_toArray,Wr];exact hl,by simpa using rv⟩) (fun b u z=>by have z':(none:Option HO)=some u:=z;cases z') (fun b z=>absurd rfl z) fun z=>absurd rfl z
 |none =>
  refine core (fun b=>if b=a then some (.GI {cls:=.type "list", data:=.seq vs.toArray} (.lst (ns.map V.int)))else none) (fun b=>?_) (.inl (.inr ⟨{cls:=.type "list", data:=.seq vs.toArray},if_pos rfl⟩)) (fun b u z=>?_) (fun b z=>?_) fun _=>hk
  ·by_cases hb:b=a
   ·exact .inr ⟨_,_,if_pos hb⟩
   ·exact .inl (if_neg hb)
  ·by_cases hb:b=a
   ·have z':=(if_pos hb).symm.trans z
    cases z'
    subst hb;exact⟨ha,by rw [length_map];exact hl,vs,_,rv,ha⟩
   ·have z':=(if_neg hb).symm.trans z
    cases z'
  ·by_cases hb:b=a
   ·exact hb
   ·exact absurd (if_neg hb) z
abbrev KOf{K:PySem.W.Frag}{h:Heap}(_:K.In h):PySem.W.Frag:=K
theorem xO{l:PySem.W.OpenLaw}{n k:Nat}{q:Program}{loose:List Str}{XP:(Str->Option Value)->Heap->Prop}{YP:World->Heap->Prop}{d:DefRec}{K:Params->PySem.W.Frag}{CX:World->DI}{sp:World->Sp}{x:Str}
  (hn:l.most=some n) (hn2:n<=sizeLine) (KP:d.params.defaults=[]) (hr:dr k callerA)
  (hY:∀(w:World)(h:Heap),YP w h->(K w.params).In h)
  (F:∀(w:World)(mg:Str->Option Value)(fa:Addr)(h:Heap),(K w.params).In h->h.Ns mainGlobals mg->mg d.name=some (.ref fa) ->
   ∃fd:FuncData,(∀(s:Shared)(u:Value),BindsTo s fd ⟨[u],[]⟩ [(x,u)]) /\
    ∀base:Heap,(K w.params).In base->base.Ns mainGlobals mg->bP l.prog w (K w.params) mg base (CX w) k fa fd [x] (sp w))
  (NC:∀(w:World)(H:Hp)(a:Addr)(ns:List Int),ns.length<=n->Pw H->nV (K w.params) H a (ns.map V.int)->sp w [.ref a] H (fun v _=>v=.bl true) fun _ _ _=>False)
  (Wq:∀(w:World)(H:Hp)(s:Shared)(e:Value)(s':Shared),CX w [] H s (fun _ _ _=>False) e s'->False) :
  PySem.W.WalkO q loose XP YP l.row.toRowW d [] (fun f vs=>PySem.call f vs):=by
 refine Att.zR hn KP fun w s₀ s₁ mg mb fa o pm cd doc a vs ns G Y ho hd ES KQ Pu hints hlen hg=>?_;have KX:=hY w _ Y;obtain⟨fd,hb,hF⟩:=F w mg fa _ KX G.T.g KQ;exact Hj KX G.T.g G.T.b G.T.builtins G.T.nolimit hg Pu hints (Nat.le_trans hlen hn2) hr hF hb (fun H hO hS=>NC w H a ns hlen hO hS) fun H e s'=>Wq w H s₁ e s'
end L2
/- THE at5 UP (shape;LID,My.* are af4):
  My.Adr: a structure of GX addresses at7 at8 af5 names (classes,Ru);My.Txt K t: a structure Prop of GX equations over K;
  My.Px:{K} {implicit addresses ..} (e1:nsIn K mainGlobals "law" = some (some (.ref f))) (e2:K.lookup f=some ⟨oc,od,.func (fnOf "law" "law" params body scope dV kV doc pm an jW ct),sl⟩) (e3:codeIn K jW "law" = true) ..:∃t,My.Txt K t
set_option maxRecDepth 100000 in
set_option maxHeartbeats 0 in
theorem PySem.Challenge.cw_LID_holds : PySem.Challenge.rw_LID.Holds := by
 w_on;o_law;k_head;(case hw=>w_witness2)
 k_fill
 refine L2.xO (l:=PySem.Challenge.rw_LID) (n:=63) (k:=40) (x := "script") (CX:=fun w=>..) (sp:=fun _=>My.Wt) rfl (by decide) rfl ⟨rfl,by decide,by decide⟩ (fun w h Y=>kIn_of Y) ?F ?S ?C
 case F =>
  intro w mg fa h KX G KQ;have T:∃t,My.Txt (L2.KOf KX) t:=by
   dsimp only [L2.KOf]                          -- K at9 af6 as «<heap const> w.params» for k_is;refine' My.Px ?e1 ?e2 ?e3 ..
   (case e1=>PySem.W.k_is)                    -- in GX order: a name -> bo address -> bo object -> bo parts
   (case e2=>PySem.W.k_is)
   ..
  obtain⟨t,T⟩:=T;have e0:=KQ.symm.trans (mg_of KX G T.law)
  cases e0                                       -- fa is GX af7 own address
  exact⟨_,fun s u=>.of_eq rfl,fun base kb nb=>My.law_fn T kb nb⟩     -- if «.of_eq rfl» comes too early: refine' ⟨_,?b,fun base kb nb=>My.law_fn T kb nb⟩;exact fun s u=>.of_eq rfl
 case S=>exact fun w H a ns hl hO hS=>..
 case C=>exact ..
(GX tactic k_is has no namespace: write k_is) -/
namespace L2
open PySem PySem.Spec PyProof.Rows
def aX(s:Stmt):Arguments:=match s with
 |.FunctionDef _ a _ _ _ _ _ _ _ _=>a
 |_=>{posonlyargs:=[],args:=[],vararg:=none,kwonlyargs:=[],kw_defaults:=[],kwarg:=none,defaults:=[]}
def aO(s:Stmt):List Stmt:=match s with
 |.FunctionDef _ _ b _ _ _ _ _ _ _=>b
 |_=>[]
def ak(s:Stmt):Scope:=match s with
 |.FunctionDef _ _ _ _ _ _ sc _ _ _=>sc
 |_=>{kind:=.function,names:=[],isGenerator:=false,isCoroutine:=false}
abbrev hV:DI:=fun _ _ _ _ _ _=>False
abbrev E0:XK:=fun _ _ _=>False
theorem wG{X:Cx}:Passes hV X E0:=fun _ _ _ _ _ _ _ h=>h.elim
structure jY(K:PySem.W.Frag)(x qual:Str)(st:Stmt)(f:Addr)(fd:FuncData):Prop where
 ex:∃(oc:Value) (od:Option Addr) (kV doc pm:Value) (an:Option Addr) (jW ct:Value) (NB:Array (Option Value)),
  fd=PySem.W.fnOf x qual (aX st) (aO st) (ak st) .none kV doc pm an jW ct/\K.lookup f=some ⟨oc,od,.func fd,NB⟩/\PySem.W.codeIn K jW qual=true
 kp:keepIn K (.ref f)=true
section
variable {P:Program}{w:World}{K:PySem.W.Frag}{mg:Str->Option Value}{base:Heap}
theorem jY.ok{x qual:Str}{st:Stmt}{f:Addr}{fd:FuncData}{N ps:List Str}{k:Nat}{sp:Sp}(F:jY K x qual st f fd)(S:aT N ps (ak st))(len:∀vs H Q E,sp vs H Q E->vs.length=ps.length)
  (G7:∀(jW:Value)(A:Around)(outer:List Env)(s:Shared)(H:Hp)(vs:List V)(Q:VK)(E:XK),dr k (A.deeper (envOfC qual (ak st) s.heap.objs.size f jW))->sp vs H Q E ->
   ∃t,vi (xH hV P w K mg base N qual (ak st) f jW A outer s H E).GQ (aO st) t/\t {nx:=fun _ H'=>Q .cg H',rt:=Q} (start N vs) H):bP P w K mg base hV (k+1) f fd ps sp:=by
 obtain⟨oc,od,kV,doc,pm,an,jW,ct,NB,rfl,lk,ES⟩:=F.ex;refine Sn lk ES S len fun A outer s H vs Q E hr NC=>?_;obtain⟨t,h,q⟩:=G7 jW A outer s H vs Q E hr NC;exact⟨t,h.GQ,q⟩
theorem jY.binds{x qual:Str}{st:Stmt}{f:Addr}{fd:FuncData}{ps:List Str}(F:jY K x qual st f fd)
  (h:∀(kV doc pm:Value)(an:Option Addr)(jW ct:Value)(us:List Value),us.length=ps.length->bindArgs (PySem.W.fnOf x qual (aX st) (aO st) (ak st) .none kV doc pm an jW ct) ⟨us,[]⟩=pure (ps.zip us)):Binds K fd ps []:=by
 obtain⟨oc,od,kV,doc,pm,an,jW,ct,NB,rfl,lk,ES⟩:=F.ex;exact .all (h kV doc pm an jW ct)
theorem bI{x qual:Str}{st:Stmt}{f:Addr}{oc:Value}{od an:Option Addr}{NB:Array (Option Value)}{kV doc pm jW ct:Value}(l:K.lookup f=some ⟨oc,od,.func (PySem.W.fnOf x qual (aX st) (aO st) (ak st) .none kV doc pm an jW ct),NB⟩)
  (c:PySem.W.codeIn K jW qual=true) (k:keepIn K (.ref f)=true):jY K x qual st f (PySem.W.fnOf x qual (aX st) (aO st) (ak st) .none kV doc pm an jW ct):=⟨⟨oc,od,kV,doc,pm,an,jW,ct,NB,rfl,l,c⟩,k⟩
end
theorem NJ{A:Around}{k:Nat}(hr:dr k A):A.units+1<cLine:=lt_of_le_of_lt (Nat.add_le_add_left (by decide:1<=64) _) hr.units
theorem aG{n:Nat}(h:n<=1000):n<sizeLine:=lt_of_le_of_lt h (by decide)
section
variable {X:Cx}
theorem pv(i:Nat){x:Str}{pos:Pos}(hN:X.N[i]?=some x:=by rfl)(hv:UJ X.env.scope x:=by first|exact Or.inl rfl|exact Or.inr (Or.inl rfl)|exact Or.inr (Or.inr rfl))(hd:(x==("__debug__" : Str))=false:=by decide)
  (ES:(x==("__classdict__" : Str))=false:=by decide):PE X (.Name x pos) (ER i):=ON hN hv hd ES
theorem E9:gx X (.builtin "len") (fun xs H Q=>∃a kvs,xs=[V.ref a]/\H a=some (.dK kvs)/\Q (.int kvs.length) H):=by
 intro pins s σ H xs us Q I r h;obtain⟨a,kvs,rfl,ha,q⟩:=h;obtain⟨u,rfl,ru⟩:=vals1 r
 cases ru
 exact Sx I (.inl ha) fun t s' I'=>⟨.int kvs.length,H,I',⟨t,rfl⟩,q⟩
end
theorem Cj{A B:Prop}(h:B):if false=true then A else B:=by
 rw [if_neg Bool.false_ne_true];exact h
theorem Ck{A B:Prop}(h:A):if true=true then A else B:=by
 rw [if_pos rfl];exact h
def aA(H H':Hp):Prop:=∀b o,H b=some o->H' b=some o
theorem aA.refl(H:Hp):aA H H:=fun _ _ h=>h
theorem aA.trans{H H1 H2:Hp}(a:aA H H1)(b:aA H1 H2):aA H H2:=fun c o h=>b c o (a c o h)
theorem aA.free{H H':Hp}(e:aA H H'){l:Addr}(h:H' l=Option.none):H l=Option.none:=by
 cases q:H l with
 |none=>rfl
 |some o =>
  rw [e l o q]at h
  cases h
theorem aA.seq{K:PySem.W.Frag}{H H':Hp}{a:Addr}{xs:List V}(e:aA H H')(h:nV K H a xs):nV K H' a xs:=by
 rcases h with(h|⟨o,h⟩)|h
 ·exact .inl (.inl (e _ _ h))
 ·exact .inl (.inr ⟨o,e _ _ h⟩)
 ·exact .inr h
section
variable {κ:Type}[DecidableEq κ]
end
end L2
set_option maxHeartbeats 4000000
namespace M
open PySem PySem.Spec PyProof.Rows
abbrev SM:=StateT SortSt Sem
def de(prog:Program)(w:World)(A:Around)(E:Value->Shared->Prop)(s:Shared)(L:List Keyed)(v:Keyed->Int)(kd:SortKind):Prop :=
 ∀x∈L,∀y∈L,∀(st:SortSt)(Q:Option Bool->SortSt->Prop),kindOf st=kd->Q (some (decide (v x<v y))) st->wpS (model prog w) A E s (lt' x y) Q st
def i5:Bool->Keyed->Array Keyed->Nat->Nat->Nat->SM (Option Nat):=sortPriv% PySem.Builtin.gallop
abbrev CG:=Option (Option Nat)×Nat×Nat
def Fb(left:Bool)(key:Keyed)(arr:Array Keyed)(i:Nat):SM (Option Bool):=do
 let x<-elem' arr i
 if left=true then lt' x key else do
  let y<-lt' key x
  pure (y.map (!·))
def upG(left:Bool)(key:Keyed)(arr:Array Keyed)(base n hint:Nat):SM CG:=forIn [0:n] ((none,0,1):CG) fun _ c =>
 if c.2.2≥n-hint then pure (.done (none,c.2.1,c.2.2))else do
  let r<-Fb left key arr (base+(hint+c.2.2))
  match r with
  |some b=>if(!b)=true then pure (.done (none,c.2.1,c.2.2))else pure (.yield (none,c.2.2,2*c.2.2+1))
  |_=>pure (.done (some none,c.2.1,c.2.2))
def dnG(left:Bool)(key:Keyed)(arr:Array Keyed)(base n hint:Nat):SM CG:=forIn [0:n] ((none,0,1):CG) fun _ c =>
 if c.2.2≥hint+1 then pure (.done (none,c.2.1,c.2.2))else do
  let r<-Fb left key arr (base+(hint-c.2.2))
  match r with
  |some b=>if b=true then pure (.done (none,c.2.1,c.2.2))else pure (.yield (none,c.2.2,2*c.2.2+1))
  |_=>pure (.done (some none,c.2.1,c.2.2))
def KR(left:Bool)(key:Keyed)(arr:Array Keyed)(base n lo hi:Nat):SM (Option Nat):=do
 let c<-forIn [0:n] ((none,lo,hi):CG) fun _ c =>
  if c.2.1≥c.2.2 then pure (.done (none,c.2.1,c.2.2))else do
   let r<-Fb left key arr (base+(c.2.1+(c.2.2-c.2.1) / 2))
   match r with
   |some b=>if b=true then pure (.yield (none,c.2.1+(c.2.2-c.2.1) / 2+1,c.2.2))else pure (.yield (none,c.2.1,c.2.1+(c.2.2-c.2.1) / 2))
   |_=>pure (.done (some none,c.2.1,c.2.2))
 match c.1 with
 |some r=>pure r
 |none=>pure (some c.2.2)
theorem xP(left:Bool)(key:Keyed)(arr:Array Keyed)(base n hint:Nat):i5 left key arr base n hint=(do
  let r<-Fb left key arr (base+hint)
  match r with
  |some b =>
   if b=true then do
    let c<-upG left key arr base n hint
    match c.1 with
    |some r=>pure r
    |none=>KR left key arr base n (hint+c.2.1+1) (hint+min c.2.2 (n-hint))
   else do
    let c<-dnG left key arr base n hint
    match c.1 with
    |some r=>pure r
    |none=>KR left key arr base n (hint+1-min c.2.2 (hint+1)) (hint-c.2.1)
  |_=>pure none):=by
 kernel_rfl
section
variable {prog:Program}{w:World}{A:Around}{E:Value->Shared->Prop}{s:Shared}{L:List Keyed}{v:Keyed->Int}{kd:SortKind}
theorem bw{arr:Array Keyed}{i:Nat}(h:i<arr.size){Q:Keyed->SortSt->Prop}{st:SortSt}(q:Q arr[i] st):wpS (model prog w) A E s (elem' arr i) Q st:=by
 rw [elem'_eq,getElem?_pos arr i h];exact wpS_pure q
def qm(left:Bool)(v:Keyed->Int)(key x:Keyed):Bool:=if left then decide (v x<v key)else !decide (v key<v x)
theorem jZ(hc:de prog w A E s L v kd){left:Bool}{key:Keyed}{arr:Array Keyed}{i:Nat}(hi:i<arr.size)(hk:key∈L)(ha:∀p∈arr.toList,p∈L){Q:Option Bool->SortSt->Prop}{st:SortSt}(kk:kindOf st=kd)(q:Q (some (qm left v key arr[i])) st):
  wpS (model prog w) A E s (Fb left key arr i) Q st:=by
 unfold Fb;refine wpS_bind (bw hi ?_);have hm:arr[i]∈L:=ha _ (by simp)
 cases left with
 |true=>exact hc _ hm _ hk st Q kk q
 |false=>exact wpS_bind (hc _ hk _ hm st _ kk (wpS_pure q))
theorem zS(hc:de prog w A E s L v kd){left:Bool}{key:Keyed}{arr:Array Keyed}{base n lo hi:Nat}(hb:base+n<=arr.size)(hk:key∈L)(ha:∀p∈arr.toList,p∈L){Q:Option Nat->SortSt->Prop}{st:SortSt}(kk:kindOf st=kd)
  (mono:∀i j (hi:base+i<arr.size) (hj:base+j<arr.size),i<=j->j<n->qm left v key arr[base+j]=true->qm left v key arr[base+i]=true)
  (hl:lo<=hi) (hn:hi<=n) (h1:lo=0\/∀h:base+(lo-1)<arr.size,qm left v key arr[base+(lo-1)]=true) (h2:hi=n\/∀h:base+hi<arr.size,qm left v key arr[base+hi]=false)
  (q:∀k,k<=n->(∀i (hi:base+i<arr.size),i<k->qm left v key arr[base+i]=true)->(∀i (hi:base+i<arr.size),k<=i->i<n->qm left v key arr[base+i]=false)->Q (some k) st) :
  wpS (model prog w) A E s (KR left key arr base n lo hi) Q st:=by
 have lt:∀{i:Nat},i<n->base+i<arr.size:=fun h=>by omega
 unfold KR;refine wpS_bind (wpS_mono (wpS_forRange (I:=fun x c su=>su=st/\∃l r,c=(none,l,r)/\l<=r/\r<=n/\r-l<=n-x/\(l=0\/∀h:base+(l-1)<arr.size,qm left v key arr[base+(l-1)]=true)/\(r=n\/∀h:base+r<arr.size,qm left v key arr[base+r]=false))
  (Q:=fun c su=>su=st/\∃r,c=(none,r,r)/\r<=n/\(r=0\/∀h:base+(r-1)<arr.size,qm left v key arr[base+(r-1)]=true)/\(r=n\/∀h:base+r<arr.size,qm left v key arr[base+r]=false)) ?step ?fin ⟨rfl,lo,hi,rfl,hl,hn,by omega,h1,h2⟩) ?post)
 case fin =>
  rintro c su ⟨rfl,l,r,rfl,a1,a2,a3,a4,a5⟩;have:l=r:=by omega
  subst this;exact⟨rfl,l,rfl,a2,a4,a5⟩
 case step =>
  rintro x c su _ hx ⟨rfl,l,r,rfl,a1,a2,a3,a4,a5⟩;dsimp only;by_cases z:l≥r
  ·rw [if_pos z];have:l=r:=by omega
   subst this;exact wpS_pure ⟨rfl,l,rfl,a2,a4,a5⟩
  ·rw [if_neg z];have hm:l+(r-l) / 2<r:=by omega
   have J4:base+(l+(r-l) / 2)<arr.size:=lt (by omega);refine wpS_bind (jZ hc J4 hk ha kk ?_)
   cases hz:qm left v key arr[base+(l+(r-l) / 2)]with
   |true =>
    refine wpS_pure ⟨rfl,_,_,rfl,by omega,a2,by omega,.inr fun h=>?_,a5⟩;simpa using hz
   |false=>exact wpS_pure ⟨rfl,_,_,rfl,by omega,by omega,by omega,a4,.inr fun h=>hz⟩
 case post =>
  rintro c su ⟨rfl,r,rfl,a2,a4,a5⟩;refine wpS_pure (q r a2 (fun i hi hr=>?_) fun i hi hr Py=>?_)
  ·rcases a4 with z|z
   ·omega
   ·exact mono i (r-1) hi (lt (by omega)) (by omega) (by omega) (z _)
  ·rcases a5 with z|z
   ·omega
   ·cases hz:qm left v key arr[base+i]with
    |false=>rfl
    |true =>
     have:=mono r i (lt (by omega)) hi hr Py hz;rw [z]at this
     cases this
theorem gE(hc:de prog w A E s L v kd){left:Bool}{key:Keyed}{arr:Array Keyed}{base n hint:Nat}(hb:base+n<=arr.size)(hh:hint<n)(hk:key∈L)(ha:∀p∈arr.toList,p∈L){Q:Option Nat->SortSt->Prop}{st:SortSt}(kk:kindOf st=kd)
  (mono:∀i j (hi:base+i<arr.size) (hj:base+j<arr.size),i<=j->j<n->qm left v key arr[base+j]=true->qm left v key arr[base+i]=true)
  (q:∀k,k<=n->(∀i (hi:base+i<arr.size),i<k->qm left v key arr[base+i]=true)->(∀i (hi:base+i<arr.size),k<=i->i<n->qm left v key arr[base+i]=false)->Q (some k) st) :
  wpS (model prog w) A E s (i5 left key arr base n hint) Q st:=by
 rw [xP];have lt:∀{i:Nat},i<n->base+i<arr.size:=fun h=>by omega
 refine wpS_bind (jZ hc (lt hh) hk ha kk ?_);dsimp only
 cases hz:qm left v key arr[base+hint]with
 |true =>
  rw [if_pos rfl];unfold upG;refine wpS_bind (wpS_mono (wpS_forRange (I:=fun x c aK=>aK=st/\∃l o,c=(none,l,o)/\l<o/\l<n-hint/\x+1<=o/\∀h:base+(hint+l)<arr.size,qm left v key arr[base+(hint+l)]=true)
   (Q:=fun c aK=>aK=st/\∃l o,c=(none,l,o)/\l<o/\l<n-hint/\(∀h:base+(hint+l)<arr.size,qm left v key arr[base+(hint+l)]=true)/\(n-hint<=o\/∀h:base+(hint+o)<arr.size,qm left v key arr[base+(hint+o)]=false)) ?step ?fin ⟨rfl,0,1,rfl,by omega,by omega,by omega,fun h=>hz⟩) ?post)
  case fin =>
   rintro c aK ⟨rfl,l,o,rfl,b1,b2,b3,b4⟩;exact⟨rfl,l,o,rfl,b1,b2,b4,.inl (by omega)⟩
  case step =>
   rintro x c aK _ hx ⟨rfl,l,o,rfl,b1,b2,b3,b4⟩;dsimp only;by_cases z:o≥n-hint
   ·rw [if_pos z];exact wpS_pure ⟨rfl,l,o,rfl,b1,b2,b4,.inl z⟩
   ·rw [if_neg z];refine wpS_bind (jZ hc (lt (i:=hint+o) (by omega)) hk ha kk ?_)
    cases hy:qm left v key arr[base+(hint+o)]with
    |false=>exact wpS_pure ⟨rfl,l,o,rfl,b1,b2,b4,.inr fun h=>hy⟩
    |true=>exact wpS_pure ⟨rfl,o,2*o+1,rfl,by omega,by omega,by omega,fun h=>hy⟩
  case post =>
   rintro c aK ⟨rfl,l,o,rfl,b1,b2,b4,b5⟩;dsimp only;refine zS hc hb hk ha kk mono (by omega) (by omega) (.inr fun h=>?_) ?_ q
   ·have:=b4 (lt (by omega));simpa using this
   ·rcases b5 with z|z
    ·exact .inl (by omega)
    ·by_cases y:n-hint<=o
     ·exact .inl (by omega)
     ·refine .inr fun h=>?_;have e:hint+min o (n-hint)=hint+o:=by omega
      simp only [e]at h ⊢;exact z h
 |false =>
  rw [if_neg Bool.false_ne_true];unfold dnG;refine wpS_bind (wpS_mono (wpS_forRange (I:=fun x c aK=>aK=st/\∃l o,c=(none,l,o)/\l<o/\l<=hint/\x+1<=o/\∀h:base+(hint-l)<arr.size,qm left v key arr[base+(hint-l)]=false)
   (Q:=fun c aK=>aK=st/\∃l o,c=(none,l,o)/\l<o/\l<=hint/\(∀h:base+(hint-l)<arr.size,qm left v key arr[base+(hint-l)]=false)/\(hint+1<=o\/∀h:base+(hint-o)<arr.size,qm left v key arr[base+(hint-o)]=true)) ?step ?fin ⟨rfl,0,1,rfl,by omega,by omega,by omega,fun h=>hz⟩) ?post)
  case fin =>
   rintro c aK ⟨rfl,l,o,rfl,b1,b2,b3,b4⟩;exact⟨rfl,l,o,rfl,b1,b2,b4,.inl (by omega)⟩
  case step =>
   rintro x c aK _ hx ⟨rfl,l,o,rfl,b1,b2,b3,b4⟩;dsimp only;by_cases z:o≥hint+1
   ·rw [if_pos z];exact wpS_pure ⟨rfl,l,o,rfl,b1,b2,b4,.inl z⟩
   ·rw [if_neg z];refine wpS_bind (jZ hc (lt (i:=hint-o) (by omega)) hk ha kk ?_)
    cases hy:qm left v key arr[base+(hint-o)]with
    |true=>exact wpS_pure ⟨rfl,l,o,rfl,b1,b2,b4,.inr fun h=>hy⟩
    |false=>exact wpS_pure ⟨rfl,o,2*o+1,rfl,by omega,by omega,by omega,fun h=>hy⟩
  case post =>
   rintro c aK ⟨rfl,l,o,rfl,b1,b2,b4,b5⟩;dsimp only;refine zS hc hb hk ha kk mono (by omega) (by omega) ?_ (.inr b4) q;rcases b5 with z|z
   ·exact .inl (by omega)
   ·by_cases y:hint+1<=o
    ·exact .inl (by omega)
    ·refine .inr fun h=>?_;have e:hint+1-min o (hint+1)-1=hint-o:=by omega
     simp only [e]at h ⊢;exact z h
end
section
variable (v:Keyed->Int)
def gr(l:List Keyed):Prop:=l.Pairwise fun x y=>v x<=v y
structure MG(al bl ol:List Keyed)(ia ib:Nat):Prop where
 la:ia<=al.length
 lb:ib<=bl.length
 perm:ol.Perm (al.take ia++bl.take ib)
 KU:gr v ol
 le:∀x∈ol,∀y,y∈al.drop ia\/y∈bl.drop ib->v x<=v y
variable {v}{al bl ol:List Keyed}{ia ib:Nat}
theorem MG.len(m:MG v al bl ol ia ib):ol.length=ia+ib:=by
 have:=m.perm.length_eq;rw [length_append,length_take,length_take,min_eq_left m.la,min_eq_left m.lb]at this;exact this
theorem zT{l:List Keyed}{x:Keyed}(h:gr v l)(hx:∀y∈l,v y<=v x):gr v (l++[x]):=by
 unfold gr;rw [pairwise_append];exact⟨h,by simp,fun a ha b hb=>by rw [mem_singleton.mp hb];exact hx a ha⟩
theorem nu{l:List Keyed}{i:Nat}(h:i<l.length):l.drop i=l[i]::l.drop (i+1):=drop_eq_getElem_cons h
theorem zU{l:List Keyed}(h:gr v l){i:Nat}(hi:i<l.length):∀y∈l.drop (i+1),v l[i]<=v y:=by
 have z:gr v (l.drop i):=List.Pairwise.sublist (drop_sublist i l) h;rw [nu hi]at z;exact fun y hy=>(pairwise_cons.mp z).1 y hy
theorem MG.Hk(m:MG v al bl ol ia ib)(sb:gr v bl)(h:ib<bl.length)(ha:∀y∈al.drop ia,v bl[ib]<=v y):MG v al bl (ol++[bl[ib]]) ia (ib+1)where
 la:=m.la
 lb:=h
 perm:=by
  rw [take_succ_eq_append_getElem h,<-append_assoc];exact m.perm.append (List.Perm.refl _)
 KU:=zT m.KU fun y hy=>m.le y hy _ (.inr (by rw [nu h];exact mem_cons_self))
 le:=fun x hx y hy=>by
  rcases mem_append.mp hx with hx|hx
  ·refine m.le x hx y (hy.imp id fun hy=>?_);rw [nu h];exact mem_cons_of_mem _ hy
  ·rw [mem_singleton.mp hx];rcases hy with hy|hy
   ·exact ha y hy
   ·exact zU sb h y hy
theorem MG.Hl(m:MG v al bl ol ia ib)(sa:gr v al)(h:ia<al.length)(hb:∀y∈bl.drop ib,v al[ia]<=v y):MG v al bl (ol++[al[ia]]) (ia+1) ib where
 la:=h
 lb:=m.lb
 perm:=by
  rw [take_succ_eq_append_getElem h];refine(m.perm.append (List.Perm.refl [al[ia]])).trans ?_;rw [append_assoc,append_assoc];exact(List.Perm.refl _).append List.perm_append_comm
 KU:=zT m.KU fun y hy=>m.le y hy _ (.inl (by rw [nu h];exact mem_cons_self))
 le:=fun x hx y hy=>by
  rcases mem_append.mp hx with hx|hx
  ·refine m.le x hx y (hy.imp (fun hy=>?_) id);rw [nu h];exact mem_cons_of_mem _ hy
  ·rw [mem_singleton.mp hx];rcases hy with hy|hy
   ·exact zU sa h y hy
   ·exact hb y hy
theorem lS{l:List Keyed}{i k:Nat}(h:i+k<l.length):(l.drop i).take (k+1)=(l.drop i).take k++[l[i+k]]:=by
 have hk:k<(l.drop i).length:=by rw [length_drop];omega
 rw [take_succ_eq_append_getElem hk,getElem_drop]
theorem MG.Pz(m:MG v al bl ol ia ib)(sa:gr v al):∀k,ia+k<=al.length->(∀j (hj:ia+j<al.length),j<k->∀y∈bl.drop ib,v al[ia+j]<=v y)->MG v al bl (ol++(al.drop ia).take k) (ia+k) ib
 |0,_,_=>by simpa using m
 |k+1,h,hb=>by
  have ih:=MG.Pz m sa k (by omega) fun j hj hk=>hb j hj (by omega);have z:=ih.Hl sa (by omega) (hb k (by omega) (by omega));rw [lS (by omega),<-append_assoc];exact z
theorem MG.PB(m:MG v al bl ol ia ib)(sb:gr v bl):∀k,ib+k<=bl.length->(∀j (hj:ib+j<bl.length),j<k->∀y∈al.drop ia,v bl[ib+j]<=v y)->MG v al bl (ol++(bl.drop ib).take k) ia (ib+k)
 |0,_,_=>by simpa using m
 |k+1,h,hb=>by
  have ih:=MG.PB m sb k (by omega) fun j hj hk=>hb j hj (by omega);have z:=ih.Hk sb (by omega) (hb k (by omega) (by omega));rw [lS (by omega),<-append_assoc];exact z
theorem MG.Hm(m:MG v al bl ol ia ib)(sa:gr v al)(sb:gr v bl)(h:∀x∈al.drop ia,∀y∈bl.drop ib,v x<=v y):(ol++al.drop ia++bl.drop ib).Perm (al++bl)/\gr v (ol++al.drop ia++bl.drop ib):=by
 constructor
 ·have e:al++bl=(al.take ia++al.drop ia)++(bl.take ib++bl.drop ib):=by rw [take_append_drop,take_append_drop]
  rw [e];refine((m.perm.append (List.Perm.refl _)).append (List.Perm.refl _)).trans ?_;simp only [append_assoc];refine(List.Perm.refl _).append ?_;rw [<-append_assoc,<-append_assoc];exact List.perm_append_comm.append (List.Perm.refl _)
 ·unfold gr;rw [pairwise_append,pairwise_append];refine⟨⟨m.KU,List.Pairwise.sublist (drop_sublist _ _) sa,fun x hx y hy=>m.le x hx y (.inl hy)⟩,List.Pairwise.sublist (drop_sublist _ _) sb,fun x hx y hy=>?_⟩;rcases mem_append.mp hx with hx|hx
  ·exact m.le x hx y (.inr hy)
  ·exact h x hx y hy
theorem MG.NK(m:MG v al bl ol ia ib)(sa:gr v al)(sb:gr v bl)(h:∀x∈bl.drop ib,∀y∈al.drop ia,v x<=v y):(ol++bl.drop ib++al.drop ia).Perm (al++bl)/\gr v (ol++bl.drop ib++al.drop ia):=by
 constructor
 ·have e:al++bl=(al.take ia++al.drop ia)++(bl.take ib++bl.drop ib):=by rw [take_append_drop,take_append_drop]
  rw [e];refine((m.perm.append (List.Perm.refl _)).append (List.Perm.refl _)).trans ?_;simp only [append_assoc];refine(List.Perm.refl _).append ?_;rw [<-append_assoc];exact List.perm_append_comm
 ·unfold gr;rw [pairwise_append,pairwise_append];refine⟨⟨m.KU,List.Pairwise.sublist (drop_sublist _ _) sb,fun x hx y hy=>m.le x hx y (.inr hy)⟩,List.Pairwise.sublist (drop_sublist _ _) sa,fun x hx y hy=>?_⟩;rcases mem_append.mp hx with hx|hx
  ·exact m.le x hx y (.inl hy)
  ·exact h x hx y hy
end
def ft:Nat->SM Unit:=sortPriv% PySem.Builtin.setMinGallop
abbrev bE(st:SortSt)(g:Nat):SortSt:=SortSt.mk' (kindOf st) (arrOf st) (pendingOf st) g (failedOf st)
theorem eY(g:Nat):ft g=modify fun s=>bE s g:=rfl
def tm:Array Keyed->Array Keyed->SM (Array Keyed):=sortPriv% PySem.Builtin.mergeLo
abbrev S1:=Option (Array Keyed)×Array Keyed×Nat×Nat×Nat×Nat
abbrev S2:=Option (Array Keyed)×Array Keyed×Nat×Nat×Nat×Nat×Nat
abbrev S0:=Option (Array Keyed)×Array Keyed×Nat×Nat×Nat
def hX(a b out:Array Keyed)(ia ib:Nat):Array Keyed:=out++a.extract ia a.size++b.extract ib b.size
def oz(a b out:Array Keyed)(ia ib:Nat):Array Keyed:=out++b.extract ib b.size++a.extract ia a.size
def Hn(a b:Array Keyed)(mg:Nat)(c:S1):SM (ForInStep S1):=do
 let y<-elem' b c.2.2.2.1
 let x<-elem' a c.2.2.1
 let r<-lt' y x
 match r with
 |some SF =>
  if SF=true then do
   let y<-elem' b c.2.2.2.1
   if(c.2.2.2.1+1==b.size)=true then pure (ForInStep.done (some (hX a b (c.2.1.push y) c.2.2.1 (c.2.2.2.1+1)),c.2.1.push y,c.2.2.1,c.2.2.2.1+1,0,c.2.2.2.2.2+1))
   else if c.2.2.2.2.2+1≥mg then pure (ForInStep.done (none,c.2.1.push y,c.2.2.1,c.2.2.2.1+1,0,c.2.2.2.2.2+1))
   else pure (ForInStep.yield (none,c.2.1.push y,c.2.2.1,c.2.2.2.1+1,0,c.2.2.2.2.2+1))
  else do
   let x<-elem' a c.2.2.1
   if(c.2.2.1+1+1==a.size)=true then pure (ForInStep.done (some (oz a b (c.2.1.push x) (c.2.2.1+1) c.2.2.2.1),c.2.1.push x,c.2.2.1+1,c.2.2.2.1,c.2.2.2.2.1+1,0))
   else if c.2.2.2.2.1+1≥mg then pure (ForInStep.done (none,c.2.1.push x,c.2.2.1+1,c.2.2.2.1,c.2.2.2.2.1+1,0))
   else pure (ForInStep.yield (none,c.2.1.push x,c.2.2.1+1,c.2.2.2.1,c.2.2.2.2.1+1,0))
 |_=>pure (ForInStep.done (some (hX a b c.2.1 c.2.2.1 c.2.2.2.1),c.2.1,c.2.2.1,c.2.2.2.1,c.2.2.2.2.1,c.2.2.2.2.2))
def KW(a b out:Array Keyed)(ia ib mg ac bc:Nat):SM (ForInStep S2):=do
 let x<-elem' a ia
 if(ia+1+1==a.size)=true then pure (ForInStep.done (some (oz a b (out.push x) (ia+1) ib),out.push x,ia+1,ib,mg,ac,bc))
 else if(decide (ac<7)&&decide (bc<7))=true then pure (ForInStep.done (none,out.push x,ia+1,ib,mg,ac,bc))
 else pure (ForInStep.yield (none,out.push x,ia+1,ib,mg,ac,bc))
def KY(a b out:Array Keyed)(ia ib mg ac bc:Nat):SM (ForInStep S2):=do
 let y<-elem' b ib
 if(ib+1==b.size)=true then pure (ForInStep.done (some (hX a b (out.push y) ia (ib+1)),out.push y,ia,ib+1,mg,ac,bc))
 else do
  let x<-elem' a ia
  let r<-i5 true x b (ib+1) (b.size-(ib+1)) 0
  match r with
  |some k =>
   if k>0 then
    if(ib+1+k==b.size)=true then pure (ForInStep.done (some (hX a b (out.push y++b.extract (ib+1) (ib+1+k)) ia (ib+1+k)),out.push y++b.extract (ib+1) (ib+1+k),ia,ib+1+k,mg,ac,k))
    else KW a b (out.push y++b.extract (ib+1) (ib+1+k)) ia (ib+1+k) mg ac k
   else KW a b (out.push y) ia (ib+1) mg ac k
  |_=>pure (ForInStep.done (some (hX a b (out.push y) ia (ib+1)),out.push y,ia,ib+1,mg,ac,bc))
def KZ(a b out:Array Keyed)(ia ib mg ac bc:Nat):SM (ForInStep S2):=do
 ft mg
 let y<-elem' b ib
 let r<-i5 false y a ia (a.size-ia) 0
 match r with
 |some k =>
  if k>0 then
   if(ia+k+1==a.size)=true then pure (ForInStep.done (some (oz a b (out++a.extract ia (ia+k)) (ia+k) ib),out++a.extract ia (ia+k),ia+k,ib,mg,k,bc))
   else if(ia+k==a.size)=true then pure (ForInStep.done (some (hX a b (out++a.extract ia (ia+k)) (ia+k) ib),out++a.extract ia (ia+k),ia+k,ib,mg,k,bc))
   else KY a b (out++a.extract ia (ia+k)) (ia+k) ib mg k bc
  else KY a b out ia ib mg k bc
 |_=>pure (ForInStep.done (some (hX a b out ia ib),out,ia,ib,mg,ac,bc))
def NL(a b:Array Keyed)(c:S2):SM (ForInStep S2) :=
 if c.2.2.2.2.1>1 then KZ a b c.2.1 c.2.2.1 c.2.2.2.1 (c.2.2.2.2.1-1) c.2.2.2.2.2.1 c.2.2.2.2.2.2
 else KZ a b c.2.1 c.2.2.1 c.2.2.2.1 c.2.2.2.2.1 c.2.2.2.2.2.1 c.2.2.2.2.2.2
def Ho(a b:Array Keyed)(c:S0):SM (ForInStep S0):=do
 let d<-forIn [0:a.size+b.size] ((none,c.2.1,c.2.2.1,c.2.2.2.1,0,0):S1) fun _ d=>Hn a b c.2.2.2.2 d
 match d.1 with
 |some r=>pure (ForInStep.done (some r,d.2.1,d.2.2.1,d.2.2.2.1,c.2.2.2.2))
 |none=>do
  rule "list.sort.gallop"
  let e<-forIn [0:a.size+b.size] ((none,d.2.1,d.2.2.1,d.2.2.2.1,c.2.2.2.2+1,d.2.2.2.2.1,d.2.2.2.2.2):S2) fun _ e=>NL a b e
  match e.1 with
  |some r=>pure (ForInStep.done (some r,e.2.1,e.2.2.1,e.2.2.2.1,e.2.2.2.2.1))
  |none=>do
   ft (e.2.2.2.2.1+1)
   pure (ForInStep.yield (none,e.2.1,e.2.2.1,e.2.2.2.1,e.2.2.2.2.1+1))
theorem tq(a b:Array Keyed):tm a b=(do
  rule "list.sort.merge-lo"
  let y<-elem' b 0
  if(1==b.size)=true then pure (hX a b #[y] 0 1)
  else if(0+1==a.size)=true then pure (oz a b #[y] 0 1)
  else do
   let st<-get
   let c<-forIn [0:a.size+b.size] ((none,#[y],0,1,gallopOf st):S0) fun _ c=>Ho a b c
   match c.1 with
   |some r=>pure r
   |none=>unsupported "internal:list.sort.merge-bound"):=by
 kernel_rfl
section
variable {prog:Program}{w:World}{A:Around}{E:Value->Shared->Prop}{s:Shared}{L:List Keyed}{v:Keyed->Int}{kd:SortKind}
structure Lo(v:Keyed->Int)(a b:Array Keyed):Prop where
 sa:gr v a.toList
 sb:gr v b.toList
 hl:∀x∈b.toList,∀h:a.size-1<a.size,v x<=v a[a.size-1]
def RF(v:Keyed->Int)(a b m:Array Keyed):Prop:=m.toList.Perm (a.toList++b.toList)/\gr v m.toList
theorem px(a:Array Keyed)(i:Nat):(a.extract i a.size).toList=a.toList.drop i:=by
 rw [toList_extract,extract_eq_drop_take,take_of_length_le (by simp)]
theorem zV(a:Array Keyed)(i k:Nat):(a.extract i (i+k)).toList=(a.toList.drop i).take k:=by
 rw [toList_extract,extract_eq_drop_take,Nat.add_sub_cancel_left]
theorem wH(a b out:Array Keyed)(ia ib:Nat):(hX a b out ia ib).toList=out.toList++a.toList.drop ia++b.toList.drop ib:=by
 unfold hX;rw [toList_append,toList_append,px,px]
theorem Fc(a b out:Array Keyed)(ia ib:Nat):(oz a b out ia ib).toList=out.toList++b.toList.drop ib++a.toList.drop ia:=by
 unfold oz;rw [toList_append,toList_append,px,px]
theorem pC{a b out:Array Keyed}{ia ib:Nat}(l:Lo v a b)(m:MG v a.toList b.toList out.toList ia ib)(h:ib=b.size):RF v a b (hX a b out ia ib):=by
 unfold RF;rw [wH];refine m.Hm l.sa l.sb fun x hx y hy=>?_;rw [drop_eq_nil_of_le (by simp [h])]at hy
 cases hy
theorem Hq{a b out:Array Keyed}{ia ib:Nat}(l:Lo v a b)(m:MG v a.toList b.toList out.toList ia ib)(h:ia=a.size):RF v a b (hX a b out ia ib):=by
 unfold RF;rw [wH];refine m.Hm l.sa l.sb fun x hx y hy=>?_;rw [drop_eq_nil_of_le (by simp [h])]at hx
 cases hx
theorem sf{a b out:Array Keyed}{ia ib:Nat}(l:Lo v a b)(m:MG v a.toList b.toList out.toList ia ib)(h:ia+1=a.size):RF v a b (oz a b out ia ib):=by
 unfold RF;rw [Fc];refine m.NK l.sa l.sb fun x hx y hy=>?_;rw [nu (by simp;omega),drop_eq_nil_of_le (by simp;omega)]at hy;rw [mem_singleton.mp hy];have:=l.hl x (mem_of_mem_drop hx) (by omega);have e:a.size-1=ia:=by omega
 simpa [e]using this
inductive J(v:Keyed->Int)(a b:Array Keyed)(N:Nat)(o:Option (Array Keyed))(out:Array Keyed)(ia ib:Nat):Prop
 |fin (r:Array Keyed) (h:o=some r) (k:RF v a b r)
 |go (h:o=none) (m:MG v a.toList b.toList out.toList ia ib) (la:ia+1<a.size) (lb:ib<b.size) (n:N<=ia+ib)
theorem tu{a b out:Array Keyed}{ia ib:Nat}(l:Lo v a b)(m:MG v a.toList b.toList out.toList ia ib)(h:ib<b.size)(ha:∀y∈a.toList.drop ia,v b[ib]<=v y):MG v a.toList b.toList (out.push b[ib]).toList ia (ib+1):=by
 have:=m.Hk l.sb (by simpa using h) (by simpa using ha);rw [toList_push];simpa using this
theorem zW{a b out:Array Keyed}{ia ib:Nat}(l:Lo v a b)(m:MG v a.toList b.toList out.toList ia ib)(h:ia<a.size)(hb:∀y∈b.toList.drop ib,v a[ia]<=v y):MG v a.toList b.toList (out.push a[ia]).toList (ia+1) ib:=by
 have:=m.Hl l.sa (by simpa using h) (by simpa using hb);rw [toList_push];simpa using this
theorem K0{a b out:Array Keyed}{ia ib:Nat}(l:Lo v a b)(m:MG v a.toList b.toList out.toList ia ib){k:Nat}(h:ia+k<=a.size)(hb:∀j (hj:ia+j<a.size),j<k->∀y∈b.toList.drop ib,v a[ia+j]<=v y):MG v a.toList b.toList (out++a.extract ia (ia+k)).toList (ia+k) ib:=by
 rw [toList_append,zV];exact m.Pz l.sa k (by simpa using h) fun j hj hk y hy=>by simpa using hb j (by simpa using hj) hk y hy
theorem K1{a b out:Array Keyed}{ia ib:Nat}(l:Lo v a b)(m:MG v a.toList b.toList out.toList ia ib){k:Nat}(h:ib+k<=b.size)(ha:∀j (hj:ib+j<b.size),j<k->∀y∈a.toList.drop ia,v b[ib+j]<=v y):MG v a.toList b.toList (out++b.extract ib (ib+k)).toList ia (ib+k):=by
 rw [toList_append,zV];exact m.PB l.sb k (by simpa using h) fun j hj hk y hy=>by simpa using ha j (by simpa using hj) hk y hy
theorem qz{a:Array Keyed}(sa:gr v a.toList){i j:Nat}(hi:i<a.size)(hj:j<a.size)(h:i<=j):v a[i]<=v a[j]:=by
 rcases Nat.lt_or_eq_of_le h with h|h
 ·have:=(pairwise_iff_getElem.mp sa) i j (by simpa using hi) (by simpa using hj) h;simpa using this
 ·subst h;exact Int.le_refl _
theorem iI{a:Array Keyed}(sa:gr v a.toList){i:Nat}(hi:i<a.size){y:Keyed}(hy:y∈a.toList.drop i):v a[i]<=v y:=by
 obtain⟨j,hj,rfl⟩:=mem_iff_getElem.mp hy;rw [getElem_drop,getElem_toList];exact qz sa hi _ (by omega)
theorem pD{key x:Keyed}:qm true v key x=decide (v x<v key):=rfl
theorem pE{key x:Keyed}:qm false v key x=!decide (v key<v x):=rfl
theorem Fd(hc:de prog w A E s L v kd){a b:Array Keyed}(l:Lo v a b)(ha:∀p∈a.toList,p∈L)(hb:∀p∈b.toList,p∈L){N mg:Nat}{c:S1}{st:SortSt}(kk:kindOf st=kd)(j0:c.1=none)(m:MG v a.toList b.toList c.2.1.toList c.2.2.1 c.2.2.2.1)(la:c.2.2.1+1<a.size)(lb:c.2.2.2.1<b.size)(n:N<=c.2.2.1+c.2.2.2.1){Q:ForInStep S1->SortSt->Prop}
  (qd:∀d:S1,J v a b (N+1) d.1 d.2.1 d.2.2.1 d.2.2.2.1->Q (.done d) st) (qy:∀d:S1,d.1=none->J v a b (N+1) d.1 d.2.1 d.2.2.1 d.2.2.2.1->Q (.yield d) st):wpS (model prog w) A E s (Hn a b mg c) Q st:=by
 unfold Hn;refine wpS_bind (bw lb (wpS_bind (bw (by omega) (wpS_bind (hc _ (hb _ (by simp)) _ (ha _ (by simp)) _ _ kk ?_)))));dsimp only;by_cases z:v b[c.2.2.2.1]<v a[c.2.2.1]
 ·rw [decide_eq_true z,if_pos rfl];refine wpS_bind (bw lb ?_);have m':=tu l m lb fun y hy=>le_trans (Int.le_of_lt z) (iI l.sa (by omega) hy);split
  ·rename_i e;exact wpS_pure (qd _ (.fin _ rfl (pC l m' (by simpa using e))))
  ·rename_i e;have e:c.2.2.2.1+1≠b.size:=by simpa using e
   have g:J v a b (N+1) (none:Option (Array Keyed)) (c.2.1.push b[c.2.2.2.1]) c.2.2.1 (c.2.2.2.1+1):=.go rfl m' la (by omega) (by omega);split
   ·exact wpS_pure (qd _ g)
   ·exact wpS_pure (qy _ rfl g)
 ·rw [decide_eq_false z,if_neg Bool.false_ne_true];refine wpS_bind (bw (by omega) ?_);have m':=zW l m (by omega) fun y hy=>le_trans (not_lt.mp z) (iI l.sb lb hy);split
  ·rename_i e;exact wpS_pure (qd _ (.fin _ rfl (sf l m' (by simpa using e))))
  ·rename_i e;have e:c.2.2.1+1+1≠a.size:=by simpa using e
   have g:J v a b (N+1) (none:Option (Array Keyed)) (c.2.1.push a[c.2.2.1]) (c.2.2.1+1) c.2.2.2.1:=.go rfl m' (by omega) lb (by omega);split
   ·exact wpS_pure (qd _ g)
   ·exact wpS_pure (qy _ rfl g)
theorem zX{a b:Array Keyed}(l:Lo v a b){N mg ac bc ia ib:Nat}{out:Array Keyed}{st:SortSt}(m:MG v a.toList b.toList out.toList ia ib)(la:ia+1<a.size)(lb:ib<b.size)(n:N<=ia+ib)(hb:v a[ia]<=v b[ib]){Q:ForInStep S2->SortSt->Prop}
  (qd:∀d:S2,J v a b (N+1) d.1 d.2.1 d.2.2.1 d.2.2.2.1->Q (.done d) st) (qy:∀d:S2,d.1=none->J v a b (N+1) d.1 d.2.1 d.2.2.1 d.2.2.2.1->Q (.yield d) st):wpS (model prog w) A E s (KW a b out ia ib mg ac bc) Q st:=by
 unfold KW;refine wpS_bind (bw (by omega) ?_);have m':=zW l m (by omega) fun y hy=>le_trans hb (iI l.sb lb hy);split
 ·rename_i e;exact wpS_pure (qd _ (.fin _ rfl (sf l m' (by simpa using e))))
 ·rename_i e;have e:ia+1+1≠a.size:=by simpa using e
  have g:J v a b (N+1) (none:Option (Array Keyed)) (out.push a[ia]) (ia+1) ib:=.go rfl m' (by omega) lb (by omega);split
  ·exact wpS_pure (qd _ g)
  ·exact wpS_pure (qy _ rfl g)
theorem zY(hc:de prog w A E s L v kd){a b:Array Keyed}(l:Lo v a b)(ha:∀p∈a.toList,p∈L)(hb:∀p∈b.toList,p∈L){N mg ac bc ia ib:Nat}{out:Array Keyed}{st:SortSt}(kk:kindOf st=kd)(m:MG v a.toList b.toList out.toList ia ib)(la:ia+1<a.size)(lb:ib<b.size)(n:N<=ia+ib)(hh:v b[ib]<=v a[ia]){Q:ForInStep S2->SortSt->Prop}
  (qd:∀d:S2,J v a b (N+1) d.1 d.2.1 d.2.2.1 d.2.2.2.1->Q (.done d) st) (qy:∀d:S2,d.1=none->J v a b (N+1) d.1 d.2.1 d.2.2.1 d.2.2.2.1->Q (.yield d) st):wpS (model prog w) A E s (KY a b out ia ib mg ac bc) Q st:=by
 unfold KY;refine wpS_bind (bw lb ?_);have m':=tu l m lb fun y hy=>le_trans hh (iI l.sa (by omega) hy);split
 ·rename_i e;exact wpS_pure (qd _ (.fin _ rfl (pC l m' (by simpa using e))))
 ·rename_i e;have e:ib+1≠b.size:=by simpa using e
  refine wpS_bind (bw (by omega) (wpS_bind (gE hc (by omega) (by omega) (ha _ (by simp)) hb kk (fun i j hi hj nW _ hz=>?_) fun k hk h1 h2=>?_)))
  ·have:=qz l.sb hi hj (by omega);simp only [pD,decide_eq_true_eq]at hz ⊢;omega
  ·dsimp only;have nx:∀h:ib+1+k<b.size,v a[ia]<=v b[ib+1+k]:=fun h=>by
    have:=h2 k h (le_refl _) (by omega);simp only [pD,decide_eq_false_iff_not]at this;omega
   by_cases xQ:k>0
   ·rw [if_pos xQ];have m2:=K1 l m' (k:=k) (by omega) fun j hj SG y hy=>by
     have:=h1 j hj SG;simp only [pD,decide_eq_true_eq]at this;exact le_trans (Int.le_of_lt this) (iI l.sa (by omega) hy)
    split
    ·rename_i e2;exact wpS_pure (qd _ (.fin _ rfl (pC l m2 (by simpa using e2))))
    ·rename_i e2;have e2:ib+1+k≠b.size:=by simpa using e2
     exact zX l m2 la (by omega) (by omega) (nx (by omega)) qd qy
   ·rw [if_neg xQ];have xQ:k=0:=by omega
    subst xQ;exact zX l m' la (by omega) (by omega) (nx (by omega)) qd qy
theorem zZ(hc:de prog w A E s L v kd){a b:Array Keyed}(l:Lo v a b)(ha:∀p∈a.toList,p∈L)(hb:∀p∈b.toList,p∈L){N mg ac bc ia ib:Nat}{out:Array Keyed}{st:SortSt}(kk:kindOf st=kd)(m:MG v a.toList b.toList out.toList ia ib)(la:ia+1<a.size)(lb:ib<b.size)(n:N<=ia+ib){Q:ForInStep S2->SortSt->Prop}
  (qd:∀(d:S2) g,J v a b (N+1) d.1 d.2.1 d.2.2.1 d.2.2.2.1->Q (.done d) (bE st g)) (qy:∀(d:S2) g,d.1=none->J v a b (N+1) d.1 d.2.1 d.2.2.1 d.2.2.2.1->Q (.yield d) (bE st g)):wpS (model prog w) A E s (KZ a b out ia ib mg ac bc) Q st:=by
 unfold KZ;rw [eY];refine wpS_bind (wpS_modify (wpS_bind (bw lb (wpS_bind (gE hc (by omega) (by omega) (hb _ (by simp)) ha kk (fun i j hi hj nW _ hz=>?_) fun k hk h1 h2=>?_)))))
 ·have:=qz l.sa hi hj (by omega);simp only [pE,not_eq_true',decide_eq_false_iff_not]at hz ⊢;omega
 ·dsimp only;have nx:∀h:ia+k<a.size,v b[ib]<=v a[ia+k]:=fun h=>by
   have:=h2 k h (le_refl _) (by omega);simp only [pE,not_eq_false',decide_eq_true_eq]at this;omega
  by_cases xQ:k>0
  ·rw [if_pos xQ];have m2:=K0 l m (k:=k) (by omega) fun j hj SG y hy=>by
    have:=h1 j hj SG;simp only [pE,not_eq_true',decide_eq_false_iff_not]at this;exact le_trans (not_lt.mp this) (iI l.sb lb hy)
   split
   ·rename_i e;exact wpS_pure (qd _ _ (.fin _ rfl (sf l m2 (by simpa using e))))
   ·rename_i e;have e:ia+k+1≠a.size:=by simpa using e
    split
    ·rename_i e2;exact wpS_pure (qd _ _ (.fin _ rfl (Hq l m2 (by simpa using e2))))
    ·rename_i e2;have e2:ia+k≠a.size:=by simpa using e2
     exact zY (st:=bE st mg) hc l ha hb kk m2 (by omega) lb (by omega) (nx (by omega)) (fun d=>qd d _) (fun d=>qy d _)
  ·rw [if_neg xQ];have xQ:k=0:=by omega
   subst xQ;exact zY (st:=bE st mg) hc l ha hb kk m la lb n (nx (by omega)) (fun d=>qd d _) (fun d=>qy d _)
theorem J.le{a b:Array Keyed}{N N':Nat}{o:Option (Array Keyed)}{out:Array Keyed}{ia ib:Nat}(h:J v a b N o out ia ib)(k:N'<=N):J v a b N' o out ia ib:=by
 cases h with
 |fin r h k=>exact .fin r h k
 |go h m la lb n=>exact .go h m la lb (by omega)
theorem Fe(hc:de prog w A E s L v kd){a b:Array Keyed}(l:Lo v a b)(ha:∀p∈a.toList,p∈L)(hb:∀p∈b.toList,p∈L){N:Nat}{c:S0}{st:SortSt}(kk:kindOf st=kd)(j0:c.1=none)(m:MG v a.toList b.toList c.2.1.toList c.2.2.1 c.2.2.2.1)(la:c.2.2.1+1<a.size)(lb:c.2.2.2.1<b.size)(n:N<=c.2.2.1+c.2.2.2.1){Q:ForInStep S0->SortSt->Prop}
  (qd:∀(d:S0) g r,d.1=some r->RF v a b r->Q (.done d) (bE st g)) (qy:∀(d:S0) g,d.1=none->J v a b (N+1) d.1 d.2.1 d.2.2.1 d.2.2.2.1->Q (.yield d) (bE st g)):wpS (model prog w) A E s (Ho a b c) Q st:=by
 unfold Ho;refine wpS_bind (wpS_mono (wpS_forRange (I:=fun x (d:S1) aK=>aK=st/\d.1=none/\J v a b (N+x) d.1 d.2.1 d.2.2.1 d.2.2.2.1) (Q:=fun(d:S1) aK=>aK=st/\J v a b (N+1) d.1 d.2.1 d.2.2.1 d.2.2.2.1) ?step ?fin ⟨rfl,rfl,.go rfl m la lb n⟩) ?post)
 case fin =>
  rintro d aK ⟨rfl,_,j⟩;exact⟨rfl,j.le (by omega)⟩
 case step =>
  rintro x d aK _ hx ⟨rfl,dn,j⟩
  cases j with
  |fin r h k=>rw [dn]at h;cases h
  |go h m la lb n=>exact Fd hc l ha hb kk dn m la lb n (fun d j=>⟨rfl,j.le (by omega)⟩) fun d hd j=>⟨rfl,hd,j⟩
 case post =>
  rintro⟨o,out,ia,ib,ac,bc⟩ aK ⟨rfl,j⟩
  cases j with
  |fin r h k =>
   cases h
   exact wpS_pure (qd _ (gallopOf aK) r rfl k)
  |go h m la lb n =>
   cases h
   dsimp only;refine wpS_bind (wpS_lift (wpAny_rule ⟨rfl,?_⟩));refine wpS_bind (wpS_mono (wpS_forRange (I:=fun x (d:S2) qA=>(∃g,qA=bE aK g)/\d.1=none/\J v a b (N+1) d.1 d.2.1 d.2.2.1 d.2.2.2.1) (Q:=fun(d:S2) qA=>(∃g,qA=bE aK g)/\J v a b (N+1) d.1 d.2.1 d.2.2.1 d.2.2.2.1) ?Hr ?PC ⟨⟨gallopOf aK,rfl⟩,rfl,.go rfl m la lb n⟩) ?Ht)
   case PC =>
    rintro d qA ⟨z,_,j⟩;exact⟨z,j⟩
   case Hr =>
    rintro x d qA _ hx ⟨⟨g,rfl⟩,dn,j⟩
    cases j with
    |fin r h k=>rw [dn]at h;cases h
    |go h m la lb n =>
     unfold NL;split
     ·refine zZ (st:=bE aK g) hc l ha hb kk m la lb n (fun d g j=>?_) fun d g hd j=>?_
      ·exact⟨⟨g,rfl⟩,j.le (by omega)⟩
      ·exact⟨⟨g,rfl⟩,hd,j.le (by omega)⟩
     ·refine zZ (st:=bE aK g) hc l ha hb kk m la lb n (fun d g j=>?_) fun d g hd j=>?_
      ·exact⟨⟨g,rfl⟩,j.le (by omega)⟩
      ·exact⟨⟨g,rfl⟩,hd,j.le (by omega)⟩
   case Ht =>
    rintro⟨o,out,ia,ib,mg,ac,bc⟩ qA ⟨⟨g,rfl⟩,j⟩
    cases j with
    |fin r h k =>
     cases h
     exact wpS_pure (qd _ g r rfl k)
    |go h m la lb n =>
     cases h
     dsimp only;rw [eY];exact wpS_bind (wpS_modify (wpS_pure (qy _ (mg+1) rfl (.go rfl m la lb n))))
theorem z0(hc:de prog w A E s L v kd){a b:Array Keyed}(l:Lo v a b)(ha:∀p∈a.toList,p∈L)(hb:∀p∈b.toList,p∈L)(na:0<a.size)(nb:0<b.size)(h0:v b[0]<=v a[0]){st:SortSt}(kk:kindOf st=kd){Q:Array Keyed->SortSt->Prop}
  (q:∀g m,RF v a b m->Q m (bE st g)):wpS (model prog w) A E s (tm a b) Q st:=by
 rw [tq];refine wpS_bind (wpS_lift (wpAny_rule ⟨rfl,wpS_bind (bw nb ?_)⟩));have m0:MG v a.toList b.toList (#[]:Array Keyed).toList 0 0:=⟨by omega,by omega,by simp,by simp [gr],fun x hx=>by simp at hx⟩;have m1:MG v a.toList b.toList #[b[0]].toList 0 1:=by
  have:=tu l m0 nb fun y hy=>le_trans h0 (iI l.sa na hy);simpa using this
 split
 ·rename_i e;exact wpS_pure (q (gallopOf st) _ (pC l m1 (by simpa using e)))
 ·rename_i e;have e:1≠b.size:=by simpa using e
  split
  ·rename_i e2;exact wpS_pure (q (gallopOf st) _ (sf l m1 (by simpa using e2)))
  ·rename_i e2;have e2:1≠a.size:=by simpa using e2
   refine wpS_bind (wpS_get (wpS_bind (wpS_mono (wpS_forRange (I:=fun x (d:S0) aK=>(∃g,aK=bE st g)/\d.1=none/\J v a b (1+x) d.1 d.2.1 d.2.2.1 d.2.2.2.1) (Q:=fun(d:S0) aK=>∃g,aK=bE st g/\∃r,d.1=some r/\RF v a b r) ?step ?fin ⟨⟨gallopOf st,rfl⟩,rfl,.go rfl m1 (show 0+1<a.size by omega) (show 1<b.size by omega) (show 1+0<=0+1 by omega)⟩) ?post)))
   case fin =>
    rintro d aK ⟨⟨g,rfl⟩,dn,j⟩
    cases j with
    |fin r h k=>rw [dn]at h;cases h
    |go h m la lb n=>omega
   case step =>
    rintro x d aK _ hx ⟨⟨g,rfl⟩,dn,j⟩
    cases j with
    |fin r h k=>rw [dn]at h;cases h
    |go h m la lb n =>
     refine Fe (st:=bE st g) hc l ha hb kk dn m la lb n (fun d g r e k=>?_) fun d g hd j=>?_
     ·exact⟨g,rfl,r,e,k⟩
     ·exact⟨⟨g,rfl⟩,hd,by rw [show 1+(x+1)=1+x+1 by omega];exact j⟩
   case post =>
    rintro⟨o,out,ia,ib,mg⟩ aK ⟨g,rfl,r,e,k⟩
    cases e
    exact wpS_pure (q g r k)
end
def tw:Array Keyed->Array Keyed->SM (Array Keyed):=sortPriv% PySem.Builtin.mergeHi
abbrev H1:=Option (Array Keyed)×Nat×Nat×Array Keyed×Nat×Nat
abbrev H2:=Option (Array Keyed)×Nat×Nat×Array Keyed×Nat×Nat×Nat
abbrev H0:=Option (Array Keyed)×Nat×Nat×Array Keyed×Nat
def jj(a b out:Array Keyed)(na nb:Nat):Array Keyed:=a.extract 0 na++b.extract 0 nb++out.reverse
def nv(a b out:Array Keyed)(na nb:Nat):Array Keyed:=b.extract 0 nb++a.extract 0 na++out.reverse
def Hu(a b:Array Keyed)(mg:Nat)(c:H1):SM (ForInStep H1):=do
 let y<-elem' b (c.2.2.1-1)
 let x<-elem' a (c.2.1-1)
 let r<-lt' y x
 match r with
 |some SH =>
  if SH=true then do
   let x<-elem' a (c.2.1-1)
   if(c.2.1-1==0)=true then pure (ForInStep.done (some (jj a b (c.2.2.2.1.push x) (c.2.1-1) c.2.2.1),c.2.1-1,c.2.2.1,c.2.2.2.1.push x,c.2.2.2.2.1+1,0))
   else if c.2.2.2.2.1+1≥mg then pure (ForInStep.done (none,c.2.1-1,c.2.2.1,c.2.2.2.1.push x,c.2.2.2.2.1+1,0))
   else pure (ForInStep.yield (none,c.2.1-1,c.2.2.1,c.2.2.2.1.push x,c.2.2.2.2.1+1,0))
  else do
   let y<-elem' b (c.2.2.1-1)
   if(c.2.2.1-1==1)=true then pure (ForInStep.done (some (nv a b (c.2.2.2.1.push y) c.2.1 (c.2.2.1-1)),c.2.1,c.2.2.1-1,c.2.2.2.1.push y,0,c.2.2.2.2.2+1))
   else if c.2.2.2.2.2+1≥mg then pure (ForInStep.done (none,c.2.1,c.2.2.1-1,c.2.2.2.1.push y,0,c.2.2.2.2.2+1))
   else pure (ForInStep.yield (none,c.2.1,c.2.2.1-1,c.2.2.2.1.push y,0,c.2.2.2.2.2+1))
 |_=>pure (ForInStep.done (some (jj a b c.2.2.2.1 c.2.1 c.2.2.1),c.2.1,c.2.2.1,c.2.2.2.1,c.2.2.2.2.1,c.2.2.2.2.2))
def K2(a b out:Array Keyed)(na nb mg ac bc:Nat):SM (ForInStep H2):=do
 let x<-elem' a (na-1)
 if(na-1==0)=true then pure (ForInStep.done (some (jj a b (out.push x) (na-1) nb),na-1,nb,out.push x,mg,ac,bc))
 else if(decide (ac<7)&&decide (bc<7))=true then pure (ForInStep.done (none,na-1,nb,out.push x,mg,ac,bc))
 else pure (ForInStep.yield (none,na-1,nb,out.push x,mg,ac,bc))
def K3(a b out:Array Keyed)(na nb mg ac bc:Nat):SM (ForInStep H2):=do
 let y<-elem' b (nb-1)
 if(nb-1==1)=true then pure (ForInStep.done (some (nv a b (out.push y) na (nb-1)),na,nb-1,out.push y,mg,ac,bc))
 else do
  let x<-elem' a (na-1)
  let r<-i5 true x b 0 (nb-1) (nb-1-1)
  match r with
  |some k =>
   if nb-1-k>0 then
    if(k==1)=true then pure (ForInStep.done (some (nv a b (out.push y++(b.extract k (nb-1)).reverse) na k),na,k,out.push y++(b.extract k (nb-1)).reverse,mg,ac,nb-1-k))
    else if(k==0)=true then pure (ForInStep.done (some (jj a b (out.push y++(b.extract k (nb-1)).reverse) na k),na,k,out.push y++(b.extract k (nb-1)).reverse,mg,ac,nb-1-k))
    else K2 a b (out.push y++(b.extract k (nb-1)).reverse) na k mg ac (nb-1-k)
   else K2 a b (out.push y) na (nb-1) mg ac (nb-1-k)
  |_=>pure (ForInStep.done (some (jj a b (out.push y) na (nb-1)),na,nb-1,out.push y,mg,ac,bc))
def K4(a b out:Array Keyed)(na nb mg ac bc:Nat):SM (ForInStep H2):=do
 ft mg
 let y<-elem' b (nb-1)
 let r<-i5 false y a 0 na (na-1)
 match r with
 |some k =>
  if na-k>0 then
   if(k==0)=true then pure (ForInStep.done (some (jj a b (out++(a.extract k na).reverse) k nb),k,nb,out++(a.extract k na).reverse,mg,na-k,bc))
   else K3 a b (out++(a.extract k na).reverse) k nb mg (na-k) bc
  else K3 a b out na nb mg (na-k) bc
 |_=>pure (ForInStep.done (some (jj a b out na nb),na,nb,out,mg,ac,bc))
def NM(a b:Array Keyed)(c:H2):SM (ForInStep H2) :=
 if c.2.2.2.2.1>1 then K4 a b c.2.2.2.1 c.2.1 c.2.2.1 (c.2.2.2.2.1-1) c.2.2.2.2.2.1 c.2.2.2.2.2.2
 else K4 a b c.2.2.2.1 c.2.1 c.2.2.1 c.2.2.2.2.1 c.2.2.2.2.2.1 c.2.2.2.2.2.2
def Hv(a b:Array Keyed)(c:H0):SM (ForInStep H0):=do
 let d<-forIn [0:a.size+b.size] ((none,c.2.1,c.2.2.1,c.2.2.2.1,0,0):H1) fun _ d=>Hu a b c.2.2.2.2 d
 match d.1 with
 |some r=>pure (ForInStep.done (some r,d.2.1,d.2.2.1,d.2.2.2.1,c.2.2.2.2))
 |none=>do
  rule "list.sort.gallop"
  let e<-forIn [0:a.size+b.size] ((none,d.2.1,d.2.2.1,d.2.2.2.1,c.2.2.2.2+1,d.2.2.2.2.1,d.2.2.2.2.2):H2) fun _ e=>NM a b e
  match e.1 with
  |some r=>pure (ForInStep.done (some r,e.2.1,e.2.2.1,e.2.2.2.1,e.2.2.2.2.1))
  |none=>do
   ft (e.2.2.2.2.1+1)
   pure (ForInStep.yield (none,e.2.1,e.2.2.1,e.2.2.2.1,e.2.2.2.2.1+1))
theorem tD(a b:Array Keyed):tw a b=(do
  rule "list.sort.merge-hi"
  let x<-elem' a (a.size-1)
  if(a.size-1==0)=true then pure (jj a b #[x] (a.size-1) b.size)
  else if(b.size==1)=true then pure (nv a b #[x] (a.size-1) b.size)
  else do
   let st<-get
   let c<-forIn [0:a.size+b.size] ((none,a.size-1,b.size,#[x],gallopOf st):H0) fun _ c=>Hv a b c
   match c.1 with
   |some r=>pure r
   |none=>unsupported "internal:list.sort.merge-bound"):=by
 kernel_rfl
section
variable {prog:Program}{w:World}{A:Around}{E:Value->Shared->Prop}{s:Shared}{L:List Keyed}{v:Keyed->Int}{kd:SortKind}
structure Hi(v:Keyed->Int)(a b:Array Keyed):Prop where
 sa:gr v a.toList
 sb:gr v b.toList
 hf:∀x∈a.toList,∀h:0<b.size,v b[0]<=v x
def ng(v:Keyed->Int)(x:Keyed):Int:=- v x
theorem il{l:List Keyed}:gr (ng v) l.reverse↔gr v l:=by
 unfold gr ng;rw [List.pairwise_reverse];constructor
 ·exact fun h=>h.imp fun{x y} z=>by omega
 ·exact fun h=>h.imp fun{x y} z=>by omega
structure HG(v:Keyed->Int)(a b out:Array Keyed)(na nb:Nat):Prop where
 la:na<=a.size
 lb:nb<=b.size
 mg:MG (ng v) a.toList.reverse b.toList.reverse out.toList (a.size-na) (b.size-nb)
theorem jL{a:Array Keyed}{n:Nat}(h:n<=a.size):a.toList.reverse.drop (a.size-n)=(a.toList.take n).reverse:=by
 rw [List.drop_reverse,length_toList,show a.size-(a.size-n)=n by omega]
theorem K5{a:Array Keyed}{n:Nat}(h:n<=a.size)(h0:0<n)(h1:a.size-n<a.toList.reverse.length):a.toList.reverse[a.size-n]=a[n-1]:=by
 rw [List.getElem_reverse,getElem_toList];congr 1;simp;omega
theorem ny(a:Array Keyed)(n:Nat):(a.extract 0 n).toList=a.toList.take n:=by
 rw [toList_extract,extract_eq_drop_take];simp
theorem tE{a b out:Array Keyed}{na nb:Nat}(l:Hi v a b)(m:HG v a b out na nb)(h:0<na)(h':na-1<a.size)(hb:∀y∈b.toList.take nb,v y<=v a[na-1]):HG v a b (out.push a[na-1]) (na-1) nb where
 la:=by have:=m.la;omega
 lb:=m.lb
 mg:=by
  have la:=m.la;have lt:a.size-na<a.toList.reverse.length:=by simp;omega
  have:=m.mg.Hl (il.mpr l.sa) lt fun y hy=>by
   rw [jL m.lb,mem_reverse]at hy;rw [K5 la h lt];have:=hb y hy;unfold ng;omega
  rw [K5 la h lt,show a.size-na+1=a.size-(na-1) by omega]at this;rw [toList_push];exact this
theorem z4{a b out:Array Keyed}{na nb:Nat}(l:Hi v a b)(m:HG v a b out na nb)(h:0<nb)(h':nb-1<b.size)(ha:∀y∈a.toList.take na,v y<=v b[nb-1]):HG v a b (out.push b[nb-1]) na (nb-1)where
 la:=m.la
 lb:=by have:=m.lb;omega
 mg:=by
  have lb:=m.lb;have lt:b.size-nb<b.toList.reverse.length:=by simp;omega
  have:=m.mg.Hk (il.mpr l.sb) lt fun y hy=>by
   rw [jL m.la,mem_reverse]at hy;rw [K5 lb h lt];have:=ha y hy;unfold ng;omega
  rw [K5 lb h lt,show b.size-nb+1=b.size-(nb-1) by omega]at this;rw [toList_push];exact this
theorem DN{a:Array Keyed}{n k:Nat}(h:k<=n)(hn:n<=a.size):(a.extract k n).reverse.toList=(a.toList.reverse.drop (a.size-n)).take (n-k):=by
 rw [jL hn,List.take_reverse,Array.toList_reverse,toList_extract,extract_eq_drop_take];congr 1;rw [length_take,length_toList,min_eq_left hn,show n-(n-k)=k by omega,List.drop_take]
theorem K6{a b out:Array Keyed}{na nb k:Nat}(l:Hi v a b)(m:HG v a b out na nb)(h:k<=na)(hb:∀j (hj:j<a.size),k<=j->j<na->∀y∈b.toList.take nb,v y<=v a[j]):HG v a b (out++(a.extract k na).reverse) k nb where
 la:=by have:=m.la;omega
 lb:=m.lb
 mg:=by
  have la:=m.la;have:=m.mg.Pz (il.mpr l.sa) (na-k) (by simp;omega) fun j hj hk y hy=>by
   rw [jL m.lb,mem_reverse]at hy;have:=hb (na-1-j) (by omega) (by omega) (by omega) y hy;rw [List.getElem_reverse,getElem_toList];simp only [length_toList,show a.size-1-(a.size-na+j)=na-1-j by omega];unfold ng;omega
  rw [show a.size-na+(na-k)=a.size-k by omega]at this;rw [toList_append,DN h la];exact this
theorem K7{a b out:Array Keyed}{na nb k:Nat}(l:Hi v a b)(m:HG v a b out na nb)(h:k<=nb)(ha:∀j (hj:j<b.size),k<=j->j<nb->∀y∈a.toList.take na,v y<=v b[j]):HG v a b (out++(b.extract k nb).reverse) na k where
 la:=m.la
 lb:=by have:=m.lb;omega
 mg:=by
  have lb:=m.lb;have:=m.mg.PB (il.mpr l.sb) (nb-k) (by simp;omega) fun j hj hk y hy=>by
   rw [jL m.la,mem_reverse]at hy;have:=ha (nb-1-j) (by omega) (by omega) (by omega) y hy;rw [List.getElem_reverse,getElem_toList];simp only [length_toList,show b.size-1-(b.size-nb+j)=nb-1-j by omega];unfold ng;omega
  rw [show b.size-nb+(nb-k)=b.size-k by omega]at this;rw [toList_append,DN h lb];exact this
theorem Hw{a b m:Array Keyed}{l:List Keyed}(e:m.toList=l.reverse)(h:l.Perm (a.toList.reverse++b.toList.reverse)/\gr (ng v) l):RF v a b m:=by
 constructor
 ·rw [e];refine(reverse_perm l).trans (h.1.trans ?_);exact(reverse_perm _).append (reverse_perm _)
 ·rw [e];apply il.mp;rw [List.reverse_reverse];exact h.2
theorem pF{a b out:Array Keyed}{na nb:Nat}(l:Hi v a b)(m:HG v a b out na nb)(h:na=0\/nb=0):RF v a b (jj a b out na nb):=by
 refine Hw ?_ (m.mg.NK (il.mpr l.sa) (il.mpr l.sb) fun x hx y hy=>?_)
 ·unfold jj;rw [jL m.la,jL m.lb,toList_append,toList_append,ny,ny];simp
 ·rw [jL m.lb]at hx;rw [jL m.la]at hy;rcases h with h|h
  ·subst h;simp at hy
  ·subst h;simp at hx
theorem pG{a b out:Array Keyed}{na nb:Nat}(l:Hi v a b)(m:HG v a b out na nb)(h:nb=1):RF v a b (nv a b out na nb):=by
 refine Hw ?_ (m.mg.Hm (il.mpr l.sa) (il.mpr l.sb) fun x hx y hy=>?_)
 ·unfold nv;rw [jL m.la,jL m.lb,toList_append,toList_append,ny,ny];simp
 ·rw [jL m.lb,mem_reverse]at hy;rw [jL m.la,mem_reverse]at hx;subst h;have lb:=m.lb;have:=l.hf x (mem_of_mem_take hx) (by omega);rw [List.take_one,List.head?_eq_getElem?,getElem?_eq_getElem (by simp;omega)]at hy;simp at hy;unfold ng;rw [hy];omega
inductive JH(v:Keyed->Int)(a b:Array Keyed)(N:Nat)(o:Option (Array Keyed))(na nb:Nat)(out:Array Keyed):Prop
 |fin (r:Array Keyed) (h:o=some r) (k:RF v a b r)
 |go (h:o=none) (m:HG v a b out na nb) (la:0<na) (lb:1<nb) (n:N+na+nb<=a.size+b.size)
theorem JH.le{a b:Array Keyed}{N N':Nat}{o:Option (Array Keyed)}{out:Array Keyed}{na nb:Nat}(h:JH v a b N o na nb out)(k:N'<=N):JH v a b N' o na nb out:=by
 cases h with
 |fin r h k=>exact .fin r h k
 |go h m la lb n=>exact .go h m la lb (by omega)
theorem iJ{a:Array Keyed}(sa:gr v a.toList){n:Nat}(hn:n-1<a.size){y:Keyed}(hy:y∈a.toList.take n):v y<=v a[n-1]:=by
 obtain⟨j,hj,rfl⟩:=mem_iff_getElem.mp hy;rw [getElem_take,getElem_toList];have:j<n:=by simp at hj;omega
 exact qz sa _ hn (by omega)
theorem Ff(hc:de prog w A E s L v kd){a b:Array Keyed}(l:Hi v a b)(ha:∀p∈a.toList,p∈L)(hb:∀p∈b.toList,p∈L){N mg:Nat}{c:H1}{st:SortSt}(kk:kindOf st=kd)(m:HG v a b c.2.2.2.1 c.2.1 c.2.2.1)(la:0<c.2.1)(lb:1<c.2.2.1)(n:N+c.2.1+c.2.2.1<=a.size+b.size){Q:ForInStep H1->SortSt->Prop}
  (qd:∀d:H1,JH v a b (N+1) d.1 d.2.1 d.2.2.1 d.2.2.2.1->Q (.done d) st) (qy:∀d:H1,d.1=none->JH v a b (N+1) d.1 d.2.1 d.2.2.1 d.2.2.2.1->Q (.yield d) st):wpS (model prog w) A E s (Hu a b mg c) Q st:=by
 unfold Hu;have xa:=m.la;have xb:=m.lb;have h1:c.2.1-1<a.size:=by omega
 have h2:c.2.2.1-1<b.size:=by omega
 refine wpS_bind (bw h2 (wpS_bind (bw h1 (wpS_bind (hc _ (hb _ (by simp)) _ (ha _ (by simp)) _ _ kk ?_)))));dsimp only;by_cases z:v b[c.2.2.1-1]<v a[c.2.1-1]
 ·rw [decide_eq_true z,if_pos rfl];refine wpS_bind (bw h1 ?_);have m':=tE l m la h1 fun y hy=>le_trans (iJ l.sb h2 hy) (Int.le_of_lt z);split
  ·rename_i e;exact wpS_pure (qd _ (.fin _ rfl (pF l m' (.inl (by simpa using e)))))
  ·rename_i e;have e:c.2.1-1≠0:=by simpa using e
   have g:JH v a b (N+1) (none:Option (Array Keyed)) (c.2.1-1) c.2.2.1 (c.2.2.2.1.push a[c.2.1-1]):=.go rfl m' (by omega) lb (by omega);split
   ·exact wpS_pure (qd _ g)
   ·exact wpS_pure (qy _ rfl g)
 ·rw [decide_eq_false z,if_neg Bool.false_ne_true];refine wpS_bind (bw h2 ?_);have m':=z4 l m (by omega) h2 fun y hy=>le_trans (iJ l.sa h1 hy) (not_lt.mp z);split
  ·rename_i e;exact wpS_pure (qd _ (.fin _ rfl (pG l m' (by simpa using e))))
  ·rename_i e;have e:c.2.2.1-1≠1:=by simpa using e
   have g:JH v a b (N+1) (none:Option (Array Keyed)) c.2.1 (c.2.2.1-1) (c.2.2.2.1.push b[c.2.2.1-1]):=.go rfl m' la (by omega) (by omega);split
   ·exact wpS_pure (qd _ g)
   ·exact wpS_pure (qy _ rfl g)
theorem z5{a b:Array Keyed}(l:Hi v a b){N mg ac bc na nb:Nat}{out:Array Keyed}{st:SortSt}(m:HG v a b out na nb)(la:0<na)(lb:1<nb)(n:N+na+nb<=a.size+b.size)(hh:∀(h1:na-1<a.size)(h2:nb-1<b.size),v b[nb-1]<=v a[na-1]){Q:ForInStep H2->SortSt->Prop}
  (qd:∀d:H2,JH v a b N d.1 d.2.1 d.2.2.1 d.2.2.2.1->Q (.done d) st) (qy:∀d:H2,d.1=none->JH v a b N d.1 d.2.1 d.2.2.1 d.2.2.2.1->Q (.yield d) st):wpS (model prog w) A E s (K2 a b out na nb mg ac bc) Q st:=by
 unfold K2;have xa:=m.la;have xb:=m.lb;have h1:na-1<a.size:=by omega
 have h2:nb-1<b.size:=by omega
 refine wpS_bind (bw h1 ?_);have m':=tE l m la h1 fun y hy=>le_trans (iJ l.sb h2 hy) (hh h1 h2);split
 ·rename_i e;exact wpS_pure (qd _ (.fin _ rfl (pF l m' (.inl (by simpa using e)))))
 ·rename_i e;have e:na-1≠0:=by simpa using e
  have g:JH v a b N (none:Option (Array Keyed)) (na-1) nb (out.push a[na-1]):=.go rfl m' (by omega) lb (by omega);split
  ·exact wpS_pure (qd _ g)
  ·exact wpS_pure (qy _ rfl g)
theorem z6(hc:de prog w A E s L v kd){a b:Array Keyed}(l:Hi v a b)(ha:∀p∈a.toList,p∈L)(hb:∀p∈b.toList,p∈L){N mg ac bc na nb:Nat}{out:Array Keyed}{st:SortSt}(kk:kindOf st=kd)(m:HG v a b out na nb)(la:0<na)(lb:1<nb)(n:N+na+nb<=a.size+b.size)(hh:∀(h1:na-1<a.size)(h2:nb-1<b.size),v a[na-1]<=v b[nb-1]){Q:ForInStep H2->SortSt->Prop}
  (qd:∀d:H2,JH v a b N d.1 d.2.1 d.2.2.1 d.2.2.2.1->Q (.done d) st) (qy:∀d:H2,d.1=none->JH v a b N d.1 d.2.1 d.2.2.1 d.2.2.2.1->Q (.yield d) st):wpS (model prog w) A E s (K3 a b out na nb mg ac bc) Q st:=by
 unfold K3;have xa:=m.la;have xb:=m.lb;have h1:na-1<a.size:=by omega
 have h2:nb-1<b.size:=by omega
 refine wpS_bind (bw h2 ?_);have m':=z4 l m (by omega) h2 fun y hy=>le_trans (iJ l.sa h1 hy) (hh h1 h2);split
 ·rename_i e;exact wpS_pure (qd _ (.fin _ rfl (pG l m' (by simpa using e))))
 ·rename_i e;have e:nb-1≠1:=by simpa using e
  refine wpS_bind (bw h1 (wpS_bind (gE hc (by omega) (by omega) (ha _ (by simp)) hb kk (fun i j hi hj nW _ hz=>?_) fun k hk g1 g2=>?_)))
  ·have:=qz l.sb hi hj (by omega);simp only [pD,decide_eq_true_eq]at hz ⊢;omega
  ·dsimp only;simp only [zero_add]at g1 g2;have nx:0<k->∀(i1:na-1<a.size)(i2:k-1<b.size),v b[k-1]<=v a[na-1]:=fun h i1 i2=>by
    have:=g1 (k-1) i2 (by omega);simp only [pD,decide_eq_true_eq]at this;omega
   by_cases xQ:nb-1-k>0
   ·rw [if_pos xQ];have m2:=K7 l m' hk fun j hj Wu Wv y hy=>by
     have:=g2 j hj Wu Wv;simp only [pD,decide_eq_false_iff_not]at this;exact le_trans (iJ l.sa h1 hy) (not_lt.mp this)
    split
    ·rename_i e2;exact wpS_pure (qd _ (.fin _ rfl (pG l m2 (by simpa using e2))))
    ·rename_i e2;have e2:k≠1:=by simpa using e2
     split
     ·rename_i e3;exact wpS_pure (qd _ (.fin _ rfl (pF l m2 (.inr (by simpa using e3)))))
     ·rename_i e3;have e3:k≠0:=by simpa using e3
      exact z5 l m2 la (by omega) (by omega) (nx (by omega)) qd qy
   ·rw [if_neg xQ];have xQ:k=nb-1:=by omega
    subst xQ;exact z5 l m' la (by omega) (by omega) (nx (by omega)) qd qy
theorem Hy(hc:de prog w A E s L v kd){a b:Array Keyed}(l:Hi v a b)(ha:∀p∈a.toList,p∈L)(hb:∀p∈b.toList,p∈L){N mg ac bc na nb:Nat}{out:Array Keyed}{st:SortSt}(kk:kindOf st=kd)(m:HG v a b out na nb)(la:0<na)(lb:1<nb)(n:N+na+nb<=a.size+b.size){Q:ForInStep H2->SortSt->Prop}
  (qd:∀(d:H2) g,JH v a b N d.1 d.2.1 d.2.2.1 d.2.2.2.1->Q (.done d) (bE st g)) (qy:∀(d:H2) g,d.1=none->JH v a b N d.1 d.2.1 d.2.2.1 d.2.2.2.1->Q (.yield d) (bE st g)):wpS (model prog w) A E s (K4 a b out na nb mg ac bc) Q st:=by
 unfold K4;have xa:=m.la;have xb:=m.lb;have h1:na-1<a.size:=by omega
 have h2:nb-1<b.size:=by omega
 rw [eY];refine wpS_bind (wpS_modify (wpS_bind (bw h2 (wpS_bind (gE hc (by omega) (by omega) (hb _ (by simp)) ha kk (fun i j hi hj nW _ hz=>?_) fun k hk g1 g2=>?_)))))
 ·have:=qz l.sa hi hj (by omega);simp only [pE,not_eq_true',decide_eq_false_iff_not]at hz ⊢;omega
 ·dsimp only;simp only [zero_add]at g1 g2;have nx:0<k->∀(i1:k-1<a.size)(i2:nb-1<b.size),v a[k-1]<=v b[nb-1]:=fun h i1 i2=>by
   have:=g1 (k-1) i1 (by omega);simp only [pE,not_eq_true',decide_eq_false_iff_not]at this;omega
  by_cases xQ:na-k>0
  ·rw [if_pos xQ];have m2:=K6 l m hk fun j hj Wu Wv y hy=>by
    have:=g2 j hj Wu Wv;simp only [pE,not_eq_false',decide_eq_true_eq]at this;exact le_trans (iJ l.sb h2 hy) (Int.le_of_lt this)
   split
   ·rename_i e;exact wpS_pure (qd _ _ (.fin _ rfl (pF l m2 (.inl (by simpa using e)))))
   ·rename_i e;have e:k≠0:=by simpa using e
    exact z6 (st:=bE st mg) hc l ha hb kk m2 (by omega) lb (by omega) (nx (by omega)) (fun d=>qd d _) (fun d=>qy d _)
  ·rw [if_neg xQ];have xQ:k=na:=by omega
   subst xQ;exact z6 (st:=bE st mg) hc l ha hb kk m la lb n (nx (by omega)) (fun d=>qd d _) (fun d=>qy d _)
theorem Fg(hc:de prog w A E s L v kd){a b:Array Keyed}(l:Hi v a b)(ha:∀p∈a.toList,p∈L)(hb:∀p∈b.toList,p∈L){N:Nat}{c:H0}{st:SortSt}(kk:kindOf st=kd)(m:HG v a b c.2.2.2.1 c.2.1 c.2.2.1)(la:0<c.2.1)(lb:1<c.2.2.1)(n:N+c.2.1+c.2.2.1<=a.size+b.size){Q:ForInStep H0->SortSt->Prop}
  (qd:∀(d:H0) g r,d.1=some r->RF v a b r->Q (.done d) (bE st g)) (qy:∀(d:H0) g,d.1=none->JH v a b (N+1) d.1 d.2.1 d.2.2.1 d.2.2.2.1->Q (.yield d) (bE st g)):wpS (model prog w) A E s (Hv a b c) Q st:=by
 unfold Hv;refine wpS_bind (wpS_mono (wpS_forRange (I:=fun x (d:H1) aK=>aK=st/\d.1=none/\JH v a b (N+x) d.1 d.2.1 d.2.2.1 d.2.2.2.1) (Q:=fun(d:H1) aK=>aK=st/\JH v a b (N+1) d.1 d.2.1 d.2.2.1 d.2.2.2.1) ?step ?fin ⟨rfl,rfl,.go rfl m la lb n⟩) ?post)
 case fin =>
  rintro d aK ⟨rfl,_,j⟩;exact⟨rfl,j.le (by have:=m.la;have:=m.lb;omega)⟩
 case step =>
  rintro x d aK _ hx ⟨rfl,dn,j⟩
  cases j with
  |fin r h k=>rw [dn]at h;cases h
  |go h m la lb n=>exact Ff hc l ha hb kk m la lb n (fun d j=>⟨rfl,j.le (by omega)⟩) fun d hd j=>⟨rfl,hd,j⟩
 case post =>
  rintro⟨o,na,nb,out,ac,bc⟩ aK ⟨rfl,j⟩
  cases j with
  |fin r h k =>
   cases h
   exact wpS_pure (qd _ (gallopOf aK) r rfl k)
  |go h m la lb n =>
   cases h
   dsimp only;refine wpS_bind (wpS_lift (wpAny_rule ⟨rfl,?_⟩));refine wpS_bind (wpS_mono (wpS_forRange (I:=fun x (d:H2) qA=>(∃g,qA=bE aK g)/\d.1=none/\JH v a b (N+1) d.1 d.2.1 d.2.2.1 d.2.2.2.1) (Q:=fun(d:H2) qA=>(∃g,qA=bE aK g)/\JH v a b (N+1) d.1 d.2.1 d.2.2.1 d.2.2.2.1) ?Hr ?PC ⟨⟨gallopOf aK,rfl⟩,rfl,.go rfl m la lb n⟩) ?Ht)
   case PC =>
    rintro d qA ⟨z,_,j⟩;exact⟨z,j⟩
   case Hr =>
    rintro x d qA _ hx ⟨⟨g,rfl⟩,dn,j⟩
    cases j with
    |fin r h k=>rw [dn]at h;cases h
    |go h m la lb n =>
     unfold NM;split
     all_goals
      refine Hy (st:=bE aK g) hc l ha hb kk m la lb n (fun d g j=>?_) fun d g hd j=>?_
      ·exact⟨⟨g,rfl⟩,j⟩
      ·exact⟨⟨g,rfl⟩,hd,j⟩
   case Ht =>
    rintro⟨o,na,nb,out,mg,ac,bc⟩ qA ⟨⟨g,rfl⟩,j⟩
    cases j with
    |fin r h k =>
     cases h
     exact wpS_pure (qd _ g r rfl k)
    |go h m la lb n =>
     cases h
     dsimp only;rw [eY];exact wpS_bind (wpS_modify (wpS_pure (qy _ (mg+1) rfl (.go rfl m la lb n))))
theorem z7(hc:de prog w A E s L v kd){a b:Array Keyed}(l:Hi v a b)(ha:∀p∈a.toList,p∈L)(hb:∀p∈b.toList,p∈L)(na:0<a.size)(nb:0<b.size)(h0:∀(h1:a.size-1<a.size)(h2:b.size-1<b.size),v b[b.size-1]<=v a[a.size-1]){st:SortSt}(kk:kindOf st=kd){Q:Array Keyed->SortSt->Prop}
  (q:∀g m,RF v a b m->Q m (bE st g)):wpS (model prog w) A E s (tw a b) Q st:=by
 rw [tD];have h1:a.size-1<a.size:=by omega
 have h2:b.size-1<b.size:=by omega
 refine wpS_bind (wpS_lift (wpAny_rule ⟨rfl,wpS_bind (bw h1 ?_)⟩));have m0:HG v a b (#[]:Array Keyed) a.size b.size:=⟨le_refl _,le_refl _,by omega,by omega,by simp,by simp [gr],fun x hx=>by simp at hx⟩;have m1:HG v a b #[a[a.size-1]] (a.size-1) b.size:=by
  have:=tE l m0 na h1 fun y hy=>le_trans (iJ l.sb h2 hy) (h0 h1 h2);simpa using this
 split
 ·rename_i e;exact wpS_pure (q (gallopOf st) _ (pF l m1 (.inl (by simpa using e))))
 ·rename_i e;have e:a.size-1≠0:=by simpa using e
  split
  ·rename_i e2;exact wpS_pure (q (gallopOf st) _ (pG l m1 (by simpa using e2)))
  ·rename_i e2;have e2:b.size≠1:=by simpa using e2
   refine wpS_bind (wpS_get (wpS_bind (wpS_mono (wpS_forRange (I:=fun x (d:H0) aK=>(∃g,aK=bE st g)/\d.1=none/\JH v a b (1+x) d.1 d.2.1 d.2.2.1 d.2.2.2.1) (Q:=fun(d:H0) aK=>∃g,aK=bE st g/\∃r,d.1=some r/\RF v a b r) ?step ?fin ⟨⟨gallopOf st,rfl⟩,rfl,.go rfl m1 (show 0<a.size-1 by omega) (show 1<b.size by omega) (show 1+0+(a.size-1)+b.size<=a.size+b.size by omega)⟩) ?post)))
   case fin =>
    rintro d aK ⟨⟨g,rfl⟩,dn,j⟩
    cases j with
    |fin r h k=>rw [dn]at h;cases h
    |go h m la lb n=>omega
   case step =>
    rintro x d aK _ hx ⟨⟨g,rfl⟩,dn,j⟩
    cases j with
    |fin r h k=>rw [dn]at h;cases h
    |go h m la lb n =>
     refine Fg (st:=bE st g) hc l ha hb kk m la lb n (fun d g r e k=>?_) fun d g hd j=>?_
     ·exact⟨g,rfl,r,e,k⟩
     ·exact⟨⟨g,rfl⟩,hd,by rw [show 1+(x+1)=1+x+1 by omega];exact j⟩
   case post =>
    rintro⟨o,na,nb,out,mg⟩ aK ⟨g,rfl,r,e,k⟩
    cases e
    exact wpS_pure (q g r k)
end
def Rv(v:Keyed->Int)(xs:Array Keyed)(i:Nat):Int:=(xs[i]?.map v).getD 0
def Cm(v:Keyed->Int)(xs:Array Keyed)(l r:Nat):Prop:=∀i j,l<=i->i<=j->j<r->Rv v xs i<=Rv v xs j
def PD(v:Keyed->Int)(xs:Array Keyed)(l r:Nat):Prop:=∀i j,l<=i->i<=j->j<r->Rv v xs j<=Rv v xs i
theorem xR{v:Keyed->Int}{xs:Array Keyed}{i:Nat}(h:i<xs.size):Rv v xs i=v xs[i]:=by unfold Rv;rw [getElem?_pos xs i h];rfl
structure TB(gM:SortSt)(lo:Nat)(st:SortSt):Prop where
 eq:st=setArr gM (arrOf st)
 perm:(arrOf st).Perm (arrOf gM)
 keep:∀i,i<lo->(arrOf st)[i]?=(arrOf gM)[i]?
theorem TB.size{gM st:SortSt}{lo:Nat}(h:TB gM lo st):(arrOf st).size=(arrOf gM).size:=h.perm.size_eq
theorem TB.kind{gM st:SortSt}{lo:Nat}(h:TB gM lo st):kindOf st=kindOf gM:=by rw [h.eq]
theorem TB.set{gM st:SortSt}{lo:Nat}(h:TB gM lo st){xs:Array Keyed}(p:xs.Perm (arrOf st))(k:∀i,i<lo->xs[i]?=(arrOf st)[i]?):TB gM lo (setArr st xs)where
 eq:=by rw [h.eq]
 perm:=p.trans h.perm
 keep:=fun i hi=>(k i hi).trans (h.keep i hi)
section
variable {prog:Program}{w:World}{A:Around}{E:Value->Shared->Prop}{s:Shared}{L:List Keyed}{v:Keyed->Int}{kd:SortKind}{gM:SortSt}{lo:Nat}
theorem pH(hc:de prog w A E s L v kd)(hL:∀p∈(arrOf gM).toList,p∈L)(kk:kindOf gM=kd){st:SortSt}(h:TB gM lo st){i j:Nat}(hi:i<(arrOf gM).size)(hj:j<(arrOf gM).size){Q:Option Bool->SortSt->Prop}(q:Q (some (decide (Rv v (arrOf st) i<Rv v (arrOf st) j))) st):wpS (model prog w) A E s (ltAt' i j) Q st:=by
 have zi:i<(arrOf st).size:=by rw [h.size];exact hi
 have zj:j<(arrOf st).size:=by rw [h.size];exact hj
 have mem:∀x∈arrOf st,x∈L:=fun x hx=>hL _ ((Array.perm_iff_toList_perm.mp h.perm).mem_iff.mp (by simpa using hx));rw [ltAt'_eq];refine wpS_bind (wpS_get (wpS_bind (bw zi (wpS_bind (bw zj (hc _ (mem _ (by simp)) _ (mem _ (by simp)) _ _ (h.kind.trans kk) ?_))))));rw [xR zi,xR zj]at q;exact q
theorem PF{xs:Array Keyed}{a b:Nat}(ha:a<xs.size)(hb:b<=a)(k:Nat):(bubble xs a (a-b))[k]?=if k=b then xs[a]? else if b<k/\k<=a then xs[k-1]? else xs[k]?:=by
 rw [getElem?_bubble ha (a-b) (by omega),show a-(a-b)=b by omega]
theorem HA(hc:de prog w A E s L v kd)(hL:∀p∈(arrOf gM).toList,p∈L)(kk:kindOf gM=kd){n ok:Nat}(hn:lo+n<=(arrOf gM).size)(dG:ok<=n){st:SortSt}(hB:TB gM lo st)(hs:Cm v (arrOf st) lo (lo+ok)){Q:Bool->SortSt->Prop}
  (q:∀aK,TB gM lo aK->Cm v (arrOf aK) lo (lo+n)->Q true aK):wpS (model prog w) A E s (binarySort' lo n ok) Q st:=by
 rw [binarySort'_eq];refine wpS_bind (wpS_mono (wpS_forRange (I:=fun k c aK=>c=(none,())/\TB gM lo aK/\Cm v (arrOf aK) lo (lo+min k n)) (Q:=fun c aK=>c=(none,())/\TB gM lo aK/\Cm v (arrOf aK) lo (lo+n)) ?step ?fin ⟨rfl,hB,?init⟩) fun c aK h=>?post)
 case post =>
  obtain⟨rfl,h1,h2⟩:=h;exact wpS_pure (q aK h1 h2)
 case init =>
  intro i j hi nW hj;by_cases z:ok=0
  ·have:i=j:=by omega
   subst this;exact Int.le_refl _
  ·exact hs i j hi nW (by omega)
 case fin =>
  rintro c aK ⟨h1,h2,h3⟩;rw [show min (max (max ok 1) n) n=n by omega]at h3;exact⟨h1,h2,h3⟩
 case step =>
  rintro k c aK hk J8 ⟨rfl,Rw,qY⟩;rw [show min k n=k by omega]at qY;refine wpS_bind (wpS_mono (wpS_forRange (I:=fun x c su=>su=aK/\∃l r,c=(none,l,r)/\l<=r/\r<=k/\r-l<=k-x/\(∀i,lo<=i->i<lo+l->Rv v (arrOf aK) i<=Rv v (arrOf aK) (lo+k))/\∀i,lo+r<=i->i<lo+k->Rv v (arrOf aK) (lo+k)<=Rv v (arrOf aK) i)
   (Q:=fun c su=>su=aK/\∃l,c.1=none/\c.2.1=l/\l<=k/\(∀i,lo<=i->i<lo+l->Rv v (arrOf aK) i<=Rv v (arrOf aK) (lo+k))/\∀i,lo+l<=i->i<lo+k->Rv v (arrOf aK) (lo+k)<=Rv v (arrOf aK) i) ?Rx ?Ww ⟨rfl,0,k,rfl,by omega,by omega,by omega,fun i _ hi=>by omega,fun i h1 h2=>by omega⟩) ?SI)
  case Ww =>
   rintro c su ⟨rfl,l,r,rfl,a1,a2,a3,a4,a5⟩;have e:r=l:=by omega
   subst e;exact⟨rfl,r,rfl,rfl,a2,a4,a5⟩
  case Rx =>
   rintro x c su _ hx ⟨rfl,l,r,rfl,a1,a2,a3,a4,a5⟩;dsimp only;by_cases z:l≥r
   ·rw [if_pos z];have e:r=l:=by omega
    subst e;exact wpS_pure ⟨rfl,r,rfl,rfl,a2,a4,a5⟩
   ·rw [if_neg z];refine wpS_bind (pH hc hL kk Rw (by omega) (by omega) ?_);by_cases y:Rv v (arrOf su) (lo+k)<Rv v (arrOf su) (lo+(l+r) / 2)
    ·rw [decide_eq_true y];refine wpS_pure ⟨rfl,l,(l+r) / 2,rfl,by omega,by omega,by omega,a4,fun i h1 h2=>?_⟩;exact le_trans (Int.le_of_lt y) (qY _ _ (by omega) h1 h2)
    ·rw [decide_eq_false y];refine wpS_pure ⟨rfl,(l+r) / 2+1,r,rfl,by omega,by omega,by omega,fun i h1 h2=>?_,a5⟩;exact le_trans (qY i (lo+(l+r) / 2) h1 (by omega) (by omega)) (not_lt.mp y)
  case SI =>
   rintro⟨c1,l,c3⟩ su ⟨rfl,l',e1,e2,a2,a4,a5⟩
   cases e1
   have e2:l=l':=e2;subst e2;dsimp only;rw [moveDown'_eq];have sz:lo+k<(arrOf su).size:=by rw [Rw.size];omega
   have at_:=fun i=>PF (b:=lo+l) sz (by omega) i;refine wpS_bind (wpS_modify (wpS_pure ⟨rfl,Rw.set (bubble_perm _ _ _) fun i hi=>?_,?_⟩))
   ·rw [at_,if_neg (by omega),if_neg (by omega)]
   ·rw [show min (k+1) n=k+1 by omega];intro i j hi nW hj;show Rv v (bubble (arrOf su) (lo+k) (lo+k-(lo+l))) i<=Rv v (bubble (arrOf su) (lo+k) (lo+k-(lo+l))) j;have z8:∀i,Rv v (bubble (arrOf su) (lo+k) (lo+k-(lo+l))) i=if i=lo+l then Rv v (arrOf su) (lo+k)else if lo+l<i/\i<=lo+k then Rv v (arrOf su) (i-1)else Rv v (arrOf su) i:=fun i=>by
     unfold Rv;rw [at_ i];split
     ·rfl
     ·split<;>rfl
    rw [z8,z8];rcases lt_or_ge i (lo+l)with z|z
    ·rw [if_neg (by omega),if_neg (by omega)];rcases lt_or_ge j (lo+l)with y|y
     ·rw [if_neg (by omega),if_neg (by omega)];exact qY i j hi nW (by omega)
     ·split
      ·exact a4 i hi z
      ·rw [if_pos (by omega)];exact qY i (j-1) hi (by omega) (by omega)
    ·by_cases y:i=lo+l
     ·rw [if_pos y];split
      ·exact Int.le_refl _
      ·rw [if_pos (by omega)];exact a5 _ (by omega) (by omega)
     ·rw [if_neg y,if_pos (by omega),if_neg (by omega),if_pos (by omega)];exact qY _ _ (by omega) (by omega) (by omega)
end
abbrev CA:=Option (Option Nat)×Nat
abbrev CD:=Option (Option Nat)×Nat×Nat
def DO(lo m z:Nat):SM CA:=forIn [m:z] ((none,m):CA) fun _ c=>do
 let r<-ltAt' (lo+c.2) (lo+c.2-1)
 match r with
 |some b=>if b=true then pure (.done (none,c.2))else pure (.yield (none,c.2+1))
 |_=>pure (.done (some none,c.2))
def DP(lo n z:Nat):SM (Option Nat):=do
 reverseSlice' lo (lo+n)
 let c<-DO lo n z
 match c.1 with
 |some r=>pure r
 |none=>pure (some c.2)
def HB(lo m z:Nat):SM CD:=forIn [m:z] ((none,m,0):CD) fun _ c=>do
 let r<-ltAt' (lo+c.2.1) (lo+c.2.1-1)
 match r with
 |some b =>
  if b=true then
   if c.2.2>0 then do
    reverseSlice' (lo+c.2.1-(c.2.2+1)) (lo+c.2.1)
    pure (.yield (none,c.2.1+1,0))
   else pure (.yield (none,c.2.1+1,0))
  else do
   let r<-ltAt' (lo+c.2.1-1) (lo+c.2.1)
   match r with
   |some b=>if b=true then pure (.done (none,c.2.1,c.2.2))else pure (.yield (none,c.2.1+1,c.2.2+1))
   |_=>pure (.done (some none,c.2.1,c.2.2))
 |_=>pure (.done (some none,c.2.1,c.2.2))
def DQ(lo n z:Nat):SM (Option Nat):=do
 rule "list.sort.descending-run"
 let c<-HB lo (n+1) z
 match c.1 with
 |some r=>pure r
 |none =>
  if c.2.2>0 then do
   reverseSlice' (lo+c.2.1-(c.2.2+1)) (lo+c.2.1)
   DP lo c.2.1 z
  else DP lo c.2.1 z
theorem tF(lo z:Nat):countRun' lo z=(do
  let c<-DO lo 1 z
  match c.1 with
  |some r=>pure r
  |none =>
   if(c.2==z)=true then pure (some c.2)
   else if c.2>1 then do
    let r<-ltAt' lo (lo+c.2-1)
    match r with
    |some b=>if b=true then pure (some c.2)else do
     reverseSlice' lo (lo+c.2)
     DQ lo c.2 z
    |_=>pure none
   else DQ lo c.2 z):=by
 kernel_rfl
theorem Cn{xs:Array Keyed}{i j:Nat}(hj:j<=xs.size)(v:Keyed->Int)(k:Nat):Rv v (mirror xs i j ((j-i) / 2)) k=if i<=k/\k<j then Rv v xs (i+j-1-k)else Rv v xs k:=by
 unfold Rv;rw [getElem?_mirror_all hj];split<;>rfl
theorem jM{xs:Array Keyed}{i j:Nat}{v:Keyed->Int}(hj:j<=xs.size)(h:∀k,i<=k->k<j->Rv v xs k=Rv v xs (j-1))(k:Nat):Rv v (mirror xs i j ((j-i) / 2)) k=Rv v xs k:=by
 rw [Cn hj];split
 ·rw [h _ (by omega) (by omega),h k (by omega) (by omega)]
 ·rfl
theorem TB.UQ{gM st:SortSt}{lo:Nat}(h:TB gM lo st){i j:Nat}(hi:lo<=i)(hj:j<=(arrOf st).size):TB gM lo (setArr st (mirror (arrOf st) i j ((j-i) / 2))) :=
 h.set (mirror_perm _ _ _ _) fun k hk=>by rw [getElem?_mirror_all hj,if_neg (by omega)]
theorem PH(v:Keyed->Int)(xs:Array Keyed)(lo:Nat):Cm v xs lo (lo+1):=fun i j h1 h2 h3=>by
 have:i=j:=by omega
 subst this;exact Int.le_refl _
theorem K8{v:Keyed->Int}{xs:Array Keyed}{lo n:Nat}(h:Cm v xs lo (lo+n))(h1:1<=n)(k:Rv v xs (lo+n-1)<=Rv v xs (lo+n)):Cm v xs lo (lo+(n+1)):=fun i j hi nW hj=>by
 by_cases z:j=lo+n
 ·subst z;by_cases y:i=lo+n
  ·subst y;exact Int.le_refl _
  ·exact le_trans (h i (lo+n-1) hi (by omega) (by omega)) k
 ·exact h i j hi nW (by omega)
theorem sg{v:Keyed->Int}{xs:Array Keyed}{lo n:Nat}(h:PD v xs lo (lo+n))(h1:1<=n)(k:Rv v xs (lo+n)<=Rv v xs (lo+n-1)):PD v xs lo (lo+(n+1)):=fun i j hi nW hj=>by
 by_cases z:j=lo+n
 ·subst z;by_cases y:i=lo+n
  ·subst y;exact Int.le_refl _
  ·exact le_trans k (h i (lo+n-1) hi (by omega) (by omega))
 ·exact h i j hi nW (by omega)
section
variable {prog:Program}{w:World}{A:Around}{E:Value->Shared->Prop}{s:Shared}{L:List Keyed}{v:Keyed->Int}{kd:SortKind}{gM:SortSt}{lo:Nat}
theorem pI{st:SortSt}{i j:Nat}{Q:Unit->SortSt->Prop}(h:Q () (setArr st (mirror (arrOf st) i j ((j-i) / 2)))):wpS (model prog w) A E s (reverseSlice' i j) Q st:=by
 rw [reverseSlice'_eq];exact wpS_modify h
theorem wI(hc:de prog w A E s L v kd)(hL:∀p∈(arrOf gM).toList,p∈L)(kk:kindOf gM=kd){m z:Nat}(hz:lo+z<=(arrOf gM).size)(hm:1<=m)(hmz:m<=z){st:SortSt}(hB:TB gM lo st)(hs:Cm v (arrOf st) lo (lo+m)){Q:CA->SortSt->Prop}
  (q:∀n,m<=n->n<=z->Cm v (arrOf st) lo (lo+n)->(n=z\/Rv v (arrOf st) (lo+n)<Rv v (arrOf st) (lo+n-1))->Q (none,n) st):wpS (model prog w) A E s (DO lo m z) Q st:=by
 unfold DO;refine wpS_forRange (I:=fun x c aK=>aK=st/\c=(none,x)/\Cm v (arrOf st) lo (lo+x)) ?step ?fin ⟨rfl,rfl,hs⟩
 case fin =>
  rintro c aK ⟨rfl,rfl,h⟩;rw [show max m z=z by omega]at h ⊢;exact q z hmz (le_refl _) h (.inl rfl)
 case step =>
  rintro x c aK hx hxz ⟨rfl,rfl,h⟩;dsimp only;refine wpS_bind (pH hc hL kk hB (by omega) (by omega) ?_);by_cases y:Rv v (arrOf aK) (lo+x)<Rv v (arrOf aK) (lo+x-1)
  ·rw [decide_eq_true y];exact wpS_pure (q x hx (by omega) h (.inr y))
  ·rw [decide_eq_false y];exact wpS_pure ⟨rfl,rfl,K8 h (by omega) (not_lt.mp y)⟩
theorem wJ(hc:de prog w A E s L v kd)(hL:∀p∈(arrOf gM).toList,p∈L)(kk:kindOf gM=kd){n z:Nat}(hz:lo+z<=(arrOf gM).size)(hn:1<=n)(SJ:n<=z){st:SortSt}(hB:TB gM lo st)(hs:PD v (arrOf st) lo (lo+n)){Q:Option Nat->SortSt->Prop}
  (q:∀m aK,TB gM lo aK->1<=m->m<=z->Cm v (arrOf aK) lo (lo+m)->Q (some m) aK):wpS (model prog w) A E s (DP lo n z) Q st:=by
 unfold DP;have sz:lo+n<=(arrOf st).size:=by rw [hB.size];omega
 have Rw:=hB.UQ (i:=lo) (le_refl _) sz;refine wpS_bind (pI (wpS_bind (wI hc hL kk hz hn SJ Rw (fun i j hi nW hj=>?_) fun m h1 h2 h3 _=>wpS_pure (q m _ Rw (by omega) h2 h3))));show Rv v (mirror (arrOf st) lo (lo+n) _) i<=Rv v (mirror (arrOf st) lo (lo+n) _) j;rw [Cn sz,Cn sz,if_pos (by omega),if_pos (by omega)];exact hs _ _ (by omega) (by omega) (by omega)
theorem Fh(hc:de prog w A E s L v kd)(hL:∀p∈(arrOf gM).toList,p∈L)(kk:kindOf gM=kd){n z:Nat}(hz:lo+z<=(arrOf gM).size)(hn:1<=n)(SJ:n<=z){st:SortSt}(hB:TB gM lo st)(hs:PD v (arrOf st) lo (lo+n)){Q:CD->SortSt->Prop}
  (q:∀m e aK,TB gM lo aK->n<=m->m<=z->PD v (arrOf aK) lo (lo+m)->e+1<=m->(∀i,lo+m-(e+1)<=i->i<lo+m->Rv v (arrOf aK) i=Rv v (arrOf aK) (lo+m-1))->Q (none,m,e) aK):wpS (model prog w) A E s (HB lo n z) Q st:=by
 unfold HB;refine wpS_forRange (I:=fun x c aK=>∃e,c=(none,x,e)/\TB gM lo aK/\PD v (arrOf aK) lo (lo+x)/\e+1<=x/\∀i,lo+x-(e+1)<=i->i<lo+x->Rv v (arrOf aK) i=Rv v (arrOf aK) (lo+x-1)) ?step ?fin ⟨0,rfl,hB,hs,hn,fun i h1 h2=>by congr 1;omega⟩
 case fin =>
  rintro c aK ⟨e,rfl,h1,h2,h3,h4⟩;rw [show max n z=z by omega]at h2 h3 h4 ⊢;exact q z e aK h1 SJ (le_refl _) h2 h3 h4
 case step =>
  rintro x c aK hx hxz ⟨e,rfl,h1,h2,h3,h4⟩;dsimp only;have sz:lo+x<=(arrOf aK).size:=by rw [h1.size];omega
  refine wpS_bind (pH hc hL kk h1 (by omega) (by omega) ?_);by_cases y:Rv v (arrOf aK) (lo+x)<Rv v (arrOf aK) (lo+x-1)
  ·rw [decide_eq_true y];dsimp only;rw [if_pos rfl];have d:=sg h2 (by omega) (Int.le_of_lt y);split
   ·refine wpS_bind (pI (wpS_pure ⟨0,rfl,h1.UQ (by omega) sz,fun i j hi nW hj=>?_,by omega,fun i z1 z2=>by congr 1;omega⟩));show Rv v (mirror (arrOf aK) _ _ _) j<=Rv v (mirror (arrOf aK) _ _ _) i;rw [jM sz h4,jM sz h4];exact d i j hi nW hj
   ·exact wpS_pure ⟨0,rfl,h1,d,by omega,fun i z1 z2=>by congr 1;omega⟩
  ·rw [decide_eq_false y];dsimp only;rw [if_neg Bool.false_ne_true];refine wpS_bind (pH hc hL kk h1 (by omega) (by omega) ?_);by_cases y2:Rv v (arrOf aK) (lo+x-1)<Rv v (arrOf aK) (lo+x)
   ·rw [decide_eq_true y2];exact wpS_pure (q x e aK h1 hx (by omega) h2 h3 h4)
   ·rw [decide_eq_false y2];have eq:Rv v (arrOf aK) (lo+x)=Rv v (arrOf aK) (lo+x-1):=by omega
    refine wpS_pure ⟨e+1,rfl,h1,sg h2 (by omega) (Int.le_of_eq eq),by omega,fun i z1 z2=>?_⟩;rw [show lo+(x+1)-1=lo+x by omega];by_cases z3:i=lo+x
    ·rw [z3]
    ·rw [eq];exact h4 i (by omega) (by omega)
theorem wK(hc:de prog w A E s L v kd)(hL:∀p∈(arrOf gM).toList,p∈L)(kk:kindOf gM=kd){n z:Nat}(hz:lo+z<=(arrOf gM).size)(SJ:n+1<=z){st:SortSt}(hB:TB gM lo st)(hs:PD v (arrOf st) lo (lo+(n+1))){Q:Option Nat->SortSt->Prop}
  (q:∀m aK,TB gM lo aK->1<=m->m<=z->Cm v (arrOf aK) lo (lo+m)->Q (some m) aK):wpS (model prog w) A E s (DQ lo n z) Q st:=by
 unfold DQ;refine wpS_bind (wpS_lift (wpAny_rule ⟨rfl,?_⟩));refine wpS_bind (Fh hc hL kk hz (by omega) SJ hB hs fun m e aK h1 h2 h3 h4 h5 h6=>?_);dsimp only;have sz:lo+m<=(arrOf aK).size:=by rw [h1.size];omega
 split
 ·refine wpS_bind (pI (wJ hc hL kk hz (by omega) h3 (h1.UQ (by omega) sz) (fun i j hi nW hj=>?_) q));show Rv v (mirror (arrOf aK) _ _ _) j<=Rv v (mirror (arrOf aK) _ _ _) i;rw [jM sz h6,jM sz h6];exact h4 i j hi nW hj
 ·exact wJ hc hL kk hz (by omega) h3 h1 h4 q
theorem K9(hc:de prog w A E s L v kd)(hL:∀p∈(arrOf gM).toList,p∈L)(kk:kindOf gM=kd){z:Nat}(hz:lo+z<=(arrOf gM).size)(h1:1<=z){st:SortSt}(hB:TB gM lo st){Q:Option Nat->SortSt->Prop}
  (q:∀m aK,TB gM lo aK->1<=m->m<=z->Cm v (arrOf aK) lo (lo+m)->Q (some m) aK):wpS (model prog w) A E s (countRun' lo z) Q st:=by
 rw [tF];refine wpS_bind (wI hc hL kk hz (le_refl 1) h1 hB (PH _ _ _) fun n n1 n2 n3 n4=>?_);dsimp only;split
 ·exact wpS_pure (q n st hB n1 n2 n3)
 ·rename_i e;have e:n≠z:=by simpa using e
  have lt:=n4.resolve_left e;split
  ·refine wpS_bind (pH hc hL kk hB (by omega) (by omega) ?_);by_cases y:Rv v (arrOf st) lo<Rv v (arrOf st) (lo+n-1)
   ·rw [decide_eq_true y];exact wpS_pure (q n st hB n1 n2 n3)
   ·rw [decide_eq_false y];dsimp only;rw [if_neg Bool.false_ne_true];have sz:lo+n<=(arrOf st).size:=by rw [hB.size];omega
    have all:∀k,lo<=k->k<lo+n->Rv v (arrOf st) k=Rv v (arrOf st) (lo+n-1):=fun k k1 k2=>by
     have a1:=n3 lo k (le_refl _) k1 k2;have a2:=n3 k (lo+n-1) k1 (by omega) (by omega);omega
    refine wpS_bind (pI (wK hc hL kk hz (by omega) (hB.UQ (le_refl _) sz) (fun i j hi nW hj=>?_) q));show Rv v (mirror (arrOf st) _ _ _) j<=Rv v (mirror (arrOf st) _ _ _) i;rw [jM sz all,jM sz all];refine sg (n:=n) (fun i j hi nW hj=>?_) n1 (Int.le_of_lt lt) i j hi nW hj;rw [all i hi (by omega),all j (by omega) hj];exact Int.le_refl _
  ·have e1:n=1:=by omega
   subst e1;refine wK hc hL kk hz (by omega) hB (sg (n:=1) (fun i j hi nW hj=>?_) (by omega) (Int.le_of_lt lt)) q;have:i=j:=by omega
   subst this;exact Int.le_refl _
end
def Fi(xs:Array Keyed)(at_:Nat)(m:Array Keyed):Array Keyed:=m.toList.zipIdx.foldl (fun a (p,j)=>a.setIfInBounds (at_+j) p) xs
def SK(xs:Array Keyed)(sa na sb:Nat)(k m:Nat):SM Bool:=do
 let out<-if na-k<=m then tm (xs.extract (sa+k) sb) (xs.extract sb (sb+m))else tw (xs.extract (sa+k) sb) (xs.extract sb (sb+m))
 modify fun s=>setArr s (Fi (arrOf s) (sa+k) out)
 let s<-get
 pure (failedOf s).isNone
def PJ(xs:Array Keyed)(sa na sb nb:Nat):SM Bool:=do
 let y<-elem' xs sb
 let r<-i5 false y xs sa na 0
 match r with
 |some k =>
  if(na-k==0)=true then pure true
  else do
   let x<-elem' xs (sa+k+(na-k)-1)
   let r<-i5 true x xs sb nb (nb-1)
   match r with
   |some m=>if(m==0)=true then pure true else SK xs sa na sb k m
   |_=>pure false
 |_=>pure false
theorem vq(i:Nat):mergeAt' i=(do
  let s<-get
  match ((pendingOf s)[i]?,(pendingOf s)[i+1]?)with
  |(some (sa,na,pw),some (sb,nb,_))=>do
   set (setPending s (((pendingOf s).setIfInBounds i (sa,na+nb,pw)).eraseIdxIfInBounds (i+1)))
   PJ (arrOf s) sa na sb nb
  |_=>unsupported "internal:list.sort.pending"):=by
 kernel_rfl
theorem wL:∀(m:List Keyed)(xs:Array Keyed)(at_ j:Nat),at_+j+m.length<=xs.size ->
  ((m.zipIdx j).foldl (fun a (p,j)=>a.setIfInBounds (at_+j) p) xs).toList=xs.toList.take (at_+j)++m++xs.toList.drop (at_+j+m.length)
 |[],xs,at_,j,h=>by simp
 |x::m,xs,at_,j,h=>by
  rw [length_cons]at h;rw [List.zipIdx_cons,foldl_cons,wL m _ at_ (j+1) (by rw [Array.size_setIfInBounds];omega)];rw [Array.toList_setIfInBounds,length_cons,List.drop_set,if_pos (by omega),show at_+(j+1)=at_+j+1 by omega,take_succ_eq_append_getElem (by simp;omega),List.take_set_of_le (le_refl _),List.getElem_set_self];rw [show at_+j+1+m.length=at_+j+(m.length+1) by omega];simp
theorem z9{m xs:Array Keyed}{at_:Nat}(h:at_+m.size<=xs.size):(Fi xs at_ m).toList=xs.toList.take at_++m.toList++xs.toList.drop (at_+m.size):=by
 have:=wL m.toList xs at_ 0 (by simpa using h);simpa [Fi]using this
section
variable {prog:Program}{w:World}{A:Around}{E:Value->Shared->Prop}{s:Shared}{L:List Keyed}{v:Keyed->Int}{kd:SortKind}
theorem si{l:List Keyed}(h:gr v l){i j:Nat}(hi:i<l.length)(hj:j<l.length)(nW:i<=j):v l[i]<=v l[j]:=by
 rcases Nat.lt_or_eq_of_le nW with z|z
 ·exact(pairwise_iff_getElem.mp h) i j hi hj z
 ·subst z;exact Int.le_refl _
theorem sj{x y:List Keyed}(hx:gr v x)(hy:gr v y)(h:∀a∈x,∀b∈y,v a<=v b):gr v (x++y):=pairwise_append.mpr ⟨hx,hy,h⟩
theorem tG{l:List Keyed}(h:gr v l)(k:Nat):gr v (l.take k):=List.Pairwise.sublist (take_sublist _ _) h
theorem qB{l:List Keyed}(h:gr v l)(k:Nat):gr v (l.drop k):=List.Pairwise.sublist (drop_sublist _ _) h
theorem pJ{l:List Keyed}(h:gr v l)(k:Nat):∀x∈l.take k,∀y∈l.drop k,v x<=v y:=by
 have:gr v (l.take k++l.drop k):=by rw [take_append_drop];exact h
 exact(pairwise_append.mp this).2.2
theorem qZ{l:List Keyed}{k:Nat}{x:Keyed}(h:x∈l.take k):∃i,∃hi:i<l.length,i<k/\x=l[i]:=by
 obtain⟨i,hi,rfl⟩:=mem_iff_getElem.mp h;have SN:=hi;rw [length_take]at SN;exact⟨i,by omega,by omega,getElem_take⟩
theorem rh{l:List Keyed}{k:Nat}{x:Keyed}(h:x∈l.drop k):∃i,∃hi:i<l.length,k<=i/\x=l[i]:=by
 obtain⟨i,hi,rfl⟩:=mem_iff_getElem.mp h;have SN:=hi;rw [length_drop]at SN;exact⟨k+i,by omega,by omega,getElem_drop ..⟩
theorem HC(hc:de prog w A E s L v kd){xs:Array Keyed}{P Ra Rb S:List Keyed}(e:xs.toList=P++(Ra++(Rb++S)))(hL:∀p∈xs.toList,p∈L)(NN:gr v Ra)(NO:gr v Rb)(ha:0<Ra.length)(hb:0<Rb.length){st:SortSt}(kk:kindOf st=kd)(fl:failedOf st=none)(ex:arrOf st=xs){Q:Bool->SortSt->Prop}
  (q:∀g M (ys:Array Keyed),M.Perm (Ra++Rb)->gr v M->ys.toList=P++(M++S)->Q true (setArr (bE st g) ys)):wpS (model prog w) A E s (PJ xs P.length Ra.length (P.length+Ra.length) Rb.length) Q st:=by
 have sz:xs.size=P.length+(Ra.length+(Rb.length+S.length)):=by
  rw [<-length_toList,e];simp
 have gA:∀i (h:P.length+i<xs.size) (hi:i<Ra.length),xs[P.length+i]=Ra[i]:=fun i h hi=>by
  have z:xs[P.length+i]?=Ra[i]?:=by
   rw [<-getElem?_toList,e,getElem?_append_right (by omega),Nat.add_sub_cancel_left,getElem?_append_left hi]
  rw [getElem?_pos xs _ h,getElem?_eq_getElem hi]at z;exact Option.some.inj z
 have gB:∀i (h:P.length+Ra.length+i<xs.size) (hi:i<Rb.length),xs[P.length+Ra.length+i]=Rb[i]:=fun i h hi=>by
  have z:xs[P.length+Ra.length+i]?=Rb[i]?:=by
   rw [<-getElem?_toList,e,getElem?_append_right (by omega),getElem?_append_right (by omega),show P.length+Ra.length+i-P.length-Ra.length=i by omega,getElem?_append_left hi]
  rw [getElem?_pos xs _ h,getElem?_eq_getElem hi]at z;exact Option.some.inj z
 have same:∀M,M=Ra++Rb->xs.toList=P++(M++S):=fun M hM=>by rw [hM,e,append_assoc Ra]
 have NP:st=setArr (bE st (gallopOf st)) xs:=by rw [<-ex]
 unfold PJ;have h0:P.length+Ra.length<xs.size:=by omega
 have gB0:xs[P.length+Ra.length]=Rb[0]:=gB 0 h0 hb;refine wpS_bind (bw h0 (wpS_bind (gE hc (by omega) ha (hL _ (by simp)) hL kk (fun i j hi hj nW hn hz=>?_) fun k hk g1 g2=>?_)))
 ·rw [gA i hi (by omega)];rw [gA j hj (by omega)]at hz;have:=si NN (i:=i) (j:=j) (by omega) (by omega) nW;simp only [pE,not_eq_true',decide_eq_false_iff_not]at hz ⊢;omega
 ·rw [gB0]at g1 g2;have a1:∀x∈Ra.take k,v x<=v Rb[0]:=fun x hx=>by
   obtain⟨i,hi,PK,rfl⟩:=qZ hx;have:=g1 i (by omega) PK;rw [gA i (by omega) hi]at this;simp only [pE,not_eq_true',decide_eq_false_iff_not]at this;omega
  have a2:∀x∈Ra.drop k,v Rb[0]<v x:=fun x hx=>by
   obtain⟨i,hi,PK,rfl⟩:=rh hx;have:=g2 i (by omega) PK hi;rw [gA i (by omega) hi]at this;simp only [pE,not_eq_false',decide_eq_true_eq]at this;exact this
  have b0:∀y∈Rb,v Rb[0]<=v y:=fun y hy=>by
   obtain⟨j,hj,rfl⟩:=mem_iff_getElem.mp hy;exact si NO hb hj (by omega)
  dsimp only;split
  ·rename_i z;have z:k=Ra.length:=by
    have z:Ra.length-k=0:=by simpa using z
    omega
   rw [z,take_length]at a1;refine wpS_pure ?_;rw [NP];exact q _ (Ra++Rb) xs (List.Perm.refl _) (sj NN NO fun x hx y hy=>le_trans (a1 x hx) (b0 y hy)) (same _ rfl)
  ·rename_i z;have z:Ra.length-k≠0:=by simpa using z
   have e1:P.length+k+(Ra.length-k)-1=P.length+(Ra.length-1):=by omega
   have h1:P.length+k+(Ra.length-k)-1<xs.size:=by omega
   have gl:xs[P.length+k+(Ra.length-k)-1]=Ra[Ra.length-1]:=by
    have:=gA (Ra.length-1) (by omega) (by omega);simp only [e1];exact this
   refine wpS_bind (bw h1 (wpS_bind (gE hc (by omega) (by omega) (hL _ (by simp)) hL kk (fun i j hi hj nW hn hz=>?_) fun m hm g3 g4=>?_)))
   ·rw [gB i hi (by omega)];rw [gB j hj (by omega)]at hz;have:=si NO (i:=i) (j:=j) (by omega) (by omega) nW;simp only [pD,decide_eq_true_eq]at hz ⊢;omega
   ·rw [gl]at g3 g4;have c1:∀y∈Rb.take m,v y<v Ra[Ra.length-1]:=fun x hx=>by
     obtain⟨i,hi,PK,rfl⟩:=qZ hx;have:=g3 i (by omega) PK;rw [gB i (by omega) hi]at this;simpa only [pD,decide_eq_true_eq]using this
    have c2:∀y∈Rb.drop m,v Ra[Ra.length-1]<=v y:=fun x hx=>by
     obtain⟨i,hi,PK,rfl⟩:=rh hx;have:=g4 i (by omega) PK hi;rw [gB i (by omega) hi]at this;simp only [pD,decide_eq_false_iff_not]at this;omega
    have al:∀x∈Ra,v x<=v Ra[Ra.length-1]:=fun x hx=>by
     obtain⟨j,hj,rfl⟩:=mem_iff_getElem.mp hx;exact si NN hj (by omega) (by omega)
    dsimp only;split
    ·rename_i y;have y:m=0:=by simpa using y
     subst y;refine wpS_pure ?_;rw [NP];exact q _ (Ra++Rb) xs (List.Perm.refl _) (sj NN NO fun x hx y hy=>le_trans (al x hx) (c2 y (by simpa using hy))) (same _ rfl)
    ·rename_i y;have y:m≠0:=by simpa using y
     have X:(xs.extract (P.length+k) (P.length+Ra.length)).toList=Ra.drop k:=by
      rw [toList_extract,extract_eq_drop_take,e,List.drop_length_add_append,List.drop_append_of_le_length hk,show P.length+Ra.length-(P.length+k)=(Ra.drop k).length by rw [length_drop];omega,List.take_left]
     have Y:(xs.extract (P.length+Ra.length) (P.length+Ra.length+m)).toList=Rb.take m:=by
      rw [toList_extract,extract_eq_drop_take,e,List.drop_length_add_append,List.drop_left,Nat.add_sub_cancel_left,List.take_append_of_le_length hm]
     have pm:∀out:Array Keyed,RF v (xs.extract (P.length+k) (P.length+Ra.length)) (xs.extract (P.length+Ra.length) (P.length+Ra.length+m)) out->∀g,Q true (setArr (bE st g) (Fi xs (P.length+k) out)):=fun out rf g=>by
      obtain⟨r1,r2⟩:=rf;rw [X,Y]at r1;have os:out.size=Ra.length-k+m:=by
       have:=r1.length_eq;rw [length_append,length_drop,length_take,min_eq_left hm,length_toList]at this;exact this
      have mem:∀x∈out.toList,x∈Ra.drop k\/x∈Rb.take m:=fun x hx=>mem_append.mp (r1.mem_iff.mp hx);refine q g (Ra.take k++(out.toList++Rb.drop m)) _ ?_ (sj (tG NN k) (sj r2 (qB NO m) fun x hx y hy=>?_) fun x hx y hy=>?_) ?_
      ·have e3:Ra++Rb=Ra.take k++((Ra.drop k++Rb.take m)++Rb.drop m):=by
        rw [append_assoc,take_append_drop,<-append_assoc,take_append_drop]
       rw [e3];exact(List.Perm.refl _).append (r1.append (List.Perm.refl _))
      ·rcases mem x hx with h|h
       ·exact le_trans (al x (mem_of_mem_drop h)) (c2 y hy)
       ·exact pJ NO m x h y hy
      ·rcases mem_append.mp hy with h|h
       ·rcases mem y h with h|h
        ·exact pJ NN k x hx y h
        ·exact le_trans (a1 x hx) (b0 y (mem_of_mem_take h))
       ·exact le_trans (a1 x hx) (b0 y (mem_of_mem_drop h))
      ·rw [z9 (by omega),e,List.take_length_add_append,List.take_append_of_le_length hk,os,show P.length+k+(Ra.length-k+m)=P.length+(Ra.length+m) by omega,List.drop_length_add_append,List.drop_length_add_append,List.drop_append_of_le_length hm];simp only [append_assoc]
     have hLX:∀p∈(xs.extract (P.length+k) (P.length+Ra.length)).toList,p∈L:=fun p hp=>hL p (by rw [X]at hp;rw [e];simp [mem_of_mem_drop hp]);have hLY:∀p∈(xs.extract (P.length+Ra.length) (P.length+Ra.length+m)).toList,p∈L:=fun p hp=>hL p (by rw [Y]at hp;rw [e];simp [mem_of_mem_take hp]);have sX:(xs.extract (P.length+k) (P.length+Ra.length)).size=Ra.length-k:=by rw [<-length_toList,X,length_drop]
     have sY:(xs.extract (P.length+Ra.length) (P.length+Ra.length+m)).size=m:=by rw [<-length_toList,Y,length_take,min_eq_left hm]
     have tail:∀out:Array Keyed,∀g,RF v (xs.extract (P.length+k) (P.length+Ra.length)) (xs.extract (P.length+Ra.length) (P.length+Ra.length+m)) out->wpS (model prog w) A E s (do
       modify fun s=>setArr s (Fi (arrOf s) (P.length+k) out)
       let s<-get
       pure (failedOf s).isNone) Q (bE st g):=fun out g rf=>by
      refine wpS_bind (wpS_modify (wpS_bind (wpS_get (wpS_pure ?_))));have:=pm out rf g;show Q (failedOf st).isNone (setArr (bE st g) (Fi (arrOf st) (P.length+k) out));rw [fl,ex];exact this
     have lst:∀h:(xs.extract (P.length+k) (P.length+Ra.length)).size-1<(xs.extract (P.length+k) (P.length+Ra.length)).size,(xs.extract (P.length+k) (P.length+Ra.length))[(xs.extract (P.length+k) (P.length+Ra.length)).size-1]=Ra[Ra.length-1]:=fun h=>by
      have q1:(xs.extract (P.length+k) (P.length+Ra.length))[(xs.extract (P.length+k) (P.length+Ra.length)).size-1]?=Ra[Ra.length-1]?:=by
       rw [<-getElem?_toList,X,sX,getElem?_drop,show k+(Ra.length-k-1)=Ra.length-1 by omega]
      rw [Array.getElem?_eq_getElem h,getElem?_eq_getElem (by omega)]at q1;exact Option.some.inj q1
     have fst:∀h:0<(xs.extract (P.length+Ra.length) (P.length+Ra.length+m)).size,(xs.extract (P.length+Ra.length) (P.length+Ra.length+m))[0]=Rb[0]:=fun h=>by
      have q1:(xs.extract (P.length+Ra.length) (P.length+Ra.length+m))[0]?=Rb[0]?:=by
       rw [<-getElem?_toList,Y,getElem?_take,if_pos (by omega)]
      rw [Array.getElem?_eq_getElem h,getElem?_eq_getElem hb]at q1;exact Option.some.inj q1
     unfold SK;split
     ·refine wpS_bind (z0 hc ⟨by rw [X];exact qB NN k,by rw [Y];exact tG NO m,fun x hx h=>?_⟩ hLX hLY (by omega) (by omega) ?_ kk fun g out rf=>tail out g rf)
      ·rw [Y]at hx;rw [lst h];exact Int.le_of_lt (c1 x hx)
      ·rw [fst (by omega)];refine Int.le_of_lt (a2 _ ?_);rw [<-X];exact Array.getElem_mem_toList (by omega)
     ·refine wpS_bind (z7 hc ⟨by rw [X];exact qB NN k,by rw [Y];exact tG NO m,fun x hx h=>?_⟩ hLX hLY (by omega) (by omega) (fun z1 z2=>?_) kk fun g out rf=>tail out g rf)
      ·rw [X]at hx;rw [fst h];exact Int.le_of_lt (a2 x hx)
      ·rw [lst z1];refine Int.le_of_lt (c1 _ ?_);rw [<-Y];exact Array.getElem_mem_toList (by omega)
end
inductive jk(v:Keyed->Int):Nat->List (List Keyed)->List (Nat×Nat×Nat)->Prop
 |nil {lo:Nat}:jk v lo [] []
 |cons {lo pw:Nat} {R:List Keyed} {Rs:List (List Keyed)} {ps:List (Nat×Nat×Nat)} (h0:0<R.length) (s:gr v R) (r:jk v (lo+R.length) Rs ps):jk v lo (R::Rs) ((lo,R.length,pw)::ps)
variable {v:Keyed->Int}
theorem jk.length{lo:Nat}{Rs:List (List Keyed)}{ps:List (Nat×Nat×Nat)}(h:jk v lo Rs ps):Rs.length=ps.length:=by
 induction h with
 |nil=>rfl
 |cons _ _ _ ih=>rw [length_cons,length_cons,ih]
theorem jk.NI{lo:Nat}{Rs:List (List Keyed)}{ps:List (Nat×Nat×Nat)}(h:jk v lo Rs ps):ps.length<=Rs.flatten.length:=by
 induction h with
 |nil=>exact le_refl _
 |cons h0 _ _ ih=>rw [flatten_cons,length_append,length_cons];omega
theorem jk.snoc{lo pw:Nat}{Rs:List (List Keyed)}{ps:List (Nat×Nat×Nat)}(h:jk v lo Rs ps){R:List Keyed}(h0:0<R.length)(s:gr v R):jk v lo (Rs++[R]) (ps++[(lo+Rs.flatten.length,R.length,pw)]):=by
 induction h with
 |nil=>exact .cons h0 s .nil
 |@cons lo SO R' Rs ps a b r ih =>
  rw [flatten_cons,length_append,<-add_assoc];exact .cons a b ih
theorem jk.pw{lo pw:Nat}{Rs:List (List Keyed)}{ps:List (Nat×Nat×Nat)}(h:jk v lo Rs ps):∀i,jk v lo Rs (ps.modify i fun x=>(x.1,x.2.1,pw)):=by
 induction h with
 |nil=>intro i;rw [List.modify_nil];exact .nil
 |cons a b r ih =>
  intro i
  cases i with
  |zero=>exact .cons a b r
  |succ i=>exact .cons a b (ih i)
theorem jk.two{lo:Nat}{Rs:List (List Keyed)}{ps:List (Nat×Nat×Nat)}(h:jk v lo Rs ps):∀{i:Nat},i+1<ps.length->∃As Ra Rb Bs pw SO,Rs=As++Ra::Rb::Bs/\ps[i]?=some (lo+As.flatten.length,Ra.length,pw)/\ps[i+1]?=some (lo+As.flatten.length+Ra.length,Rb.length,SO)/\0<Ra.length/\0<Rb.length/\gr v Ra/\gr v Rb /\
  ∀M,M.length=Ra.length+Rb.length->gr v M->jk v lo (As++M::Bs) ((ps.set i (lo+As.flatten.length,Ra.length+Rb.length,pw)).eraseIdx (i+1)):=by
 induction h with
 |nil=>intro i hi;exact absurd hi (not_lt_zero _)
 |@cons lo pw R Rs ps a b r ih =>
  intro i hi
  cases i with
  |zero =>
   cases r with
   |nil=>exact absurd hi (by simp)
   |@cons _ SO R' iB zG a' b' r' =>
    refine⟨[],R,R',iB,pw,SO,rfl,rfl,rfl,a,a',b,b',fun M hM sM=>?_⟩;show jk v lo (M::iB) ((lo,R.length+R'.length,pw)::zG);rw [<-hM];refine .cons (by omega) sM ?_;rw [hM,<-add_assoc];exact r'
  |succ i =>
   obtain⟨As,Ra,Rb,Bs,p1,p2,e,g1,g2,z1,z2,s1,s2,k⟩:=ih (i:=i) (by simpa using hi);refine⟨R::As,Ra,Rb,Bs,p1,p2,by rw [e];rfl,?_,?_,z1,z2,s1,s2,fun M hM sM=>?_⟩
   ·rw [getElem?_cons_succ,g1,flatten_cons,length_append,<-add_assoc]
   ·rw [getElem?_cons_succ,g2,flatten_cons,length_append,<-add_assoc]
   ·have:=k M hM sM;rw [flatten_cons,length_append,<-add_assoc];exact .cons a b this
structure RI(v:Keyed->Int)(kd:SortKind)(a₀:Array Keyed)(st:SortSt)(Rs:List (List Keyed))(rest:List Keyed):Prop where
 kind:kindOf st=kd
 fail:failedOf st=none
 perm:(arrOf st).toList.Perm a₀.toList
 list:(arrOf st).toList=Rs.flatten++rest
 pend:jk v 0 Rs (pendingOf st).toList
section
variable {prog:Program}{w:World}{A:Around}{E:Value->Shared->Prop}{s:Shared}{L:List Keyed}{kd:SortKind}{a₀:Array Keyed}
theorem RI.size{st:SortSt}{Rs:List (List Keyed)}{rest:List Keyed}(h:RI v kd a₀ st Rs rest):(arrOf st).size=a₀.size:=by
 have:=h.perm.length_eq;simpa using this
theorem ri(hc:de prog w A E s L v kd)(hL:∀p∈a₀.toList,p∈L){st:SortSt}{Rs:List (List Keyed)}{rest:List Keyed}(h:RI v kd a₀ st Rs rest){i:Nat}(hi:i+1<(pendingOf st).size){Q:Bool->SortSt->Prop}
  (q:∀aK iB,RI v kd a₀ aK iB rest->iB.flatten.length=Rs.flatten.length->(pendingOf aK).size+1=(pendingOf st).size->Q true aK):wpS (model prog w) A E s (mergeAt' i) Q st:=by
 obtain⟨As,Ra,Rb,Bs,pw,SO,e,g1,g2,z1,z2,s1,s2,k⟩:=h.pend.two (i:=i) (by simpa using hi);rw [vq];refine wpS_bind (wpS_get ?_);rw [getElem?_toList]at g1 g2;rw [g1,g2];dsimp only;have ls:(arrOf st).toList=As.flatten++(Ra++(Rb++(Bs.flatten++rest))):=by
  rw [h.list,e];simp
 have Wx:∀(Rx zM:SortSt)(Q:PUnit->SortSt->Prop),Q ⟨⟩ zM->wpS (model prog w) A E s (set zM:StateT SortSt Sem PUnit) Q Rx:=fun Rx zM Q hq=>by
  unfold wpS;rw [StateT.run_set];exact wpAny_pure ⟨rfl,hq⟩
 simp only [zero_add]at k ⊢;refine wpS_bind (Wx _ _ _ ?_);refine HC (st:=setPending st (((pendingOf st).setIfInBounds i (As.flatten.length,Ra.length+Rb.length,pw)).eraseIdxIfInBounds (i+1))) hc ls (fun p hp=>hL p (h.perm.mem_iff.mp hp)) s1 s2 z1 z2 h.kind h.fail rfl fun g M ys pM sM eM=>?_;have lM:M.length=Ra.length+Rb.length:=by rw [pM.length_eq,length_append]
 refine q _ (As++M::Bs) ⟨h.kind,h.fail,?_,?_,?_⟩ ?_ ?_
 ·show ys.toList.Perm a₀.toList;refine List.Perm.trans ?_ h.perm;rw [eM,ls,<-append_assoc Ra];exact(List.Perm.refl _).append (pM.append (List.Perm.refl _))
 ·show ys.toList=_;rw [eM];simp
 ·show jk v 0 _ (((pendingOf st).setIfInBounds i _).eraseIdxIfInBounds (i+1)).toList;rw [Array.toList_eraseIdxIfInBounds,Array.toList_setIfInBounds];exact k M lM sM
 ·rw [e];simp [lM];omega
 ·show(((pendingOf st).setIfInBounds i _).eraseIdxIfInBounds (i+1)).size+1=(pendingOf st).size;rw [<-length_toList,Array.toList_eraseIdxIfInBounds,List.length_eraseIdx,length_toList,Array.size_setIfInBounds,if_pos hi];omega
def HD(z pw:Nat):SM (Option Unit×PUnit):=forIn [0:z] ((none,()):Option Unit×PUnit) fun _ _=>do
 let st<-get
 match (if(pendingOf st).size>1 then(pendingOf st)[(pendingOf st).size-2]? else none)with
 |some (_,_,SQ)=>if SQ<=pw then pure (.done (none,()))else do
  let b<-mergeAt' ((pendingOf st).size-2)
  if(!b)=true then pure (.done (some (),()))else pure (.yield (none,()))
 |_=>pure (.done (none,()))
def putL(z lo n:Nat):SM (ForInStep (Option Unit×Nat)):=do
 let st<-get
 match (pendingOf st).back? with
 |some (s1,n1,_)=>do
  let c<-HD z (power' z (2*s1+n1) (2*s1+n1+n1+n) z)
  match c.1 with
  |some r=>pure (.done (some r,lo))
  |none=>do
   modify fun s=>setPending s ((pendingOf s).modify ((pendingOf s).size-1) fun x=>(x.1,x.2.1,power' z (2*s1+n1) (2*s1+n1+n1+n) z))
   modify fun s=>setPending s ((pendingOf s).push (lo,n,0))
   pure (.yield (none,lo+n))
 |_=>do
  modify fun s=>setPending s ((pendingOf s).push (lo,n,0))
  pure (.yield (none,lo+n))
def PL(z lo:Nat):SM (ForInStep (Option Unit×Nat)):=do
 let r<-countRun' lo (z-lo)
 match r with
 |some n =>
  if n<minRun' z z 0 then do
   rule "list.sort.binary-insertion"
   let b<-binarySort' lo (min (z-lo) (minRun' z z 0)) n
   if(!b)=true then pure (.done (some (),lo))else putL z lo (min (z-lo) (minRun' z z 0))
  else putL z lo n
 |_=>pure (.done (some (),lo))
def PM(z:Nat):SM (Option Unit×PUnit):=forIn [0:z] ((none,()):Option Unit×PUnit) fun _ _=>do
 let st<-get
 if(pendingOf st).size<=1 then pure (.done (none,()))else do
  let b<-mergeAt' (if(if(pendingOf st).size-2>0 then(pendingOf st)[(pendingOf st).size-2-1]?.map (·.2.1)else none).any (fun x=>decide (x<((pendingOf st)[(pendingOf st).size-2+1]?.elim 0 (·.2.1))))=true then(pendingOf st).size-2-1 else(pendingOf st).size-2)
  if(!b)=true then pure (.done (some (),()))else pure (.yield (none,()))
theorem tH:sortRuns'=(do
  let st<-get
  let c<-forIn [0:(arrOf st).size] ((none,0):Option Unit×Nat) fun _ c=>if c.2≥(arrOf st).size then pure (.done (none,c.2))else PL (arrOf st).size c.2
  match c.1 with
  |some r=>pure r
  |none=>do
   let c<-PM (arrOf st).size
   match c.1 with
   |some r=>pure r
   |none=>pure ()):=by
 kernel_rfl
theorem Fj(hc:de prog w A E s L v kd)(hL:∀p∈a₀.toList,p∈L){z pw:Nat}{st:SortSt}{Rs:List (List Keyed)}{rest:List Keyed}(h:RI v kd a₀ st Rs rest){Q:Option Unit×PUnit->SortSt->Prop}
  (q:∀aK iB,RI v kd a₀ aK iB rest->iB.flatten.length=Rs.flatten.length->Q (none,()) aK):wpS (model prog w) A E s (HD z pw) Q st:=by
 unfold HD;refine wpS_mono (wpS_forRange (I:=fun _ c aK=>c=(none,())/\∃iB,RI v kd a₀ aK iB rest/\iB.flatten.length=Rs.flatten.length) (Q:=fun c aK=>c=(none,())/\∃iB,RI v kd a₀ aK iB rest/\iB.flatten.length=Rs.flatten.length) ?step (fun _ _ h=>h) ⟨rfl,Rs,h,rfl⟩) fun c aK h'=>?post
 case post =>
  obtain⟨rfl,iB,h1,h2⟩:=h';exact q aK iB h1 h2
 case step =>
  rintro x c aK _ _ ⟨rfl,iB,h1,h2⟩;refine wpS_bind (wpS_get ?_);by_cases y:(pendingOf aK).size>1
  ·rw [if_pos y,Array.getElem?_eq_getElem (by omega)];dsimp only;split
   ·exact wpS_pure ⟨rfl,iB,h1,h2⟩
   ·refine wpS_bind (ri hc hL h1 (by omega) fun zM Ka k1 k2 k3=>?_);exact wpS_pure ⟨rfl,Ka,k1,k2.trans h2⟩
  ·rw [if_neg y];exact wpS_pure ⟨rfl,iB,h1,h2⟩
theorem RI.push{st:SortSt}{Rs:List (List Keyed)}{R rest:List Keyed}(h:RI v kd a₀ st Rs (R++rest))(h0:0<R.length)(sR:gr v R){lo n:Nat}(hl:lo=Rs.flatten.length)(hn:n=R.length):RI v kd a₀ (setPending st ((pendingOf st).push (lo,n,0))) (Rs++[R]) rest where
 kind:=h.kind
 fail:=h.fail
 perm:=h.perm
 list:=by
  show(arrOf st).toList=_;rw [h.list];simp
 pend:=by
  show jk v 0 _ ((pendingOf st).push (lo,n,0)).toList;rw [toList_push,hl,hn];have:=h.pend.snoc (pw:=0) h0 sR;rw [zero_add]at this;exact this
theorem HE(hc:de prog w A E s L v kd)(hL:∀p∈a₀.toList,p∈L){z lo n:Nat}{st:SortSt}{Rs:List (List Keyed)}{R rest:List Keyed}(h:RI v kd a₀ st Rs (R++rest))(h0:0<R.length)(sR:gr v R)(hl:lo=Rs.flatten.length)(hn:n=R.length){Q:ForInStep (Option Unit×Nat)->SortSt->Prop}
  (q:∀aK iB,RI v kd a₀ aK iB rest->iB.flatten.length=lo+n->Q (.yield (none,lo+n)) aK):wpS (model prog w) A E s (putL z lo n) Q st:=by
 unfold putL;refine wpS_bind (wpS_get ?_);have fin:∀(aK:SortSt) iB,RI v kd a₀ aK iB (R++rest)->iB.flatten.length=Rs.flatten.length->wpS (model prog w) A E s (do
   modify fun s=>setPending s ((pendingOf s).push (lo,n,0))
   pure (.yield (none,lo+n))) Q aK:=fun aK iB h1 h2=>by
  refine wpS_bind (wpS_modify (wpS_pure (q _ (iB++[R]) (h1.push h0 sR (hl.trans h2.symm) hn) ?_)));rw [List.flatten_append,length_append,h2,<-hl,hn];simp
 split
 ·refine wpS_bind (Fj hc hL h fun aK iB h1 h2=>?_);dsimp only;refine wpS_bind (wpS_modify (fin _ iB ⟨h1.kind,h1.fail,h1.perm,h1.list,?_⟩ h2));show jk v 0 iB ((pendingOf aK).modify _ _).toList;rw [Array.toList_modify];exact h1.pend.pw _
 ·exact fin st Rs h rfl
theorem Fl{xs:Array Keyed}{lo n:Nat}(h:Cm v xs lo (lo+n))(hn:lo+n<=xs.size):gr v ((xs.toList.drop lo).take n):=by
 unfold gr;rw [pairwise_iff_getElem];intro i j hi hj nW;rw [length_take,length_drop,length_toList]at hi hj;have:=h (lo+i) (lo+j) (by omega) (by omega) (by omega);rw [xR (by omega),xR (by omega)]at this;simpa using this
theorem HF(hc:de prog w A E s L v kd)(hL:∀p∈a₀.toList,p∈L){lo:Nat}(Wn:lo<a₀.size){st:SortSt}{Rs:List (List Keyed)}{rest:List Keyed}(h:RI v kd a₀ st Rs rest)(hl:lo=Rs.flatten.length){Q:ForInStep (Option Unit×Nat)->SortSt->Prop}
  (q:∀aK iB SR n,RI v kd a₀ aK iB SR->iB.flatten.length=lo+n->1<=n->Q (.yield (none,lo+n)) aK):wpS (model prog w) A E s (PL a₀.size lo) Q st:=by
 unfold PL;have sz:=h.size;have hLs:∀p∈(arrOf st).toList,p∈L:=fun p hp=>hL p (h.perm.mem_iff.mp hp);have next:∀(aK:SortSt) n,TB st lo aK->Cm v (arrOf aK) lo (lo+n)->1<=n->lo+n<=a₀.size->wpS (model prog w) A E s (putL a₀.size lo n) Q aK:=fun aK n t u n1 n2=>by
  have s2:(arrOf aK).size=a₀.size:=t.size.trans sz;have e1:(arrOf aK).toList.take lo=Rs.flatten:=by
   refine ext_getElem? fun i=>?_;rw [getElem?_take];split
   ·rename_i hi;rw [getElem?_toList,t.keep i hi,<-getElem?_toList,h.list,getElem?_append_left (by omega)]
   ·rw [getElem?_eq_none (by omega)]
  have k:RI v kd a₀ aK Rs ((arrOf aK).toList.drop lo |>.take n|>(·++((arrOf aK).toList.drop lo).drop n)):={
   kind:=t.kind.trans h.kind
   fail:=by rw [t.eq];exact h.fail
   perm:=(Array.perm_iff_toList_perm.mp t.perm).trans h.perm
   list:=by
    dsimp only;rw [take_append_drop]
    conv=>lhs;rw [<-take_append_drop lo (arrOf aK).toList]
    rw [e1]
   pend:=by rw [t.eq];exact h.pend}
  have ln:((arrOf aK).toList.drop lo |>.take n).length=n:=by
   rw [length_take,length_drop,length_toList];omega
  exact HE hc hL k (by omega) (Fl u (by omega)) hl ln.symm fun zM Ka g1 g2=>q zM Ka _ n g1 g2 n1
 have t0:TB st lo st:=⟨rfl,Array.Perm.refl _,fun _ _=>rfl⟩;refine wpS_bind (K9 hc hLs h.kind (by omega) (by omega) t0 fun m Rx t1 m1 m2 u1=>?_);dsimp only;split
 ·refine wpS_bind (wpS_lift (wpAny_rule ⟨rfl,?_⟩));refine wpS_bind (HA hc hLs h.kind (by omega) (by omega) t1 u1 fun zM t2 u2=>?_);exact next zM _ t2 u2 (by omega) (by omega)
 ·exact next Rx m t1 u1 m1 (by omega)
theorem HH(hc:de prog w A E s L v kd)(hL:∀p∈a₀.toList,p∈L){st:SortSt}{Rs:List (List Keyed)}{rest:List Keyed}(h:RI v kd a₀ st Rs rest)(hf:(pendingOf st).size<=a₀.size){Q:Option Unit×PUnit->SortSt->Prop}
  (q:∀aK iB,RI v kd a₀ aK iB rest->iB.flatten.length=Rs.flatten.length->(pendingOf aK).size<=1->Q (none,()) aK):wpS (model prog w) A E s (PM a₀.size) Q st:=by
 unfold PM;refine wpS_mono (wpS_forRange (I:=fun x c aK=>c=(none,())/\∃iB,RI v kd a₀ aK iB rest/\iB.flatten.length=Rs.flatten.length/\((pendingOf aK).size<=1\/(pendingOf aK).size+x<=a₀.size)) (Q:=fun c aK=>c=(none,())/\∃iB,RI v kd a₀ aK iB rest/\iB.flatten.length=Rs.flatten.length/\(pendingOf aK).size<=1) ?step ?fin ⟨rfl,Rs,h,rfl,.inr hf⟩) fun c aK h'=>?post
 case post =>
  obtain⟨rfl,iB,h1,h2,h3⟩:=h';exact q aK iB h1 h2 h3
 case fin =>
  rintro c aK ⟨rfl,iB,h1,h2,h3⟩;exact⟨rfl,iB,h1,h2,by omega⟩
 case step =>
  rintro x c aK _ _ ⟨rfl,iB,h1,h2,h3⟩;refine wpS_bind (wpS_get ?_);split
  ·rename_i y;exact wpS_pure ⟨rfl,iB,h1,h2,y⟩
  ·rename_i y;refine wpS_bind (ri hc hL h1 ?_ fun zM Ka k1 k2 k3=>?_)
   ·have le:∀b:Bool,(if b=true then(pendingOf aK).size-2-1 else(pendingOf aK).size-2)<=(pendingOf aK).size-2:=fun b=>by cases b<;>simp
    exact lt_of_le_of_lt (Nat.succ_le_succ (le _)) (by omega)
   ·exact wpS_pure ⟨rfl,Ka,k1,k2.trans h2,by omega⟩
theorem Aa(hc:de prog w A E s L v kd)(hL:∀p∈a₀.toList,p∈L){st:SortSt}(hk:kindOf st=kd)(hf:failedOf st=none)(ha:arrOf st=a₀)(hp:pendingOf st=#[]){Q:Unit->SortSt->Prop}
  (q:∀aK,failedOf aK=none->(arrOf aK).toList.Perm a₀.toList->gr v (arrOf aK).toList->Q () aK):wpS (model prog w) A E s sortRuns' Q st:=by
 rw [tH];refine wpS_bind (wpS_get ?_);rw [ha];refine wpS_bind (wpS_mono (wpS_forRange (I:=fun x c aK=>c.1=none/\∃Rs rest,RI v kd a₀ aK Rs rest/\c.2=Rs.flatten.length/\x<=c.2) (Q:=fun c aK=>c.1=none/\∃Rs rest,RI v kd a₀ aK Rs rest/\a₀.size<=Rs.flatten.length) ?step ?fin ⟨rfl,[],a₀.toList,⟨hk,hf,by rw [ha],by rw [ha];rfl,by rw [hp];exact .nil⟩,rfl,le_refl _⟩) ?post)
 case fin =>
  rintro⟨c1,c2⟩ aK ⟨e,Rs,rest,h1,h2,h3⟩;dsimp only at e h2 h3;exact⟨e,Rs,rest,h1,by omega⟩
 case step =>
  rintro x ⟨c1,c2⟩ aK _ hx ⟨e,Rs,rest,h1,h2,h3⟩;dsimp only at e h2 h3 ⊢;subst e;split
  ·exact wpS_pure ⟨rfl,Rs,rest,h1,by omega⟩
  ·refine HF hc hL (by omega) h1 h2 fun zM Ka SS n k1 k2 k3=>?_;exact⟨rfl,Ka,SS,k1,k2.symm,by dsimp only;omega⟩
 case post =>
  rintro⟨c1,c2⟩ aK ⟨e,Rs,rest,h1,h2⟩;dsimp only at e;subst e;dsimp only;have lr:rest=[]:=by
   have:=congrArg List.length h1.list;rw [length_append,length_toList,h1.size]at this;exact List.eq_nil_of_length_eq_zero (by omega)
  subst lr;have NI:=h1.pend.NI;have ll:=congrArg List.length h1.list;rw [length_append,length_toList,h1.size,length_nil]at ll;rw [length_toList]at NI;refine wpS_bind (HH hc hL h1 (by omega) fun zM Ka k1 k2 k3=>wpS_pure (q zM k1.fail k1.perm ?_));rw [k1.list,append_nil];have l2:Ka.length<=1:=by
   have l2:=k1.pend.length;rw [show(pendingOf zM).toList.length=(pendingOf zM).size from length_toList]at l2;omega
  have pd:=k1.pend
  match Ka,l2,pd with
  |[],_,_=>exact List.Pairwise.nil
  |[R],_,pd =>
   generalize (pendingOf zM).toList=ps at pd
   cases pd with
   |cons a b r=>simpa using b
  |_::_::_,l2,_ =>
   rw [length_cons,length_cons]at l2;omega
end
abbrev xS(s:Shared)(a:Addr)(vs:List Value):Shared:={s with heap:=((s.heap.update a (Obj.mapSeq fun _=>#[])).push (seqObj "tuple" vs.toArray 0)).push (seqObj "list" #[] 0)}
theorem Ab:∀vs:List Value,vs.zip vs=vs.map fun x=>(x,x)
 |[]=>rfl
 |v::vs=>by rw [zip_cons_cons,map_cons,Ab vs]
section
variable {prog:Program}{w:World}{A:Around}{E:Value->Shared->Prop}{s:Shared}
theorem n8{a:Addr}{vs:List Value}{n:Nat}{kd:SortKind}{v:Keyed->Int}{P:PySem.Fin->Shared->Prop}(ho:s.heap.get? a=some (seqObj "list" vs.toArray n))(hs:vs.length<=sizeLine)
  (hk:2<=vs.length->∀Q:SortKind->Shared->Prop,Q kd (xS s a vs)->wpAny (model prog w) A (keyKind' vs.toArray) Q E (xS s a vs))
  (hc:de prog w A E (xS s a vs) (vs.map fun x=>(x,x)) v kd)
  (h:∀out:List Value,out.Perm vs->(out.Pairwise fun x y=>v (x,x)<=v (y,y))->P (.done (.ret .none)) {s with heap:=sortedHeap s.heap a vs out.toArray}) :
  wpAny (model prog w) A (Builtin.«list.sort» ⟨[.ref a],[]⟩) P E s:=by
 rw [list_sort_plain];have ha:a<s.heap.objs.size:=Heap.lt_size ho;refine wpAny_bind (listItems_at ho rfl (wpAny_bind (listUpdate_at ho rfl ?_ (hsz:=by rw [size_toArray];exact hs))));obtain⟨e1,xT⟩:∃e1,(s.heap.update a (Obj.mapSeq fun _=>#[])).get? a=some (seqObj "list" #[] e1):=⟨_,get?_update_seq ho (fun _=>#[])⟩;refine wpAny_bind (seqEpoch_at xT rfl (wpAny_bind (wpAny_newTuple ?_ hs)));refine wpAny_bind (wpAny_newList (wpAny_holding ?_));have UR:(((s.heap.update a (Obj.mapSeq fun _=>#[])).push (seqObj "tuple" vs.toArray 0)).push (seqObj "list" #[] 0)).get? a=some (seqObj "list" #[] e1):=Heap.get?_push_of_some _ (Heap.get?_push_of_some _ xT);show wpAny (model prog w) A _ P E (xS s a vs);dsimp only;have pz:(vs.toArray.zip vs.toArray).toList=vs.map fun x=>(x,x):=by
  rw [Array.toList_zip];exact Ab vs
 have fin:∀st:SortSt,(arrOf st).toList.Perm (vs.map fun x=>(x,x))->gr v (arrOf st).toList->P (.done (.ret .none)) {s with heap:=sortedHeap s.heap a vs ((arrOf st).map (·.2))}/\((arrOf st).map (·.2)).size=vs.length:=fun st hp Wy=>by
  have e:(arrOf st).map (·.2)=((arrOf st).toList.map (·.2)).toArray:=by rw [<-Array.toList_map]
  have same:∀p∈(arrOf st).toList,p=(p.2,p.2):=fun p PN=>by
   obtain⟨x,_,rfl⟩:=mem_map.mp (hp.mem_iff.mp PN);rfl
  refine⟨?_,?_⟩
  ·rw [e];refine h _ ?_ ?_
   ·have:=hp.map (·.2);rw [map_map,show((fun x:Keyed=>x.2)∘fun x:Value=>(x,x))=id from rfl,map_id]at this;exact this
   ·rw [pairwise_map];refine List.Pairwise.imp_of_mem (fun{x y} hx hy q=>?_) Wy;rw [<-same x hx,<-same y hy];exact q
  ·have:=hp.length_eq;rw [length_map]at this;simpa using this
 by_cases h2:vs.toArray.size<2
 ·rw [if_pos h2,if_pos h2];refine wpAny_bind (wpAny_pure ?_);rw [StateT.run_pure];refine wpAny_bind (wpAny_pure ?_);dsimp only;obtain⟨f1,f2⟩:=fin (SortSt.mk' general' (vs.toArray.zip vs.toArray) #[] 7 none) (List.Perm.of_eq pz) (by
   show gr v (vs.toArray.zip vs.toArray).toList;rw [pz];have l2:vs.length<2:=by simpa using h2
   match vs,l2 with
   |[],_=>exact List.Pairwise.nil
   |[x],_=>exact pairwise_singleton _ _
   |_::_::_,l2=>simp at l2;omega)
  refine wpAny_bind (seqEpoch_at UR rfl (wpAny_bind (listUpdate_at UR rfl ?_ (hsz2:=by rw [f2];omega))));simp only [bne_self_eq_false,false_eq_true,if_false];exact wpAny_pure f1
 ·rw [if_neg h2,if_neg h2];have l2:2<=vs.length:=by
   rw [size_toArray]at h2;omega
  refine wpAny_bind (hk l2 _ ?_);refine wpAny_bind (wpAny_mono (Aa (a₀:=vs.toArray.zip vs.toArray) (st:=SortSt.mk' kd (vs.toArray.zip vs.toArray) #[] 7 none)
   (Q:=fun _ aK=>failedOf aK=none/\(arrOf aK).toList.Perm (vs.map fun x=>(x,x))/\gr v (arrOf aK).toList) hc (by rw [pz];exact fun p hp=>hp) rfl rfl rfl rfl fun aK a1 a2 a3=>⟨a1,by rw [pz]at a2;exact a2,a3⟩) ?_ fun _ _ e=>e)
  rintro⟨⟨⟩,aK⟩ s' ⟨rfl,hf,hp,Wy⟩;dsimp only;obtain⟨f1,f2⟩:=fin aK hp Wy;refine wpAny_bind (seqEpoch_at UR rfl (wpAny_bind (listUpdate_at UR rfl ?_ (hsz2:=by rw [f2];omega))));rw [show failedOf aK=none from hf];simp only [bne_self_eq_false,false_eq_true,if_false];exact wpAny_pure f1
theorem n9{a:Addr}{vs:List Value}{ns:List Int}{n:Nat}{P:PySem.Fin->Shared->Prop}(ho:s.heap.get? a=some (seqObj "list" vs.toArray n))(hI:IntsAre vs ns)(hs:vs.length<=sizeLine)
  (h:∀(out:Array Value)(GB:List Int),IntsAre out.toList GB->GB.Perm ns->GB.Pairwise (·<=·)->P (.done (.ret .none)) {s with heap:=sortedHeap s.heap a vs out}) :
  wpAny (model prog w) A (Builtin.«list.sort» ⟨[.ref a],[]⟩) P E s:=by
 refine n8 (kd:=oneType') (v:=fun p=>numOf p.1) ho hs (fun l2 Q q=>?_) (fun x hx y hy st Q kk q=>?_) fun out hp hw=>?_
 ·obtain⟨v₁,v₂,rest,rfl⟩:∃v₁ v₂ rest,vs=v₁::v₂::rest:=by
   match vs,l2 with
   |[_],l2=>simp at l2
   |v₁::v₂::rest,_=>exact⟨v₁,v₂,rest,rfl⟩
  rw [keyKind_ints hI];exact wpAny_pure q
 ·obtain⟨x,HI,rfl⟩:=mem_map.mp hx;obtain⟨y,Wz,rfl⟩:=mem_map.mp hy;obtain⟨m,t,rfl⟩:=hI.all x HI;obtain⟨k,u,rfl⟩:=hI.all y Wz;rw [lt'_eq];refine wpS_bind (wpS_get ?_);rw [kk,keyLt'_oneType];exact wpS_bind (wpS_lift (wpAny_attempt (oneLt_int ⟨rfl,wpS_pure q⟩)))
 ·refine h _ (out.map numOf) (intsAre_map _ fun v hv=>hI.all v (hp.mem_iff.mp (by simpa using hv))) ?_ ?_
  ·rw [<-hI.nums];exact hp.map _
  ·rw [pairwise_map];exact hw
end
open PySem PySem.Spec PyProof.Rows L2
abbrev St:=L2.St
structure KC where
 f:PySem.W.Frag
 cl:Nat->Addr
inductive T where
 |cg|bl (b:Bool)|int (i:Int)|str (x:Str)|lst (ts:List T)|tup (ts:List T)|eX (ks:List Key) (ts:List T)|obj (n:Nat)
mutual
def Tr(K:KC)(H:Hp):V->T->Prop
 |v,.cg=>v=.cg
 |v,.bl b=>v=.bl b
 |v,.int i=>v=.int i
 |v,.str x=>v=.str x
 |v,.lst ts=>∃a xs,v=.ref a/\nV K.f H a xs/\fz K H xs ts
 |v,.tup ts=>∃a xs,v=.ref a/\vm K.f H a xs/\fz K H xs ts
 |v,.eX ks ts=>∃a xs,v=.ref a/\H a=some (.dK (ks.zip xs))/\ks.length=xs.length/\fz K H xs ts
 |v,.obj n=>∃a dx,v=.ref a/\H a=some (.ins (K.cl n) dx [])
def fz(K:KC)(H:Hp):List V->List T->Prop
 |xs,[]=>xs=[]
 |xs,t::ts=>∃v vs,xs=v::vs/\Tr K H v t/\fz K H vs ts
end
theorem pK{K:PySem.W.Frag}{H H':Hp}{a:Addr}{xs:List V}(e:aA H H')(h:vm K H a xs):vm K H' a xs:=by
 rcases h with(h|⟨o,h⟩)|h
 ·exact .inl (.inl (e _ _ h))
 ·exact .inl (.inr ⟨o,e _ _ h⟩)
 ·exact .inr h
section
variable {K:KC}{H H' Hs bu:Hp}
mutual
theorem cA(e:aA H H'):∀(v:V)(t:T),Tr K H v t->Tr K H' v t
 |v,.cg,h=>h
 |v,.bl b,h=>h
 |v,.int i,h=>h
 |v,.str x,h=>h
 |v,.lst ts,h=>by
  obtain⟨a,xs,e1,s,r⟩:=h;exact⟨a,xs,e1,e.seq s,cj e xs ts r⟩
 |v,.tup ts,h=>by
  obtain⟨a,xs,e1,s,r⟩:=h;exact⟨a,xs,e1,pK e s,cj e xs ts r⟩
 |v,.eX ks ts,h=>by
  obtain⟨a,xs,e1,s,l,r⟩:=h;exact⟨a,xs,e1,e _ _ s,l,cj e xs ts r⟩
 |v,.obj C,h=>by
  obtain⟨a,dx,e1,s⟩:=h;exact⟨a,dx,e1,e _ _ s⟩
theorem cj(e:aA H H'):∀(xs:List V)(ts:List T),fz K H xs ts->fz K H' xs ts
 |xs,[],h=>h
 |xs,t::ts,h=>by
  obtain⟨v,vs,e1,r,rs⟩:=h;exact⟨v,vs,e1,cA e v t r,cj e vs ts rs⟩
end
theorem bU:fz K H [] []:=rfl
theorem bK{v:V}{t:T}{vs:List V}{ts:List T}(h:Tr K H v t)(hs:fz K H vs ts):fz K H (v::vs) (t::ts):=⟨v,vs,rfl,h,hs⟩
theorem aR:∀{ts:List T}{xs:List V},fz K H xs ts->xs.length=ts.length
 |[],xs,h=>by
  have e:xs=[]:=h;rw [e];rfl
 |t::ts,xs,h=>by
  obtain⟨v,vs,rfl,_,rs⟩:=h;simp [aR rs]
theorem ip:∀{ts:List T}{xs:List V}{i:Nat}{t:T},fz K H xs ts->ts[i]?=some t->∃v,xs[i]?=some v/\Tr K H v t
 |[],xs,i,t,h,e=>by simp at e
 |u::ts,xs,0,t,h,e=>by
  obtain⟨v,vs,rfl,r,_⟩:=h;simp at e;subst e;exact⟨v,rfl,r⟩
 |u::ts,xs,i+1,t,h,e=>by
  obtain⟨v,vs,rfl,_,rs⟩:=h;obtain⟨w,h1,h2⟩:=ip (i:=i) (t:=t) rs (by simpa using e);exact⟨w,by simpa using h1,h2⟩
theorem iK:∀{ts us:List T}{xs ys:List V},fz K H xs ts->fz K H ys us->fz K H (xs++ys) (ts++us)
 |[],us,xs,ys,h,h'=>by
  have e:xs=[]:=h;rw [e];exact h'
 |t::ts,us,xs,ys,h,h'=>by
  obtain⟨v,vs,rfl,r,rs⟩:=h;exact⟨v,vs++ys,rfl,r,iK rs h'⟩
theorem Ac:∀(n:Nat){ts:List T}{xs:List V},fz K H xs ts->fz K H (xs.take n) (ts.take n)
 |0,ts,xs,_=>by
  rw [List.take_zero,List.take_zero];exact bU
 |n+1,[],xs,h=>by
  have e:xs=[]:=h;rw [e];exact bU
 |n+1,t::ts,xs,h=>by
  obtain⟨v,vs,rfl,r,rs⟩:=h;exact⟨v,vs.take n,rfl,r,Ac n rs⟩
theorem Ae:∀(n:Nat){ts:List T}{xs:List V},fz K H xs ts->fz K H (xs.drop n) (ts.drop n)
 |0,ts,xs,h=>h
 |n+1,[],xs,h=>by
  have e:xs=[]:=h;rw [e];exact bU
 |n+1,t::ts,xs,h=>by
  obtain⟨v,vs,rfl,r,rs⟩:=h;exact Ae n rs
theorem jN:∀(ns:List Int),fz K H (ns.map V.int) (ns.map T.int)
 |[]=>bU
 |n::ns=>bK rfl (jN ns)
theorem fK:∀{ns:List Int}{xs:List V},fz K H xs (ns.map T.int)->xs=ns.map V.int
 |[],xs,h=>h
 |n::ns,xs,h=>by
  obtain⟨v,vs,rfl,r,rs⟩:=h;have e:v=V.int n:=r;rw [e,fK rs];rfl
def vw(K:KC)(H Hs:Hp)(v:V):T->Prop
 |.lst ts=>∃a xs,v=.ref a/\nV K.f H a xs/\fz K Hs xs ts
 |.eX ks ts=>∃a xs,v=.ref a/\H a=some (.dK (ks.zip xs))/\ks.length=xs.length/\fz K Hs xs ts
 |.cg=>v=.cg
 |.bl b=>v=.bl b
 |.int i=>v=.int i
 |.str x=>v=.str x
 |.tup ts=>Tr K Hs v (.tup ts)
 |.obj C=>Tr K Hs v (.obj C)
theorem vw.of{v:V}{t:T}(s:aA Hs H)(h:Tr K Hs v t):vw K H Hs v t:=by
 cases t with
 |lst ts =>
  obtain⟨a,xs,e1,q,r⟩:=h;exact⟨a,xs,e1,s.seq q,r⟩
 |eX ks ts =>
  obtain⟨a,xs,e1,q,l,r⟩:=h;exact⟨a,xs,e1,s _ _ q,l,r⟩
 |cg=>exact h
 |bl b=>exact h
 |int i=>exact h
 |str x=>exact h
 |tup ts=>exact h
 |obj C=>exact h
theorem vw.tr{v:V}{t:T}(s:aA Hs H)(h:vw K H Hs v t):Tr K H v t:=by
 cases t with
 |lst ts =>
  obtain⟨a,xs,e1,q,r⟩:=h;exact⟨a,xs,e1,q,cj s _ _ r⟩
 |eX ks ts =>
  obtain⟨a,xs,e1,q,l,r⟩:=h;exact⟨a,xs,e1,q,l,cj s _ _ r⟩
 |cg=>exact h
 |bl b=>exact h
 |int i=>exact h
 |str x=>exact h
 |tup ts=>exact cA s _ _ h
 |obj C=>exact cA s _ _ h
theorem vw.mono{v:V}{t:T}(e:aA H H')(e':aA Hs bu)(h:vw K H Hs v t):vw K H' bu v t:=by
 cases t with
 |lst ts =>
  obtain⟨a,xs,e1,q,r⟩:=h;exact⟨a,xs,e1,e.seq q,cj e' _ _ r⟩
 |eX ks ts =>
  obtain⟨a,xs,e1,q,l,r⟩:=h;exact⟨a,xs,e1,e _ _ q,l,cj e' _ _ r⟩
 |cg=>exact h
 |bl b=>exact h
 |int i=>exact h
 |str x=>exact h
 |tup ts=>exact cA e' _ _ h
 |obj C=>exact cA e' _ _ h
inductive nX(K:KC)(H Hs:Hp):List V->List T->Prop where
 |nil:nX K H Hs [] []
 |cons {v:V} {t:T} {vs:List V} {ts:List T} (h:vw K H Hs v t) (r:nX K H Hs vs ts):nX K H Hs (v::vs) (t::ts)
theorem nX.mono(e:aA H H')(e':aA Hs bu){vs:List V}{ts:List T}(h:nX K H Hs vs ts):nX K H' bu vs ts:=by
 induction h with
 |nil=>exact .nil
 |cons h r ih=>exact .cons (h.mono e e') ih
end
inductive Slot where
 |no|sh (t:T)|own (t:T)
abbrev G:=List Slot
inductive R where
 |sh (t:T)|own (t:T)|bor (i:Nat) (t:T)
def R.tree:R->T
 |.sh t=>t
 |.own t=>t
 |.bor _ t=>t
structure Fx where
 H0:Hp
 S0:Hp
 cl:Nat->Addr
 F:Nat->Option V
def lD(K:KC)(H Hs:Hp)(a:Addr):T->Prop
 |.lst ts=>Hs a=none/\∃xs,H a=some (.lst xs)/\fz K Hs xs ts
 |.eX ks ts=>Hs a=none/\∃xs,H a=some (.dK (ks.zip xs))/\ks.length=xs.length/\fz K Hs xs ts
 |_=>False
theorem lD.free{K:KC}{H Hs:Hp}{a:Addr}{t:T}(h:lD K H Hs a t):Hs a=none:=by
 cases t with
 |lst ts=>exact h.1
 |eX ks ts=>exact h.1
 |cg=>exact h.elim
 |bl b=>exact h.elim
 |int i=>exact h.elim
 |str x=>exact h.elim
 |tup ts=>exact h.elim
 |obj C=>exact h.elim
theorem lD.DR{K:KC}{H Hs:Hp}{a:Addr}{t:T}(h:lD K H Hs a t):vw K H Hs (.ref a) t:=by
 cases t with
 |lst ts =>
  obtain⟨_,xs,q,r⟩:=h;exact⟨a,xs,rfl,nV.of q,r⟩
 |eX ks ts =>
  obtain⟨_,xs,q,l,r⟩:=h;exact⟨a,xs,rfl,q,l,r⟩
 |cg=>exact h.elim
 |bl b=>exact h.elim
 |int i=>exact h.elim
 |str x=>exact h.elim
 |tup ts=>exact h.elim
 |obj C=>exact h.elim
theorem lD.there{K:KC}{H Hs:Hp}{a:Addr}{t:T}(h:lD K H Hs a t):∃o,H a=some o/\∀bu,bu a=some o->aA Hs bu->Tr K bu (.ref a) t:=by
 cases t with
 |lst ts =>
  obtain⟨_,xs,q,r⟩:=h;exact⟨_,q,fun bu q' e=>⟨a,xs,rfl,nV.of q',cj e _ _ r⟩⟩
 |eX ks ts =>
  obtain⟨_,xs,q,l,r⟩:=h;exact⟨_,q,fun bu q' e=>⟨a,xs,rfl,q',l,cj e _ _ r⟩⟩
 |cg=>exact h.elim
 |bl b=>exact h.elim
 |int i=>exact h.elim
 |str x=>exact h.elim
 |tup ts=>exact h.elim
 |obj C=>exact h.elim
theorem lD.mono{K:KC}{H H' Hs bu:Hp}{a:Addr}{t:T}(e:∀o,H a=some o->H' a=some o)(e':aA Hs bu)(n:bu a=none)(h:lD K H Hs a t):lD K H' bu a t:=by
 cases t with
 |lst ts =>
  obtain⟨_,xs,q,r⟩:=h;exact⟨n,xs,e _ q,cj e' _ _ r⟩
 |eX ks ts =>
  obtain⟨_,xs,q,l,r⟩:=h;exact⟨n,xs,e _ q,l,cj e' _ _ r⟩
 |cg=>exact h.elim
 |bl b=>exact h.elim
 |int i=>exact h.elim
 |str x=>exact h.elim
 |tup ts=>exact h.elim
 |obj C=>exact h.elim
structure aF(K:KC)(P:Fx)(Γ:G)(σ:St)(H Hs:Hp):Prop where
 kept:aA P.H0 H
 sub:aA Hs H
 new:∀a o,Hs a=some o->P.S0 a=some o\/P.H0 a=none
 fix:∀(i:Nat)(v:V),P.F i=some v->σ[i]?=some (some v)
 sh:∀(i:Nat)(t:T),Γ[i]?=some (Slot.sh t)->∃v,σ[i]?=some (some v)/\Tr K Hs v t
 own:∀(i:Nat)(t:T),Γ[i]?=some (Slot.own t)->∃a,σ[i]?=some (some (V.ref a))/\P.H0 a=none/\lD K H Hs a t
 apart:∀(i j:Nat)(t u:T)(a:Addr),i≠j->Γ[i]?=some (Slot.own t)->Γ[j]?=some (Slot.own u)->σ[i]?=some (some (V.ref a))->σ[j]?≠some (some (V.ref a))
 len:Γ.length=σ.length
def gZ(K:KC)(P:Fx)(Γ:G)(σ:St)(H Hs:Hp)(v:V):R->Prop
 |.sh t=>Tr K Hs v t
 |.own t=>∃a,v=.ref a/\P.H0 a=none/\lD K H Hs a t/\∀(i:Nat)(u:T),Γ[i]?=some (Slot.own u)->σ[i]?≠some (some (V.ref a))
 |.bor i t=>σ[i]?=some (some v)/\Γ[i]?=some (Slot.own t)
section
variable {K:KC}{P:Fx}{Γ:G}{σ:St}{H H' Hs bu:Hp}
theorem aF.DR(S:aF K P Γ σ H Hs){v:V}{r:R}(h:gZ K P Γ σ H Hs v r):vw K H Hs v r.tree:=by
 cases r with
 |sh t=>exact vw.of S.sub h
 |own t =>
  obtain⟨a,rfl,_,q,_⟩:=h;exact q.DR
 |bor i t =>
  obtain⟨h1,h2⟩:=h;obtain⟨a,e,_,q⟩:=S.own i t h2;rw [h1]at e
  cases e
  exact q.DR
theorem aF.grow(S:aF K P Γ σ H Hs)(e:aA H H'):aF K P Γ σ H' Hs where
 kept:=S.kept.trans e
 sub:=S.sub.trans e
 new:=S.new
 fix:=S.fix
 sh:=S.sh
 own:=fun i t h=>by
  obtain⟨a,h1,h2,h3⟩:=S.own i t h;exact⟨a,h1,h2,h3.mono (e a) (aA.refl _) h3.free⟩
 apart:=S.apart
 len:=S.len
theorem aF.share(S:aF K P Γ σ H Hs)(e:aA Hs bu)(e':aA bu H)(w:∀a o,bu a=some o->P.S0 a=some o\/P.H0 a=none)(n:∀(i:Nat)(t:T)(a:Addr),Γ[i]?=some (Slot.own t)->σ[i]?=some (some (V.ref a))->bu a=none):aF K P Γ σ H bu where
 kept:=S.kept
 sub:=e'
 new:=w
 fix:=S.fix
 sh:=fun i t h=>by
  obtain⟨v,h1,h2⟩:=S.sh i t h;exact⟨v,h1,cA e _ _ h2⟩
 own:=fun i t h=>by
  obtain⟨a,h1,h2,h3⟩:=S.own i t h;exact⟨a,h1,h2,h3.mono (fun _ q=>q) e (n i t a h h1)⟩
 apart:=S.apart
 len:=S.len
theorem dQ{a:Addr}{o:HO}(h:H a=none):aA H (upd H a o):=fun b u e=>by
 rw [aV (bT e h)];exact e
theorem rj{a:Addr}{o:HO}(e:aA Hs H)(h:H a=some o):aA (upd Hs a o) H:=fun b u q=>by
 by_cases z:b=a
 ·subst z;rw [bB]at q
  cases q
  exact h
 ·rw [aV z]at q;exact e _ _ q
theorem Fm{a:Addr}{o:HO}(e:aA Hs H):aA (upd Hs a o) (upd H a o):=fun b u q=>by
 by_cases z:b=a
 ·subst z;rw [bB]at q ⊢;exact q
 ·rw [aV z]at q ⊢;exact e _ _ q
theorem aF.xU(S:aF K P Γ σ H Hs){a:Addr}{o:HO}(n:P.H0 a=none):∀b u,upd Hs a o b=some u->P.S0 b=some u\/P.H0 b=none:=fun b u q=>by
 by_cases z:b=a
 ·subst z;exact .inr n
 ·rw [aV z]at q;exact S.new b u q
theorem aF.give(S:aF K P Γ σ H Hs){i:Nat}{t:T}(h:Γ[i]?=some (.own t)):∃bu v,aA Hs bu/\σ[i]?=some (some v)/\Tr K bu v t/\aF K P (Γ.set i (.sh t)) σ H bu:=by
 obtain⟨a,h1,h2,h3⟩:=S.own i t h;obtain⟨o,ho,tr⟩:=h3.there;have e1:aA Hs (upd Hs a o):=dQ h3.free;have e2:aA (upd Hs a o) H:=rj S.sub ho;have PQ:i<Γ.length:=(List.getElem?_eq_some_iff.mp h).1;have tr:=tr (upd Hs a o) bB e1;refine⟨upd Hs a o,.ref a,e1,h1,tr,?_⟩;refine{kept:=S.kept,sub:=e2,new:=S.xU h2,fix:=S.fix,sh:=fun j u hj=>?_,own:=fun j u hj=>?_,apart:=fun j k u v b SG hj hk=>?_,len:=by rw [length_set];exact S.len}
 ·by_cases z:i=j
  ·subst z;rw [getElem?_set_self PQ]at hj
   cases hj
   exact⟨_,h1,tr⟩
  ·rw [getElem?_set_ne z]at hj;obtain⟨w,q1,q2⟩:=S.sh j u hj;exact⟨w,q1,cA e1 _ _ q2⟩
 ·by_cases z:i=j
  ·subst z;rw [getElem?_set_self PQ]at hj
   cases hj
  ·rw [getElem?_set_ne z]at hj;obtain⟨b,q1,q2,q3⟩:=S.own j u hj;refine⟨b,q1,q2,q3.mono (fun _ q=>q) e1 ?_⟩;have:b≠a:=by
    rintro rfl;exact S.apart i j t u _ z h hj h1 q1
   rw [aV this];exact q3.free
 ·by_cases z:i=j
  ·subst z;rw [getElem?_set_self PQ]at hj
   cases hj
  ·by_cases z':i=k
   ·subst z';rw [getElem?_set_self PQ]at hk
    cases hk
   ·rw [getElem?_set_ne z]at hj;rw [getElem?_set_ne z']at hk;exact S.apart j k u v b SG hj hk
end
theorem fV{α β γ:Type}{o:Option (α×β)}{f:α×β->Option γ}{r:γ}(h:o.bind f=some r):∃a b,o=some (a,b)/\f (a,b)=some r:=by
 cases o with
 |none=>cases h
 |some p=>exact⟨p.1,p.2,rfl,h⟩
theorem SU{α γ:Type}{o:Option α}{f:α->γ}{r:γ}(h:o.map f=some r):∃a,o=some a/\f a=r:=by
 cases o with
 |none=>cases h
 |some p=>exact⟨p,rfl,Option.some.inj h⟩
inductive Out(K:KC)(Hs:Hp):Hp->V->Hp->R->Prop where
 |val {H:Hp} {v:V} {t:T} (h:Tr K Hs v t):Out K Hs H v H (.sh t)
 |tI {H:Hp} {p:Addr} {vs:List V} {ts:List T} (n:H p=none) (h:fz K Hs vs ts):Out K Hs H (.ref p) (upd H p (.lst vs)) (.own (.lst ts))
 |PR {H:Hp} {p:Addr} {vs:List V} {ts:List T} (n:H p=none) (h:fz K Hs vs ts):Out K Hs H (.ref p) (upd H p (.tup vs)) (.sh (.tup ts))
 |newD {H:Hp} {p:Addr} {ks:List Key} {vs:List V} {ts:List T} (n:H p=none) (l:ks.length=vs.length) (h:fz K Hs vs ts):Out K Hs H (.ref p) (upd H p (.dK (ks.zip vs))) (.own (.eX ks ts))
 |grow {H H1 H2:Hp} {v:V} {r:R} (e:aA H H1) (h:Out K Hs H1 v H2 r):Out K Hs H v H2 r
section
variable {K:KC}{P:Fx}{Γ:G}{σ:St}{H H' Hs bu:Hp}
theorem aF.j1(S:aF K P Γ σ H Hs){p:Addr}(n:H p=none):∀(i:Nat)(u:T),Γ[i]?=some (Slot.own u)->σ[i]?≠some (some (V.ref p)):=fun i u h e=>by
 obtain⟨a,h1,_,h3⟩:=S.own i u h;rw [e]at h1
 cases h1
 obtain⟨o,ho,_⟩:=h3.there;rw [n]at ho
 cases ho
theorem Out.fin{v:V}{r:R}(o:Out K Hs H v H' r)(S:aF K P Γ σ H Hs):∃bu,aA H H'/\aA Hs bu/\aF K P Γ σ H' bu/\gZ K P Γ σ H' bu v r:=by
 induction o with
 |val h=>exact⟨Hs,aA.refl _,aA.refl _,S,h⟩
 |@tI H p vs ts n h =>
  have e:=dQ (o:=.lst vs) n;refine⟨Hs,e,aA.refl _,S.grow e,p,rfl,S.kept.free n,⟨S.sub.free n,vs,bB,h⟩,S.j1 n⟩
 |@PR H p vs ts n h =>
  have e:=dQ (o:=.tup vs) n;have n':=S.sub.free n;have e':=dQ (o:=.tup vs) n';refine⟨upd Hs p (.tup vs),e,e',(S.grow e).share e' (Fm S.sub) (S.xU (S.kept.free n)) fun i t a h1 h2=>?_,p,vs,rfl,vm.of bB,cj e' _ _ h⟩;have z:a≠p:=by
   rintro rfl;exact S.j1 n i t h1 h2
  rw [aV z];obtain⟨b,q1,_,q3⟩:=S.own i t h1;rw [h2]at q1
  cases q1
  exact q3.free
 |@newD H p ks vs ts n l h =>
  have e:=dQ (o:=.dK (ks.zip vs)) n;refine⟨Hs,e,aA.refl _,S.grow e,p,rfl,S.kept.free n,⟨S.sub.free n,vs,bB,l,h⟩,S.j1 n⟩
 |grow e h ih =>
  obtain⟨bu,e1,e2,S2,f⟩:=ih (S.grow e);exact⟨bu,e.trans e1,e2,S2,f⟩
def dH(r:R)(Γ:G):T×G:=match r with
 |.sh t=>(t,Γ)
 |.own t=>(t,Γ)
 |.bor i t=>(t,Γ.set i (.sh t))
theorem aF.dH(S:aF K P Γ σ H Hs){v:V}{r:R}(f:gZ K P Γ σ H Hs v r):∃bu,aA Hs bu/\aF K P (dH r Γ).2 σ H bu/\Tr K bu v (dH r Γ).1:=by
 cases r with
 |sh t=>exact⟨Hs,aA.refl _,S,f⟩
 |own t =>
  obtain⟨a,rfl,h0,q,n⟩:=f;obtain⟨o,ho,tr⟩:=q.there;have e1:aA Hs (upd Hs a o):=dQ q.free;refine⟨upd Hs a o,e1,S.share e1 (rj S.sub ho) (S.xU h0) fun i t b h1 h2=>?_,tr _ bB e1⟩;have z:b≠a:=by
   rintro rfl;exact n i t h1 h2
  rw [aV z];obtain⟨c,q1,_,q3⟩:=S.own i t h1;rw [h2]at q1
  cases q1
  exact q3.free
 |bor i t =>
  obtain⟨h1,h2⟩:=f;obtain⟨bu,w,e,h3,tr,S'⟩:=S.give h2;rw [h1]at h3
  cases h3
  exact⟨bu,e,S',tr⟩
end
abbrev MX:=G->Option (R×G)
abbrev MT:=G->Option (Bool×G)
abbrev MA:=G->Option (List T×G)
def NQ(K:KC)(P:Fx)(Γ:G)(r:R)(Γ':G):TE:=fun σ H Q=>∃Hs,aF K P Γ σ H Hs/\∀v H' bu,aA H H'->aA Hs bu->aF K P Γ' σ H' bu->gZ K P Γ' σ H' bu v r->Q v H'
def US(K:KC)(P:Fx)(Γ:G)(b:Bool)(Γ':G):TT:=fun σ H Q=>∃Hs,aF K P Γ σ H Hs/\∀H' bu,aA H H'->aA Hs bu->aF K P Γ' σ H' bu->Q b H'
def rdA(K:KC)(P:Fx)(Γ:G)(ts:List T)(Γ':G):TA:=fun σ H Q=>∃Hs,aF K P Γ σ H Hs/\∀vs H' bu,aA H H'->aA Hs bu->aF K P Γ' σ H' bu->nX K H' bu vs ts->Q vs H'
def WA(K:KC)(P:Fx)(Γ:G)(ts:List T)(Γ':G):TA:=fun σ H Q=>∃Hs,aF K P Γ σ H Hs/\∀vs H' bu,aA H H'->aA Hs bu->aF K P Γ' σ H' bu->fz K bu vs ts->Q vs H'
abbrev kc(X:Cx)(P:Fx):KC:=⟨X.K,P.cl⟩
def bj(X:Cx)(P:Fx)(e:Expr)(m:MX):Prop:=∀Γ r Γ',m Γ=some (r,Γ')->PE X e (NQ (kc X P) P Γ r Γ')
def rT(X:Cx)(P:Fx)(e:Expr)(m:MT):Prop:=∀Γ b Γ',m Γ=some (b,Γ')->PT X e (US (kc X P) P Γ b Γ')
def Af(X:Cx)(P:Fx)(e:Expr)(m:MT):Prop:=∀Γ b Γ',m Γ=some (b,Γ')->PW X e (US (kc X P) P Γ b Γ')
def tK(X:Cx)(P:Fx)(es:List Expr)(m:MA):Prop:=∀Γ ts Γ',m Γ=some (ts,Γ')->PA X es (rdA (kc X P) P Γ ts Γ')
def Ah(X:Cx)(P:Fx)(es:List Expr)(m:MA):Prop:=∀Γ ts Γ',m Γ=some (ts,Γ')->PA X es (WA (kc X P) P Γ ts Γ')
theorem _root_.L2.PE.imp{X:Cx}{e:Expr}{t t':TE}(h:PE X e t)(i:∀σ H Q,t' σ H Q->t σ H Q):PE X e t':=fun pins s σ H Q I q=>h pins s σ H Q I (i σ H Q q)
theorem _root_.L2.PT.imp{X:Cx}{e:Expr}{t t':TT}(h:PT X e t)(i:∀σ H Q,t' σ H Q->t σ H Q):PT X e t':=fun pins s σ H Q I q=>h pins s σ H Q I (i σ H Q q)
theorem _root_.L2.PW.imp{X:Cx}{e:Expr}{t t':TT}(h:PW X e t)(i:∀σ H Q,t' σ H Q->t σ H Q):PW X e t':=fun wh pins s σ H Q I q=>h wh pins s σ H Q I (i σ H Q q)
theorem _root_.L2.PA.imp{X:Cx}{es:List Expr}{t t':TA}(h:PA X es t)(i:∀σ H Q,t' σ H Q->t σ H Q):PA X es t':=fun pos pins s σ H Q I q=>h pos pins s σ H Q I (i σ H Q q)
theorem _root_.L2.PS.imp{X:Cx}{e:Stmt}{t t':TS}(h:PS X e t)(i:∀D σ H,t' D σ H->t D σ H):PS X e t':=fun pins s σ H D I q=>h pins s σ H D I (i D σ H q)
theorem _root_.L2.vi.imp{X:Cx}{e:List Stmt}{t t':TS}(h:vi X e t)(i:∀D σ H,t' D σ H->t D σ H):vi X e t':=fun pins s σ H D I q=>h pins s σ H D I (i D σ H q)
theorem Af.t{X:Cx}{P:Fx}{e:Expr}{m:MT}(h:Af X P e m):rT X P e m:=fun Γ b Γ' hm=>(h Γ b Γ' hm).pt
section
variable {X:Cx}{P:Fx}{a b c e:Expr}{es:List Expr}{ma mb mc:MX}{pos:Pos}
def mC(t:T):MX:=fun Γ=>some (.sh t,Γ)
theorem DS{v:V}{t:T}(h:PE X e (tC v))(q:∀Hs,Tr (kc X P) Hs v t):bj X P e (mC t):=fun Γ r Γ' hm=>by
 cases hm
 exact h.imp fun σ H Q ⟨Hs,S,k⟩=>k v H Hs (aA.refl _) (aA.refl _) S (q Hs)
theorem aq{i:Int}{j:Nat}:bj X P (.Constant (.int i) j pos) (mC (.int i)):=DS OO fun _=>rfl
theorem iL{i:Bool}{j:Nat}:bj X P (.Constant (.bool i) j pos) (mC (.bl i)):=DS RX fun _=>rfl
theorem j2{j:Nat}:bj X P (.Constant .none j pos) (mC .cg):=DS OP fun _=>rfl
theorem aI{x:Str}{j:Nat}:bj X P (.Constant (.str x) j pos) (mC (.str x)):=DS OQ fun _=>rfl
def mV(i:Nat):MX:=fun Γ=>match Γ[i]? with
 |some (.sh t)=>some (.sh t,Γ)
 |some (.own t)=>some (.bor i t,Γ)
 |_=>none
theorem SV{i:Nat}(h:PE X e (ER i)):bj X P e (mV i):=fun Γ r Γ' hm=>by
 refine h.imp fun σ H Q ⟨Hs,S,k⟩=>?_;unfold mV at hm
 cases q:Γ[i]? with
 |none=>rw [q]at hm;cases hm
 |some s =>
  rw [q]at hm
  cases s with
  |no=>cases hm
  |sh t =>
   cases hm
   obtain⟨v,h1,h2⟩:=S.sh i t q;exact⟨v,h1,k v H Hs (aA.refl _) (aA.refl _) S h2⟩
  |own t =>
   cases hm
   obtain⟨a,h1,_,_⟩:=S.own i t q;exact⟨_,h1,k _ H Hs (aA.refl _) (aA.refl _) S ⟨h1,q⟩⟩
def rS(K:KC)(g:T->T->Option R):R2:=fun x y H Q=>∃Hs t u r,aA Hs H/\vw K H Hs x t/\vw K H Hs y u/\g t u=some r/\∀v H',Out K Hs H v H' r->Q v H'
def rn(X:Cx)(cl:Nat->Addr)(f:Value->Value->Sem Value)(g:T->T->Option R):Prop:=lN X f (rS ⟨X.K,cl⟩ g)
def ah(g:T->T->Option R)(ma mb:MX):MX:=fun Γ=>(ma Γ).bind fun p=>(mb p.2).bind fun q=>(g p.1.tree q.1.tree).map fun r=>(r,q.2)
theorem pL{g:T->T->Option R}{Γ Γ':G}{r:R}(h:ah g ma mb Γ=some (r,Γ')):∃r1 Γ1 r2,ma Γ=some (r1,Γ1)/\mb Γ1=some (r2,Γ')/\g r1.tree r2.tree=some r:=by
 obtain⟨r1,Γ1,h1,h⟩:=fV h;obtain⟨r2,Γ2,h2,h⟩:=fV h;obtain⟨z,h3,h⟩:=SU h
 cases h
 exact⟨r1,Γ1,r2,h1,h2,h3⟩
theorem xV{K:KC}{g:T->T->Option R}{Γ Γ1 Γ':G}{r r1 r2:R}(hg:g r1.tree r2.tree=some r){σ:St}{H:Hp}{Q:VK}(h:NQ K P Γ r Γ' σ H Q):R8 (rS K g) (NQ K P Γ r1 Γ1) (NQ K P Γ1 r2 Γ') σ H Q:=by
 obtain⟨Hs,S,k⟩:=h;refine⟨Hs,S,fun v H1 bq e1 en S1 f1=>⟨bq,S1,fun w H2 bQ e2 hW S2 f2=>⟨bQ,r1.tree,r2.tree,r,S2.sub,(S1.DR f1).mono e2 hW,S2.DR f2,hg,fun z H3 o=>?_⟩⟩⟩;obtain⟨jH,e3,Cp,S3,f3⟩:=o.fin S2;exact k z H3 jH (e1.trans (e2.trans e3)) (en.trans (hW.trans Cp)) S3 f3
theorem ar{op:Operator}{g:T->T->Option R}(ho:rn X P.cl (binaryOp op) g)(ha:bj X P a ma)(hb:bj X P b mb):bj X P (.BinOp a op b pos) (ah g ma mb):=fun Γ r Γ' hm=>by
 obtain⟨r1,Γ1,r2,h1,h2,hg⟩:=pL hm;exact(R9 ho (ha _ _ _ h1) (hb _ _ _ h2)).imp fun σ H Q q=>xV hg q
theorem fW{op:CmpOp}{g:T->T->Option R}(ho:rn X P.cl (compareOp op) g)(ha:bj X P a ma)(hb:bj X P b mb)(hm:behindInMarks op b=false):bj X P (.Compare a [op] [b] pos) (ah g ma mb):=fun Γ r Γ' h=>by
 obtain⟨r1,Γ1,r2,h1,h2,hg⟩:=pL h;exact(Kv ho (ha _ _ _ h1) (hb _ _ _ h2) hm).imp fun σ H Q q=>xV hg q
def UT(g g':T->T->Option R):T->T->Option R:=fun t u=>match g t u with
 |some r=>some r
 |none=>g' t u
theorem rn.or{cl:Nat->Addr}{f:Value->Value->Sem Value}{g g':T->T->Option R}(h:rn X cl f g)(h':rn X cl f g'):rn X cl f (UT g g'):=by
 intro pins s σ H x y v u Q I rx ry q;obtain⟨Hs,t,w,r,sm,h1,h2,hg,k⟩:=q;unfold UT at hg
 cases e:g t w with
 |some z =>
  rw [e]at hg
  cases hg
  exact h pins s σ H x y v u Q I rx ry ⟨Hs,t,w,_,sm,h1,h2,e,k⟩
 |none =>
  rw [e]at hg;exact h' pins s σ H x y v u Q I rx ry ⟨Hs,t,w,r,sm,h1,h2,hg,k⟩
def ax(m:MX):MT:=fun Γ=>(m Γ).bind fun p=>match p.1 with
 |.sh (.bl k)=>some (k,p.2)
 |_=>none
theorem qC{m:MX}{Γ Γ':G}{k:Bool}(h:ax m Γ=some (k,Γ')):m Γ=some (.sh (.bl k),Γ'):=by
 unfold ax at h
 cases h1:m Γ with
 |none=>rw [h1]at h;cases h
 |some p =>
  rw [h1]at h;obtain⟨r,Γ1⟩:=p
  cases r with
  |sh t =>
   cases t with
   |bl j=>cases h;rfl
   |_=>cases h
  |_=>cases h
theorem DT{K:KC}{Γ Γ':G}{k:Bool}{σ:St}{H:Hp}{Q:Bool->Hp->Prop}(h:US K P Γ k Γ' σ H Q):NQ K P Γ (.sh (.bl k)) Γ' σ H fun x H'=>∃c,x=.bl c/\Q c H':=by
 obtain⟨Hs,S,k'⟩:=h;exact⟨Hs,S,fun v H' bu e e' S' f=>⟨k,f,k' H' bu e e' S'⟩⟩
theorem iq{m:MX}(h:bj X P e m)(he:∀whole,isTrue e X.env whole=(do let v<-whole;standAt e.pos;holding [v] (truthy v)):=by intro _;rfl):rT X P e (ax m):=fun Γ k Γ' hm =>
 (OR (h _ _ _ (qC hm)) he).imp fun σ H Q q=>DT q
theorem ay{op:CmpOp}{g:T->T->Option R}(ho:rn X P.cl (compareOp op) g)(ha:bj X P a ma)(hb:bj X P b mb)(hm:behindInMarks op b=false):rT X P (.Compare a [op] [b] pos) (ax (ah g ma mb)):=fun Γ k Γ' h=>by
 obtain⟨r1,Γ1,r2,h1,h2,hg⟩:=pL (qC h);exact(DH ho (ha _ _ _ h1) (hb _ _ _ h2) hm).imp fun σ H Q q=>xV hg (DT q)
def fu(m:MT):MT:=fun Γ=>(m Γ).map fun p=>(!p.1,p.2)
theorem ir{m:MT}(h:rT X P a m):rT X P (.UnaryOp .Not a pos) (fu m):=fun Γ k Γ' hm=>by
 unfold fu at hm
 cases h1:m Γ with
 |none=>rw [h1]at hm;cases hm
 |some p =>
  rw [h1]at hm
  cases hm
  exact(OT (h _ _ _ h1)).imp fun σ H Q ⟨Hs,S,k'⟩=>⟨Hs,S,k'⟩
def jO(m n:MT):MT:=fun Γ=>(m Γ).bind fun p=>if p.1=true then n p.2 else some (false,p.2)
def fw(m n:MT):MT:=fun Γ=>(m Γ).bind fun p=>if p.1=true then some (true,p.2)else n p.2
theorem Fo{m n:MT}{Γ Γ':G}{k:Bool}(h:jO m n Γ=some (k,Γ')):∃Γ1,(m Γ=some (true,Γ1)/\n Γ1=some (k,Γ'))\/(m Γ=some (false,Γ')/\k=false):=by
 unfold jO at h
 cases h1:m Γ with
 |none=>rw [h1]at h;cases h
 |some p =>
  rw [h1]at h;obtain⟨c,Γ1⟩:=p
  cases c with
  |true=>exact⟨Γ1,.inl ⟨rfl,h⟩⟩
  |false =>
   have h:some (false,Γ1)=some (k,Γ'):=h
   cases h
   exact⟨Γ',.inr ⟨rfl,rfl⟩⟩
theorem HJ{m n:MT}{Γ Γ':G}{k:Bool}(h:fw m n Γ=some (k,Γ')):∃Γ1,(m Γ=some (false,Γ1)/\n Γ1=some (k,Γ'))\/(m Γ=some (true,Γ')/\k=true):=by
 unfold fw at h
 cases h1:m Γ with
 |none=>rw [h1]at h;cases h
 |some p =>
  rw [h1]at h;obtain⟨c,Γ1⟩:=p
  cases c with
  |false=>exact⟨Γ1,.inl ⟨rfl,h⟩⟩
  |true =>
   have h:some (true,Γ1)=some (k,Γ'):=h
   cases h
   exact⟨Γ',.inr ⟨rfl,rfl⟩⟩
variable {rest:List Expr}
theorem pN{m:MT}(ha:rT X P a m):Af X P (.BoolOp .And [a] pos) m:=fun Γ k Γ' h=>Kk (ha _ _ _ h)
theorem eZ{m:MT}(ha:rT X P a m):Af X P (.BoolOp .Or [a] pos) m:=fun Γ k Γ' h=>OS (ha _ _ _ h)
theorem sx{m n:MT}(ha:rT X P a m)(hb:Af X P (.BoolOp .And (b::rest) pos) n)(WB:∃t,PW X (.BoolOp .And (b::rest) pos) t:=⟨fun _ _ _=>False,fun _ _ _ _ _ _ _ h=>h.elim⟩):Af X P (.BoolOp .And (a::b::rest) pos) (jO m n):=fun Γ k Γ' h=>by
 obtain⟨Γ1,⟨h1,h2⟩|⟨h1,rfl⟩⟩:=Fo h
 ·refine(GO (ha _ _ _ h1) (hb _ _ _ h2)).imp fun σ H Q ⟨Hs,S,k'⟩=>⟨Hs,S,fun H1 bq e e' S1=>?_⟩;refine Ck ?_;exact⟨bq,S1,fun H2 bQ e2 hW S2=>k' H2 bQ (e.trans e2) (e'.trans hW) S2⟩
 ·obtain⟨t,ht⟩:=WB;refine(GO (ha _ _ _ h1) ht).imp fun σ H Q ⟨Hs,S,k'⟩=>⟨Hs,S,fun H1 bq e e' S1=>?_⟩;refine Cj ?_;exact k' H1 bq e e' S1
theorem fk{m n:MT}(ha:rT X P a m)(hb:Af X P (.BoolOp .Or (b::rest) pos) n)(WB:∃t,PW X (.BoolOp .Or (b::rest) pos) t:=⟨fun _ _ _=>False,fun _ _ _ _ _ _ _ h=>h.elim⟩):Af X P (.BoolOp .Or (a::b::rest) pos) (fw m n):=fun Γ k Γ' h=>by
 obtain⟨Γ1,⟨h1,h2⟩|⟨h1,rfl⟩⟩:=HJ h
 ·refine(Nv (ha _ _ _ h1) (hb _ _ _ h2)).imp fun σ H Q ⟨Hs,S,k'⟩=>⟨Hs,S,fun H1 bq e e' S1=>?_⟩;refine Cj ?_;exact⟨bq,S1,fun H2 bQ e2 hW S2=>k' H2 bQ (e.trans e2) (e'.trans hW) S2⟩
 ·obtain⟨t,ht⟩:=WB;refine(Nv (ha _ _ _ h1) ht).imp fun σ H Q ⟨Hs,S,k'⟩=>⟨Hs,S,fun H1 bq e e' S1=>?_⟩;refine Ck ?_;exact k' H1 bq e e' S1
def oe(m n:MX):MX:=fun Γ=>(m Γ).bind fun p=>match p.1 with
 |.sh (.bl true)=>n p.2
 |.sh (.bl false)=>some (.sh (.bl false),p.2)
 |_=>none
def Fp(m n:MX):MX:=fun Γ=>(m Γ).bind fun p=>match p.1 with
 |.sh (.bl false)=>n p.2
 |.sh (.bl true)=>some (.sh (.bl true),p.2)
 |_=>none
theorem pO{X:Cx}{e:Expr}:PE X e (fun _ _ _=>False):=fun _ _ _ _ _ _ h=>h.elim
theorem Fq{m n:MX}{Γ Γ':G}{r:R}(h:oe m n Γ=some (r,Γ')):∃Γ1,(m Γ=some (.sh (.bl true),Γ1)/\n Γ1=some (r,Γ'))\/(m Γ=some (.sh (.bl false),Γ')/\r=.sh (.bl false)):=by
 unfold oe at h
 cases h1:m Γ with
 |none=>rw [h1]at h;cases h
 |some p =>
  rw [h1]at h;obtain⟨q,Γ1⟩:=p
  cases q with
  |sh t =>
   cases t with
   |bl j =>
    cases j with
    |true=>exact⟨Γ1,.inl ⟨rfl,h⟩⟩
    |false =>
     have h:some (R.sh (.bl false),Γ1)=some (r,Γ'):=h
     cases h
     exact⟨Γ',.inr ⟨rfl,rfl⟩⟩
   |_=>cases h
  |_=>cases h
theorem HK{m n:MX}{Γ Γ':G}{r:R}(h:Fp m n Γ=some (r,Γ')):∃Γ1,(m Γ=some (.sh (.bl false),Γ1)/\n Γ1=some (r,Γ'))\/(m Γ=some (.sh (.bl true),Γ')/\r=.sh (.bl true)):=by
 unfold Fp at h
 cases h1:m Γ with
 |none=>rw [h1]at h;cases h
 |some p =>
  rw [h1]at h;obtain⟨q,Γ1⟩:=p
  cases q with
  |sh t =>
   cases t with
   |bl j =>
    cases j with
    |false=>exact⟨Γ1,.inl ⟨rfl,h⟩⟩
    |true =>
     have h:some (R.sh (.bl true),Γ1)=some (r,Γ'):=h
     cases h
     exact⟨Γ',.inr ⟨rfl,rfl⟩⟩
   |_=>cases h
  |_=>cases h
theorem pP{op:PySem.BoolOp}{m:MX}(h:bj X P a m):bj X P (.BoolOp op [a] pos) m:=fun Γ r Γ' hm=>OU (h _ _ _ hm)
theorem snd_and{m n:MX}(ha:bj X P a m)(hb:bj X P (.BoolOp .And (b::rest) pos) n):bj X P (.BoolOp .And (a::b::rest) pos) (oe m n):=fun Γ r Γ' h=>by
 obtain⟨Γ1,⟨h1,h2⟩|⟨h1,rfl⟩⟩:=Fq h
 ·refine(GP (ha _ _ _ h1) (hb _ _ _ h2)).imp fun σ H Q ⟨Hs,S,k'⟩=>⟨Hs,S,fun v H1 bq e e' S1 f=>⟨true,f,?_⟩⟩;refine Ck ?_;exact⟨bq,S1,fun w H2 bQ e2 hW S2 f2=>k' w H2 bQ (e.trans e2) (e'.trans hW) S2 f2⟩
 ·refine(GP (ha _ _ _ h1) pO).imp fun σ H Q ⟨Hs,S,k'⟩=>⟨Hs,S,fun v H1 bq e e' S1 f=>⟨false,f,?_⟩⟩;refine Cj ?_;exact k' _ H1 bq e e' S1 rfl
theorem PU{m n:MX}(ha:bj X P a m)(hb:bj X P (.BoolOp .Or (b::rest) pos) n):bj X P (.BoolOp .Or (a::b::rest) pos) (Fp m n):=fun Γ r Γ' h=>by
 obtain⟨Γ1,⟨h1,h2⟩|⟨h1,rfl⟩⟩:=HK h
 ·refine(Nw (ha _ _ _ h1) (hb _ _ _ h2)).imp fun σ H Q ⟨Hs,S,k'⟩=>⟨Hs,S,fun v H1 bq e e' S1 f=>⟨false,f,?_⟩⟩;refine Cj ?_;exact⟨bq,S1,fun w H2 bQ e2 hW S2 f2=>k' w H2 bQ (e.trans e2) (e'.trans hW) S2 f2⟩
 ·refine(Nw (ha _ _ _ h1) pO).imp fun σ H Q ⟨Hs,S,k'⟩=>⟨Hs,S,fun v H1 bq e e' S1 f=>⟨true,f,?_⟩⟩;refine Ck ?_;exact k' _ H1 bq e e' S1 rfl
def DU(m:MX):MX:=fun Γ=>(ax m Γ).map fun p=>(.sh (.bl (!p.1)),p.2)
theorem La{m:MX}(h:bj X P a m):bj X P (.UnaryOp .Not a pos) (DU m):=fun Γ r Γ' hm=>by
 unfold DU at hm
 cases h1:ax m Γ with
 |none=>rw [h1]at hm;cases hm
 |some p =>
  rw [h1]at hm
  cases hm
  refine(OV (h _ _ _ (qC h1))).imp fun σ H Q ⟨Hs,S,k⟩=>⟨Hs,S,fun v H1 bq e e' S1 f=>⟨p.1,f,k _ H1 bq e e' S1 rfl⟩⟩
def xW(c:MT)(m n:MX):MX:=fun Γ=>(c Γ).bind fun p=>if p.1=true then m p.2 else n p.2
theorem tL{t:MT}{m n:MX}(hc:rT X P c t)(ha:bj X P a m)(hb:bj X P b n):bj X P (.IfExp c a b pos) (xW t m n):=fun Γ r Γ' h=>by
 unfold xW at h
 cases h1:t Γ with
 |none=>rw [h1]at h;cases h
 |some p =>
  rw [h1]at h;obtain⟨k,Γ1⟩:=p
  cases k with
  |true =>
   have h:m Γ1=some (r,Γ'):=h;refine(zK (hc _ _ _ h1) (ha _ _ _ h) pO).imp fun σ H Q ⟨Hs,S,k'⟩=>⟨Hs,S,fun H1 bq e e' S1=>?_⟩;refine Ck ?_;exact⟨bq,S1,fun w H2 bQ e2 hW S2 f2=>k' w H2 bQ (e.trans e2) (e'.trans hW) S2 f2⟩
  |false =>
   have h:n Γ1=some (r,Γ'):=h;refine(zK (hc _ _ _ h1) pO (hb _ _ _ h)).imp fun σ H Q ⟨Hs,S,k'⟩=>⟨Hs,S,fun H1 bq e e' S1=>?_⟩;refine Cj ?_;exact⟨bq,S1,fun w H2 bQ e2 hW S2 f2=>k' w H2 bQ (e.trans e2) (e'.trans hW) S2 f2⟩
def aU:MA:=fun Γ=>some ([],Γ)
def ck(m:MX)(n:MA):MA:=fun Γ=>(m Γ).bind fun p=>(n p.2).map fun q=>(p.1.tree::q.1,q.2)
def aQ(m:MX)(n:MA):MA:=fun Γ=>(m Γ).bind fun p=>(n (dH p.1 p.2).2).map fun q=>((dH p.1 p.2).1::q.1,q.2)
theorem aH:tK X P [] aU:=fun Γ ts Γ' h=>by
 cases h
 exact qx.imp fun σ H Q ⟨Hs,S,k⟩=>k [] H Hs (aA.refl _) (aA.refl _) S .nil
theorem aD:Ah X P [] aU:=fun Γ ts Γ' h=>by
 cases h
 exact qx.imp fun σ H Q ⟨Hs,S,k⟩=>k [] H Hs (aA.refl _) (aA.refl _) S bU
theorem av{m:MX}{n:MA}(ha:bj X P e m)(hr:tK X P es n)(hs:starEach (e::es) X.env=(false,eval e X.env)::starEach es X.env:=by rfl):tK X P (e::es) (ck m n):=fun Γ ts Γ' h=>by
 unfold ck at h
 cases h1:m Γ with
 |none=>rw [h1]at h;cases h
 |some p =>
  rw [h1]at h;have h:(n p.2).map (fun q=>(p.1.tree::q.1,q.2))=some (ts,Γ'):=h
  cases h2:n p.2 with
  |none=>rw [h2]at h;cases h
  |some q =>
   rw [h2]at h
   cases h
   refine(gL (ha _ _ _ h1) (hr _ _ _ h2) hs).imp fun σ H Q ⟨Hs,S,k⟩=>⟨Hs,S,fun v H1 bq e1 en S1 f1=>⟨bq,S1,fun vs H2 bQ e2 hW S2 f2=>?_⟩⟩;exact k _ H2 bQ (e1.trans e2) (en.trans hW) S2 (.cons ((S1.DR f1).mono e2 hW) f2)
theorem ag{m:MX}{n:MA}(ha:bj X P e m)(hr:Ah X P es n)(hs:starEach (e::es) X.env=(false,eval e X.env)::starEach es X.env:=by rfl):Ah X P (e::es) (aQ m n):=fun Γ ts Γ' h=>by
 unfold aQ at h
 cases h1:m Γ with
 |none=>rw [h1]at h;cases h
 |some p =>
  rw [h1]at h;have h:(n (dH p.1 p.2).2).map (fun q=>((dH p.1 p.2).1::q.1,q.2))=some (ts,Γ'):=h
  cases h2:n (dH p.1 p.2).2 with
  |none=>rw [h2]at h;cases h
  |some q =>
   rw [h2]at h
   cases h
   refine(gL (ha _ _ _ h1) (hr _ _ _ h2) hs).imp fun σ H Q ⟨Hs,S,k⟩=>⟨Hs,S,fun v H1 bq e1 en S1 f1=>?_⟩;obtain⟨PV,g,WC,tr⟩:=S1.dH f1;refine⟨PV,WC,fun vs H2 bQ e2 hW S2 f2=>?_⟩;exact k _ H2 bQ (e1.trans e2) (en.trans (g.trans hW)) S2 (bK (cA hW _ _ tr) f2)
def eA(n:MA):MX:=fun Γ=>(n Γ).bind fun p=>if p.1.length<=1000 then some (.own (.lst p.1),p.2)else none
def lH(n:MA):MX:=fun Γ=>(n Γ).bind fun p=>if p.1.length<=1000 then some (.sh (.tup p.1),p.2)else none
theorem bV{n:MA}(h:Ah X P es n):bj X P (.List es pos) (eA n):=fun Γ r Γ' hm=>by
 unfold eA at hm
 cases h1:n Γ with
 |none=>rw [h1]at hm;cases hm
 |some p =>
  rw [h1]at hm;have hm:(if p.1.length<=1000 then some (R.own (.lst p.1),p.2)else none)=some (r,Γ'):=hm;by_cases hl:p.1.length<=1000
  ·rw [if_pos hl]at hm
   cases hm
   refine(Pf (h _ _ _ h1)).imp fun σ H Q ⟨Hs,S,k⟩=>⟨Hs,S,fun vs H1 bq e1 en S1 f1=>⟨by rw [aR f1];exact le_of_lt (aG hl),fun p n=>?_⟩⟩;obtain⟨bQ,e2,hW,S2,f2⟩:=Out.fin (.tI n f1) S1;exact k _ _ bQ (e1.trans e2) (en.trans hW) S2 f2
  ·rw [if_neg hl]at hm
   cases hm
theorem i6{n:MA}{x1:Nat}(h:Ah X P es n):bj X P (.Tuple es x1 pos) (lH n):=fun Γ r Γ' hm=>by
 unfold lH at hm
 cases h1:n Γ with
 |none=>rw [h1]at hm;cases hm
 |some p =>
  rw [h1]at hm;have hm:(if p.1.length<=1000 then some (R.sh (.tup p.1),p.2)else none)=some (r,Γ'):=hm;by_cases hl:p.1.length<=1000
  ·rw [if_pos hl]at hm
   cases hm
   refine(Pe (h _ _ _ h1)).imp fun σ H Q ⟨Hs,S,k⟩=>⟨Hs,S,fun vs H1 bq e1 en S1 f1=>⟨by rw [aR f1];exact le_of_lt (aG hl),fun p n=>?_⟩⟩;obtain⟨bQ,e2,hW,S2,f2⟩:=Out.fin (.PR n f1) S1;exact k _ _ bQ (e1.trans e2) (en.trans hW) S2 f2
  ·rw [if_neg hl]at hm
   cases hm
def cS(K:KC)(g:List T->Option R):List V->Hp->VK->Prop:=fun vs H Q=>∃Hs ts r,aA Hs H/\nX K H Hs vs ts/\g ts=some r/\∀v H',Out K Hs H v H' r->Q v H'
def ro(X:Cx)(cl:Nat->Addr)(f:Value)(g:List T->Option R):Prop:=gx X f (cS ⟨X.K,cl⟩ g)
def ba(g:List T->Option R)(n:MA):MX:=fun Γ=>(n Γ).bind fun p=>(g p.1).map fun r=>(r,p.2)
theorem qD{g:List T->Option R}{n:MA}{Γ Γ':G}{r:R}(h:ba g n Γ=some (r,Γ')):∃ts,n Γ=some (ts,Γ')/\g ts=some r:=by
 unfold ba at h
 cases h1:n Γ with
 |none=>rw [h1]at h;cases h
 |some p =>
  rw [h1]at h;have h:(g p.1).map (fun r=>(r,p.2))=some (r,Γ'):=h
  cases h2:g p.1 with
  |none=>rw [h2]at h;cases h
  |some z =>
   rw [h2]at h
   cases h
   exact⟨p.1,rfl,h2⟩
theorem DV{K:KC}{g:List T->Option R}{Γ Γ':G}{r:R}{ts:List T}(hg:g ts=some r){σ:St}{H:Hp}{Q:VK}(h:NQ K P Γ r Γ' σ H Q):Wf (cS K g) (rdA K P Γ ts Γ') σ H Q:=by
 obtain⟨Hs,S,k⟩:=h;refine⟨Hs,S,fun vs H1 bq e1 en S1 f1=>⟨bq,ts,r,S1.sub,f1,hg,fun v H2 o=>?_⟩⟩;obtain⟨bQ,e2,hW,S2,f2⟩:=o.fin S1;exact k v H2 bQ (e1.trans e2) (en.trans hW) S2 f2
theorem bL{x:Str}{p:Pos}{id:String}{g:List T->Option R}{n:MA}(hc:ro X P.cl (.builtin id) g)(hg:Gl X x)(hm:X.mg x=none)(hv:bootBuiltins x=some (.builtin id))(ha:tK X P (e::es) n)(hn:x ≠ "__name__" := by decide)(sU:(x==("__debug__" : Str))=false:=by decide)
  (he:starEach (e::es) X.env=(false,eval e X.env)::starEach es X.env:=by rfl) (nt:(backTo pos (starEach es X.env)).any (·.1)=false:=by rfl):bj X P (.Call (.Name x p) (e::es) [] pos) (ba g n):=fun Γ r Γ' h=>by
 obtain⟨ts,h1,h2⟩:=qD h;exact(sV hc hg hm hv (ha _ _ _ h1) hn sU he nt).imp fun σ H Q q=>DV h2 q
theorem cX{x:Str}{p:Pos}{T':String}{g:List T->Option R}{n:MA}(hc:ro X P.cl (.type T') g)(hg:Gl X x)(hm:X.mg x=none)(hv:bootBuiltins x=some (.type T'))(ha:tK X P (e::es) n)(hn:x ≠ "__name__" := by decide)(sU:(x==("__debug__" : Str))=false:=by decide)
  (he:starEach (e::es) X.env=(false,eval e X.env)::starEach es X.env:=by rfl) (nt:(backTo pos (starEach es X.env)).any (·.1)=false:=by rfl):bj X P (.Call (.Name x p) (e::es) [] pos) (ba g n):=fun Γ r Γ' h=>by
 obtain⟨ts,h1,h2⟩:=qD h;exact(E2 hc hg hm hv (ha _ _ _ h1) hn sU he nt).imp fun σ H Q q=>DV h2 q
abbrev CF:=G->Option (R×G)
def B3:Nat->Option V:=fun _=>none
def hZ(K:KC)(np:Nat)(cf:CF):Sp:=fun vs H Q _=>vs.length=np/\∃as r Γ' Hs H0,cf as=some (r,Γ')/\aF K ⟨H0,Hs,K.cl,B3⟩ as (vs.map some) H Hs /\
 ∀v H' bu,aA Hs bu->aF K ⟨H0,Hs,K.cl,B3⟩ (Γ'.take np) (vs.map some) H' bu->gZ K ⟨H0,Hs,K.cl,B3⟩ (Γ'.take np) (vs.map some) H' bu v r->Q v H'
def aE(np:Nat)(cf:CF)(n:MA):MX:=fun Γ=>(n Γ).bind fun p=>if p.1.length=np then match cf (p.1.map Slot.sh)with
 |some (.sh t,_)=>some (.sh t,p.2)
 |some (.own t,_)=>some (.own t,p.2)
 |_=>none else none
theorem Cq{np:Nat}{cf:CF}{n:MA}{Γ Γ':G}{r:R}(h:aE np cf n Γ=some (r,Γ')):∃ts Γ2,n Γ=some (ts,Γ')/\ts.length=np/\cf (ts.map Slot.sh)=some (r,Γ2)/\((∃t,r=.sh t)\/∃t,r=.own t):=by
 unfold aE at h
 cases h1:n Γ with
 |none=>rw [h1]at h;cases h
 |some p =>
  rw [h1]at h;obtain⟨ts,Γ1⟩:=p;dsimp only [Option.bind]at h;split at h
  ·rename_i hl;split at h
   ·rename_i t Γ2 q
    cases h
    exact⟨ts,Γ2,rfl,hl,q,.inl ⟨t,rfl⟩⟩
   ·rename_i t Γ2 q
    cases h
    exact⟨ts,Γ2,rfl,hl,q,.inr ⟨t,rfl⟩⟩
   ·cases h
  ·cases h
theorem iC{K:KC}{H Hs:Hp}{vs:List V}{ts:List T}(s:aA Hs H)(r:fz K Hs vs ts):aF K ⟨H,Hs,K.cl,B3⟩ (ts.map Slot.sh) (vs.map some) H Hs where
 kept:=aA.refl _
 sub:=s
 new:=fun a o h=>.inl h
 fix:=fun i v h=>nomatch h
 sh:=fun i t h=>by
  rw [getElem?_map]at h
  cases e:ts[i]? with
  |none=>rw [e]at h;cases h
  |some u =>
   rw [e]at h
   cases h
   obtain⟨v,h1,h2⟩:=ip r e;exact⟨v,by rw [getElem?_map,h1];rfl,h2⟩
 own:=fun i t h=>by
  rw [getElem?_map]at h
  cases e:ts[i]? with
  |none=>rw [e]at h;cases h
  |some u=>rw [e]at h;cases h
 apart:=fun i j t u a _ h _=>by
  rw [getElem?_map]at h
  cases e:ts[i]? with
  |none=>rw [e]at h;cases h
  |some u=>rw [e]at h;cases h
 len:=by rw [length_map,length_map,aR r]
theorem aF.after{K:KC}{Γ Γ2:G}{σ σ2:St}{H H' Hs bu:Hp}(S:aF K P Γ σ H Hs)(e:aA Hs bu)(S2:aF K ⟨H,Hs,K.cl,B3⟩ Γ2 σ2 H' bu):aF K P Γ σ H' bu :=
 (S.grow S2.kept).share e S2.sub (fun a o h=>by
  rcases S2.new a o h with q|q
  ·exact S.new a o q
  ·exact .inr (S.kept.free q)) fun i t a h1 h2=>by
  obtain⟨b,q1,_,q3⟩:=S.own i t h1;rw [h2]at q1
  cases q1
  cases z:bu a with
  |none=>rfl
  |some o =>
   rcases S2.new a o z with q|q
   ·have q4:=q3.free;rw [show Hs a=some o from q]at q4
    cases q4
   ·obtain⟨o',ho,_⟩:=q3.there;rw [show H a=none from q]at ho
    cases ho
theorem gZ.after{K:KC}{Γ Γ2:G}{σ σ2:St}{H H' Hs bu:Hp}{v:V}{r:R}(S:aF K P Γ σ H Hs)(hr:(∃t,r=.sh t)\/∃t,r=.own t)(f:gZ K ⟨H,Hs,K.cl,B3⟩ Γ2 σ2 H' bu v r):gZ K P Γ σ H' bu v r:=by
 rcases hr with⟨t,rfl⟩|⟨t,rfl⟩
 ·exact f
 ·obtain⟨a,rfl,n,q,_⟩:=f;exact⟨a,rfl,S.kept.free n,q,S.j1 n⟩
theorem HL{K:KC}{np:Nat}{cf:CF}{E:XK}{Γ Γ' Γ2:G}{r:R}{ts:List T}(hl:ts.length=np)(hg:cf (ts.map Slot.sh)=some (r,Γ2))(hr:(∃t,r=.sh t)\/∃t,r=.own t){σ:St}{H:Hp}{Q:VK}(h:NQ K P Γ r Γ' σ H Q):
  WA K P Γ ts Γ' σ H fun vs H1=>hZ K np cf vs H1 Q E:=by
 obtain⟨Hs,S,k⟩:=h;refine⟨Hs,S,fun vs H1 bq e1 en S1 f1=>⟨by rw [aR f1,hl],ts.map Slot.sh,r,Γ2,bq,H1,hg,iC S1.sub f1,fun v H2 bQ e2 S2 f2=>?_⟩⟩;exact k v H2 bQ (e1.trans S2.kept) (en.trans e2) (S1.after e2 S2) (gZ.after S1 hr f2)
theorem HM{k np:Nat}{f:Addr}{fd:FuncData}{ps:List Str}{cf:CF}{x:Str}{p:Pos}{n:MA}(F:bP X.prog X.w X.K X.mg X.base hV k f fd ps (hZ (kc X P) np cf))(hr:dr k X.A)(hg:Gl X x)(hm:X.mg x=some (.ref f))(hk:keepIn X.K (.ref f)=true)(hb:Binds X.K fd ps [])
  (ha:Ah X P (e::es) n) (sU:(x==("__debug__" : Str))=false:=by decide) (he:starEach (e::es) X.env=(false,eval e X.env)::starEach es X.env:=by rfl) (nt:(backTo pos (starEach es X.env)).any (·.1)=false:=by rfl) :
  bj X P (.Call (.Name x p) (e::es) [] pos) (aE np cf n):=fun Γ r Γ' h=>by
 obtain⟨ts,Γ2,h1,hl,h2,Fs⟩:=Cq h;refine(r8 (dvs:=[]) (E:=E0) F hr hg hm hk hb .nil wG (ha _ _ _ h1) sU he nt).imp fun σ H Q q=>?_;have z:=HL (E:=E0) hl h2 Fs q;show WA (kc X P) P Γ ts Γ' σ H fun vs H1=>hZ (kc X P) np cf (vs++[]) H1 Q E0;simp only [append_nil];exact z
end
inductive Res where
 |nx (Γ:G)|rt (r:R) (Γ:G)|bk (Γ:G)|ct (Γ:G)
abbrev MS:=G->Option Res
def SW(K:KC)(P:Fx)(D:Ends)(σ':St)(H' bu:Hp):Res->Prop
 |.nx Γ'=>aF K P Γ' σ' H' bu->D.nx σ' H'
 |.bk Γ'=>aF K P Γ' σ' H' bu->D.bk σ' H'
 |.ct Γ'=>aF K P Γ' σ' H' bu->D.ct σ' H'
 |.rt r Γ'=>∀v,aF K P Γ' σ' H' bu->gZ K P Γ' σ' H' bu v r->D.rt v H'
def NR(K:KC)(P:Fx)(Γ:G)(res:Res):TS:=fun D σ H=>∃Hs,aF K P Γ σ H Hs/\∀σ' H' bu,aA Hs bu->SW K P D σ' H' bu res
def WD(K:KC)(P:Fx)(m:MS):TS:=fun D σ H=>∃Γ res,m Γ=some res/\NR K P Γ res D σ H
def lI(X:Cx)(P:Fx)(st:Stmt)(m:MS):Prop:=PS X st (WD (kc X P) P m)
def iM(X:Cx)(P:Fx)(st:List Stmt)(m:MS):Prop:=vi X st (WD (kc X P) P m)
theorem h7{X:Cx}{P:Fx}{st:Stmt}{m:MS}(h:∀Γ res,m Γ=some res->PS X st (NR (kc X P) P Γ res)):lI X P st m:=fun pins s σ H D I ⟨Γ,res,hm,q⟩=>h Γ res hm pins s σ H D I q
theorem lI.at{X:Cx}{P:Fx}{st:Stmt}{m:MS}(h:lI X P st m){Γ:G}{res:Res}(hm:m Γ=some res):PS X st (NR (kc X P) P Γ res):=L2.PS.imp h fun D σ H q=>⟨Γ,res,hm,q⟩
theorem iM.at{X:Cx}{P:Fx}{st:List Stmt}{m:MS}(h:iM X P st m){Γ:G}{res:Res}(hm:m Γ=some res):vi X st (NR (kc X P) P Γ res):=L2.vi.imp h fun D σ H q=>⟨Γ,res,hm,q⟩
theorem xX{X:Cx}{P:Fx}{st:List Stmt}{m:MS}(h:∀Γ res,m Γ=some res->vi X st (NR (kc X P) P Γ res)):iM X P st m:=fun pins s σ H D I ⟨Γ,res,hm,q⟩=>h Γ res hm pins s σ H D I q
section
variable {K:KC}{P:Fx}{Γ:G}{σ:St}{H H' Hs bu:Hp}
theorem get_set{α:Type}{l:List α}{i j:Nat}{x y:α}(h:(l.set i x)[j]?=some y):(j=i/\i<l.length/\y=x)\/(j≠i/\l[j]?=some y):=by
 by_cases z:i=j
 ·subst z;have hl:i<l.length:=by
   have:=(List.getElem?_eq_some_iff.mp h).1;rw [length_set]at this;exact this
  rw [getElem?_set_self hl]at h
  cases h
  exact .inl ⟨rfl,hl,rfl⟩
 ·rw [getElem?_set_ne z]at h;exact .inr ⟨fun e=>z e.symm,h⟩
theorem aF.SX(S:aF K P Γ σ H Hs)(i:Nat):aF K P (Γ.set i .no) σ H Hs where
 kept:=S.kept
 sub:=S.sub
 new:=S.new
 fix:=S.fix
 sh:=fun j u h=>by
  rcases get_set h with⟨_,_,e⟩|⟨_,h⟩
  ·cases e
  ·exact S.sh j u h
 own:=fun j u h=>by
  rcases get_set h with⟨_,_,e⟩|⟨_,h⟩
  ·cases e
  ·exact S.own j u h
 apart:=fun j k u v a n h h'=>by
  rcases get_set h with⟨_,_,e⟩|⟨_,h⟩
  ·cases e
  ·rcases get_set h' with⟨_,_,e⟩|⟨_,h'⟩
   ·cases e
   ·exact S.apart j k u v a n h h'
 len:=by rw [length_set];exact S.len
theorem aF.HN(S:aF K P Γ σ H Hs){i:Nat}{v:V}{t:T}(hF:P.F i=none)(q:Tr K Hs v t):aF K P (Γ.set i (.sh t)) (σ.set i (some v)) H Hs where
 kept:=S.kept
 sub:=S.sub
 new:=S.new
 fix:=fun j w h=>by
  have z:i≠j:=by
   rintro rfl;rw [hF]at h
   cases h
  rw [getElem?_set_ne z];exact S.fix j w h
 sh:=fun j u h=>by
  rcases get_set h with⟨e,l,e'⟩|⟨n,h⟩
  ·subst e
   cases e'
   exact⟨v,getElem?_set_self (by rw [<-S.len];exact l),q⟩
  ·rw [getElem?_set_ne fun e=>n e.symm];exact S.sh j u h
 own:=fun j u h=>by
  rcases get_set h with⟨_,_,e⟩|⟨n,h⟩
  ·cases e
  ·rw [getElem?_set_ne fun e=>n e.symm];exact S.own j u h
 apart:=fun j k u w a n h h'=>by
  rcases get_set h with⟨_,_,e⟩|⟨n1,h⟩
  ·cases e
  ·rcases get_set h' with⟨_,_,e⟩|⟨n2,h'⟩
   ·cases e
   ·rw [getElem?_set_ne fun e=>n1 e.symm,getElem?_set_ne fun e=>n2 e.symm];exact S.apart j k u w a n h h'
 len:=by rw [length_set,length_set];exact S.len
theorem aF.HP(S:aF K P Γ σ H Hs){i:Nat}{v:V}{t:T}(hF:P.F i=none)(q:gZ K P Γ σ H Hs v (.own t)):aF K P (Γ.set i (.own t)) (σ.set i (some v)) H Hs where
 kept:=S.kept
 sub:=S.sub
 new:=S.new
 fix:=fun j w h=>by
  have z:i≠j:=by
   rintro rfl;rw [hF]at h
   cases h
  rw [getElem?_set_ne z];exact S.fix j w h
 sh:=fun j u h=>by
  rcases get_set h with⟨_,_,e⟩|⟨n,h⟩
  ·cases e
  ·rw [getElem?_set_ne fun e=>n e.symm];exact S.sh j u h
 own:=fun j u h=>by
  obtain⟨a,rfl,n0,o,_⟩:=q;rcases get_set h with⟨e,l,e'⟩|⟨n,h⟩
  ·subst e
   cases e'
   exact⟨a,getElem?_set_self (by rw [<-S.len];exact l),n0,o⟩
  ·rw [getElem?_set_ne fun e=>n e.symm];exact S.own j u h
 apart:=fun j k u w b n h h'=>by
  obtain⟨a,rfl,n0,o,no⟩:=q;rcases get_set h with⟨e,l,e'⟩|⟨n1,h⟩
  ·subst e;rcases get_set h' with⟨e2,_,_⟩|⟨n2,h'⟩
   ·exact absurd e2.symm n
   ·rw [getElem?_set_ne fun e=>n2 e.symm,getElem?_set_self (by rw [<-S.len];exact l)];intro q1 q2
    cases q1
    exact no k w h' q2
  ·rcases get_set h' with⟨e2,l2,_⟩|⟨n2,h'⟩
   ·rw [getElem?_set_ne fun e=>n1 e.symm,e2,getElem?_set_self (by rw [<-S.len];exact l2)];intro q1 q2
    cases q2
    exact no j u (by assumption) q1
   ·rw [getElem?_set_ne fun e=>n1 e.symm,getElem?_set_ne fun e=>n2 e.symm];exact S.apart j k u w b n h h'
 len:=by rw [length_set,length_set];exact S.len
theorem aF.rewrite(S:aF K P Γ σ H Hs){i:Nat}{t t':T}{a:Addr}{o:HO}(h:Γ[i]?=some (.own t))(ha:σ[i]?=some (some (.ref a)))(q:lD K (upd H a o) Hs a t'):aF K P (Γ.set i (.own t')) σ (upd H a o) Hs:=by
 obtain⟨b,h1,h2,h3⟩:=S.own i t h;rw [ha]at h1
 cases h1
 have PQ:i<Γ.length:=(List.getElem?_eq_some_iff.mp h).1;refine{kept:=fun c u e=>?_,sub:=fun c u e=>?_,new:=S.new,fix:=S.fix,sh:=fun j u hj=>?_,own:=fun j u hj=>?_,apart:=fun j k u v c n hj hk=>?_,len:=by rw [length_set];exact S.len}
 ·rw [aV (bT e h2)];exact S.kept c u e
 ·rw [aV (bT e h3.free)];exact S.sub c u e
 ·rcases get_set hj with⟨_,_,e⟩|⟨_,hj⟩
  ·cases e
  ·exact S.sh j u hj
 ·rcases get_set hj with⟨e,_,e'⟩|⟨n,hj⟩
  ·subst e
   cases e'
   exact⟨a,ha,h2,q⟩
  ·obtain⟨c,q1,q2,q3⟩:=S.own j u hj;have z:c≠a:=by
    rintro rfl;exact S.apart i j t u _ (fun e=>n e.symm) h hj ha q1
   exact⟨c,q1,q2,q3.mono (fun o' e=>by rw [aV z];exact e) (aA.refl _) q3.free⟩
 ·have e1:∀{j:Nat}{u:T},(Γ.set i (.own t'))[j]?=some (.own u)->∃u',Γ[j]?=some (Slot.own u'):=fun{j u} hj=>by
   rcases get_set hj with⟨e,_,_⟩|⟨_,hj⟩
   ·subst e;exact⟨t,h⟩
   ·exact⟨u,hj⟩
  obtain⟨u',hj'⟩:=e1 hj;obtain⟨v',UU⟩:=e1 hk;exact S.apart j k u' v' c n hj' UU
end
section
variable {X:Cx}{P:Fx}{a b c e:Expr}{es:List Expr}{pos pos':Pos}{st:Stmt}{rest:List Stmt}
def aN:MS:=fun Γ=>some (.nx Γ)
def aL(m n:MS):MS:=fun Γ=>(m Γ).bind fun r=>match r with
 |.nx Γ1=>n Γ1
 |r=>some r
theorem aC:iM X P [] aN:=xX fun Γ res h=>by
 cases h
 exact Kl.imp fun D σ H ⟨Hs,S,k⟩=>k σ H Hs (aA.refl _) S
theorem HR{m n:MS}{Γ:G}{res:Res}(h:aL m n Γ=some res):(∃Γ1,m Γ=some (.nx Γ1)/\n Γ1=some res)\/(m Γ=some res/\∀Γ1,res ≠ .nx Γ1):=by
 unfold aL at h
 cases h1:m Γ with
 |none=>rw [h1]at h;cases h
 |some r =>
  rw [h1]at h
  cases r with
  |nx Γ1=>exact .inl ⟨Γ1,rfl,h⟩
  |rt r Γ1=>cases h;exact .inr ⟨rfl,fun _ e=>nomatch e⟩
  |bk Γ1=>cases h;exact .inr ⟨rfl,fun _ e=>nomatch e⟩
  |ct Γ1=>cases h;exact .inr ⟨rfl,fun _ e=>nomatch e⟩
theorem PX{K:KC}{Γ:G}{res:Res}(PY:∀Γ1,res ≠ .nx Γ1){D:Ends}{f:St->Hp->Prop}{σ:St}{H:Hp}(h:NR K P Γ res D σ H):NR K P Γ res {D with nx:=f} σ H:=by
 obtain⟨Hs,S,k⟩:=h;refine⟨Hs,S,fun σ' H' bu e=>?_⟩
 cases res with
 |nx Γ1=>exact absurd rfl (PY Γ1)
 |rt r Γ1=>exact k σ' H' bu e
 |bk Γ1=>exact k σ' H' bu e
 |ct Γ1=>exact k σ' H' bu e
theorem ae{m n:MS}(h1:lI X P st m)(h2:iM X P rest n):iM X P (st::rest) (aL m n):=xX fun Γ res h=>by
 rcases HR h with⟨Γ1,q1,q2⟩|⟨q1,PY⟩
 ·refine(zL (h1.at q1) (h2.at q2)).imp fun D σ H ⟨Hs,S,k⟩=>⟨Hs,S,fun σ' H' bu e S'=>⟨bu,S',fun σ2 H2 bQ e2=>k σ2 H2 bQ (e.trans e2)⟩⟩
 ·exact(zL (h1.at q1) jI).imp fun D σ H q=>PX PY q
theorem af{m:MS}(h1:lI X P st m):iM X P [st] m:=xX fun Γ res h=>Km (h1.at h)
def bJ(i:Nat)(m:MX):MS:=fun Γ=>(m Γ).map fun p=>match p.1 with
 |.sh t=>.nx (p.2.set i (.sh t))
 |.own t=>.nx (p.2.set i (.own t))
 |.bor j t=>.nx ((p.2.set j (.sh t)).set i (.sh t))
theorem DW{i:Nat}{x:Str}{m:MX}(hN:X.N.Nodup)(hi:X.N[i]?=some x)(hx:Loc X.env.scope x)(hF:P.F i=none)(he:bj X P e m)(hs:swapsWith e (some (.Name x pos')) pos.line X.env=pure false:=by rfl)(hf:X.fn x=true\/X.env.scope.names.lookup x=some .local:=by first|exact .inl rfl|exact .inr rfl|assumption):
  lI X P (.Assign [.Name x pos'] e pos) (bJ i m):=h7 fun Γ res h=>by
 unfold bJ at h
 cases h1:m Γ with
 |none=>rw [h1]at h;cases h
 |some p =>
  rw [h1]at h;obtain⟨r,Γ1⟩:=p;refine(OZ hN hi hx (he _ _ _ h1) hs hf).imp fun D σ H ⟨Hs,S,k⟩=>⟨Hs,S,fun v H1 bq e1 en S1 f1=>?_⟩;show D.nx (σ.set i (some v)) H1
  cases r with
  |sh t =>
   cases h
   exact k _ H1 bq en (S1.HN hF f1)
  |own t =>
   cases h
   exact k _ H1 bq en (S1.HP hF f1)
  |bor j t =>
   cases h
   obtain⟨bQ,g,S2,tr⟩:=S1.dH f1;exact k _ H1 bQ (en.trans g) (S2.HN hF tr)
def aS(np:Nat)(m:MX):MS:=fun Γ=>(m Γ).map fun p=>match p.1 with
 |.bor j t=>if j<np then .rt (.sh t) (p.2.set j (.sh t))else .rt (.own t) (p.2.set j .no)
 |r=>.rt r p.2
theorem au{np:Nat}{m:MX}(he:bj X P e m):lI X P (.Return (some e) pos) (aS np m):=h7 fun Γ res h=>by
 unfold aS at h
 cases h1:m Γ with
 |none=>rw [h1]at h;cases h
 |some p =>
  rw [h1]at h;obtain⟨r,Γ1⟩:=p;refine(GR (he _ _ _ h1)).imp fun D σ H ⟨Hs,S,k⟩=>⟨Hs,S,fun v H1 bq e1 en S1 f1=>?_⟩
  cases r with
  |sh t =>
   cases h
   exact k σ H1 bq en v S1 f1
  |own t =>
   cases h
   exact k σ H1 bq en v S1 f1
  |bor j t =>
   have h:(if j<np then Res.rt (.sh t) (Γ1.set j (.sh t))else .rt (.own t) (Γ1.set j .no))=res:=Option.some.inj h;by_cases hj:j<np
   ·rw [if_pos hj]at h;subst h;obtain⟨bQ,g,S2,tr⟩:=S1.dH f1;exact k σ H1 bQ (en.trans g) v S2 tr
   ·rw [if_neg hj]at h;subst h;obtain⟨q1,q2⟩:=f1;obtain⟨a,h3,h4,h5⟩:=S1.own j t q2;rw [q1]at h3
    cases h3
    refine k σ H1 bq en _ (S1.SX j) ⟨a,rfl,h4,h5,fun i u hi=>?_⟩;rcases get_set hi with⟨_,_,e⟩|⟨n,hi⟩
    ·cases e
    ·exact S1.apart j i t u a (fun e=>n e.symm) q2 hi q1
theorem HS:lI X P (.Return none pos) (fun Γ=>some (.rt (.sh .cg) Γ)):=h7 fun Γ res h=>by
 cases h
 exact Kn.imp fun D σ H ⟨Hs,S,k⟩=>k σ H Hs (aA.refl _) .cg S rfl
def SY(m:MX):MS:=fun Γ=>(m Γ).map fun p=>.nx p.2
def eE(c:MT)(m n:MS):MS:=fun Γ=>(c Γ).bind fun p=>if p.1=true then m p.2 else n p.2
theorem aP{t:MT}{m n:MS}{x y:List Stmt}(hc:rT X P c t)(ha:iM X P x m)(hb:iM X P y n):lI X P (.If c x y pos) (eE t m n):=h7 fun Γ res h=>by
 unfold eE at h
 cases h1:t Γ with
 |none=>rw [h1]at h;cases h
 |some p =>
  rw [h1]at h;obtain⟨k,Γ1⟩:=p
  cases k with
  |true =>
   have h:m Γ1=some res:=h;refine(GS (hc _ _ _ h1) (ha.at h) jI).imp fun D σ H ⟨Hs,S,k'⟩=>⟨Hs,S,fun H1 bq e e' S1=>?_⟩;refine Ck ?_;exact⟨bq,S1,fun σ2 H2 bQ e2=>k' σ2 H2 bQ (e'.trans e2)⟩
  |false =>
   have h:n Γ1=some res:=h;refine(GS (hc _ _ _ h1) jI (hb.at h)).imp fun D σ H ⟨Hs,S,k'⟩=>⟨Hs,S,fun H1 bq e e' S1=>?_⟩;refine Cj ?_;exact⟨bq,S1,fun σ2 H2 bQ e2=>k' σ2 H2 bQ (e'.trans e2)⟩
abbrev BG:=T->G->Option G
def rdG(K:KC)(P:Fx)(b:BG):TG:=fun v σ H Q=>∃t Γ Γ' Hs,b t Γ=some Γ'/\aF K P Γ σ H Hs/\Tr K Hs v t/\∀σ',aF K P Γ' σ' H Hs->Q σ' H
def xY(X:Cx)(P:Fx)(tg:Expr)(b:BG):Prop:=PG X tg (rdG (kc X P) P b)
abbrev Lb:=List T->G->Option G
def WE(K:KC)(P:Fx)(b:Lb):Ko:=fun vs σ H Q=>∃ts Γ Γ' Hs,b ts Γ=some Γ'/\aF K P Γ σ H Hs/\fz K Hs vs ts/\∀σ',aF K P Γ' σ' H Hs->Q σ' H
def DX(X:Cx)(P:Fx)(tg:List Expr)(b:Lb):Prop:=Kp X tg (WE (kc X P) P b)
def aM(i:Nat):BG:=fun t Γ=>some (Γ.set i (.sh t))
theorem jP{i:Nat}{x:Str}(hN:X.N.Nodup)(hi:X.N[i]?=some x)(hx:Loc X.env.scope x)(hF:P.F i=none)(hf:X.fn x=true\/X.env.scope.names.lookup x=some .local:=by first|exact .inl rfl|exact .inr rfl|assumption):xY X P (.Name x pos) (aM i) :=
 fun pins s σ H v u Q I r ⟨t,Γ,Γ',Hs,hb,S,tr,k⟩=>by
  cases hb
  exact Kq hN hi hx hf pins s σ H v u Q I r (k _ (S.HN hF tr))
def j3:Lb:=fun ts Γ=>match ts with
 |[]=>some Γ
 |_=>none
def bW(b:BG)(c:Lb):Lb:=fun ts Γ=>match ts with
 |t::r=>(b t Γ).bind fun Γ1=>c r Γ1
 |[]=>none
theorem iN:DX X P [] j3:=fun pins s σ H v u Q I r ⟨ts,Γ,Γ',Hs,hb,S,tr,k⟩=>by
 cases ts with
 |nil =>
  cases hb
  exact Kr pins s σ H v u Q I r ⟨tr,k _ S⟩
 |cons t r=>cases hb
theorem PG.imp{X:Cx}{tg:Expr}{t t':TG}(h:PG X tg t)(i:∀v σ H Q,t' v σ H Q->t v σ H Q):PG X tg t':=fun pins s σ H v u Q I r q=>h pins s σ H v u Q I r (i v σ H Q q)
theorem Kp.imp{X:Cx}{tg:List Expr}{t t':Ko}(h:Kp X tg t)(i:∀v σ H Q,t' v σ H Q->t v σ H Q):Kp X tg t':=fun pins s σ H v u Q I r q=>h pins s σ H v u Q I r (i v σ H Q q)
theorem cq{b:BG}{d:Lb}(h1:xY X P e b)(h2:DX X P es d)(hs:(assignEach (e::es) X.env).map (·.2)=assign e X.env::(assignEach es X.env).map (·.2):=by rfl):DX X P (e::es) (bW b d):=by
 refine Kp.imp (GU h1 h2 hs) fun vs σ H Q ⟨ts,Γ,Γ',Hs,hb,S,tr,k⟩=>?_
 cases ts with
 |nil=>cases hb
 |cons t r =>
  obtain⟨v,vr,rfl,q1,q2⟩:=tr;have hb:(b t Γ).bind (fun Γ1=>d r Γ1)=some Γ':=hb
  cases h3:b t Γ with
  |none=>rw [h3]at hb;cases hb
  |some Γ1 =>
   rw [h3]at hb;exact⟨v,vr,rfl,t,Γ,Γ1,Hs,h3,S,q1,fun σ' S'=>⟨r,Γ1,Γ',Hs,hb,S',q2,k⟩⟩
def j4(n:Nat)(d:Lb):BG:=fun t Γ=>match t with
 |.tup ts=>if ts.length=n then d ts Γ else none
 |_=>none
theorem j5{k n:Nat}{d:Lb}(hc:X.calm=true)(h:DX X P es d)(hn:(assignEach es X.env).length=n:=by rfl)(B9:(assignEach es X.env).findIdx? (·.1)=none:=by rfl):xY X P (.Tuple es k pos) (j4 n d):=by
 refine PG.imp (OX hc h hn B9) fun v σ H Q ⟨t,Γ,Γ',Hs,hb,S,tr,k⟩=>?_
 cases t with
 |tup ts =>
  have hb:(if ts.length=n then d ts Γ else none)=some Γ':=hb;by_cases hl:ts.length=n
  ·rw [if_pos hl]at hb;obtain⟨a,xs,rfl,sq,rs⟩:=tr;exact⟨a,xs,rfl,pK S.sub sq,by rw [aR rs];exact hl,ts,Γ,Γ',Hs,hb,S,rs,k⟩
  ·rw [if_neg hl]at hb
   cases hb
 |_=>cases hb
def xZ(b:BG)(m:MX):MS:=fun Γ=>(m Γ).bind fun p=>(b (dH p.1 p.2).1 (dH p.1 p.2).2).map .nx
theorem x8{tg:Expr}{b:BG}{m:MX}(he:bj X P e m)(hg:xY X P tg b)(hs:swapsWithSole [tg] e pos.line X.env=pure false:=by rfl)(hw:swappedStores [tg] e X.env=pure none:=by rfl)
  (h1:(assignEach [tg] X.env).map (·.2)=[assign tg X.env]:=by rfl):lI X P (.Assign [tg] e pos) (xZ b m):=h7 fun Γ res h=>by
 unfold xZ at h
 cases h2:m Γ with
 |none=>rw [h2]at h;cases h
 |some p =>
  rw [h2]at h;have h:(b (dH p.1 p.2).1 (dH p.1 p.2).2).map Res.nx=some res:=h
  cases h3:b (dH p.1 p.2).1 (dH p.1 p.2).2 with
  |none=>rw [h3]at h;cases h
  |some Γ2 =>
   rw [h3]at h
   cases h
   refine(OY (he _ _ _ h2) hg hs hw h1).imp fun D σ H ⟨Hs,S,k⟩=>⟨Hs,S,fun v H1 bq e1 en S1 f1=>?_⟩;obtain⟨bQ,g,S2,tr⟩:=S1.dH f1;exact⟨_,_,Γ2,bQ,h3,S2,tr,fun σ' S'=>k σ' H1 bQ (en.trans g) S'⟩
def dt(b:BG)(m:MS):List T->G->Option Res
 |[],Γ=>some (.nx Γ)
 |t::ts,Γ=>(b t Γ).bind fun Γ1=>(m Γ1).bind fun r=>match r with
  |.nx Γ2=>dt b m ts Γ2
  |.ct Γ2=>dt b m ts Γ2
  |.bk Γ2=>some (.nx Γ2)
  |.rt r Γ2=>some (.rt r Γ2)
theorem Cr{b:BG}{m:MS}{t:T}{ts:List T}{Γ:G}{res:Res}(h:dt b m (t::ts) Γ=some res):∃Γ1 r,b t Γ=some Γ1/\m Γ1=some r /\
  ((∃Γ2,(r=.nx Γ2\/r=.ct Γ2)/\dt b m ts Γ2=some res)\/(∃Γ2,r=.bk Γ2/\res=.nx Γ2)\/∃z Γ2,r=.rt z Γ2/\res=.rt z Γ2):=by
 unfold dt at h
 cases h1:b t Γ with
 |none=>rw [h1]at h;cases h
 |some Γ1 =>
  rw [h1]at h
  cases h2:m Γ1 with
  |none =>
   have h:(m Γ1).bind _=some res:=h;rw [h2]at h;cases h
  |some r =>
   have h:(m Γ1).bind (fun r=>match r with | .nx Γ2=>dt b m ts Γ2 | .ct Γ2=>dt b m ts Γ2 | .bk Γ2=>some (.nx Γ2) | .rt r Γ2=>some (.rt r Γ2))=some res:=h;rw [h2]at h;refine⟨Γ1,r,rfl,h2,?_⟩
   cases r with
   |nx Γ2=>exact .inl ⟨Γ2,.inl rfl,h⟩
   |ct Γ2=>exact .inl ⟨Γ2,.inr rfl,h⟩
   |bk Γ2=>cases h;exact .inr (.inl ⟨Γ2,rfl,rfl⟩)
   |rt z Γ2=>cases h;exact .inr (.inr ⟨z,Γ2,rfl,rfl⟩)
theorem Lc{K:KC}{b:BG}{m:MS}{t:T}{ts:List T}{Γ:G}{res:Res}{D:Ends}{σ:St}{H Hs WG:Hp}{v:V}{Pv:St->Hp->Prop}
  (h:dt b m (t::ts) Γ=some res) (S:aF K P Γ σ H Hs) (e0:aA WG Hs) (tr:Tr K Hs v t)
  (k:∀σ' H' bu,aA WG bu->SW K P D σ' H' bu res)
  (hP:∀Γ2 σ' H' bu,aA WG bu->dt b m ts Γ2=some res->aF K P Γ2 σ' H' bu->Pv σ' H') :
  rdG K P b v σ H fun σ2 H2=>WD K P m {D with nx:=Pv,ct:=Pv,bk:=D.nx} σ2 H2:=by
 obtain⟨Γ1,r,hb,hm,hr⟩:=Cr h;refine⟨t,Γ,Γ1,Hs,hb,S,tr,fun σ' S'=>⟨Γ1,r,hm,Hs,S',fun σ2 H2 bQ e2=>?_⟩⟩;rcases hr with⟨Γ2,hr,hl⟩|⟨Γ2,rfl,rfl⟩|⟨z,Γ2,rfl,rfl⟩
 ·rcases hr with rfl|rfl
  ·exact fun S2=>hP Γ2 σ2 H2 bQ (e0.trans e2) hl S2
  ·exact fun S2=>hP Γ2 σ2 H2 bQ (e0.trans e2) hl S2
 ·exact fun S2=>k σ2 H2 bQ (e0.trans e2) S2
 ·exact fun w S2 f2=>k σ2 H2 bQ (e0.trans e2) w S2 f2
theorem drop_cons{α:Type}{l:List α}{i:Nat}{x:α}(h:l[i]?=some x):l.drop i=x::l.drop (i+1):=by
 obtain⟨hl,e⟩:=List.getElem?_eq_some_iff.mp h;rw [<-e];exact drop_eq_getElem_cons hl
def upTo(lo:Int)(n:Nat):List T:=(List.range n).map fun(i:Nat)=>T.int (lo+(i:Int))
theorem HU{lo:Int}{n i:Nat}(h:i<n):(upTo lo n)[i]?=some (T.int (lo+(i:Int))):=by
 unfold upTo;rw [getElem?_map,getElem?_range h];rfl
def cU(i:Nat)(m:MX):MS:=fun Γ=>match Γ[i]? with
 |some (.own (.lst _))=>(m Γ).bind fun p=>match (dH p.1 p.2).2[i]? with
  |some (.own (.lst ts))=>if ts.length<sizeLine then some (.nx ((dH p.1 p.2).2.set i (.own (.lst (ts++[(dH p.1 p.2).1])))))else none
  |_=>none
 |_=>none
theorem Ai{i:Nat}{m:MX}{Γ:G}{res:Res}(h:cU i m Γ=some res):∃us r Γ1 ts,Γ[i]?=some (.own (.lst us))/\m Γ=some (r,Γ1)/\(dH r Γ1).2[i]?=some (.own (.lst ts))/\ts.length<sizeLine/\res=.nx ((dH r Γ1).2.set i (.own (.lst (ts++[(dH r Γ1).1])))):=by
 unfold cU at h;split at h
 ·rename_i us hu
  cases h1:m Γ with
  |none=>rw [h1]at h;cases h
  |some p =>
   rw [h1]at h;obtain⟨r,Γ1⟩:=p;dsimp only [Option.bind]at h;split at h
   ·rename_i ts ht;split at h
    ·rename_i hl
     cases h
     exact⟨us,r,Γ1,ts,hu,rfl,ht,hl,rfl⟩
    ·cases h
   ·cases h
 ·cases h
theorem gF{i:Nat}{o:Expr}{apos gY:Pos}{m:MX}(ho:PE X o (ER i))(he:bj X P e m)
  (G9:attributeBase o "append" X.env (eval o X.env)=eval o X.env:=by rfl)
  (Pl:((backTo gY (starEach [e] X.env)).all (fun x=>!x.1)&&(backToKw gY (keywordEach [] X.env)).all (fun x=>x.1.isSome)
   && decide ([e].length+([]:List Keyword).length+(if([]:List Keyword).isEmpty then 0 else 1)<30))=true:=by rfl)
  (Ha:(apos.endLine==gY.line)=true:=by rfl) (hs:starEach [e] X.env=(false,eval e X.env)::starEach [] X.env:=by rfl) (Cg:(backTo gY (starEach [] X.env)).any (·.1)=false:=by rfl)
  (WH:swapsWith (.Call (.Attribute o "append" apos) [e] [] gY) none pos.line X.env=pure false:=by rfl) :
  lI X P (.Expr (.Call (.Attribute o "append" apos) [e] [] gY) pos) (cU i m):=h7 fun Γ res h=>by
 obtain⟨us,r,Γ1,ts,hu,h1,ht,hl,rfl⟩:=Ai h;refine(DD (Ss PySem.F.plainAttrs_list PySem.F.slot_list_append PySem.F.type_list_append wD ho (gL (he _ _ _ h1) qx hs) G9 Pl Ha hs Cg) WH).imp fun D σ H ⟨Hs,S,k⟩=>?_;obtain⟨a,q1,_,q3⟩:=S.own i _ hu;obtain⟨_,xs0,WI,_⟩:=q3;refine⟨_,q1,.inl ⟨rfl,_,nV.of WI⟩,Hs,S,fun v H1 bq e1 en S1 f1=>?_⟩;obtain⟨bQ,g,S2,tr⟩:=S1.dH f1;obtain⟨b,p1,p2,p3⟩:=S2.own i _ ht;rw [q1]at p1
 cases p1
 obtain⟨pf,xs,hx,rs⟩:=p3;refine⟨a,xs,v,rfl,rfl,hx,by rw [aR rs];exact hl,?_⟩;refine k σ _ bQ (en.trans g) (S2.rewrite ht q1 ⟨pf,_,bB,iK rs (bK tr bU)⟩)
end
def du(n:Nat)(m:MS):CF:=fun as=>match m (as++List.replicate (n-as.length) Slot.no)with
 |some (.nx Γ)=>some (.sh .cg,Γ)
 |some (.rt (.sh t) Γ)=>some (.sh t,Γ)
 |some (.rt (.own t) Γ)=>some (.own t,Γ)
 |_=>none
theorem HV{n:Nat}{m:MS}{as Γ:G}{r:R}(h:du n m as=some (r,Γ)):(m (as++List.replicate (n-as.length) Slot.no)=some (.nx Γ)/\r=.sh .cg)\/(m (as++List.replicate (n-as.length) Slot.no)=some (.rt r Γ)/\((∃t,r=.sh t)\/∃t,r=.own t)):=by
 unfold du at h;split at h
 ·rename_i q
  cases h
  exact .inl ⟨q,rfl⟩
 ·rename_i q
  cases h
  exact .inr ⟨q,.inl ⟨_,rfl⟩⟩
 ·rename_i q
  cases h
  exact .inr ⟨q,.inr ⟨_,rfl⟩⟩
 ·cases h
def HW(vs:List V):Nat->Option V:=fun i=>vs[i]?
theorem Cs{K:KC}{H0 Hs H:Hp}{as:G}{vs:List V}{N:List Str}(S:aF K ⟨H0,Hs,K.cl,B3⟩ as (vs.map some) H Hs):aF K ⟨H0,Hs,K.cl,HW vs⟩ (as++List.replicate (N.length-as.length) Slot.no) (L2.start N vs) H Hs:=by
 have hl:as.length=vs.length:=by have:=S.len;rwa [length_map]at this
 have ga:∀{i:Nat}{s:Slot},(as++List.replicate (N.length-as.length) Slot.no)[i]?=some s->s ≠ .no->as[i]?=some s/\i<vs.length:=fun{i s} h n=>by
  by_cases hi:i<as.length
  ·rw [getElem?_append_left hi]at h;exact⟨h,by omega⟩
  ·rw [getElem?_append_right (by omega),List.getElem?_replicate]at h;split at h
   ·cases h
    exact absurd rfl n
   ·cases h
 have gs:∀{i:Nat},i<vs.length->(L2.start N vs)[i]?=(vs.map some)[i]?:=fun{i} hi=>by
  unfold L2.start;rw [getElem?_append_left (by rw [length_map];exact hi)]
 refine{kept:=S.kept,sub:=S.sub,new:=S.new,fix:=fun i v h=>?_,sh:=fun i t h=>?_,own:=fun i t h=>?_,apart:=fun i j t u a n h1 h2=>?_,len:=?_}
 ·have h:vs[i]?=some v:=h;rw [gs (List.getElem?_eq_some_iff.mp h).1,getElem?_map,h];rfl
 ·obtain⟨h1,h2⟩:=ga h (by intro z;cases z);rw [gs h2];exact S.sh i t h1
 ·obtain⟨h1,h2⟩:=ga h (by intro z;cases z);rw [gs h2];exact S.own i t h1
 ·obtain⟨q1,q2⟩:=ga h1 (by intro z;cases z);obtain⟨q3,q4⟩:=ga h2 (by intro z;cases z);rw [gs q2,gs q4];exact S.apart i j t u a n q1 q3
 ·unfold L2.start;rw [length_append,length_append,List.length_replicate,List.length_replicate,length_map,hl]
theorem Aj{K:KC}{H0 Hs bu H':Hp}{Γ:G}{vs:List V}{σ:St}(S:aF K ⟨H0,Hs,K.cl,HW vs⟩ Γ σ H' bu):aF K ⟨H0,Hs,K.cl,B3⟩ (Γ.take vs.length) (vs.map some) H' bu:=by
 have ga:∀{i:Nat}{s:Slot},(Γ.take vs.length)[i]?=some s->Γ[i]?=some s/\i<vs.length:=fun{i s} h=>by
  have hi:i<vs.length:=by
   have:=(List.getElem?_eq_some_iff.mp h).1;rw [length_take]at this;omega
  rw [List.getElem?_take_of_lt hi]at h;exact⟨h,hi⟩
 have gs:∀{i:Nat},i<vs.length->(vs.map some)[i]?=σ[i]?:=fun{i} hi=>by
  have e:vs[i]?=some vs[i]:=by simp [hi]
  rw [getElem?_map,e,S.fix i vs[i] e];rfl
 have hΓ:vs.length<=Γ.length:=by
  rw [S.len];by_cases hz:vs.length=0
  ·omega
  ·have e:vs[vs.length-1]?=some vs[vs.length-1]:=by simp
   have:=(List.getElem?_eq_some_iff.mp (S.fix (vs.length-1) _ e)).1;omega
 refine{kept:=S.kept,sub:=S.sub,new:=S.new,fix:=(fun i v h=>nomatch h),sh:=fun i t h=>?_,own:=fun i t h=>?_,apart:=fun i j t u a n h1 h2=>?_,len:=?_}
 ·obtain⟨h1,h2⟩:=ga h;rw [gs h2];exact S.sh i t h1
 ·obtain⟨h1,h2⟩:=ga h;rw [gs h2];exact S.own i t h1
 ·obtain⟨q1,q2⟩:=ga h1;obtain⟨q3,q4⟩:=ga h2;rw [gs q2,gs q4];exact S.apart i j t u a n q1 q3
 ·rw [length_take,length_map];omega
section
variable {Pr:Program}{w:World}{K:PySem.W.Frag}{mg:Str->Option Value}{base:Heap}
theorem WJ{cl:Nat->Addr}{x qual:Str}{st:Stmt}{f:Addr}{fd:FuncData}{N ps:List Str}{k:Nat}{m:MS}(F:jY K x qual st f fd)(Sc:aT N ps (ak st))
  (hb:∀(jW:Value)(A:Around)(outer:List Env)(s:Shared)(H:Hp)(E:XK)(P:Fx),P.cl=cl->(∀i,ps.length<=i->P.F i=none)->dr k (A.deeper (envOfC qual (ak st) s.heap.objs.size f jW)) ->
   iM (xH hV Pr w K mg base N qual (ak st) f jW A outer s H E).GQ P (aO st) m) :
  bP Pr w K mg base hV (k+1) f fd ps (hZ ⟨K,cl⟩ ps.length (du N.length m)):=by
 refine F.ok Sc (fun vs H Q E h=>h.1) (fun jW A outer s H vs Q E hr h=>?_);obtain⟨hl,as,r,Γ',Hs,H0,hc,S,kq⟩:=h;have nt:ps.length<=N.length:=by
  have:=congrArg List.length Sc.pre;rw [length_take]at this;omega
 have hv:∀i,ps.length<=i->HW vs i=none:=fun i hi=>by
  unfold HW;rw [List.getElem?_eq_none_iff];omega
 refine⟨_,hb jW A outer s H E ⟨H0,Hs,cl,HW vs⟩ rfl hv hr,?_⟩;have S0:=Cs (N:=N) S;rcases HV hc with⟨hm,rfl⟩|⟨hm,Fs⟩
 ·refine⟨_,_,hm,Hs,S0,fun σ' H' bu e S'=>?_⟩;refine kq _ H' bu e ?_ rfl;rw [<-hl];exact Aj S'
 ·refine⟨_,_,hm,Hs,S0,fun σ' H' bu e v S' f=>?_⟩;have S2:=Aj S';rw [hl]at S2;refine kq v H' bu e S2 ?_;rcases Fs with⟨t,rfl⟩|⟨t,rfl⟩
  ·exact f
  ·obtain⟨a,rfl,n,q,no⟩:=f;refine⟨a,rfl,n,q,fun i u hi=>?_⟩;have hi2:i<vs.length:=by
    have:=(List.getElem?_eq_some_iff.mp hi).1;rw [length_take]at this;omega
   rw [List.getElem?_take_of_lt (by omega)]at hi;have e:vs[i]?=some vs[i]:=by simp [hi2]
   have e2:=S'.fix i vs[i] e;rw [getElem?_map,e];have e3:=no i u hi;rw [e2]at e3;exact e3
theorem WK{cl:Nat->Addr}{x qual:Str}{st:Stmt}{f:Addr}{fd:FuncData}{N ps:List Str}{k n np:Nat}{m:MS}(F:jY K x qual st f fd)(Sc:aT N ps (ak st))(hn:N.length=n)(hp:ps.length=np)
  (hb:∀(jW:Value)(A:Around)(outer:List Env)(s:Shared)(H:Hp)(E:XK)(P:Fx),P.cl=cl->(∀i,np<=i->P.F i=none)->dr k (A.deeper (envOfC qual (ak st) s.heap.objs.size f jW)) ->
   iM (xH hV Pr w K mg base N qual (ak st) f jW A outer s H E).GQ P (aO st) m) :
  bP Pr w K mg base hV (k+1) f fd ps (hZ ⟨K,cl⟩ np (du n m)):=by
 subst hn hp;exact WJ F Sc hb
end
theorem lN.imp{X:Cx}{f:Value->Value->Sem Value}{r r':R2}(h:lN X f r)(i:∀x y H Q,r' x y H Q->r x y H Q):lN X f r':=fun pins s σ H x y v u Q I rx ry q=>h pins s σ H x y v u Q I rx ry (i x y H Q q)
theorem gx.imp{X:Cx}{f:Value}{r r':List V->Hp->VK->Prop}(h:gx X f r)(i:∀xs H Q,r' xs H Q->r xs H Q):gx X f r':=fun pins s σ H xs us Q I rx q=>h pins s σ H xs us Q I rx (i xs H Q q)
def gI(f:Int->Int->Int):T->T->Option R
 |.int i,.int j=>some (.sh (.int (f i j)))
 |_,_=>none
def PZ(C:Int->Int->Bool)(f:Int->Int->Int):T->T->Option R
 |.int i,.int j=>if C i j=true then some (.sh (.int (f i j)))else none
 |_,_=>none
def gB(f:Int->Int->Bool):T->T->Option R
 |.int i,.int j=>some (.sh (.bl (f i j)))
 |_,_=>none
theorem P0{f:Int->Int->Int}{t u:T}{r:R}(h:gI f t u=some r):∃i j,t=.int i/\u=.int j/\r=.sh (.int (f i j)):=by
 unfold gI at h;split at h
 ·cases h
  exact⟨_,_,rfl,rfl,rfl⟩
 ·cases h
theorem Ld{C:Int->Int->Bool}{f:Int->Int->Int}{t u:T}{r:R}(h:PZ C f t u=some r):∃i j,t=.int i/\u=.int j/\C i j=true/\r=.sh (.int (f i j)):=by
 unfold PZ at h;split at h
 ·split at h
  ·rename_i hc
   cases h
   exact⟨_,_,rfl,rfl,hc,rfl⟩
  ·cases h
 ·cases h
theorem P1{f:Int->Int->Bool}{t u:T}{r:R}(h:gB f t u=some r):∃i j,t=.int i/\u=.int j/\r=.sh (.bl (f i j)):=by
 unfold gB at h;split at h
 ·cases h
  exact⟨_,_,rfl,rfl,rfl⟩
 ·cases h
section
variable {X:Cx}{cl:Nat->Addr}
theorem NS{f:Value->Value->Sem Value}{g:Int->Int->Int}(h:lN X f (Ny fun i j=>.int (g i j))):rn X cl f (gI g):=lN.imp h fun x y H Q ⟨Hs,t,u,r,sm,h1,h2,hg,k⟩=>by
 obtain⟨i,j,rfl,rfl,rfl⟩:=P0 hg;exact⟨i,j,h1,h2,k _ H (.val rfl)⟩
theorem x9{f:Value->Value->Sem Value}{C:Int->Int->Prop}{D:Int->Int->Bool}{g:Int->Int->Int}(h:lN X f (rI C fun i j=>.int (g i j)))(hc:∀i j,D i j=true->C i j):rn X cl f (PZ D g):=lN.imp h fun x y H Q ⟨Hs,t,u,r,sm,h1,h2,hg,k⟩=>by
 obtain⟨i,j,rfl,rfl,q,rfl⟩:=Ld hg;exact⟨i,j,h1,h2,hc i j q,k _ H (.val rfl)⟩
theorem NT{f:Value->Value->Sem Value}{g:Int->Int->Bool}(h:lN X f (Ny fun i j=>.bl (g i j))):rn X cl f (gB g):=lN.imp h fun x y H Q ⟨Hs,t,u,r,sm,h1,h2,hg,k⟩=>by
 obtain⟨i,j,rfl,rfl,rfl⟩:=P1 hg;exact⟨i,j,h1,h2,k _ H (.val rfl)⟩
def eB(i:Int):Bool:=decide (-(2 ^ 64)<i)&&decide (i<2 ^ 64)
def NU:=gI fun i j=>i+j
def Ca:=gI fun i j=>i-j
def fL:=PZ (fun i j=>eB i||eB j) fun i j=>i*j
def rV:=PZ (fun _ j=>decide (0<j)&&decide (j<1073741824)) fun i j=>i / j
def gu:=PZ (fun _ j=>decide (0<j)) fun i j=>i % j
def Ct:=PZ (fun i j=>decide (0<=j)&&decide (j<=1000)&&eB i&&decide (-(2 ^ 63)<i)) fun i j=>i ^ j.toNat
def DY:=gB fun i j=>decide (i<j)
def gLe:=gB fun i j=>decide (i<=j)
def P4:=gB fun i j=>decide (j<i)
def gGe:=gB fun i j=>decide (j<=i)
theorem HX:rn X cl (binaryOp .Add) NU:=NS O6
theorem DZ:rn X cl (binaryOp .Sub) Ca:=NS O7
theorem g6:rn X cl (binaryOp .Mult) fL:=x9 O8 fun i j h=>by
 unfold eB at h;simp only [or_eq_true,and_eq_true,decide_eq_true_eq]at h;exact h
theorem i7:rn X cl (binaryOp .FloorDiv) rV:=x9 Kt fun i j h=>by
 simp only [and_eq_true,decide_eq_true_eq]at h;exact h
theorem cu:rn X cl (binaryOp .Mod) gu:=x9 O9 fun i j h=>by
 simp only [decide_eq_true_eq]at h;exact h
theorem sy:rn X cl (binaryOp .Pow) Ct:=x9 Pa fun i j h=>by
 unfold eB at h;simp only [and_eq_true,decide_eq_true_eq]at h;refine⟨by omega,by omega,?_⟩;omega
theorem yc:rn X cl (compareOp .Lt) DY:=NT Sg
theorem Cu:rn X cl (compareOp .Gt) P4:=NT Sh
def Ak:T->Bool
 |.cg=>true
 |_=>false
theorem nz{K:KC}{H Hs:Hp}{x:V}{t:T}(h:vw K H Hs x t):decide (x=.cg)=Ak t:=by
 cases t with
 |cg =>
  cases(show x=.cg from h)
  rfl
 |bl b =>
  cases(show x=.bl b from h)
  rfl
 |int i =>
  cases(show x=.int i from h)
  rfl
 |str s =>
  cases(show x=.str s from h)
  rfl
 |lst ts =>
  obtain⟨a,_,rfl,_⟩:=h;rfl
 |tup ts =>
  obtain⟨a,_,rfl,_⟩:=h;rfl
 |eX ks ts =>
  obtain⟨a,_,rfl,_⟩:=h;rfl
 |obj n =>
  obtain⟨a,_,rfl,_⟩:=h;rfl
def Le:T->T->Option R:=fun t u=>if Ak u=true then some (.sh (.bl (Ak t)))else none
def D0:T->T->Option R:=fun t u=>if Ak u=true then some (.sh (.bl (!Ak t)))else none
theorem Lg:rn X cl (compareOp .Is) Le:=lN.imp Pc fun x y H Q ⟨Hs,t,u,r,sm,h1,h2,hg,k⟩=>by
 unfold Le at hg;split at hg
 ·rename_i hu
  cases hg
  rw [<-nz h2]at hu;refine⟨of_decide_eq_true hu,?_⟩;rw [nz h1];exact k _ H (.val rfl)
 ·cases hg
theorem HY:rn X cl (compareOp .IsNot) D0:=lN.imp Ku fun x y H Q ⟨Hs,t,u,r,sm,h1,h2,hg,k⟩=>by
 unfold D0 at hg;split at hg
 ·rename_i hu
  cases hg
  rw [<-nz h2]at hu;refine⟨of_decide_eq_true hu,?_⟩;rw [nz h1];exact k _ H (.val rfl)
 ·cases hg
mutual
def toD:T->PyData
 |.cg=>.none
 |.bl b=>.bool b
 |.int i=>.int i
 |.str x=>.str x
 |.lst ts=>.list (cL ts)
 |.tup ts=>.tuple (cL ts)
 |.eX _ _=>.dict []
 |.obj _=>.dict []
def cL:List T->List PyData
 |[]=>[]
 |t::ts=>toD t::cL ts
end
mutual
def Ft:T->Bool
 |.cg=>true
 |.bl _=>true
 |.int _=>true
 |.str x=>PySem.PyData.strOk x
 |.lst ts=>pQ ts
 |.tup ts=>pQ ts
 |.eX _ _=>false
 |.obj _=>false
def pQ:List T->Bool
 |[]=>true
 |t::ts=>Ft t&&pQ ts
end
mutual
theorem nA:∀t:T,Ft t=true->(toD t).canLay0=true
 |.cg,_=>rfl
 |.bl _,_=>rfl
 |.int _,_=>rfl
 |.str _,h=>h
 |.lst ts,h=>oA ts h
 |.tup ts,h=>oA ts h
 |.eX _ _,h=>nomatch h
 |.obj _,h=>nomatch h
theorem oA:∀ts:List T,pQ ts=true->PyData.canLayAll0 (cL ts)=true
 |[],_=>rfl
 |t::ts,h=>by
  have h:(Ft t&&pQ ts)=true:=h;obtain⟨h1,h2⟩:=and_eq_true_iff.mp h;show((toD t).canLay0&&PyData.canLayAll0 (cL ts))=true;rw [nA t h1,oA ts h2];rfl
end
mutual
theorem iO{pins:List (Addr×Obj)}{s:Shared}{σ:St}{H:Hp}(I:Inv X pins σ H s):∀(t:T)(v:V)(u:Value),Ft t=true->Tr ⟨X.K,cl⟩ H v t->RelV v u->∃as,Reads s.heap u (toD t) as
 |.cg,v,u,_,h,r=>by
  cases(show v=.cg from h)
  cases(show u=Value.none from r)
  exact⟨_,.none⟩
 |.bl b,v,u,_,h,r=>by
  cases(show v=.bl b from h)
  cases(show u=Value.bool b from r)
  exact⟨_,.bool b⟩
 |.int i,v,u,_,h,r=>by
  cases(show v=.int i from h)
  obtain⟨t,q⟩:=(show ∃t,u=Value.int i t from r);subst q;exact⟨_,.int i t⟩
 |.str x,v,u,_,h,r=>by
  cases(show v=.str x from h)
  obtain⟨t,q⟩:=(show ∃t,u=Value.str x t from r);subst q;exact⟨_,.str x t⟩
 |.lst ts,v,u,ok,h,r=>by
  obtain⟨a,xs,rfl,sq,rs⟩:=h
  cases(show u=Value.ref a from r)
  obtain⟨bo,vs,⟨o,n,e,c,_,d⟩,_⟩:=I.list sq;obtain⟨as,q⟩:=qE I ts xs bo ok rs vs;exact⟨_,.list e c d (by simpa using q)⟩
 |.tup ts,v,u,ok,h,r=>by
  obtain⟨a,xs,rfl,sq,rs⟩:=h
  cases(show u=Value.ref a from r)
  obtain⟨bo,vs,⟨o,e,c,n,d⟩,_⟩:=I.tuple sq;obtain⟨as,q⟩:=qE I ts xs bo ok rs vs;exact⟨_,.tuple e c d (by simpa using q)⟩
 |.eX _ _,v,u,ok,h,r=>nomatch ok
 |.obj _,v,u,ok,h,r=>nomatch ok
theorem qE{pins:List (Addr×Obj)}{s:Shared}{σ:St}{H:Hp}(I:Inv X pins σ H s):∀(ts:List T)(xs:List V)(us:List Value),pQ ts=true->fz ⟨X.K,cl⟩ H xs ts->Vals xs us->∃as,ReadsAll s.heap us (cL ts) as
 |[],xs,us,_,h,r=>by
  cases(show xs=[] from h)
  cases r
  exact⟨_,.nil⟩
 |t::ts,xs,us,ok,h,r=>by
  have ok:(Ft t&&pQ ts)=true:=ok;obtain⟨h1,h2⟩:=and_eq_true_iff.mp ok;obtain⟨v,vs,rfl,q,qs⟩:=h
  cases r with
  |cons r1 r2 =>
   obtain⟨as,z⟩:=iO I t v _ h1 q r1;obtain⟨bs,zs⟩:=qE I ts vs _ h2 qs r2;exact⟨_,.cons z zs⟩
end
def eqT(t u:T):Bool:=PyData.eqv (toD t) (toD u)
def HZ(n:Bool):T->T->Option R:=fun t u=>match t,u with
 |.str x,.str y=>some (.sh (.bl (xor n (decide (x=y)))))
 |_,_=>if(Ft t&&Ft u&&decide ((toD t).depth<=60)&&decide ((toD u).depth<=60))=true then some (.sh (.bl (xor n (eqT t u))))else none
def cO:=HZ false
def jV:=HZ true
theorem nB{t:T}(h:Ft t=true)(hd:(toD t).depth<=60):PySem.SeqAt.shaped (toD t)=true:=by
 unfold PySem.SeqAt.shaped;rw [nA t h,Bool.true_and];exact decide_eq_true (by omega)
theorem Al{n:Bool}{t u:T}{r:R}(h:HZ n t u=some r):(∃x y,t=.str x/\u=.str y/\r=.sh (.bl (xor n (decide (x=y)))))\/(Ft t=true/\Ft u=true/\(toD t).depth<=60/\(toD u).depth<=60/\r=.sh (.bl (xor n (eqT t u)))):=by
 unfold HZ at h;split at h
 ·cases h
  exact .inl ⟨_,_,rfl,rfl,rfl⟩
 ·split at h
  ·rename_i hc
   cases h
   simp only [and_eq_true,decide_eq_true_eq]at hc;exact .inr ⟨hc.1.1.1,hc.1.1.2,hc.1.2,hc.2,rfl⟩
  ·cases h
theorem aJ(hu:X.A.units+64<cLine):rn X cl (compareOp .Eq) cO:=by
 intro pins s σ H x y v u Q I rx ry ⟨Hs,t,w,r,sm,h1,h2,hg,k⟩;rcases Al hg with⟨a,b,rfl,rfl,rfl⟩|⟨o1,o2,d1,d2,rfl⟩
 ·refine Sf pins s σ H x y v u Q I rx ry ?_
  cases(show x=.str a from h1)
  cases(show y=.str b from h2)
  refine⟨rfl,?_⟩;have e:decide (V.str a=V.str b)=xor false (decide (a=b)):=by
   rw [false_xor];simp
  rw [e];exact k _ H (.val rfl)
 ·obtain⟨as,q1⟩:=iO (cl:=cl) I t x v o1 (h1.tr sm) rx;obtain⟨bs,q2⟩:=iO (cl:=cl) I w y u o2 (h2.tr sm) ry;refine eq_dataH q1 q2 (nB o1 d1) (nB o2 d2) hu ?_;have z:=k (.bl (xor false (eqT t w))) H (.val rfl);rw [false_xor]at z;exact⟨.bl (eqT t w),H,I,rfl,z⟩
theorem fX(hu:X.A.units+64<cLine):rn X cl (compareOp .NotEq) jV:=by
 intro pins s σ H x y v u Q I rx ry ⟨Hs,t,w,r,sm,h1,h2,hg,k⟩;rcases Al hg with⟨a,b,rfl,rfl,rfl⟩|⟨o1,o2,d1,d2,rfl⟩
 ·refine Nz pins s σ H x y v u Q I rx ry ?_
  cases(show x=.str a from h1)
  cases(show y=.str b from h2)
  refine⟨rfl,?_⟩;have e:(!decide (V.str a=V.str b))=xor true (decide (a=b)):=by
   rw [true_xor];simp
  rw [e];exact k _ H (.val rfl)
 ·obtain⟨as,q1⟩:=iO (cl:=cl) I t x v o1 (h1.tr sm) rx;obtain⟨bs,q2⟩:=iO (cl:=cl) I w y u o2 (h2.tr sm) ry;refine ne_dataH q1 q2 (nB o1 d1) (nB o2 d2) hu ?_;have z:=k (.bl (xor true (eqT t w))) H (.val rfl);rw [true_xor]at z;exact⟨.bl (!eqT t w),H,I,rfl,z⟩
def Lh:T->T->Option R:=fun t u=>match t,u with
 |.lst ts,.lst us=>if ts.length+us.length<=sizeLine then some (.own (.lst (ts++us)))else none
 |_,_=>none
theorem H8{t u:T}{r:R}(h:Lh t u=some r):∃ts us,t=.lst ts/\u=.lst us/\ts.length+us.length<=sizeLine/\r=.own (.lst (ts++us)):=by
 unfold Lh at h;split at h
 ·split at h
  ·rename_i hl
   cases h
   exact⟨_,_,rfl,rfl,hl,rfl⟩
  ·cases h
 ·cases h
theorem Li:rn X cl (binaryOp .Add) Lh:=by
 intro pins s σ H x y v u Q I rx ry ⟨Hs,t,w,r,sm,h1,h2,hg,k⟩;obtain⟨ts,us,rfl,rfl,hl,rfl⟩:=H8 hg;obtain⟨l,xs,rfl,sl,rl⟩:=h1;obtain⟨b,ys,rfl,sb,rb⟩:=h2
 cases rx
 cases ry
 obtain⟨bo,v1,⟨⟨cls,dd,data,slo⟩,n,e1,c1,d1,q1⟩,z1⟩:=I.list sl;obtain⟨Cv,v2,⟨⟨au9,dd2,data2,WL⟩,n2,e2,c2,d2,q2⟩,z2⟩:=I.list sb;simp only at c1 d1 q1 c2 d2 q2;subst c1 q1 c2 q2;have l1:=v1.length;have l2:=v2.length;have m1:=aR rl;have m2:=aR rb;refine concat_meets ⟨_,e1,rfl⟩ ⟨_,e2,rfl⟩ noFill_list_add seq_list_add PySem.F.slot_list_add PySem.F.entry_list_add (PySem.F.args_list_add_2 _ _) (list_addW l b bo.toArray Cv.toArray n n2 dd dd2 slo WL (by simp only [size_toArray];omega)) ⟨e1,e2,?_⟩;have ea:bo.toArray++Cv.toArray=(bo++Cv).toArray:=by simp
 rw [ea];exact⟨.ref _,_,I.Sv (t':=s.toks) (v1.append v2) (by rw [length_append];omega),rfl,k _ _ (.tI I.fresh (iK rl rb))⟩
def D1:T->T->Option R:=fun t u=>match t,u with
 |.str a,.str b=>if a.length+b.length<=sizeLine then some (.sh (.str (a++b)))else none
 |_,_=>none
theorem Ia:rn X cl (binaryOp .Add) D1:=lN.imp Cd fun x y H Q ⟨Hs,t,u,r,sm,h1,h2,hg,k⟩=>by
 unfold D1 at hg;split at hg
 ·split at hg
  ·rename_i hl
   cases hg
   exact⟨_,_,h1,h2,hl,k _ H (.val rfl)⟩
  ·cases hg
 ·cases hg
def cz:=UT NU (UT Lh D1)
theorem aZ:rn X cl (binaryOp .Add) cz:=HX.or (Li.or Ia)
def eF:T->T->Option R:=fun t u=>match t,u with
 |.lst ts,.int i=>(jU ts i).map .sh
 |.tup ts,.int i=>(jU ts i).map .sh
 |_,_=>none
theorem D2{K:KC}{H:Hp}{xs:List V}{ts:List T}{i:Int}{t:T}(r:fz K H xs ts)(h:jU ts i=some t):∃v,jU xs i=some v/\Tr K H v t:=by
 unfold jU at h ⊢;rw [aR r]
 cases q:Gz ts.length i with
 |none=>rw [q]at h;cases h
 |some j =>
  rw [q]at h;exact ip r h
end
section
variable {prog:Program}{w:World}{A:Around}{R:Result->Shared->Prop}{s:Shared}
theorem Fu{elt target iter:Expr}{ifs:List Expr}{scope:Scope}{pos:Pos}{it acc:Value}{env:Env}(I:Nat->Shared->Prop)
  (turn:∀n s,I n s->wpAny (model prog w) A (pyNext it) (fun r s₁=>match r with
   |none=>R (.ok .next) s₁
   |some v=>wpAny (model prog w) A (letOwnedTupleGo target it v) (fun _ s₀=>wpAny (model prog w) A (assign target env v) (fun _ s₂ =>
     wpAny (model prog w) A (forIn ifs true fun c r=>if r=true then do let ok<-isTrue c env (eval c env);pure (ForInStep.yield ok)else pure (ForInStep.yield r)) (fun ok s₃ =>
      if ok=true then wpAny (model prog w) A (eval elt env) (fun x s₄ =>
       wpAny (model prog w) A (call (.builtin "list.append") [acc,x]) (fun _ s₅=>∃m,m<n/\I m s₅) (fun _ _=>False) s₄) (fun _ _=>False) s₃
      else ∃m,m<n/\I m s₃) (fun _ _=>False) s₂) (fun _ _=>False) s₀) (fun _ _=>False) s₁) (fun _ _=>False) s)
  (n:Nat) (h:I n s) :
  codeAny (model prog w) A (.compLoop (.ListComp elt [⟨target,iter,ifs,0⟩] scope pos) 0 it acc env) R s:=by
 refine codeAny_loop rfl I (fun n s hI=>?_) n h;show wpAny _ A ((compTurn (.ListComp elt [⟨target,iter,ifs,0⟩] scope pos) 0 it acc env).onRaise (fun x=>do noteFrame x env;theTreesLotGoes x)) _ _ s;refine wpAny_noted ?_;rw [compTurn_list];refine wpAny_bind (wpAny_standAt (wpAny_bind (wpAny_mono (turn n s hI) (fun r s₁ h₁=>?_) fun _ _ h'=>h'.elim)))
 cases r with
 |none=>exact wpAny_pure h₁
 |some v =>
  refine wpAny_bind (wpAny_mono h₁ (fun _ s₀ h₀=>wpAny_bind (wpAny_mono h₀ (fun _ s₂ h₂=>wpAny_bind (wpAny_mono h₂ (fun ok s₃ h₃=>?_) fun _ _ h'=>h'.elim)) fun _ _ h'=>h'.elim)) fun _ _ h'=>h'.elim)
  cases ok with
  |false=>exact wpAny_pure ⟨rfl,h₃⟩
  |true =>
   exact wpAny_bind (wpAny_bind (wpAny_mono h₃ (fun x s₄ h₄=>wpAny_bind (wpAny_mono h₄ (fun _ s₅ h₅=>wpAny_pure (wpAny_pure ⟨rfl,h₅⟩)) fun _ _ h'=>h'.elim)) fun _ _ h'=>h'.elim))
end
def dI(X:Cx)(N:List Str)(scope:Scope)(cs:List (Str×Addr))(C:Addr)(s₂:Shared)(H₂:Hp)(fp:List Addr):Cx :=
 {X with N:=N,s₀:=s₂,H₀:=H₂,env:=compEnvC scope cs C X.env,outer:=X.stack,stack:=X.stack,ex:=fp,fn:=fun _=>false,pn:=[],xe:=fun _ _=>False}
structure wM(X:Cx)(scope:Scope)(cs:List (Str×Addr)):Prop where
 WM:closureFor scope X.env=pure cs
 same:∀x c,cs.lookup x=some c->X.env.cells.lookup x=some c
 has:∀x,((relabel scope X.env).names.lookup x=some .cell\/(relabel scope X.env).names.lookup x=some .free)->∃c,cs.lookup x=some c
 tM:∀y∈scope.names,y.2 ≠ .cell
 kind:scope.kind=.function
 names:∀y∈scope.names,y.2=.local->scope.names.lookup y.1=some .local
section
variable {X:Cx}{N:List Str}{scope:Scope}{cs:List (Str×Addr)}{pins:List (Addr×Obj)}{σ:St}{H₂:Hp}{s₂:Shared}{fp:List Addr}{C:Addr}
theorem Lj(I:Inv X pins σ H₂ s₂)(cp:wM X scope cs)(hC:s₂.heap.objs.size<=C)(hf:∀b∈fp,qw X pins H₂ b)(WN:∀b∈fp,b<s₂.heap.objs.size):(dI X N scope cs C s₂ H₂ fp).Ok where
 mod:=I.ok.mod
 kind:=cp.kind
 glob:=I.ok.glob
 blt:=I.ok.blt
 above:=hC
 inj:=fun x y c h1 h2=>I.ok.inj x y c (cp.same x c h1) (cp.same y c h2)
 has:=fun x h=>cp.has x h
 Rq:=fun x c h=>nomatch h
 hd:=I.ok.hd
 frames:=I.ok.frames
 RU:=.inl rfl
 VH:=fun b hb=>⟨fun e=>by
  have:=WN b hb;rw [show b=C from e]at this;exact absurd (lt_of_lt_of_le this hC) (lt_irrefl _),fun x c h=>(hf b hb).2.2.2.2.1 x c (cp.same x c h)⟩
 bs:=I.bs
 GL:=Nat.le_trans I.ok.GL I.sz
 EO:=fun b o e hb=>by
  rcases(hf b hb).2.2.2.1 with z|z
  ·exact I.ok.EO b o e z
  ·exact absurd (lt_of_lt_of_le (Heap.lt_size e) (Nat.le_trans I.ok.GL z)) (lt_irrefl _)
 GN:=fun b hb UW=>by
  rcases mem_cons.mp (I.xE b UW)with z|z
  ·exact(hf b hb).2.1 z
  ·exact(hf b hb).2.2.1 z
 qv:=I.stack
 Nq:=I.DA
theorem Ib{σ':St}{h₁:Heap}{tk:Nat}{D:Addr}{m:Str->Option Value}(I:Inv X pins σ H₂ s₂)(cp:wM X scope cs)(hD:s₂.heap.objs.size<=D)(hC:s₂.heap.objs.size<=C)(Ry:C≠D)(hf:∀b∈fp,qw X pins H₂ b)(WN:∀b∈fp,b<s₂.heap.objs.size)
  (hk:∀b o,s₂.heap.get? b=some o->h₁.get? b=some o) (hn:h₁.Ns C m) (hl:∃n,h₁.get? D=some {cls:=.type "list", data:=.seq #[] n})
  (yd:∀(j:Nat)(x:Str)(v:V),N[j]?=some x->σ'[j]?=some (some v)->∃(i:Nat),X.N[i]?=some x/\σ[i]?=some (some v)/\(X.env.scope.names.lookup x=some .cell\/X.env.scope.names.lookup x=some .free) /\
   ((relabel scope X.env).names.lookup x=some .cell\/(relabel scope X.env).names.lookup x=some .free)) (hlen:σ'.length=N.length) :
  Inv (dI X N scope cs C s₂ H₂ fp) [] σ' (upd H₂ D (.lst [])) {s₂ with heap:=h₁,toks:=tk}:=by
 have nD:H₂ D=none:=I.dG.fresh hD;obtain⟨n,hl⟩:=hl;refine⟨Lj I cp hC hf WN,rfl,I.bare,Un.laid hk hD nD,⟨m,hn,fun j x v h1 h2 h3=>?_⟩,fun x c h=>?_,?_,fun x c h=>?_,fun p hp=>?_,I.dG.laid hk hD ⟨zero_le _,[],n,.nil,hl⟩,hlen⟩
 ·obtain⟨i,q1,q2,q3,q4⟩:=yd j x v h1 h2;obtain⟨m0,_,hl0⟩:=I.loc;obtain⟨u,ru,lk⟩:=hl0 i x v q1 q2 (.inr q3);refine⟨u,ru,.inr ⟨q4,?_⟩⟩;obtain⟨c,hc⟩:=cp.has x q4;rcases lk with⟨z,_⟩|⟨_,c',UL,DC⟩
  ·rcases q3 with z'|z'
   ·rw [show X.env.scope.names.lookup x=some .local from z]at z';cases z'
   ·rw [show X.env.scope.names.lookup x=some .local from z]at z';cases z'
  ·have e:=cp.same x c hc;rw [UL]at e
   cases e
   obtain⟨o,ho,hd⟩:=DC;exact⟨_,hc,o,hk _ _ ho,hd⟩
 ·obtain⟨v,o,ho,hd⟩:=I.cell x c (cp.same x c h);exact⟨v,o,hk _ _ ho,hd⟩
 ·show upd H₂ D (.lst []) C=none;rw [aV Ry];exact I.dG.fresh hC
 ·have e:=I.nZ x c (cp.same x c h);obtain⟨v,o,ho,hd⟩:=I.cell x c (cp.same x c h);have z:c≠D:=fun e=>absurd (lt_of_lt_of_le (Heap.lt_size ho) (by rw [e];exact hD)) (lt_irrefl _);rw [aV z];exact e
 ·exact absurd (show p∈([]:List (Addr×Obj)) from hp) (by simp)
end
def rW(env:Env):List (Str×NameKind)->List (Str×Addr)->List (Str×Addr)
 |[],cs=>cs
 |y::r,cs=>rW env r (if(y.2 == .free)=true then(y.1,(env.cells.lookup y.1).getD 0)::cs else cs)
theorem D3{env:Env}:∀(names:List (Str×NameKind))(cs:List (Str×Addr)),(∀y∈names,y.2=.free->∃c,env.cells.lookup y.1=some c) ->
  (forIn names cs fun x r=>(if(x.2==NameKind.free)=true then(do let a<-cellOf env x.1;pure (ForInStep.yield ((x.1,a)::r)))else pure (ForInStep.yield r):Sem (ForInStep (List (Str×Addr)))))=(pure (rW env names cs):Sem (List (Str×Addr)))
 |[],cs,_=>rfl
 |y::r,cs,h=>by
  have ih:=fun cs'=>D3 (env:=env) r cs' fun z hz=>h z (mem_cons_of_mem _ hz);rw [forIn_cons];by_cases q:(y.2==NameKind.free)=true
  ·obtain⟨c,hc⟩:=h y mem_cons_self (by simpa using q);have e1:cellOf env y.1=pure c:=by
    unfold cellOf;rw [hc]
   rw [if_pos q,e1];simp only [pure_bind];rw [ih];have e2:rW env (y::r) cs=rW env r ((y.1,c)::cs):=by
    show rW env r (if(y.2 == .free)=true then(y.1,(env.cells.lookup y.1).getD 0)::cs else cs)=_;rw [if_pos q,hc];rfl
   rw [e2]
  ·rw [if_neg q];simp only [pure_bind];rw [ih]
   conv=>rhs;unfold rW
   rw [if_neg q]
theorem Am{env:Env}:∀{names:List (Str×NameKind)}{cs:List (Str×Addr)},(∀y∈names,y.2=.free->∃c,env.cells.lookup y.1=some c)->(∀p∈cs,env.cells.lookup p.1=some p.2)->∀p∈rW env names cs,env.cells.lookup p.1=some p.2
 |[],cs,_,h,p,hp=>h p hp
 |y::r,cs,hf,h,p,hp=>by
  unfold rW at hp;refine Am (names:=r) (fun z hz=>hf z (mem_cons_of_mem _ hz)) (fun z hz=>?_) p hp;by_cases q:(y.2==NameKind.free)=true
  ·rw [if_pos q]at hz;obtain⟨c,hc⟩:=hf y mem_cons_self (by simpa using q);rcases mem_cons.mp hz with e|e
   ·rw [e];show env.cells.lookup y.1=some ((env.cells.lookup y.1).getD 0);rw [hc];rfl
   ·exact h z e
  ·rw [if_neg q]at hz;exact h z hz
theorem D4{env:Env}{x:Str}:∀{names:List (Str×NameKind)}{cs:List (Str×Addr)},((∃c,(x,c)∈cs)\/(x,NameKind.free)∈names)->∃c,(x,c)∈rW env names cs
 |[],cs,h=>by
  rcases h with h|h
  ·exact h
  ·simp at h
 |y::r,cs,h=>by
  unfold rW;refine D4 (names:=r) ?_;rcases h with⟨c,h⟩|h
  ·refine .inl ⟨c,?_⟩;split
   ·exact mem_cons_of_mem _ h
   ·exact h
  ·rcases mem_cons.mp h with e|e
   ·subst e;exact .inl ⟨_,by rw [if_pos (by simp)];exact mem_cons_self⟩
   ·exact .inr e
theorem og{x:Str}{c:Addr}:∀{cs:List (Str×Addr)},(x,c)∈cs->∃c',cs.lookup x=some c'
 |[],h=>by simp at h
 |(y,d)::r,h=>by
  rw [List.lookup_cons]
  cases q:x==y with
  |true=>exact⟨d,rfl⟩
  |false =>
   rcases mem_cons.mp h with e|e
   ·cases e
    simp at q
   ·exact og e
theorem tN{scope:Scope}{env:Env}{x:Str}{k:NameKind}(hc:∀y∈scope.names,y.2 ≠ .cell)(h:(relabel scope env).names.lookup x=some k)(hk:k=.cell\/k=.free):(x,NameKind.free)∈scope.names:=by
 have hm:=PySem.mem_of_lookup h;unfold relabel at hm;obtain⟨⟨n,k'⟩,h1,h2⟩:=mem_map.mp hm;have hn:=hc _ h1;dsimp only at h2;split at h2
 ·rename_i q
  cases h2
  simp only [and_eq_true,beq_iff_eq]at q;rw [<-q.1.1];exact h1
 ·cases h2
  rcases hk with e|e
  ·exact absurd e hn
  ·rw [<-e];exact h1
theorem An{X:Cx}{scope sc:Scope}(hsc:X.env.scope=sc)(kind:scope.kind=.function)(tM:∀y∈scope.names,y.2 ≠ .cell)(names:∀y∈scope.names,y.2=.local->scope.names.lookup y.1=some .local)
  (fr:∀y∈scope.names,y.2=.free->sc.names.lookup y.1=some .cell\/sc.names.lookup y.1=some .free) (ok:X.Ok):∃cs,wM X scope cs:=by
 have hf:∀y∈scope.names,y.2=.free->∃c,X.env.cells.lookup y.1=some c:=fun y hy e=>ok.has y.1 (by
  have:=fr y hy e;rw [<-hsc]at this;exact this)
 refine⟨rW X.env scope.names [],⟨?_,fun x c h=>?_,fun x h=>?_,tM,kind,names⟩⟩
 ·have e:=D3 (env:=X.env) scope.names [] hf;have e2:closureFor scope X.env=((forIn scope.names [] fun x r=>(if(x.2==NameKind.free)=true then(do let a<-cellOf X.env x.1;pure (ForInStep.yield ((x.1,a)::r)))else pure (ForInStep.yield r):Sem (ForInStep (List (Str×Addr))))) >>= fun cs=>pure cs):=rfl;rw [e2,e];rfl
 ·exact Am hf (fun p hp=>by simp at hp) _ (PySem.mem_of_lookup h)
 ·obtain⟨c,hc⟩:∃c,(x,c)∈rW X.env scope.names []:=D4 (.inr (by
   rcases h with h|h
   ·exact tN tM h (.inl rfl)
   ·exact tN tM h (.inr rfl)))
  exact og hc
abbrev MI:=G->Option (List T×G)
def Ta(K:KC)(J:It)(ts:List T)(Hs:Hp):Prop:=∀(i:Nat)(H bq:Hp),aA Hs bq->aA bq H ->
 (∀t,ts[i]?=some t->J.go i H/\∀x H',J.V0 i H x H'->Out K bq H x H' (.sh t))/\(ts.length<=i->J.stop i H)
def rdI(K:KC)(P:Fx)(Γ:G)(ts:List T)(Γ':G):TI:=fun σ H R=>∃Hs,aF K P Γ σ H Hs/\∀J H' bu,aA H H'->aA Hs bu->aF K P Γ' σ H' bu->Ta K J ts bu->R J H'
def Ao(X:Cx)(P:Fx)(tg iter:Expr)(m:MI):Prop:=∀Γ ts Γ',m Γ=some (ts,Γ')->PI X tg iter (rdI (kc X P) P Γ ts Γ')
theorem PI.imp{X:Cx}{tg iter:Expr}{t t':TI}(h:PI X tg iter t)(i:∀σ H R,t' σ H R->t σ H R):PI X tg iter t':=fun pins s σ H R I q=>h pins s σ H R I (i σ H R q)
def rq(m:MX):MI:=fun Γ=>(m Γ).bind fun p=>match (dH p.1 p.2).1 with
 |.lst ts=>some (ts,(dH p.1 p.2).2)
 |_=>none
theorem Lk{m:MX}{Γ Γ':G}{ts:List T}(h:rq m Γ=some (ts,Γ')):∃r Γ1,m Γ=some (r,Γ1)/\dH r Γ1=(.lst ts,Γ'):=by
 unfold rq at h
 cases h1:m Γ with
 |none=>rw [h1]at h;cases h
 |some p =>
  rw [h1]at h;obtain⟨r,Γ1⟩:=p;dsimp only [Option.bind]at h;split at h
  ·rename_i us q
   cases h
   exact⟨r,Γ1,rfl,by rw [<-q]⟩
  ·cases h
section
variable {X:Cx}{P:Fx}{tg l:Expr}
theorem eI{m:MX}(hl:bj X P l m):Ao X P tg l (rq m):=fun Γ ts Γ' h=>by
 obtain⟨r,Γ1,h1,h2⟩:=Lk h;refine PI.imp (Ks (hl _ _ _ h1)) fun σ H R ⟨Hs,S,k⟩=>⟨Hs,S,fun v H1 bq e1 en S1 f1=>?_⟩;obtain⟨bQ,g,S2,tr⟩:=S1.dH f1;rw [h2]at S2 tr;obtain⟨a,xs,rfl,sq,rs⟩:=tr;refine⟨a,rfl,⟨xs,S2.sub.seq sq⟩,k _ H1 bQ e1 (en.trans g) S2 fun i H jH e3 e4=>?_⟩;have Ic:nV X.K H a xs:=(e3.trans e4).seq sq;refine⟨fun t ht=>?_,fun hl=>⟨xs,Ic,by rw [aR rs];exact hl⟩⟩;obtain⟨v,hv,tv⟩:=ip rs ht;refine⟨⟨xs,v,Ic,hv⟩,fun x H' hy=>?_⟩;obtain⟨rfl,hy⟩:=hy;have:=hy xs Ic;rw [hv]at this
 cases this
 exact .val (cA e3 _ _ tv)
def GC(n:MA):MI:=fun Γ=>(n Γ).bind fun p=>match p.1 with
 |[.int j]=>if -(2 ^ 62)<=j/\j<2 ^ 62 then some (upTo 0 j.toNat,p.2)else none
 |_=>none
theorem Ll{n:MA}{Γ Γ':G}{ts:List T}(h:GC n Γ=some (ts,Γ')):∃j:Int,n Γ=some ([.int j],Γ')/\-(2 ^ 62)<=j/\j<2 ^ 62/\ts=upTo 0 j.toNat:=by
 unfold GC at h
 cases h1:n Γ with
 |none=>rw [h1]at h;cases h
 |some p =>
  rw [h1]at h;obtain⟨us,Γ1⟩:=p;dsimp only [Option.bind]at h;split at h
  ·rename_i j;split at h
   ·rename_i hj
    cases h
    exact⟨j,rfl,hj.1,hj.2,rfl⟩
   ·cases h
  ·cases h
theorem g7(lo:Int)(n:Nat):(upTo lo n).length=n:=by simp [upTo]
theorem qF{x:Expr}{n:MA}{p pos':Pos}(hgl:Gl X "range")(KQ:X.mg "range" = none)(ha:tK X P [x] n)(B9:starEach [x] X.env=[(false,eval x X.env)]:=by rfl):Ao X P tg (.Call (.Name "range" p) [x] [] pos') (GC n):=fun Γ ts Γ' h=>by
 obtain⟨j,h1,WO,hj2,rfl⟩:=Ll h;refine PI.imp (EW hgl KQ (ha _ _ _ h1) B9) fun σ H R ⟨Hs,S,k⟩=>⟨Hs,S,fun vs H1 bq e1 en S1 f1=>?_⟩
 cases f1 with
 |cons f1 f2 =>
 cases f2
 cases(show _=V.int j from f1)
 refine⟨j,rfl,WO,hj2,k _ H1 bq e1 en S1 fun i H jH e3 e4=>⟨fun t ht=>?_,fun hl=>by rw [g7]at hl;exact hl⟩⟩;have hi:i<j.toNat:=by
  have:=(List.getElem?_eq_some_iff.mp ht).1;rw [g7]at this;exact this
 rw [HU hi]at ht
 cases ht
 refine⟨hi,fun x H' hy=>?_⟩;obtain⟨rfl,rfl⟩:=hy;exact .val rfl
def gy(mi:MI)(b:BG)(m:MS):MS:=fun Γ=>(mi Γ).bind fun p=>dt b m p.1 p.2
theorem eJ{iter:Expr}{body:List Stmt}{pos:Pos}{mi:MI}{b:BG}{m:MS}(hp:PassesOwn (model X.prog X.w) X.A X.env X.xe)(hc:X.calm=true)(hi:Ao X P tg iter mi)(hg:xY X P tg b)(hb:iM X P body m)
  (hs:∀x,foldedSetIterable iter X.env x=pure x:=by intro _;rfl):lI X P (.For tg iter body [] pos) (gy mi b m):=h7 fun Γ res h=>by
 unfold gy at h
 cases h1:mi Γ with
 |none=>rw [h1]at h;cases h
 |some p =>
  rw [h1]at h;obtain⟨ts,Γ1⟩:=p;have h:dt b m ts Γ1=some res:=h;refine(O1 hp hc (hi _ _ _ h1) hg hb hs).imp fun D σ H ⟨Hs,S,k⟩=>⟨Hs,S,fun J H1 bq e1 en S1 ok=>?_⟩;refine⟨fun i n σ H=>n=ts.length-i/\i<=ts.length/\∃Γi qG,aA bq qG/\dt b m (ts.drop i) Γi=some res/\aF (kc X P) P Γi σ H qG,⟨ts.length,by simp,zero_le _,Γ1,bq,aA.refl _,h,S1⟩,?_⟩;rintro i n σ' H' ⟨rfl,PQ,Γi,qG,q1,q2,q3⟩;by_cases Kb:i<ts.length
  ·have ht:ts[i]?=some ts[i]:=by simp [Kb]
   obtain⟨g1,g2⟩:=(ok i H' qG q1 q3.sub).1 _ ht;refine .inr ⟨g1,fun σ2 H2=>∃Γ2 bQ,aA bq bQ/\dt b m (ts.drop (i+1)) Γ2=some res/\aF (kc X P) P Γ2 σ2 H2 bQ,fun σ2 H2 ⟨Γ2,bQ,z1,z2,z3⟩=>⟨ts.length-(i+1),by omega,rfl,Kb,Γ2,bQ,z1,z2,z3⟩,fun x H2 hy=>?_⟩;obtain⟨bQ,_,hW,S2,f2⟩:=(g2 x H2 hy).fin q3;rw [drop_cons ht]at q2;exact Lc q2 S2 (q1.trans hW) f2 (fun σ2 H2 jH e3=>k σ2 H2 jH (en.trans e3)) fun Γ2 σ2 H2 jH e3 hl S3=>⟨Γ2,jH,e3,hl,S3⟩
  ·have e:i=ts.length:=by omega
   subst e;rw [drop_length]at q2
   cases q2
   exact .inl ⟨(ok _ H' qG q1 q3.sub).2 (le_refl _),k σ' H' qG (en.trans q1) q3⟩
end
def vx(X:Cx)(sc:Scope):List Str->List (Option Nat)->Prop
 |[],[]=>True
 |x::N,c::cap=>(match c with
  |none=>True
  |some i=>X.N[i]?=some x/\(X.env.scope.names.lookup x=some .cell\/X.env.scope.names.lookup x=some .free)/\((relabel sc X.env).names.lookup x=some .cell\/(relabel sc X.env).names.lookup x=some .free))/\vx X sc N cap
 |_,_=>False
theorem vx.length{X:Cx}{sc:Scope}:∀{N:List Str}{cap:List (Option Nat)},vx X sc N cap->cap.length=N.length
 |[],[],_=>rfl
 |x::N,c::cap,h=>by
  show cap.length+1=N.length+1;rw [vx.length (N:=N) (cap:=cap) h.2]
 |[],_::_,h=>h.elim
 |_::_,[],h=>h.elim
theorem vx.get{X:Cx}{sc:Scope}:∀{N:List Str}{cap:List (Option Nat)}{j i:Nat}{x:Str},vx X sc N cap->N[j]?=some x->cap[j]?=some (some i)->X.N[i]?=some x/\(X.env.scope.names.lookup x=some .cell\/X.env.scope.names.lookup x=some .free)/\((relabel sc X.env).names.lookup x=some .cell\/(relabel sc X.env).names.lookup x=some .free)
 |[],[],j,i,x,_,h,_=>by simp at h
 |y::N,c::cap,0,i,x,h,h1,h2=>by
  simp at h1 h2;subst h1 h2;exact h.1
 |y::N,c::cap,j+1,i,x,h,h1,h2=>vx.get (N:=N) (cap:=cap) (j:=j) h.2 (by simpa using h1) (by simpa using h2)
 |[],_::_,_,_,_,h,_,_=>h.elim
 |_::_,[],_,_,_,h,_,_=>h.elim
def pR(cap:List (Option Nat))(Γ:G):G:=cap.map fun c=>match c with
 |none=>.no
 |some i=>match Γ[i]? with
  |some (.sh t)=>.sh t
  |_=>.no
def vy(cap:List (Option Nat))(Γ:G)(σ:St):St:=cap.map fun c=>match c with
 |none=>none
 |some i=>match Γ[i]? with
  |some (.sh _)=>(σ[i]?).getD none
  |_=>none
def oB(cap:List (Option Nat))(Γ:G)(σ:St):Nat->Option V:=fun j=>((vy cap Γ σ)[j]?).getD none
def bH:List (Option Nat)->G->G
 |[],Γ=>Γ
 |none::cap,Γ=>bH cap Γ
 |some i::cap,Γ=>bH cap (match Γ[i]? with
  |some (.own t)=>Γ.set i (.sh t)
  |_=>Γ)
theorem aF.bH{K:KC}{P:Fx}{σ:St}{H:Hp}:∀{cap:List (Option Nat)}{Γ:G}{Hs:Hp},aF K P Γ σ H Hs->∃bu,aA Hs bu/\aF K P (bH cap Γ) σ H bu
 |[],Γ,Hs,S=>⟨Hs,aA.refl _,S⟩
 |none::cap,Γ,Hs,S=>aF.bH (cap:=cap) S
 |some i::cap,Γ,Hs,S=>by
  cases h:Γ[i]? with
  |none =>
   obtain⟨bu,e,S'⟩:=aF.bH (cap:=cap) S;refine⟨bu,e,?_⟩;simp only [M.bH,h];exact S'
  |some s =>
   cases s with
   |own t =>
    obtain⟨bq,v,e1,_,_,S1⟩:=S.give h;obtain⟨bu,e,S'⟩:=aF.bH (cap:=cap) S1;refine⟨bu,e1.trans e,?_⟩;simp only [M.bH,h];exact S'
   |no =>
    obtain⟨bu,e,S'⟩:=aF.bH (cap:=cap) S;refine⟨bu,e,?_⟩;simp only [M.bH,h];exact S'
   |sh t =>
    obtain⟨bu,e,S'⟩:=aF.bH (cap:=cap) S;refine⟨bu,e,?_⟩;simp only [M.bH,h];exact S'
def cY(b:BG)(mt:MT)(me:MX)(Γ:G):List T->List T->Option (List T)
 |[],acc=>some acc
 |t::ts,acc=>(b t Γ).bind fun Γ1=>(mt Γ1).bind fun p=>if p.1=true then(me p.2).bind fun q=>if acc.length<sizeLine then cY b mt me Γ ts (acc++[(dH q.1 q.2).1])else none else cY b mt me Γ ts acc
def gz(cap:List (Option Nat))(mi:MI)(b:BG)(mt:MT)(me:MX):MX:=fun Γ=>(mi Γ).bind fun p=>(cY b mt me (pR cap (bH cap p.2)) p.1 []).map fun ts=>(.own (.lst ts),bH cap p.2)
def Ap(X:Cx)(P:Fx)(ifs:List Expr)(mt:MT):Prop:=∀Γ k Γ',mt Γ=some (k,Γ')->∀(pins:List (Addr×Obj))(s:Shared)(σ:St)(H:Hp)(Q:Bool->Hp->Prop),Inv X pins σ H s->US (kc X P) P Γ k Γ' σ H Q ->
 wpAny (model X.prog X.w) X.A (forIn ifs true fun c r=>if r=true then do let ok<-isTrue c X.env (eval c X.env);pure (ForInStep.yield ok)else pure (ForInStep.yield r)) (TP X pins σ Q) X.xe s
def lE:MT:=fun Γ=>some (true,Γ)
theorem nE{X:Cx}{P:Fx}:Ap X P [] lE:=fun Γ k Γ' h pins s σ H Q I ⟨Hs,S,q⟩=>by
 cases h
 exact wpAny_tests_nil ⟨H,I,q H Hs (aA.refl _) (aA.refl _) S⟩
theorem Fv{X:Cx}{P:Fx}{c:Expr}{mt:MT}(h:rT X P c mt):Ap X P [c] mt:=fun Γ k Γ' hm pins s σ H Q I q=>wpAny_tests_one (h _ _ _ hm pins s σ H Q I q)
theorem tO{cap:List (Option Nat)}{Γ:G}{j:Nat}{s:Slot}(h:(pR cap Γ)[j]?=some s):(s=.no)\/∃(i:Nat) (t:T),cap[j]?=some (some i)/\Γ[i]?=some (.sh t)/\s=.sh t:=by
 unfold pR at h;rw [getElem?_map]at h
 cases hc:cap[j]? with
 |none=>rw [hc]at h;cases h
 |some c =>
  rw [hc]at h
  cases c with
  |none =>
   cases h
   exact .inl rfl
  |some i =>
   have h:(match Γ[i]? with|some (.sh t)=>Slot.sh t|_=>.no)=s:=Option.some.inj h;split at h
   ·rename_i t q;exact .inr ⟨i,t,rfl,q,h.symm⟩
   ·exact .inl h.symm
theorem Fw{cap:List (Option Nat)}{Γ:G}{σ:St}{j i:Nat}{t:T}{v:V}(h1:cap[j]?=some (some i))(h2:Γ[i]?=some (.sh t))(h3:σ[i]?=some (some v)):oB cap Γ σ j=some v:=by
 unfold oB vy;rw [getElem?_map,h1];simp [h2,h3]
theorem Fy{cap:List (Option Nat)}{Γ:G}{σ:St}{j:Nat}(h:cap[j]?=some none):oB cap Γ σ j=none:=by
 unfold oB vy;rw [getElem?_map,h];rfl
theorem Ie{cap:List (Option Nat)}{Γ:G}{σ:St}{j:Nat}{v:V}(h:(vy cap Γ σ)[j]?=some (some v)):∃(i:Nat),cap[j]?=some (some i)/\σ[i]?=some (some v):=by
 unfold vy at h;rw [getElem?_map]at h
 cases hc:cap[j]? with
 |none=>rw [hc]at h;cases h
 |some c =>
  rw [hc]at h
  cases c with
  |none=>cases h
  |some i =>
   have h:(match Γ[i]? with|some (.sh _)=>(σ[i]?).getD none|_=>none)=some v:=Option.some.inj h;split at h
   ·cases q:σ[i]? with
    |none=>rw [q]at h;cases h
    |some z =>
     rw [q]at h;have h:z=some v:=h;subst h;exact⟨i,rfl,q⟩
   ·cases h
theorem Cw{K:KC}{P:Fx}{cap:List (Option Nat)}{Γ:G}{σ σ':St}{H2 bQ H Hs:Hp}(S2:aF K P Γ σ H2 bQ)(e:aA bQ Hs)(sub:aA Hs H)(fix:∀j v,oB cap Γ σ j=some v->σ'[j]?=some (some v))(hl:σ'.length=cap.length):
  aF K ⟨H,Hs,P.cl,oB cap Γ σ⟩ (pR cap Γ) σ' H Hs where
 kept:=aA.refl _
 sub:=sub
 new:=fun a o h=>.inl h
 fix:=fix
 sh:=fun j t h=>by
  rcases tO h with z|⟨i,u,h1,h2,h3⟩
  ·cases z
  ·cases h3
   obtain⟨v,q1,q2⟩:=S2.sh i t h2;exact⟨v,fix j v (Fw h1 h2 q1),cA e _ _ q2⟩
 own:=fun j t h=>by
  rcases tO h with z|⟨i,u,h1,h2,h3⟩
  ·cases z
  ·cases h3
 apart:=fun i j t u a n h _=>by
  rcases tO h with z|⟨i,u,h1,h2,h3⟩
  ·cases z
  ·cases h3
 len:=by
  rw [hl];simp [pR]
theorem Aq{b:BG}{mt:MT}{me:MX}{Γ:G}{t:T}{ts acc out:List T}(h:cY b mt me Γ (t::ts) acc=some out):∃Γ1 k Γ2,b t Γ=some Γ1/\mt Γ1=some (k,Γ2) /\
  ((k=true/\∃r Γ3,me Γ2=some (r,Γ3)/\acc.length<sizeLine/\cY b mt me Γ ts (acc++[(dH r Γ3).1])=some out)\/(k=false/\cY b mt me Γ ts acc=some out)):=by
 unfold cY at h
 cases h1:b t Γ with
 |none=>rw [h1]at h;cases h
 |some Γ1 =>
  rw [h1]at h;dsimp only [Option.bind]at h
  cases h2:mt Γ1 with
  |none=>rw [h2]at h;cases h
  |some p =>
   rw [h2]at h;obtain⟨k,Γ2⟩:=p;refine⟨Γ1,k,Γ2,rfl,h2,?_⟩
   cases k with
   |false=>exact .inr ⟨rfl,h⟩
   |true =>
    refine .inl ⟨rfl,?_⟩;dsimp only at h;rw [if_pos rfl]at h
    cases h3:me Γ2 with
    |none=>rw [h3]at h;cases h
    |some q =>
     rw [h3]at h;dsimp only at h;split at h
     ·rename_i hl;exact⟨q.1,q.2,rfl,hl,h⟩
     ·cases h
section
variable {X:Cx}{pins:List (Addr×Obj)}{σ:St}{H:Hp}{s:Shared}{h':Heap}
theorem _root_.L2.Inv.ye{t':Nat}{fp:List Addr}(I:Inv X pins σ H s)(hf:∀b∈fp,qw X pins H b)(k:∀b o,b∉fp->s.heap.get? b=some o->h'.get? b=some o):Inv X pins σ H {s with heap:=h',toks:=t'}:=by
 have Nr:∀b u,H b=some u->b∉fp:=fun b u e z=>by
  rw [(hf b z).1]at e
  cases e
 refine I.step (g':=s.gens) (d':=s.drawn) (ch:=fp) (fun b hb=>?_) (fun b o _ _ hc e _=>k b o hc e) (fun b o _ _ hc e _=>⟨o.slots,k b o hc e⟩) (fun _ _ _ _ n=>n)
  (fun b o hc e=>⟨o,k b o hc e⟩) (fun _ _ e=>e) (fun _ _ _ e=>e) (fun b ps e=>⟨#[],by rw [e];simp⟩) (fun m hm=>?_) (fun b u e=>?_) I.bare
 ·obtain⟨_,f2,_,f4,f5,f6⟩:=hf b hb;exact⟨f4,f2,f5,f6⟩
 ·obtain⟨o,es,ep,ho,r⟩:=hm;exact⟨o,es,ep,k _ o (fun z=>(hf _ z).2.1 rfl) ho,r⟩
 ·refine(I.dG b u e).qq (fun c v hc q=>k c v ?_ q) (fun _ q=>q) fun _ _ q=>q;rcases hc with z|z
  ·rw [z];exact Nr b u e
  ·exact Nr c _ z
end
section
variable {X:Cx}{P:Fx}{elt tg iter:Expr}{ifs:List Expr}{scope:Scope}{pos:Pos}{N':List Str}{cap:List (Option Nat)}{mi:MI}{b:BG}{mt:MT}{me:MX}
inductive CI(Y:Cx)(K:KC)(cap:List (Option Nat))(b:BG)(mt:MT)(me:MX)(Γ1:G)(ts out:List T)(σ:St)(H2 bQ:Hp)(tn:Nat->Heap->Prop)(D:Addr)(fp:List Addr):Nat->Shared->Prop
 |mk {s':Shared} (i:Nat) (Hi qG:Hp) (acc:List T) (ys:List V) (σ':St) (le:i<=ts.length) (run:cY b mt me (pR cap Γ1) (ts.drop i) acc=some out) (inv:Inv Y [] σ' Hi s') (at_:tn i s'.heap) (h2:aA H2 Hi) (GD:aA bQ qG)
   (sub:aA qG Hi) (new:∀a o,qG a=some o->bQ a=some o\/H2 a=none) (own:Hi D=some (.lst ys)) (OJ:qG D=none) (trs:fz K qG ys acc) (fix:∀j v,oB cap Γ1 σ j=some v->σ'[j]?=some (some v)) (WQ:∀b∈fp,Hi b=none):CI Y K cap b mt me Γ1 ts out σ H2 bQ tn D fp (ts.length-i) s'
theorem D5(hc:X.calm=true)(hi:Ao X P tg iter mi)(cp:X.Ok->∃cs,wM X scope cs)(yd:vx X scope N' cap)
  (Ig:∀(cs:List (Str×Addr))(C:Addr)(s₂:Shared)(H₂:Hp)(fp:List Addr)(P':Fx),P'.cl=P.cl->(∀j,cap[j]?=some none->P'.F j=none) ->
   xY (dI X N' scope cs C s₂ H₂ fp) P' tg b/\Ap (dI X N' scope cs C s₂ H₂ fp) P' ifs mt/\bj (dI X N' scope cs C s₂ H₂ fp) P' elt me)
  (hs:∀x,foldedSetIterable iter X.env x=pure x) {use:Option (Value->Sem Unit)} {Q0:Value->Shared->Prop} {WR:Pos} {Γ Γ1:G} {ts out:List T} {pins:List (Addr×Obj)} {s:Shared} {σ:St} {H Hs:Hp}
  (h1:mi Γ=some (ts,Γ1)) (h2:cY b mt me (pR cap (bH cap Γ1)) ts []=some out) (I:Inv X pins σ H s) (S:aF (kc X P) P Γ σ H Hs)
  (WS:∀(D C:Addr)(s3:Shared)(H' bu:Hp)(m3:Str->Option Value),Inv X pins σ H' s3->s3.heap.Ns C m3->qw X pins H' C->aA H H'->aA Hs bu->aF (kc X P) P (bH cap Γ1) σ H' bu->gZ (kc X P) P (bH cap Γ1) σ H' bu (.ref D) (.own (.lst out))->compPost (model X.prog X.w) X.A X.xe use Q0 (.ref D) C (.ok .next) s3) :
  wpAny (model X.prog X.w) X.A (comprehension (.ListComp elt [⟨tg,iter,ifs,0⟩] scope pos) scope X.env WR (newList []) false (eval iter X.env) use) Q0 X.xe s:=by
 obtain⟨cs,cp⟩:=cp I.ok;refine wpAny_comprehension_free (use:=use) rfl hs cp.WM cp.kind cp.names ?_;refine eC (hi Γ ts Γ1 h1 pins s σ H (fun J H'=>∃bu,aA H H'/\aA Hs bu/\aF (kc X P) P Γ1 σ H' bu/\Ta (kc X P) J ts bu) I ⟨Hs,S,fun J H' bu e e' S' ok=>⟨bu,e,e',S',ok⟩⟩) fun xv s1 g1=>eC g1 fun V1 s2 g2=>?_;obtain⟨it,fp,tn,J,H2,rfl,I2,turn,WT,yf,av8,e2,hW,S2',ok⟩:=g2;obtain⟨bQ,e3,S2⟩:=S2'.bH (cap:=cap);have Lm:∀b∈fp,b<s2.heap.objs.size:=fun b hb=>by
  obtain⟨o,ho,_⟩:=turn.obj 0 _ WT b hb;exact Heap.lt_size ho
 refine wpAny_newObj_type (wpAny_newFunctionEnv cp.tM (by intro y hy;simp at hy) (fun hB UX Tb=>?_) cp.kind);dsimp only at UX Tb ⊢;generalize hA:s2.heap.push {cls:=.type "list", dict:=none,data:=.seq ([]:List Value).toArray}=WU at UX Tb ⊢;have WV:WU.objs.size=s2.heap.objs.size+1:=by rw [<-hA,Heap.size_push]
 have hD:H2 s2.heap.objs.size=none:=I2.dG.fresh (le_refl _);have Ry:WU.objs.size≠s2.heap.objs.size:=by rw [WV];exact Nat.succ_ne_self _
 have Ih:∀b o,s2.heap.get? b=some o->hB.get? b=some o:=fun b o e=>by
  have lt:=Heap.lt_size e;refine Tb.extBut b o ?_ ?_
  ·intro z;rw [z,WV]at lt;exact absurd lt (Nat.not_lt.mpr (le_succ _))
  ·exact Heap.get?_push_of_some _ (by rw [<-hA];exact Heap.get?_push_of_some _ e)
 have NV:hB.get? s2.heap.objs.size=some {cls:=.type "list", data:=.seq #[] 0}:=Tb.extBut _ _ Ry.symm (Heap.get?_push_of_some _ (by rw [<-hA];exact Heap.get?_push_size _ rfl));generalize hDd:s2.heap.objs.size=D at hD Ry NV ⊢;generalize hCc:WU.objs.size=C at UX Tb Ry ⊢;have WW:s2.heap.objs.size<=C:=by rw [<-hCc,WV];exact le_succ _
 have hD2:s2.heap.objs.size<=D:=by rw [hDd];exact le_refl _
 have WX:(vy cap (bH cap Γ1) σ).length=N'.length:=by
  rw [<-yd.length];simp [vy]
 have J0:Inv (dI X N' scope cs C s2 H2 fp) [] (vy cap (bH cap Γ1) σ) (upd H2 D (.lst [])) {s2 with heap:=hB,toks:=s2.toks+([]:List (Str×Value)).length} :=
  Ib I2 cp hD2 WW Ry yf Lm Ih UX ⟨0,NV⟩ (fun j x v q1 q2=>by
   obtain⟨i,z1,z2⟩:=Ie q2;obtain⟨y1,y2,y3⟩:=yd.get q1 z1;exact⟨i,y1,z2,y2,y3⟩) WX
 have WY:∀(pl:List (Addr×Obj))(H':Hp),(∀b∈fp,H' b=none)->pl=[]->∀b∈fp,qw (dI X N' scope cs C s2 H2 fp) pl H' b:=fun pl H' hn e b hb=>by
  subst e;obtain⟨_,f2,f3,_,f5,_⟩:=yf b hb;refine⟨hn b hb,fun e=>?_,fun UW=>?_,.inl hb,fun x c q=>f5 x c (cp.same x c q),fun p hp=>absurd (show p∈([]:List (Addr×Obj)) from hp) (by simp)⟩
  ·have:=Lm b hb;rw [show b=C from e]at this;exact absurd (lt_of_lt_of_le this WW) (lt_irrefl _)
  ·rcases mem_cons.mp (I2.xE b UW)with z|z
   ·exact f2 z
   ·exact f3 z
 have WZ:∀j v,oB cap (bH cap Γ1) σ j=some v->(vy cap (bH cap Γ1) σ)[j]?=some (some v):=fun j v q=>by
  unfold oB at q
  cases z:(vy cap (bH cap Γ1) σ)[j]? with
  |none=>rw [z]at q;cases q
  |some y =>
   rw [z]at q;have q:y=some v:=q;rw [q]
 have loop:codeAny (model X.prog X.w) X.A (.compLoop (.ListComp elt [⟨tg,iter,ifs,0⟩] scope pos) 0 (.ref it) (.ref D) (compEnvC scope cs C X.env)) (compPost (model X.prog X.w) X.A X.xe use Q0 (.ref D) C)
   {s2 with heap:=hB,toks:=s2.toks+([]:List (Str×Value)).length}:=by
  refine Fu (CI (dI X N' scope cs C s2 H2 fp) (kc X P) cap b mt me (bH cap Γ1) ts out σ H2 bQ tn D fp) ?_ ts.length ?_
  ·rintro n s' ⟨i,Hi,qG,acc,ys,σ',PQ,q2,J1,tni,sH,Rz,sub,nw,Tc,W0,rs,fix,WQ⟩;have hlen:σ'.length=cap.length:=by rw [yd.length];exact J1.len
   have SB:=Cw (cap:=cap) S2 Rz sub fix hlen;by_cases Kb:i<ts.length
   ·have ht:ts[i]?=some ts[i]:=by simp [Kb]
    obtain⟨g1,g2⟩:=(ok i Hi qG (e3.trans Rz) sub).1 _ ht;rw [drop_cons ht]at q2;obtain⟨Γ2,kk,Γ3,NW,W2,hor⟩:=Aq q2;obtain⟨bg,bt,be⟩:=Ig cs C s2 H2 fp ⟨Hi,qG,P.cl,oB cap (bH cap Γ1) σ⟩ rfl (fun j hj=>Fy hj);refine eC (turn.item (dI X N' scope cs C s2 H2 fp) rfl rfl rfl hc i [] s' σ' Hi (fun _ _=>False) J1 (WY [] Hi WQ rfl) tni g1) fun r3 s3 ⟨u,er,g3⟩=>?_;subst er;refine eC g3 fun _ s4 ⟨x,H',J2,rx,hy,W3,W4⟩=>?_;obtain⟨jH,y1,y2,S3,tr⟩:=(g2 x H' hy).fin SB;have J3:=J2.pinned (WY [] H' W4 rfl) fun b hb=>turn.obj _ _ W3 b hb
    -- V5 is left behind a turn
    have fin:∀(Γz:G)(σz:St)(Hz P5:Hp)(s9:Shared)(H9:Hp)(Ln:List T)(UY:List V),aF (kc X P) ⟨Hi,qG,P.cl,oB cap (bH cap Γ1) σ⟩ Γz σz Hz P5->aA qG P5->Inv (dI X N' scope cs C s2 H2 fp) ([]++sP fp s4.heap) σz H9 s9 ->
      (∀b,b≠D->H9 b=Hz b)->H9 D=some (.lst UY)->fz (kc X P) P5 UY Ln->cY b mt me (pR cap (bH cap Γ1)) (ts.drop (i+1)) Ln=some out ->
      ∃m,m<ts.length-i/\CI (dI X N' scope cs C s2 H2 fp) (kc X P) cap b mt me (bH cap Γ1) ts out σ H2 bQ tn D fp m s9:=by
     intro Γz σz Hz P5 s9 H9 Ln UY Sz ez J9 h9 hD9 r9 m9;have nDz:P5 D=none:=by
      cases z:P5 D with
      |none=>rfl
      |some o =>
       rcases Sz.new D o z with w1|w1
       ·rw [show qG D=some o from w1]at W0
        cases W0
       ·rw [show Hi D=none from w1]at Tc
        cases Tc
     have nD2:∀{b:Addr}{o:HO},H2 b=some o->b≠D:=fun{b o} q=>bT q hD;refine⟨ts.length-(i+1),by omega,.mk (i+1) H9 P5 Ln UY σz Kb m9 J9.lQ (turn.keep _ _ _ W3 fun b hb o ho=>(J9.pin (b,o) (mem_append_right _ (mem_append_right _ (iH hb ho)))).1) (fun b o q=>?_) (Rz.trans ez) (fun b o q=>?_) (fun a o q=>?_) hD9 nDz r9 (fun j v q=>Sz.fix j v q) (fun b hb=>?_)⟩
     ·rw [h9 b (nD2 q)];exact Sz.kept b o (sH b o q)
     ·have z:b≠D:=fun e=>by rw [e,nDz]at q;cases q
      rw [h9 b z];exact Sz.sub b o q
     ·rcases Sz.new a o q with w1|w1
      ·exact nw a o w1
      ·exact .inr (sH.free w1)
     ·obtain⟨o,ho,_⟩:=turn.obj _ _ W3 b hb;exact(J9.pin (b,o) (mem_append_right _ (mem_append_right _ (iH hb ho)))).2.1
    refine eC (bg _ s4 σ' H' x u (fun σ5 H5=>H5=H'/\aF (kc X P) ⟨Hi,qG,P.cl,oB cap (bH cap Γ1) σ⟩ Γ2 σ5 H' jH) J3 rx ⟨_,_,Γ2,jH,NW,S3,tr,fun σ5 S5=>⟨rfl,S5⟩⟩) fun _ s5 ⟨σ5,H5,J5,eH,S5⟩=>?_;subst eH;refine eC (bt Γ2 kk Γ3 W2 _ s5 σ5 H5 (fun k6 H6=>k6=kk/\∃Lp,aA H5 H6/\aA jH Lp/\aF (kc X P) ⟨Hi,qG,P.cl,oB cap (bH cap Γ1) σ⟩ Γ3 σ5 H6 Lp) J5 ⟨jH,S5,fun H6 Lp w1 w2 S6=>⟨rfl,Lp,w1,w2,S6⟩⟩) fun k6 s6 ⟨H6,J6,ek,Lp,w1,w2,S6⟩=>?_;subst ek;rcases hor with⟨rfl,r7,Γ4,hm7,hl7,m7⟩|⟨rfl,m7⟩
    ·refine Ck ?_;refine eC (be Γ3 r7 Γ4 hm7 _ s6 σ5 H6 (fun v7 H7=>∃RA,aA H6 H7/\aA Lp RA/\aF (kc X P) ⟨Hi,qG,P.cl,oB cap (bH cap Γ1) σ⟩ Γ4 σ5 H7 RA/\gZ (kc X P) ⟨Hi,qG,P.cl,oB cap (bH cap Γ1) σ⟩ Γ4 σ5 H7 RA v7 r7) J6 ⟨Lp,S6,fun v7 H7 RA z1 z2 S7 f7=>⟨RA,z1,z2,S7,f7⟩⟩) fun u7 s7 ⟨v7,H7,J7,rv7,RA,z1,z2,S7,f7⟩=>?_;obtain⟨Hs8,y3,S8,tr8⟩:=S7.dH f7;have hD7:H7 D=some (.lst ys):=S7.kept D _ Tc;refine eC (wD (X:=dI X N' scope cs C s2 H2 fp) _ s7 σ5 H7 (.ref D) [v7] (.ref D) [u7] (fun v9 H9=>H9=upd H7 D (.lst (ys++[v7]))) J7 rfl (.cons rv7 .nil) ⟨D,ys,v7,rfl,rfl,hD7,by rw [aR rs];exact hl7,rfl⟩) fun _ s9 ⟨v9,H9,J9,_,eH⟩=>?_;subst eH;have es:aA qG Hs8:=y2.trans (w2.trans (z2.trans y3));exact fin _ σ5 H7 Hs8 s9 _ _ _ S8 es J9 (fun b hb=>aV hb) bB (iK (cj es _ _ rs) (bK tr8 bU)) m7
    ·refine Cj ?_;have es:aA qG Lp:=y2.trans w2;exact fin _ σ5 H6 Lp s6 H6 acc ys S6 es J6 (fun _ _=>rfl) (S6.kept D _ Tc) (cj es _ _ rs) m7
   ·have e:i=ts.length:=by omega
    subst e;rw [drop_length]at q2
    cases q2
    refine eC (turn.done (dI X N' scope cs C s2 H2 fp) rfl rfl rfl hc _ [] s' σ' Hi (fun _ _=>False) J1 (WY [] Hi WQ rfl) tni ((ok _ Hi qG (e3.trans Rz) sub).2 (le_refl _))) fun r3 s3 ⟨er,J3⟩=>?_;subst er;obtain⟨m3,hm3,_⟩:=J3.loc;have nC:Hi C=none:=J3.free;have I9:Inv X pins σ Hi s3:=I2.RW (ch:=fp) J3.os
     ⟨fun b o q n1 n2 n3=>J3.base.keep b o q n1 n2 n3,fun b o q n1 n2 n3=>J3.base.slot b o q n1 n2 n3,J3.base.free,fun b o q n1=>J3.base.there b o q n1,J3.base.qt,J3.base.pk,J3.base.qu⟩ J3.dG J3.bare fun b hb=>by
      obtain⟨_,f2,_,f4,f5,f6⟩:=yf b hb;exact⟨f4,f2,f5,f6⟩
    have SZ:aF (kc X P) ⟨H2,bQ,P.cl,B3⟩ [] [] Hi qG:=⟨sH,sub,nw,(fun i v q=>nomatch q),(fun i t q=>by simp at q),(fun i t q=>by simp at q),(fun i j t u a _ q=>by simp at q),rfl⟩;exact WS D C s3 Hi qG m3 I9 hm3 (I2.EU WW nC) (e2.trans sH) (hW.trans (e3.trans Rz)) (S2.after Rz SZ) ⟨D,rfl,S2.kept.free hD,⟨W0,ys,Tc,rs⟩,S2.j1 hD⟩
  ·refine .mk 0 (upd H2 D (.lst [])) bQ [] [] _ (zero_le _) (by simpa using h2) J0 (turn.keep 0 _ _ WT fun b hb o ho=>Ih b o ho) (dQ hD) (aA.refl _) (S2.sub.trans (dQ hD)) (fun a o q=>.inl q) bB (S2.sub.free hD) bU WZ fun b hb=>?_;have z:b≠D:=fun e=>by
    have:=Lm b hb;rw [e]at this;exact absurd (lt_of_lt_of_le this hD2) (lt_irrefl _)
   rw [aV z];exact(yf b hb).1
 exact codeAny_compStart_list loop (turn.self _ 0 _ _ _ (turn.keep 0 _ _ WT fun b hb o ho=>Ih b o ho) loop)
theorem wN{Γ Γ':G}{r:R}(h:gz cap mi b mt me Γ=some (r,Γ')):∃ts Γ1 out,mi Γ=some (ts,Γ1)/\cY b mt me (pR cap (bH cap Γ1)) ts []=some out/\r=.own (.lst out)/\Γ'=bH cap Γ1:=by
 unfold gz at h
 cases h1:mi Γ with
 |none=>rw [h1]at h;cases h
 |some p =>
 rw [h1]at h;obtain⟨ts,Γ1⟩:=p;dsimp only [Option.bind]at h
 cases h2:cY b mt me (pR cap (bH cap Γ1)) ts []with
 |none=>rw [h2]at h;cases h
 |some out =>
 rw [h2]at h
 cases h
 exact⟨ts,Γ1,out,rfl,h2,rfl,rfl⟩
theorem tP(hc:X.calm=true)(hi:Ao X P tg iter mi)(cp:X.Ok->∃cs,wM X scope cs)(yd:vx X scope N' cap)
  (Ig:∀(cs:List (Str×Addr))(C:Addr)(s₂:Shared)(H₂:Hp)(fp:List Addr)(P':Fx),P'.cl=P.cl->(∀j,cap[j]?=some none->P'.F j=none) ->
   xY (dI X N' scope cs C s₂ H₂ fp) P' tg b/\Ap (dI X N' scope cs C s₂ H₂ fp) P' ifs mt/\bj (dI X N' scope cs C s₂ H₂ fp) P' elt me)
  (hs:∀x,foldedSetIterable iter X.env x=pure x:=by intro _;rfl):bj X P (.ListComp elt [⟨tg,iter,ifs,0⟩] scope pos) (gz cap mi b mt me):=fun Γ r Γ' h=>by
 obtain⟨ts,Γ1,out,h1,h2,rfl,rfl⟩:=wN h;intro pins s σ H Q I ⟨Hs,S,k⟩;rw [eval_ListComp];refine D5 (use:=none) hc hi cp yd Ig hs h1 h2 I S fun D C s3 H' bu m3 I3 hn Lm e e' S' f=>⟨m3,hn,fun h' W5=>⟨.ref D,H',?_,rfl,k _ H' bu e e' S' f⟩⟩;exact I3.ye (t':=s3.toks) (fp:=[C]) (fun b hb=>by rw [mem_singleton.mp hb];exact Lm) fun b o hb q=>W5.extBut b o (fun z=>hb (by simp [z])) q
theorem Ar{i:Nat}{x:Str}{pos' Cy:Pos}(hN:X.N.Nodup)(hix:X.N[i]?=some x)(hx:Loc X.env.scope x)(hF:P.F i=none)(hc:X.calm=true)(hi:Ao X P tg iter mi)(cp:X.Ok->∃cs,wM X scope cs)(yd:vx X scope N' cap)
  (Ig:∀(cs:List (Str×Addr))(C:Addr)(s₂:Shared)(H₂:Hp)(fp:List Addr)(P':Fx),P'.cl=P.cl->(∀j,cap[j]?=some none->P'.F j=none) ->
   xY (dI X N' scope cs C s₂ H₂ fp) P' tg b/\Ap (dI X N' scope cs C s₂ H₂ fp) P' ifs mt/\bj (dI X N' scope cs C s₂ H₂ fp) P' elt me)
  (hs:∀x,foldedSetIterable iter X.env x=pure x:=by intro _;rfl) (WH:swapsWith (.ListComp elt [⟨tg,iter,ifs,0⟩] scope pos) (some (.Name x pos')) Cy.line X.env=pure true:=by rfl)
  (hf:X.fn x=true\/X.env.scope.names.lookup x=some .local:=by first|exact .inl rfl|exact .inr rfl|assumption) :
  lI X P (.Assign [.Name x pos'] (.ListComp elt [⟨tg,iter,ifs,0⟩] scope pos) Cy) (bJ i (gz cap mi b mt me)):=h7 fun Γ res h=>by
 unfold bJ at h
 cases h0:gz cap mi b mt me Γ with
 |none=>rw [h0]at h;cases h
 |some p =>
 rw [h0]at h;obtain⟨r,Γ'⟩:=p;obtain⟨ts,Γ1,out,h1,h2,rfl,rfl⟩:=wN h0
 cases h
 intro pins s σ H D I ⟨Hs,S,k⟩;rw [exec_Assign_Name_used _ _ _ _ WH];refine wpAny_bind (wpAny_standAt (wpAny_bind ?_));show wpAny _ _ (do let _<-comprehension (.ListComp elt [⟨tg,iter,ifs,0⟩] scope pos) scope X.env _ (newList []) false (eval iter X.env) (some (assign (.Name x pos') X.env))) _ _ s;refine wpAny_bind (wpAny_mono (D5 (use:=some (assign (.Name x pos') X.env)) (Q0:=fun _ s'=>∃σ' H',Inv X pins σ' H' s'/\D.nx σ' H') hc hi cp yd Ig hs h1 h2 I S fun Dd C s3 H' bu m3 I3 hn Lm e e' S' f=>?_) (fun _ s' hq=>wpAny_pure (wpAny_pure hq)) fun _ _ e=>e);show wpAny _ _ (assign (.Name x pos') X.env (.ref Dd)) _ _ s3;refine wpAny_assign_Name (wy I3 hN hix hx (v:=.ref Dd) rfl (fun s4 I4 ⟨a,W5,ha⟩=>?_) hf);have nCa:C≠a:=by
  rcases ha with rfl|ha
  ·exact Lm.2.1
  ·exact fun z=>Lm.2.2.2.2.1 x a ha z.symm
 refine⟨m3,hn.sameBut W5 nCa,fun h' W6=>⟨_,H',I4.ye (t':=s4.toks) (fp:=[C]) (fun b hb=>by rw [mem_singleton.mp hb];exact Lm) (fun b o hb q=>W6.extBut b o (fun z=>hb (by simp [z])) q),?_⟩⟩;exact k _ H' bu e' (S'.HP hF f)
end
section
variable {X:Cx}{P:Fx}{cl:Nat->Addr}{a b c e:Expr}{es:List Expr}{ma mb mc:MX}{pos pos':Pos}
theorem GA.imp{r r':R2}(h:GA X r)(i:∀x y H Q,r' x y H Q->r x y H Q):GA X r':=fun value slice pins s σ H x y v u Q I rx ry q=>h value slice pins s σ H x y v u Q I rx ry (i x y H Q q)
theorem Lq{t u:T}{r:R}(h:eF t u=some r):∃ts i z,(t=.lst ts\/t=.tup ts)/\u=.int i/\jU ts i=some z/\r=.sh z:=by
 unfold eF at h;split at h
 ·rename_i ts i
  cases q:jU ts i with
  |none=>rw [q]at h;cases h
  |some z=>rw [q]at h;cases h;exact⟨ts,i,z,.inl rfl,rfl,q,rfl⟩
 ·rename_i ts i
  cases q:jU ts i with
  |none=>rw [q]at h;cases h
  |some z=>rw [q]at h;cases h;exact⟨ts,i,z,.inr rfl,rfl,q,rfl⟩
 ·cases h
theorem ixs:GA X (rS ⟨X.K,cl⟩ eF):=GA.imp (KH.or Pj) fun x y H Q ⟨Hs,t,u,r,sm,h1,h2,hg,k⟩=>by
 obtain⟨ts,i,z,ht,rfl,hz,rfl⟩:=Lq hg;rcases ht with rfl|rfl
 ·obtain⟨p,xs,rfl,sq,rs⟩:=h1;obtain⟨v,hv,tv⟩:=D2 rs hz;exact .inl ⟨p,xs,i,v,rfl,h2,sq,hv,k v H (.val tv)⟩
 ·obtain⟨p,xs,rfl,sq,rs⟩:=h1;obtain⟨v,hv,tv⟩:=D2 rs hz;exact .inr ⟨p,xs,i,v,rfl,h2,pK sm sq,hv,k v H (.val tv)⟩
theorem cZ(ha:bj X P a ma)(hb:bj X P b mb)(hs:DL b:=by intro _ _;rfl):bj X P (.Subscript a b pos) (ah eF ma mb):=fun Γ r Γ' h=>by
 obtain⟨r1,Γ1,r2,h1,h2,hg⟩:=pL h;exact(Sr (ixs (cl:=P.cl)) (ha _ _ _ h1) (hb _ _ _ h2) hs).imp fun σ H Q q=>xV hg q
def cut{α:Type}(xs:List α)(lo hi:Option Int):List α:=(xs.drop (HT.vn xs.length 0 lo)).take (HT.vn xs.length xs.length hi-HT.vn xs.length 0 lo)
theorem Lr{K:KC}{H:Hp}{xs:List V}{ts:List T}(r:fz K H xs ts)(lo hi:Option Int):fz K H (E3 xs lo hi) (cut ts lo hi):=by
 unfold E3 cut;rw [aR r];exact Ac _ (Ae _ r)
abbrev MO:=G->Option (Option Int×G)
def rdO(K:KC)(P:Fx)(Γ:G)(o:Option Int)(Γ':G):TO:=fun σ H Q=>∃Hs,aF K P Γ σ H Hs/\∀H' bu,aA H H'->aA Hs bu->aF K P Γ' σ H' bu->Q o H'
def Cz(X:Cx)(P:Fx)(e:Option Expr)(m:MO):Prop:=∀Γ o Γ',m Γ=some (o,Γ')->PO X e (rdO (kc X P) P Γ o Γ')
theorem PO.imp{e:Option Expr}{t t':TO}(h:PO X e t)(i:∀σ H Q,t' σ H Q->t σ H Q):PO X e t':=fun pins s σ H Q I q=>h pins s σ H Q I (i σ H Q q)
def tQ:MO:=fun Γ=>some (none,Γ)
def pS(m:MX):MO:=fun Γ=>(m Γ).bind fun p=>match p.1 with
 |.sh (.int i)=>some (some i,p.2)
 |_=>none
theorem cF:Cz X P none tQ:=fun Γ o Γ' h=>by
 cases h
 exact PO.imp KA fun σ H Q ⟨Hs,S,k⟩=>k H Hs (aA.refl _) (aA.refl _) S
theorem cn{m:MX}(h:bj X P e m):Cz X P (some e) (pS m):=fun Γ o Γ' hm=>by
 unfold pS at hm
 cases h1:m Γ with
 |none=>rw [h1]at hm;cases hm
 |some p =>
  rw [h1]at hm;obtain⟨r,Γ1⟩:=p;dsimp only [Option.bind]at hm;split at hm
  ·rename_i i
   cases hm
   exact PO.imp (KD (h _ _ _ h1)) fun σ H Q ⟨Hs,S,k⟩=>⟨Hs,S,fun v H1 bq e1 en S1 f1=>⟨i,f1,k H1 bq e1 en S1⟩⟩
  ·cases hm
def yg(m:MX)(lo hi:MO):MX:=fun Γ=>(m Γ).bind fun p=>(lo p.2).bind fun q=>(hi q.2).bind fun z=>match p.1.tree with
 |.lst ts=>some (.own (.lst (cut ts q.1 z.1)),z.2)
 |_=>none
theorem cC{lo hi:Option Expr}{p2:Pos}{m:MX}{ml mh:MO}(he:bj X P e m)(hl:Cz X P lo ml)(hh:Cz X P hi mh):bj X P (.Subscript e (.Slice lo hi none p2) pos) (yg m ml mh):=fun Γ r Γ' h=>by
 unfold yg at h
 cases h1:m Γ with
 |none=>rw [h1]at h;cases h
 |some p =>
  rw [h1]at h;obtain⟨r1,Γ1⟩:=p;dsimp only [Option.bind]at h
  cases h2:ml Γ1 with
  |none=>rw [h2]at h;cases h
  |some q =>
   rw [h2]at h;obtain⟨o1,Γ2⟩:=q;dsimp only at h
   cases h3:mh Γ2 with
   |none=>rw [h3]at h;cases h
   |some z =>
    rw [h3]at h;obtain⟨o2,Γ3⟩:=z;dsimp only at h;split at h
    ·rename_i ts ht
     cases h
     refine(G8 KI (he _ _ _ h1) (hl _ _ _ h2) (hh _ _ _ h3)).imp fun σ H Q ⟨Hs,S,k⟩=>⟨Hs,S,fun v H1 bq e1 en S1 f1=>⟨bq,S1,fun H2 bQ e2 hW S2=>⟨bQ,S2,fun H3 jH e3 Cp S3=>?_⟩⟩⟩;have tb:=((S1.DR f1).mono (e2.trans e3) (hW.trans Cp));rw [ht]at tb;obtain⟨a,xs,rfl,sq,rs⟩:=tb;refine⟨a,xs,rfl,sq,fun p n=>?_⟩;obtain⟨Ii,e4,NX,S4,f4⟩:=Out.fin (.tI n (Lr rs o1 o2)) S3;exact k _ _ Ii (e1.trans (e2.trans (e3.trans e4))) (en.trans (hW.trans (Cp.trans NX))) S4 f4
    ·cases h
def yh(m:MX):MX:=fun Γ=>(m Γ).bind fun p=>match p.1 with
 |.sh (.int i)=>some (.sh (.int (-i)),p.2)
 |_=>none
theorem sA{m:MX}(h:bj X P a m):bj X P (.UnaryOp .USub a pos) (yh m):=fun Γ r Γ' hm=>by
 unfold yh at hm
 cases h1:m Γ with
 |none=>rw [h1]at hm;cases hm
 |some p =>
  rw [h1]at hm;obtain⟨r1,Γ1⟩:=p;dsimp only [Option.bind]at hm;split at hm
  ·rename_i i
   cases hm
   exact(Sa Pb (h _ _ _ h1)).imp fun σ H Q ⟨Hs,S,k⟩=>⟨Hs,S,fun v H1 bq e1 en S1 f1=>⟨i,f1,k _ H1 bq e1 en S1 rfl⟩⟩
  ·cases hm
theorem i8{K:KC}{H Hs:Hp}{vs:List V}{t:T}(h:nX K H Hs vs [t]):∃v,vs=[v]/\vw K H Hs v t:=by
 cases h with
 |cons h r =>
  cases r
  exact⟨_,rfl,h⟩
def eL:List T->Option R
 |[.lst ts]=>some (.sh (.int ts.length))
 |[.tup ts]=>some (.sh (.int ts.length))
 |[.str x]=>if x.length<=sizeLine then some (.sh (.int x.length))else none
 |[.eX ks _]=>some (.sh (.int ks.length))
 |_=>none
theorem iP:ro X cl (.builtin "len") eL:=gx.imp ((xJ.or xK).or E9) fun vs H Q ⟨Hs,ts,r,sm,h1,hg,k⟩=>by
 unfold eL at hg;split at hg
 ·rename_i us
  cases hg
  obtain⟨v,rfl,p,xs,rfl,sq,rs⟩:=i8 h1;rw [<-aR rs]at k;exact .inl (.inl ⟨p,xs,rfl,.inl sq,k _ H (.val rfl)⟩)
 ·rename_i us
  cases hg
  obtain⟨v,rfl,p,xs,rfl,sq,rs⟩:=i8 h1;rw [<-aR rs]at k;exact .inl (.inl ⟨p,xs,rfl,.inr (pK sm sq),k _ H (.val rfl)⟩)
 ·split at hg
  ·rename_i hl
   cases hg
   obtain⟨v,rfl,e⟩:=i8 h1
   cases(show v=V.str _ from e)
   exact .inl (.inr ⟨_,rfl,hl,k _ H (.val rfl)⟩)
  ·cases hg
 ·rename_i ks us
  cases hg
  obtain⟨v,rfl,p,xs,rfl,sq,l,rs⟩:=i8 h1;refine .inr ⟨p,_,rfl,sq,?_⟩;have e:(ks.zip xs).length=ks.length:=by rw [length_zip,l];omega
  rw [e];exact k _ H (.val rfl)
 ·cases hg
def fM:List T->Option R
 |[.lst ts]=>some (.own (.lst ts))
 |[.tup ts]=>some (.own (.lst ts))
 |_=>none
theorem i9:ro X cl (.type "list") fM:=gx.imp xM fun vs H Q ⟨Hs,ts,r,sm,h1,hg,k⟩=>by
 unfold fM at hg;split at hg
 ·cases hg
  obtain⟨v,rfl,p,xs,rfl,sq,rs⟩:=i8 h1;exact⟨p,xs,rfl,.inl sq,fun l n=>k _ _ (.tI n rs)⟩
 ·cases hg
  obtain⟨v,rfl,p,xs,rfl,sq,rs⟩:=i8 h1;exact⟨p,xs,rfl,.inr (pK sm sq),fun l n=>k _ _ (.tI n rs)⟩
 ·cases hg
end
def P6:T->String
 |.cg => "NoneType"
 |.bl _ => "bool"
 |.int _ => "int"
 |.str _ => "str"
 |.lst _ => "list"
 |.tup _ => "tuple"
 |.eX _ _ => "dict"
 |.obj _ => "object"
def Kc(n c:String):Bool:=n==c||(n == "bool" && c == "int")
theorem Ls(K:PySem.W.Frag):∀n∈["NoneType", "bool", "int", "str", "list", "tuple", "dict"],kitOne K (.type n) (.type "int")=some (Kc n "int"):=by
 intro n h;simp only [mem_cons,not_mem_nil,or_false]at h;rcases h with rfl|rfl|rfl|rfl|rfl|rfl|rfl<;>kernel_rfl
theorem Au(K:PySem.W.Frag):∀n∈["NoneType", "bool", "int", "str", "list", "tuple", "dict"],kitOne K (.type n) (.type "bool")=some (Kc n "bool"):=by
 intro n h;simp only [mem_cons,not_mem_nil,or_false]at h;rcases h with rfl|rfl|rfl|rfl|rfl|rfl|rfl<;>kernel_rfl
theorem Ij(K:PySem.W.Frag):∀n∈["NoneType", "bool", "int", "str", "list", "tuple", "dict"],kitOne K (.type n) (.type "list")=some (Kc n "list"):=by
 intro n h;simp only [mem_cons,not_mem_nil,or_false]at h;rcases h with rfl|rfl|rfl|rfl|rfl|rfl|rfl<;>kernel_rfl
theorem kit_tuple(K:PySem.W.Frag):∀n∈["NoneType", "bool", "int", "str", "list", "tuple", "dict"],kitOne K (.type n) (.type "tuple")=some (Kc n "tuple"):=by
 intro n h;simp only [mem_cons,not_mem_nil,or_false]at h;rcases h with rfl|rfl|rfl|rfl|rfl|rfl|rfl<;>kernel_rfl
def qH:T->Bool
 |.obj _=>true
 |_=>false
section
variable {X:Cx}{P:Fx}{cl:Nat->Addr}{e:Expr}{pos p p2:Pos}{m:MX}
theorem Lu{t:T}(h:qH t=false):P6 t∈["NoneType", "bool", "int", "str", "list", "tuple", "dict"]:=by
 cases t<;>simp_all [P6,qH]
theorem Lv{pins:List (Addr×Obj)}{s:Shared}{σ:St}{H Hs:Hp}{x:V}{u:Value}{t:T}{c:String}{k:Bool}{Q:Value->Shared->Prop}(I:Inv X pins σ H s)(rx:RelV x u)(sm:aA Hs H)(h:vw ⟨X.K,cl⟩ H Hs x t)(ho:qH t=false)
  (hk:kitOne X.K (.type (P6 t)) (.type c)=some k) (q:∀tk,Q (.bool k) {s with toks:=tk}):wpAny (model X.prog X.w) X.A (call (.builtin "isinstance") [u,.type c]) Q X.xe s:=by
 cases t with
 |cg =>
  cases(show x=.cg from h)
  cases(show u=Value.none from rx)
  exact kia_one PySem.W.kitx_none I.wx True.intro hk (fun z=>nomatch z) q
 |bl y =>
  cases(show x=.bl y from h)
  cases(show u=Value.bool y from rx)
  exact kia_one PySem.W.kitx_bool I.wx True.intro hk (fun z=>nomatch z) q
 |int i =>
  cases(show x=.int i from h)
  obtain⟨t,e⟩:=(show ∃t,u=Value.int i t from rx)
  cases e
  exact kia_one PySem.W.kitx_int I.wx True.intro hk (fun z=>nomatch z) q
 |str y =>
  cases(show x=.str y from h)
  obtain⟨t,e⟩:=(show ∃t,u=Value.str y t from rx)
  cases e
  exact kia_one PySem.W.kitx_str I.wx True.intro hk (fun z=>nomatch z) q
 |lst ts =>
  obtain⟨a,xs,rfl,sq,_⟩:=h
  cases(show u=Value.ref a from rx)
  obtain⟨bo,_,⟨o,n,e1,c1,_⟩,_⟩:=I.list sq;exact kia_one PySem.W.kitx_list I.wx ⟨o,e1,c1⟩ hk (fun z=>nomatch z) q
 |tup ts =>
  obtain⟨a,xs,rfl,sq,_⟩:=h
  cases(show u=Value.ref a from rx)
  obtain⟨bo,_,⟨o,e1,c1,_⟩,_⟩:=I.tuple (pK sm sq);exact kia_one PySem.W.kitx_tuple I.wx ⟨o,e1,c1⟩ hk (fun z=>nomatch z) q
 |eX ks ts =>
  obtain⟨a,xs,rfl,ea,_⟩:=h
  cases(show u=Value.ref a from rx)
  obtain⟨_,_,vs,_,o,es,ep,e1,e2,_⟩:=I.dG a _ ea;exact kia_one PySem.W.kitx_dict I.wx ⟨o,e1,e2.1⟩ hk (fun z=>nomatch z) q
 |obj n=>cases ho
def W7(K:KC)(c:String):List V->Hp->VK->Prop:=fun xs H Q=>∃Hs x t,xs=[x,.ty c]/\aA Hs H/\vw K H Hs x t/\qH t=false/\Q (.bl (Kc (P6 t) c)) H
theorem Ik{c:String}(hk:∀K,∀n∈["NoneType", "bool", "int", "str", "list", "tuple", "dict"],kitOne K (.type n) (.type c)=some (Kc n c)):gx X (.builtin "isinstance") (W7 ⟨X.K,cl⟩ c):=by
 intro pins s σ H xs us Q I r ⟨Hs,x,t,ex,sm,h,ho,q⟩;subst ex;obtain⟨u,w,rfl,r1,r2⟩:=vals2 r
 cases(show w=Value.type c from r2)
 exact Lv I r1 sm h ho (hk _ _ (Lu ho)) fun tk=>⟨.bl (Kc (P6 t) c),H,I.tok tk,rfl,q⟩
def tR(c:String)(m:MX):MX:=fun Γ=>(m Γ).bind fun p=>if qH p.1.tree=true then none else some (.sh (.bl (Kc (P6 p.1.tree) c)),p.2)
theorem pT{c:String}{x:Str}(hk:∀K,∀n∈["NoneType", "bool", "int", "str", "list", "tuple", "dict"],kitOne K (.type n) (.type c)=some (Kc n c))(hg:Gl X "isinstance")(hm:X.mg "isinstance" = none)(hv:bootBuiltins "isinstance" = some (.builtin "isinstance"))
  (NY:Gl X x) (J4:X.mg x=none) (hv2:bootBuiltins x=some (.type c)) (h:bj X P e m) (hn:x ≠ "__name__" := by decide) (hd:(x==("__debug__" : Str))=false:=by decide)
  (B9:starEach [e,.Name x p2] X.env=(false,eval e X.env)::starEach [.Name x p2] X.env:=by rfl) (P7:starEach [.Name x p2] X.env=(false,eval (.Name x p2) X.env)::starEach [] X.env:=by rfl) (nt:(backTo pos (starEach [.Name x p2] X.env)).any (·.1)=false:=by rfl) :
  bj X P (.Call (.Name "isinstance" p) [e,.Name x p2] [] pos) (tR c m):=fun Γ r Γ' wO=>by
 unfold tR at wO
 cases h1:m Γ with
 |none=>rw [h1]at wO;cases wO
 |some q =>
  rw [h1]at wO;obtain⟨r1,Γ1⟩:=q;dsimp only [Option.bind]at wO;split at wO
  ·cases wO
  ·rename_i ho
   cases wO
   refine(sV (Ik (cl:=P.cl) hk) hg hm hv (gL (h _ _ _ h1) (gL (Kj (v:=.ty c) NY J4 hv2 rfl hn hd) qx P7) B9) (by decide) (by decide) B9 nt).imp fun σ H Q ⟨Hs,S,k⟩=>⟨Hs,S,fun v H1 bq e1 en S1 f1=>?_⟩;exact⟨bq,v,r1.tree,rfl,S1.sub,S1.DR f1,by simpa using ho,k _ H1 bq e1 en S1 rfl⟩
def boolsOf:List T->Option (List Bool)
 |[]=>some []
 |.bl b::r=>(boolsOf r).map fun bs=>b::bs
 |_::_=>none
theorem rA{K:KC}{H:Hp}:∀{ts:List T}{xs:List V}{bs:List Bool},boolsOf ts=some bs->fz K H xs ts->xs=bs.map V.bl
 |[],xs,bs,h,r=>by
  cases h
  exact r
 |t::ts,xs,bs,h,r=>by
  obtain⟨v,vs,rfl,q,qs⟩:=r
  cases t with
  |bl b =>
   have h:(boolsOf ts).map (fun bs=>b::bs)=some bs:=h
   cases e:boolsOf ts with
   |none=>rw [e]at h;cases h
   |some cs =>
    rw [e]at h
    cases h
    rw [rA e qs]
    cases(show v=V.bl b from q)
    rfl
  |_=>cases h
theorem rB:∀{bs:List Bool}{us:List Value},Vals (bs.map V.bl) us->us=bs.map Value.bool
 |[],us,h=>by
  cases h
  rfl
 |b::bs,us,h=>by
  cases h with
  |cons r rs =>
   cases(show _=Value.bool b from r)
   rw [rB rs];rfl
def CB:List T->Option R
 |[.lst ts]=>(boolsOf ts).map fun bs=>.sh (.bl (bs.all id))
 |_=>none
theorem range_all:∀(bs:List Bool),((List.range bs.length).all fun i=>(bs[i]?).getD true)=bs.all id
 |bs=>by
  rw [Bool.eq_iff_iff];simp only [all_eq_true,mem_range,id];constructor
  ·intro h x hx;obtain⟨i,hi,e⟩:=mem_iff_getElem.mp hx;have:=h i hi;rw [getElem?_eq_getElem hi,e]at this;exact this
  ·intro h i hi;rw [getElem?_eq_getElem hi];exact h _ (getElem_mem hi)
theorem P8(hc:X.calm=true):ro X cl (.builtin "all") CB:=by
 intro pins s σ H vs us Q I r ⟨Hs,ts,res,sm,h1,hg,k⟩;unfold CB at hg;split at hg
 ·rename_i zs
  cases hb:boolsOf zs with
  |none=>rw [hb]at hg;cases hg
  |some bs =>
   rw [hb]at hg
   cases hg
   obtain⟨v,rfl,a,xs,rfl,sq,rs⟩:=i8 h1;obtain⟨u,rfl,ru⟩:=vals1 r
   cases(show u=Value.ref a from ru)
   have ex:=rA hb rs;subst ex;obtain⟨bo,vv,pl,_⟩:=I.list sq;have ei:=rB vv;subst ei;have ha:a<s.heap.objs.size:=by
    obtain⟨o,_,e,_⟩:=pl;exact Heap.lt_size e
   refine call_all_walk (wpAny_pyIter_list pl.isList ?_);refine⟨s.heap.objs.size,[s.heap.objs.size,a],[s.heap.objs.size],(bs.map Value.bool).toArray.size,_,_,fun i=>(bs[i]?).getD true,rfl,Walks.list (A:=X.A.in1) (I.ok.hd hc) _ a (ne_of_lt ha) (bs.map Value.bool).toArray,
    ⟨⟨_,Heap.get?_push_size _ rfl,rfl,rfl⟩,pl.isList.push _⟩,fun i z s' Q' E' hP hQ=>?_,fun h' tk hk=>?_⟩
   ·have hP:(bs.map Value.bool).toArray[i]?=some z:=hP;rw [List.getElem?_toArray,getElem?_map]at hP
    cases e:bs[i]? with
    |none=>rw [e]at hP;cases hP
    |some y =>
     rw [e]at hP
     cases hP
     simp only [e,Option.getD_some]at hQ;exact wpAny_truthy_bool hQ
   ·have e:(List.range (bs.map Value.bool).toArray.size).all (fun i=>(bs[i]?).getD true)=bs.all id:=by
     rw [<-range_all];simp
    rw [e];refine⟨.bl (bs.all id),H,I.kept (t':=tk) fun b o q=>hk b o (fun hm=>?_) (Heap.get?_push_of_some _ q),rfl,k _ H (.val rfl)⟩;rw [mem_singleton.mp hm]at q;exact absurd (Heap.lt_size q) (lt_irrefl _)
 ·cases hg
end
section
variable {Γ Γ1 Γ2 Γ3:G}{r r1 r2:R}{t u:T}{res:Res}
theorem aB{m n:MS}(h:m Γ=some (.nx Γ1))(h':n Γ1=some res):aL m n Γ=some res:=by
 unfold aL;rw [h];exact h'
theorem fC{m n:MS}(h:m Γ=some (.rt r Γ1)):aL m n Γ=some (.rt r Γ1):=by
 unfold aL;rw [h];rfl
theorem tS{i:Nat}{m:MX}(h:m Γ=some (.sh t,Γ1)):bJ i m Γ=some (.nx (Γ1.set i (.sh t))):=by
 unfold bJ;rw [h];rfl
theorem ja{i:Nat}{m:MX}(h:m Γ=some (.own t,Γ1)):bJ i m Γ=some (.nx (Γ1.set i (.own t))):=by
 unfold bJ;rw [h];rfl
theorem j6{np:Nat}{m:MX}(h:m Γ=some (.sh t,Γ1)):aS np m Γ=some (.rt (.sh t) Γ1):=by
 unfold aS;rw [h];rfl
theorem fY{np:Nat}{m:MX}(h:m Γ=some (.own t,Γ1)):aS np m Γ=some (.rt (.own t) Γ1):=by
 unfold aS;rw [h];rfl
theorem D6{np j:Nat}{m:MX}(h:m Γ=some (.bor j t,Γ1))(hj:¬j<np):aS np m Γ=some (.rt (.own t) (Γ1.set j .no)):=by
 unfold aS;rw [h];show some (if j<np then Res.rt (.sh t) (Γ1.set j (.sh t))else .rt (.own t) (Γ1.set j .no))=_;rw [if_neg hj]
theorem fZ{c:MT}{m n:MS}(h:c Γ=some (true,Γ1))(h':m Γ1=some res):eE c m n Γ=some res:=by
 unfold eE;rw [h];exact h'
theorem bA{c:MT}{m n:MS}(h:c Γ=some (false,Γ1))(h':n Γ1=some res):eE c m n Γ=some res:=by
 unfold eE;rw [h];exact h'
theorem br{g:T->T->Option R}{ma mb:MX}(h:ma Γ=some (r1,Γ1))(h':mb Γ1=some (r2,Γ2))(hg:g r1.tree r2.tree=some r):ah g ma mb Γ=some (r,Γ2):=by
 unfold ah;rw [h];show(mb Γ1).bind _=_;rw [h'];show(g r1.tree r2.tree).map _=_;rw [hg];rfl
theorem bO{m:MX}{b:Bool}(h:m Γ=some (.sh (.bl b),Γ1)):ax m Γ=some (b,Γ1):=by
 unfold ax;rw [h];rfl
theorem j7{m:MT}{b:Bool}(h:m Γ=some (b,Γ1)):fu m Γ=some (!b,Γ1):=by
 unfold fu;rw [h];rfl
theorem D7{m n:MT}{b:Bool}(h:m Γ=some (true,Γ1))(h':n Γ1=some (b,Γ2)):jO m n Γ=some (b,Γ2):=by
 unfold jO;rw [h];exact h'
theorem Lw{m n:MT}(h:m Γ=some (false,Γ1)):jO m n Γ=some (false,Γ1):=by
 unfold jO;rw [h];rfl
theorem jl{m n:MT}{b:Bool}(h:m Γ=some (false,Γ1))(h':n Γ1=some (b,Γ2)):fw m n Γ=some (b,Γ2):=by
 unfold fw;rw [h];exact h'
theorem P9{m n:MT}(h:m Γ=some (true,Γ1)):fw m n Γ=some (true,Γ1):=by
 unfold fw;rw [h];rfl
theorem D8{m n:MX}(h:m Γ=some (.sh (.bl true),Γ1))(h':n Γ1=some (r,Γ2)):oe m n Γ=some (r,Γ2):=by
 unfold oe;rw [h];exact h'
theorem oh{m:MX}{n:MA}{ts:List T}(h:m Γ=some (r,Γ1))(h':n (dH r Γ1).2=some (ts,Γ2)):aQ m n Γ=some ((dH r Γ1).1::ts,Γ2):=by
 unfold aQ;rw [h];show(n (dH r Γ1).2).map _=_;rw [h'];rfl
theorem NZ{m:MX}{n:MA}{ts:List T}(h:m Γ=some (r,Γ1))(h':n Γ1=some (ts,Γ2)):ck m n Γ=some (r.tree::ts,Γ2):=by
 unfold ck;rw [h];show(n Γ1).map _=_;rw [h'];rfl
theorem jb{np:Nat}{cf:CF}{n:MA}{ts:List T}(h:n Γ=some (ts,Γ1))(hl:ts.length=np)(hc:cf (ts.map Slot.sh)=some (.sh t,Γ2)):aE np cf n Γ=some (.sh t,Γ1):=by
 unfold aE;rw [h];show(if ts.length=np then _ else _)=_;rw [if_pos hl,hc]
theorem tT{np:Nat}{cf:CF}{n:MA}{ts:List T}(h:n Γ=some (ts,Γ1))(hl:ts.length=np)(hc:cf (ts.map Slot.sh)=some (.own t,Γ2)):aE np cf n Γ=some (.own t,Γ1):=by
 unfold aE;rw [h];show(if ts.length=np then _ else _)=_;rw [if_pos hl,hc]
theorem Il{g:List T->Option R}{n:MA}{ts:List T}(h:n Γ=some (ts,Γ1))(hg:g ts=some r):ba g n Γ=some (r,Γ1):=by
 unfold ba;rw [h];show(g ts).map _=_;rw [hg];rfl
theorem Qa{n:MA}{ts:List T}(h:n Γ=some (ts,Γ1))(hl:ts.length<=1000):eA n Γ=some (.own (.lst ts),Γ1):=by
 unfold eA;rw [h];show(if ts.length<=1000 then _ else _)=_;rw [if_pos hl]
theorem tV{i:Nat}{m:MX}{us ts:List T}(h0:Γ[i]?=some (.own (.lst us)))(h:m Γ=some (r,Γ1))(h2:(dH r Γ1).2[i]?=some (.own (.lst ts)))(hl:ts.length<sizeLine):cU i m Γ=some (.nx ((dH r Γ1).2.set i (.own (.lst (ts++[(dH r Γ1).1]))))):=by
 unfold cU;rw [h0];show(m Γ).bind _=_;rw [h];show(match (dH r Γ1).2[i]? with|some (.own (.lst ts))=>if ts.length<sizeLine then some (Res.nx ((dH r Γ1).2.set i (.own (.lst (ts++[(dH r Γ1).1])))))else none|_=>none)=_;rw [h2];show(if ts.length<sizeLine then _ else _)=_;rw [if_pos hl]
theorem fm{mi:MI}{b:BG}{m:MS}{ts:List T}(h:mi Γ=some (ts,Γ1))(hl:dt b m ts Γ1=some res):gy mi b m Γ=some res:=by
 unfold gy;rw [h];exact hl
theorem sC{b:BG}{m:MS}{ts:List T}(hb:b t Γ=some Γ1)(hm:m Γ1=some (.nx Γ2))(hl:dt b m ts Γ2=some res):dt b m (t::ts) Γ=some res:=by
 unfold dt;rw [hb];show(m Γ1).bind _=_;rw [hm];exact hl
theorem pU{b:BG}{m:MS}{ts:List T}(hb:b t Γ=some Γ1)(hm:m Γ1=some (.rt r Γ2)):dt b m (t::ts) Γ=some (.rt r Γ2):=by
 unfold dt;rw [hb];show(m Γ1).bind _=_;rw [hm];rfl
theorem om{n:Nat}{m:MS}{as:G}(h:m (as++List.replicate (n-as.length) Slot.no)=some (.rt (.sh t) Γ)):du n m as=some (.sh t,Γ):=by
 unfold du;rw [h]
theorem gc{n:Nat}{m:MS}{as:G}(h:m (as++List.replicate (n-as.length) Slot.no)=some (.rt (.own t) Γ)):du n m as=some (.own t,Γ):=by
 unfold du;rw [h]
theorem D9{cap:List (Option Nat)}{mi:MI}{b:BG}{mt:MT}{me:MX}{ts out:List T}(h:mi Γ=some (ts,Γ1))(hl:cY b mt me (pR cap (bH cap Γ1)) ts []=some out):gz cap mi b mt me Γ=some (.own (.lst out),bH cap Γ1):=by
 unfold gz;rw [h];show(cY b mt me (pR cap (bH cap Γ1)) ts []).map _=_;rw [hl];rfl
theorem Av{b:BG}{me:MX}{f:T->T}:∀(ts acc:List T),(∀t∈ts,∃Γ1 r Γ2,b t Γ=some Γ1/\me Γ1=some (r,Γ2)/\(dH r Γ2).1=f t)->acc.length+ts.length<=sizeLine->cY b lE me Γ ts acc=some (acc++ts.map f)
 |[],acc,_,_=>by
  show some acc=_;rw [map_nil,append_nil]
 |t::ts,acc,h,hl=>by
  obtain⟨Γ1,r,Γ2,h1,h2,h3⟩:=h t mem_cons_self;have Ea:acc.length<sizeLine:=by
   rw [length_cons]at hl;omega
  unfold cY;rw [h1];show(me Γ1).bind (fun q=>if acc.length<sizeLine then cY b lE me Γ ts (acc++[(dH q.1 q.2).1])else none)=_;rw [h2];show(if acc.length<sizeLine then cY b lE me Γ ts (acc++[(dH r Γ2).1])else none)=_;rw [if_pos Ea,Av ts _ (fun u hu=>h u (mem_cons_of_mem _ hu)) (by rw [length_append,List.length_singleton];rw [length_cons]at hl;omega),h3];rw [map_cons,append_assoc];rfl
end
structure Lx(K:PySem.W.Frag)(C:Addr):Prop where
 makes:makesIn K C=true
 init:findIn K (.ref C) "__init__" = some (some (.builtin "object.__init__"))
 kp:keepIn K (.ref C)=true
section
variable {X:Cx}{P:Fx}{x:Str}{p pos:Pos}{C:Addr}{n:Nat}
def Td(C:Addr):TE:=fun _ H Q=>∀x dx,H x=none->H dx=none->dx≠x->Q (.ref x) (upd (upd H dx (.own x)) x (.ins C dx []))
theorem FA{pins:List (Addr×Obj)}{σ:St}{H:Hp}{s:Shared}{Q:VK}(M0:Lx X.K C)(hr:dr 1 X.A)(I:Inv X pins σ H s)(h:Td C σ H Q):wpAny (model X.prog X.w) X.A (call (.ref C) []) (EP X pins σ Q) X.xe s:=by
 have q:=h (s.heap.objs.size+1) s.heap.objs.size (I.dG.fresh (le_succ _)) (I.dG.fresh (le_refl _)) (ne_of_lt (lt_succ_self _));have I2:=Inv.made (C:=C) I;refine wpAny_call (EZ I.wx M0.makes M0.init (fun self=>PySem.W.Looks.of_pure (PySem.W.oi_bind self)) ?_);have get:((s.heap.push emptyDict).push (instObj C s.heap.objs.size)).get? (s.heap.objs.size+1)=some (instObj C s.heap.objs.size):=by
  have z:=Heap.get?_push_size (s.heap.push emptyDict) (o:=instObj C s.heap.objs.size) rfl;rwa [Heap.size_push]at z
 have Y:=makes_of (M:=model X.prog X.w) I.wx M0.makes;have t1:PySem.W.Looks (model X.prog X.w) ((s.heap.push emptyDict).push (instObj C s.heap.objs.size)) (typeOf (.ref (s.heap.objs.size+1))) (.ref C):=(PySem.W.Looks.ld get).andThen .now;have t2:PySem.W.Looks (model X.prog X.w) ((s.heap.push emptyDict).push (instObj C s.heap.objs.size)) (isInstance (.ref (s.heap.objs.size+1)) (.type "object")) true:=t1.andThen (Y.top.keeps fun b o e=>Heap.get?_push_of_some _ (Heap.get?_push_of_some _ e));refine codeAny_call_builtin PySem.W.oi_plain PySem.W.entry_oi (@PySem.W.check_slot (model X.prog X.w) _ _ _ "object.__init__" "object" "__init__" (.ref (s.heap.objs.size+1)) [] [] _ PySem.W.oi_kind PySem.W.oi_split t2 (PySem.W.oi_args _) ?_);rw [oi_run];exact wpAny_pure (And.intro rfl ⟨V.ref (s.heap.objs.size+1),_,I2,rfl,q⟩)
theorem Qb(M0:Lx X.K C)(hr:dr 1 X.A)(hg:Gl X x)(hm:X.mg x=some (.ref C))(sU:(x==("__debug__" : Str))=false:=by decide):PE X (.Call (.Name x p) [] [] pos) (Td C):=by
 intro pins s σ H Q I h;refine wpAny_Call_Name_kw (xF I hg hm ?_ sU);exact callWith_K0 I.wx M0.kp (FA M0 hr I h)
def rX(n:Nat):MX:=fun Γ=>some (.sh (.obj n),Γ)
theorem gN(M0:Lx X.K (P.cl n))(hr:dr 1 X.A)(hg:Gl X x)(hm:X.mg x=some (.ref (P.cl n)))(sU:(x==("__debug__" : Str))=false:=by decide):bj X P (.Call (.Name x p) [] [] pos) (rX n):=fun Γ r Γ' h=>by
 cases h
 refine(Qb M0 hr hg hm sU).imp fun σ H Q ⟨Hs,S,k⟩ x dx h1 h2 h3=>?_;have e1:aA H (upd H dx (.own x)):=dQ h2;have n1:upd H dx (.own x) x=none:=by
  rw [aV (fun e=>h3 e.symm)];exact h1
 have e2:aA H (upd (upd H dx (.own x)) x (.ins (P.cl n) dx [])):=e1.trans (dQ n1);have nHs:Hs x=none:=S.sub.free h1;have e3:aA Hs (upd Hs x (.ins (P.cl n) dx [])):=dQ nHs;refine k _ _ (upd Hs x (.ins (P.cl n) dx [])) e2 e3 ((S.grow e2).share e3 (fun b o q=>?_) (S.xU (S.kept.free h1)) fun i t b g1 g2=>?_) ⟨x,dx,rfl,bB⟩
 ·by_cases z:b=x
  ·subst z;rw [bB]at q ⊢;exact q
  ·rw [aV z]at q ⊢;exact e1 _ _ (S.sub _ _ q)
 ·have z:b≠x:=by
   rintro rfl;exact S.j1 h1 i t g1 g2
  rw [aV z];obtain⟨c,q1,_,q3⟩:=S.own i t g1;rw [g2]at q1
  cases q1
  exact q3.free
def j8(X:Cx)(cl:Nat->Addr)(m:Str)(n np:Nat)(cf:CF):Prop:=∃(f:Addr) (fd:FuncData) (ps:List Str) (k:Nat),Gy X.K (cl n)/\Meth X.K (cl n) m f/\bP X.prog X.w X.K X.mg X.base hV k f fd ps (hZ ⟨X.K,cl⟩ np cf)/\dr k X.A/\Binds X.K fd ps []
def Aw(tb:Nat->Option (Nat×CF))(mo:MX)(ma:MA):MX:=fun Γ=>(mo Γ).bind fun p=>match p.1 with
 |.sh (.obj n)=>match tb n with
  |some (np,cf)=>(ma p.2).bind fun q=>if q.1.length+1=np then match cf (.sh (.obj n)::q.1.map Slot.sh)with
   |some (.sh t,_)=>some (.sh t,q.2)
   |some (.own t,_)=>some (.own t,q.2)
   |_=>none else none
  |none=>none
 |_=>none
theorem FC{tb:Nat->Option (Nat×CF)}{mo:MX}{ma:MA}{Γ Γ':G}{r:R}(h:Aw tb mo ma Γ=some (r,Γ')):∃n Γ1 np cf ts Γ2,mo Γ=some (.sh (.obj n),Γ1)/\tb n=some (np,cf)/\ma Γ1=some (ts,Γ')/\ts.length+1=np/\cf (.sh (.obj n)::ts.map Slot.sh)=some (r,Γ2)/\((∃t,r=.sh t)\/∃t,r=.own t):=by
 obtain⟨r1,Γ1,h1,h⟩:=fV h;dsimp only at h;split at h
 ·rename_i n;refine⟨n,Γ1,?_⟩;split at h
  ·rename_i np cf ht;obtain⟨ts,Γ3,h2,h⟩:=fV h;dsimp only at h;split at h
   ·rename_i hl;split at h
    ·rename_i t Γ2 hc
     cases h
     exact⟨np,cf,ts,Γ2,h1,ht,h2,hl,hc,.inl ⟨t,rfl⟩⟩
    ·rename_i t Γ2 hc
     cases h
     exact⟨np,cf,ts,Γ2,h1,ht,h2,hl,hc,.inr ⟨t,rfl⟩⟩
    ·cases h
   ·cases h
  ·cases h
 ·cases h
end
def eN{α:Type}(xs:List α)(lo hi st:Option Int):List α:=(sliceRange (sliceBounds lo hi st xs.length).1 (sliceBounds lo hi st xs.length).2.1 (sliceBounds lo hi st xs.length).2.2).filterMap fun i=>xs[i]?
theorem tW{K:KC}{H:Hp}{xs:List V}{ts:List T}(r:fz K H xs ts):∀is:List Nat,fz K H (is.filterMap fun i=>xs[i]?) (is.filterMap fun i=>ts[i]?)
 |[]=>bU
 |i::is=>by
  cases h:ts[i]? with
  |none =>
   have e:xs[i]?=none:=by
    rw [List.getElem?_eq_none_iff]at h ⊢;rw [aR r];exact h
   rw [filterMap_cons,filterMap_cons,h,e];exact tW r is
  |some t =>
   obtain⟨v,hv,tv⟩:=ip r h;rw [filterMap_cons,filterMap_cons,h,hv];exact bK tv (tW r is)
theorem qI{xs:List V}{us:List Value}(r:Vals xs us):∀is:List Nat,Vals (is.filterMap fun i=>xs[i]?) (is.filterMap fun i=>us[i]?)
 |[]=>.nil
 |i::is=>by
  cases h:xs[i]? with
  |none =>
   rw [filterMap_cons,filterMap_cons,h,r.none_of h];exact qI r is
  |some x =>
   obtain⟨u,hu,ru⟩:=r.get h;rw [filterMap_cons,filterMap_cons,h,hu];exact .cons ru (qI r is)
theorem FD{K:KC}{H:Hp}{xs:List V}{ts:List T}(r:fz K H xs ts)(lo hi st:Option Int):fz K H (eN xs lo hi st) (eN ts lo hi st):=by
 unfold eN;rw [aR r];exact tW r _
theorem tX{xs:List V}{us:List Value}(r:Vals xs us)(lo hi st:Option Int):Vals (eN xs lo hi st) (eN us lo hi st):=by
 unfold eN;rw [r.length];exact qI r _
theorem Ax(us:List Value)(lo hi st:Option Int):slicePick us.toArray lo hi st=(eN us lo hi st).toArray:=by
 unfold slicePick eN;simp
section
variable {X:Cx}{P:Fx}{e:Expr}{pos p2:Pos}
def CC(m:MX)(lo hi st:MO):MX:=fun Γ=>(m Γ).bind fun p=>(lo p.2).bind fun q=>(hi q.2).bind fun z=>(st z.2).bind fun y=>match p.1.tree,y.1 with
 |.lst ts,some k=>if k=0 then none else some (.own (.lst (eN ts q.1 z.1 (some k))),y.2)
 |_,_=>none
theorem Im{m:MX}{lo hi st:MO}{Γ Γ':G}{r:R}(h:CC m lo hi st Γ=some (r,Γ')):∃r1 Γ1 o1 Γ2 o2 Γ3 k ts,m Γ=some (r1,Γ1)/\lo Γ1=some (o1,Γ2)/\hi Γ2=some (o2,Γ3)/\st Γ3=some (some k,Γ')/\r1.tree=.lst ts/\k≠0/\r=.own (.lst (eN ts o1 o2 (some k))):=by
 obtain⟨r1,Γ1,h1,h⟩:=fV h;obtain⟨o1,Γ2,h2,h⟩:=fV h;obtain⟨o2,Γ3,h3,h⟩:=fV h;obtain⟨o3,Γ4,h4,h⟩:=fV h;refine⟨r1,Γ1,o1,Γ2,o2,Γ3,?_⟩;dsimp only at h;split at h
 ·rename_i ts k ht;split at h
  ·cases h
  ·rename_i hk
   cases h
   exact⟨k,ts,h1,h2,h3,h4,ht,hk,rfl⟩
 ·cases h
theorem tY{lo hi:Option Expr}{se:Expr}{m:MX}{ml mh ms:MO}(he:bj X P e m)(hl:Cz X P lo ml)(hh:Cz X P hi mh)(hs:Cz X P (some se) ms):bj X P (.Subscript e (.Slice lo hi (some se) p2) pos) (CC m ml mh ms):=fun Γ r Γ' h=>by
 obtain⟨r1,Γ1,o1,Γ2,o2,Γ3,k,ts,h1,h2,h3,h4,ht,hk,rfl⟩:=Im h;intro pins s σ H Q I ⟨Hs,S,kk⟩;refine Subscript_ (eC (he _ _ _ h1 pins s σ H (fun v H1=>∃bq,aA H H1/\aA Hs bq/\aF (kc X P) P Γ1 σ H1 bq/\gZ (kc X P) P Γ1 σ H1 bq v r1) I ⟨Hs,S,fun v H1 bq a b c d=>⟨bq,a,b,c,d⟩⟩) fun v s1 ⟨x,H1,I1,rx,bq,e1,en,S1,f1⟩=>?_);refine wpAny_Slice (eC (hl _ _ _ h2 pins s1 σ H1 (fun o H2=>o=o1/\∃bQ,aA H1 H2/\aA bq bQ/\aF (kc X P) P Γ2 σ H2 bQ) I1 ⟨bq,S1,fun H2 bQ a b c=>⟨rfl,bQ,a,b,c⟩⟩) fun vl s2 ⟨o1,H2,I2,pl,eo,bQ,e2,hW,S2⟩=>?_);subst eo;refine eC (hh _ _ _ h3 pins s2 σ H2 (fun o H3=>o=o2/\∃jH,aA H2 H3/\aA bQ jH/\aF (kc X P) P Γ3 σ H3 jH) I2 ⟨bQ,S2,fun H3 jH a b c=>⟨rfl,jH,a,b,c⟩⟩) fun vu s3 ⟨o2,H3,I3,pu,eo,jH,e3,Cp,S3⟩=>?_;subst eo;refine eC (hs _ _ _ h4 pins s3 σ H3 (fun o H4=>o=some k/\∃Ii,aA H3 H4/\aA jH Ii/\aF (kc X P) P Γ' σ H4 Ii) I3 ⟨jH,S3,fun H4 Ii a b c=>⟨rfl,Ii,a,b,c⟩⟩) fun vs s4 ⟨_,H4,I4,ps,eo,Ii,e4,NX,S4⟩=>?_;subst eo;have tb:=(S1.DR f1).mono (e2.trans (e3.trans e4)) (hW.trans (Cp.trans NX));rw [ht]at tb;obtain⟨a,xs,rfl,sq,rs⟩:=tb
 cases(show v=Value.ref a from rx)
 have I5:Inv X pins σ H4 {s4 with heap:=s4.heap.push {cls:=.type "slice", data:=.fields #[vl,vu,vs]}}:=I4.kept (t':=s4.toks) fun b ob q=>Heap.get?_push_of_some _ q;obtain⟨bo,vv,UZ,hz⟩:=I5.list sq;have hlen:=vv.length;have hg:wpAny (model X.prog X.w) X.A (getItem (.ref a) (.ref s4.heap.objs.size)) (EP X pins σ Q) X.xe {s4 with heap:=s4.heap.push {cls:=.type "slice", data:=.fields #[vl,vu,vs]}}:=by
  refine wpAny_getItem_list_slice UZ.isList (Heap.IsSliceOf.new ..) pl pu ps (fun z=>hk (Option.some.inj z)) ?_ (by rw [size_toArray];omega);rw [Ax];have hsz:(eN xs o1 o2 (some k)).length<=sizeLine:=by
   have z:=slicePick_size_le bo.toArray o1 o2 (some k);rw [Ax,size_toArray,size_toArray]at z;rw [(tX vv o1 o2 (some k)).length];omega
  obtain⟨Hs5,e5,e5',S5,f5⟩:=Out.fin (.tI I5.fresh (FD rs o1 o2 (some k))) S4;exact⟨.ref _,_,I5.Sv (t':=s4.toks) (tX vv o1 o2 (some k)) hsz,rfl,kk _ _ Hs5 (e1.trans (e2.trans (e3.trans (e4.trans e5)))) (en.trans (hW.trans (Cp.trans (NX.trans e5')))) S5 f5⟩
 show wpAny (model X.prog X.w) X.A (subscriptTail e (.Slice lo hi (some se) p2) (.ref a) (.ref s4.heap.objs.size)) (EP X pins σ Q) X.xe {s4 with heap:=s4.heap.push {cls:=.type "slice", data:=.fields #[vl,vu,vs]}};exact tail_any (ops:=[.ref a,.ref s4.heap.objs.size]) UZ.isList.typeIs slot_list_getitem.lookup hg (by with_unfolding_all rfl)
def RB(m:MX):MI:=fun Γ=>(m Γ).bind fun p=>match (dH p.1 p.2).1 with
 |.tup ts=>some (ts,(dH p.1 p.2).2)
 |_=>none
theorem Ly{m:MX}{Γ Γ':G}{ts:List T}(h:RB m Γ=some (ts,Γ')):∃r Γ1,m Γ=some (r,Γ1)/\dH r Γ1=(.tup ts,Γ'):=by
 unfold RB at h
 cases h1:m Γ with
 |none=>rw [h1]at h;cases h
 |some p =>
  rw [h1]at h;obtain⟨r,Γ1⟩:=p;dsimp only [Option.bind]at h;split at h
  ·rename_i us q
   cases h
   exact⟨r,Γ1,rfl,by rw [<-q]⟩
  ·cases h
theorem Lz{tg l:Expr}{m:MX}(hl:bj X P l m):Ao X P tg l (RB m):=fun Γ ts Γ' h=>by
 obtain⟨r,Γ1,h1,h2⟩:=Ly h;refine PI.imp (O0 (hl _ _ _ h1)) fun σ H R ⟨Hs,S,k⟩=>⟨Hs,S,fun v H1 bq e1 en S1 f1=>?_⟩;obtain⟨bQ,g,S2,tr⟩:=S1.dH f1;rw [h2]at S2 tr;obtain⟨a,xs,rfl,sq,rs⟩:=tr;refine⟨a,rfl,⟨xs,pK S2.sub sq⟩,k _ H1 bQ e1 (en.trans g) S2 fun i H jH e3 e4=>?_⟩;have Ic:vm X.K H a xs:=pK (e3.trans e4) sq;refine⟨fun t ht=>?_,fun hl=>⟨xs,Ic,by rw [aR rs];exact hl⟩⟩;obtain⟨v,hv,tv⟩:=ip rs ht;refine⟨⟨xs,v,Ic,hv⟩,fun x H' hy=>?_⟩;obtain⟨rfl,hy⟩:=hy;have:=hy xs Ic;rw [hv]at this
 cases this
 exact .val (cA e3 _ _ tv)
end
def intsOf:List T->Option (List Int)
 |[]=>some []
 |.int i::r=>(intsOf r).map fun ns=>i::ns
 |_::_=>none
theorem fE(ns:List Int):intsOf (ns.map T.int)=some ns:=by
 induction ns with
 |nil=>rfl
 |cons n ns ih =>
  show(intsOf (ns.map T.int)).map (fun ms=>n::ms)=_;rw [ih];rfl
theorem iD:∀{ts:List T}{ns:List Int},intsOf ts=some ns->ts=ns.map T.int
 |[],ns,h=>by
  cases h
  rfl
 |t::ts,ns,h=>by
  cases t with
  |int i =>
   have h:(intsOf ts).map (fun ns=>i::ns)=some ns:=h
   cases e:intsOf ts with
   |none=>rw [e]at h;cases h
   |some ms =>
    rw [e]at h
    cases h
    rw [iD e];rfl
  |_=>cases h
def bh(ns:List Int):List Int:=ns.mergeSort fun a b=>decide (a<=b)
theorem bx(ns:List Int):(bh ns).Perm ns:=mergeSort_perm ns _
theorem dJ(ns:List Int):(bh ns).Pairwise (·<=·):=by
 have h:=List.pairwise_mergeSort (le:=fun a b=>decide (a<=b)) (fun a b c h1 h2=>by
  simp only [decide_eq_true_eq]at *;omega) (fun a b=>by
  simp only [or_eq_true,decide_eq_true_eq];omega) ns
 exact h.imp fun h=>of_decide_eq_true h
section
variable {X:Cx}{cl:Nat->Addr}
end
def yi(ks:List Key)(k:Key):Bool:=ks.any fun k'=>decide (k'=k)
def Io(ks:List Key)(k:Key):List Key:=if yi ks k=true then ks else ks++[k]
def Eb{α:Type}(ks:List Key)(ts:List α)(k:Key)(t:α):List α:=if yi ks k=true then zipWith (fun k' x=>if k'=k then t else x) ks ts else ts++[t]
theorem Ec{α:Type}(k:Key):∀{ks:List Key}{xs:List α},ks.length=xs.length->((ks.zip xs).any fun kv=>decide (kv.1=k))=yi ks k
 |[],[],_=>rfl
 |a::ks,x::xs,h=>by
  have ih:=Ec k (ks:=ks) (xs:=xs) (by simpa using h);show(decide (a=k)||(ks.zip xs).any fun kv=>decide (kv.1=k))=(decide (a=k)||yi ks k);rw [ih]
theorem Ed{α:Type}(k:Key)(v:α):∀{ks:List Key}{xs:List α},(ks.zip xs).map (fun kv=>if kv.1=k then(kv.1,v)else kv)=ks.zip (zipWith (fun k' x=>if k'=k then v else x) ks xs)
 |[],xs=>by simp
 |a::ks,[]=>by simp
 |a::ks,x::xs=>by
  have ih:=Ed k v (ks:=ks) (xs:=xs);show(if a=k then(a,v)else(a,x))::(ks.zip xs).map (fun kv=>if kv.1=k then(kv.1,v)else kv)=(a,if a=k then v else x)::ks.zip (zipWith (fun k' x=>if k'=k then v else x) ks xs);rw [ih];by_cases e:a=k
  ·rw [if_pos e,if_pos e]
  ·rw [if_neg e,if_neg e]
theorem Ay{ks:List Key}{xs:List V}(h:ks.length=xs.length)(k:Key)(v:V):putK (ks.zip xs) k v=(Io ks k).zip (Eb ks xs k v):=by
 unfold putK Io Eb;rw [Ec k h];by_cases e:yi ks k=true
 ·rw [if_pos e,if_pos e,if_pos e];exact Ed k v
 ·rw [if_neg e,if_neg e,if_neg e,List.zip_append h];rfl
theorem tZ{α:Type}{ks:List Key}{ts:List α}(h:ks.length=ts.length)(k:Key)(t:α):(Io ks k).length=(Eb ks ts k t).length:=by
 unfold Io Eb;by_cases e:yi ks k=true
 ·rw [if_pos e,if_pos e,List.length_zipWith,<-h,Nat.min_self]
 ·rw [if_neg e,if_neg e,length_append,length_append,h];rfl
theorem Ip{K:KC}{H:Hp}{v:V}{t:T}(q:Tr K H v t)(k:Key):∀{ks:List Key}{xs:List V}{ts:List T},fz K H xs ts->fz K H (zipWith (fun k' x=>if k'=k then v else x) ks xs) (zipWith (fun k' x=>if k'=k then t else x) ks ts)
 |[],xs,ts,_=>by
  rw [List.zipWith_nil_left,List.zipWith_nil_left];exact bU
 |a::ks,xs,[],h=>by
  cases(show xs=[] from h)
  exact bU
 |a::ks,xs,u::ts,h=>by
  obtain⟨w,vs,rfl,r,rs⟩:=h;show fz K H ((if a=k then v else w)::_) ((if a=k then t else u)::_);refine bK ?_ (Ip q k rs);by_cases e:a=k
  ·rw [if_pos e,if_pos e];exact q
  ·rw [if_neg e,if_neg e];exact r
theorem Ee{K:KC}{H:Hp}{v:V}{t:T}{ks:List Key}{xs:List V}{ts:List T}(r:fz K H xs ts)(q:Tr K H v t)(k:Key):fz K H (Eb ks xs k v) (Eb ks ts k t):=by
 unfold Eb;by_cases e:yi ks k=true
 ·rw [if_pos e,if_pos e];exact Ip q k r
 ·rw [if_neg e,if_neg e];exact iK r (bK q bU)
def keyOf:T->Option Key
 |.int i=>some (.inl i)
 |.str x=>some (.inr x)
 |_=>none
theorem Az{K:KC}{H Hs:Hp}{v:V}{t:T}{k:Key}(h:keyOf t=some k)(q:vw K H Hs v t):v=kV k:=by
 cases t with
 |int i =>
  cases h
  exact q
 |str x =>
  cases h
  exact q
 |_=>cases h
section
variable {X:Cx}{P:Fx}{o ke ve:Expr}{pos pos':Pos}
def Iq:MX:=fun Γ=>some (.own (.eX [] []),Γ)
theorem Ir:bj X P (.Dict [] [] pos) Iq:=fun Γ r Γ' h=>by
 cases h
 refine Hh.imp fun σ H Q ⟨Hs,S,k⟩ p n=>?_;obtain⟨bQ,e2,hW,S2,f2⟩:=Out.fin (K:=kc X P) (Out.newD (ks:=[]) (vs:=[]) (ts:=[]) n rfl bU) S;exact k _ _ bQ e2 hW S2 f2
def ua(i:Nat)(mk mv:MX):MS:=fun Γ=>(mv Γ).bind fun p=>match (dH p.1 p.2).2[i]? with
 |some (.own _)=>(mk (dH p.1 p.2).2).bind fun q=>match keyOf q.1.tree,q.2[i]? with
  |some k,some (.own (.eX ks ts))=>if ks.length<sizeLine then some (.nx (q.2.set i (.own (.eX (Io ks k) (Eb ks ts k (dH p.1 p.2).1)))))else none
  |_,_=>none
 |_=>none
theorem FE{i:Nat}{mk mv:MX}{Γ:G}{res:Res}(h:ua i mk mv Γ=some res):∃r1 Γ1 r2 Γ2 k ks ts u,mv Γ=some (r1,Γ1)/\(dH r1 Γ1).2[i]?=some (.own u)/\mk (dH r1 Γ1).2=some (r2,Γ2)/\keyOf r2.tree=some k/\Γ2[i]?=some (.own (.eX ks ts))/\ks.length<sizeLine /\
  res=.nx (Γ2.set i (.own (.eX (Io ks k) (Eb ks ts k (dH r1 Γ1).1)))):=by
 obtain⟨r1,Γ1,h1,h⟩:=fV h;have h:(match (dH r1 Γ1).2[i]? with
  |some (.own _)=>(mk (dH r1 Γ1).2).bind fun q=>match keyOf q.1.tree,q.2[i]? with
   |some k,some (.own (.eX ks ts))=>if ks.length<sizeLine then some (.nx (q.2.set i (.own (.eX (Io ks k) (Eb ks ts k (dH r1 Γ1).1)))))else none
   |_,_=>none
  |_=>none)=some res:=h
 refine⟨r1,Γ1,?_⟩;split at h
 ·rename_i u hu;obtain⟨r2,Γ2,h2,h⟩:=fV h;dsimp only at h;split at h
  ·rename_i k ks ts hk hs;split at h
   ·rename_i hl
    cases h
    exact⟨r2,Γ2,k,ks,ts,u,h1,hu,h2,hk,hs,hl,rfl⟩
   ·cases h
  ·cases h
 ·cases h
theorem AA{i:Nat}{mk mv:MX}(hu:X.A.units+1<cLine)(ho:PE X o (ER i))(hk:bj X P ke mk)(hv:bj X P ve mv)(hs:swapsWith ve (some (.Subscript o ke pos')) pos.line X.env=pure false:=by rfl):
  lI X P (.Assign [.Subscript o ke pos'] ve pos) (ua i mk mv):=h7 fun Γ res h=>by
 obtain⟨r1,Γ1,r2,Γ2,k,ks,ts,u,h1,hu1,h2,RC,hi,hl,rfl⟩:=FE h;refine(KO hu ho (hk _ _ _ h2) (hv _ _ _ h1) hs).imp fun D σ H ⟨Hs,S,kk⟩=>⟨Hs,S,fun v H1 bq e1 en S1 f1=>?_⟩;obtain⟨bQ,g,S2,tr⟩:=S1.dH f1;obtain⟨a,ha,_,_⟩:=S2.own i u hu1;refine⟨_,ha,bQ,S2,fun y H3 jH e3 Cp S3 f3=>?_⟩;obtain⟨b,hb,_,q3⟩:=S3.own i _ hi;rw [ha]at hb
 cases hb
 obtain⟨nf,xs,hx,lx,rx⟩:=q3;have ey:=Az RC (S3.DR f3);subst ey;have hz:(ks.zip xs).length<sizeLine:=by
  rw [length_zip];omega
 refine⟨a,_,rfl,Ci.k hx hz,?_⟩;rw [Ay lx];refine kk σ _ jH (en.trans (g.trans Cp)) (S3.rewrite hi ha ⟨nf,_,bB,tZ lx k v,Ee rx (cA Cp _ _ tr) k⟩)
end
section
variable {X:Cx}{pins:List (Addr×Obj)}{σ:St}{H:Hp}{s:Shared}{h':Heap}
theorem _root_.L2.Inv.LA{t':Nat}{fp:List Addr}{a:Addr}{o:HO}(I:Inv X pins σ H s)(hf:∀b∈fp,qw X pins H b)(k:∀b o,b∉fp->s.heap.get? b=some o->h'.get? b=some o)(hp:s.heap.objs.size<=a)(new:eG X.prog X.w (upd H a o) h' a o):
  Inv X pins σ (upd H a o) {s with heap:=h',toks:=t'}:=by
 have hn:=I.dG.fresh hp;have Nr:∀b u,H b=some u->b∉fp:=fun b u e z=>by
  rw [(hf b z).1]at e
  cases e
 refine I.step (g':=s.gens) (d':=s.drawn) (ch:=fp) (fun b hb=>?_) (fun b o _ _ hc e _=>k b o hc e) (fun b o _ _ hc e _=>⟨o.slots,k b o hc e⟩) (fun b u _ e n=>?_)
  (fun b o hc e=>⟨o,k b o hc e⟩) (fun b xs e=>?_) (fun b u w e=>?_) (fun b ps e=>⟨#[],?_⟩) (fun m hm=>?_) (fun b u e=>?_) I.bare
 ·obtain⟨_,f2,_,f4,f5,f6⟩:=hf b hb;exact⟨f4,f2,f5,f6⟩
 ·have z:b≠a:=ne_of_lt (lt_of_lt_of_le (Heap.lt_size e) hp);rw [aV z];exact n
 ·rw [aV (bT e hn)];exact e
 ·rw [aV (bT e hn)];exact e
 ·rw [aV (bT e hn),e];simp
 ·obtain⟨o,es,ep,ho,r⟩:=hm;exact⟨o,es,ep,k _ o (fun z=>(hf _ z).2.1 rfl) ho,r⟩
 ·by_cases z:b=a
  ·subst z;rw [bB]at e
   cases e
   exact new
  ·rw [aV z]at e;refine(I.dG b u e).qq (fun c v hc q=>k c v ?_ q) (fun c q=>by rw [aV (bT q hn)];exact q) fun c xs q=>by rw [aV (bT q hn)];exact q
   rcases hc with z|z
   ·rw [z];exact Nr b u e
   ·exact Nr c _ z
end
def N0(z TI TO i1 i2 l1 l2:Addr)(i:Nat)(h:Heap):Prop:=IsZip h z TI TO .none/\IsPair h TI (.ref i1) (.ref i2)/\(∃a b,IsPair h TO a b)/\h.IsListIter i1 l1 i/\h.IsListIter i2 l2 i
def Itz(K:PySem.W.Frag)(l1 l2:Addr):It :=
 ⟨fun i H=>∃xs ys,nV K H l1 xs/\nV K H l2 ys/\i<xs.length/\i<ys.length,
  fun i H x H'=>∃a b p,(∀xs,nV K H l1 xs->xs[i]?=some a)/\(∀ys,nV K H l2 ys->ys[i]?=some b)/\H p=none/\x=.ref p/\H'=upd H p (.tup [a,b]),
  fun i H=>∃xs ys,nV K H l1 xs/\nV K H l2 ys/\min xs.length ys.length<=i⟩
theorem Ef{xs:List V}{us:List Value}{i:Nat}{u:Value}(r:Vals xs us)(h:us[i]?=some u):∃x,xs[i]?=some x/\RelV x u:=by
 have hl:i<xs.length:=by
  rw [r.length];exact(List.getElem?_eq_some_iff.mp h).1
 have e:xs[i]?=some xs[i]:=by simp [hl]
 obtain⟨w,hw,Ph⟩:=r.get e;rw [h]at hw
 cases hw
 exact⟨_,e,Ph⟩
theorem Eg{z TI TO i1 i2 l1 l2:Addr}{i:Nat}{h:Heap}(t:N0 z TI TO i1 i2 l1 l2 i h)(b:Addr)(hb:b∈[z,TI,TO,i1,i2]):∃o,h.get? b=some o/\∀v,o.data ≠ .cell v:=by
 obtain⟨hz,N1,⟨a,b,N2⟩,⟨o1,e1,c1,d1⟩,⟨o2,e2,c2,d2⟩⟩:=t;simp only [mem_cons,not_mem_nil,or_false]at hb;rcases hb with rfl|rfl|rfl|rfl|rfl
 ·exact⟨_,hz,fun v q=>nomatch q⟩
 ·exact⟨_,N1,fun v q=>nomatch q⟩
 ·exact⟨_,N2,fun v q=>nomatch q⟩
 ·exact⟨o1,e1,fun v q=>by rw [d1]at q;cases q⟩
 ·exact⟨o2,e2,fun v q=>by rw [d2]at q;cases q⟩
theorem Iu{Pr:Program}{w:World}{K:PySem.W.Frag}{elts:List Expr}{kk:Nat}{pos:Pos}{z TI TO i1 i2 l1 l2:Addr}(D:ZipApart z TI TO i1 i2 l1 l2):Turn Pr w K (.Tuple elts kk pos) (Itz K l1 l2) [z,TI,TO,i1,i2] z (N0 z TI TO i1 i2 l1 l2)where
 mem:=mem_cons_self
 obj:=fun i h t b hb=>Eg t b hb
 keep:=fun i h h' ⟨hz,N1,⟨a,b,N2⟩,h1,h2⟩ hk=>⟨hk z (by simp) _ hz,hk TI (by simp) _ N1,⟨a,b,hk TO (by simp) _ N2⟩,h1.at fun o e=>hk i1 (by simp) o e,h2.at fun o e=>hk i2 (by simp) o e⟩
 item:=fun X eP ew eK hc i pins s σ H E I yf tn go=>by
  subst eP ew eK;obtain⟨xs,ys,q1,q2,hx,hy⟩:=go;obtain⟨bo,v1,p1,z1⟩:=I.list q1;obtain⟨Cv,v2,p2,z2⟩:=I.list q2;have W:=WalksT.zip2 (prog:=X.prog) (w:=X.w) (A:=X.A) (I.ok.hd hc) z TI TO i1 i2 l1 l2 D bo.toArray Cv.toArray;obtain⟨hz,N1,N2,h1,h2⟩:=tn;have hi:i<min bo.toArray.size Cv.toArray.size:=by
   rw [size_toArray,size_toArray,<-v1.length,<-v2.length];omega
  refine W.item i s _ E hi ⟨hz,N1,N2,h1,h2,p1.isList,p2.isList⟩ fun T vals h' tk hP W8 hT hm hk=>⟨_,rfl,?_⟩;obtain⟨x,y,ex,ey,rfl⟩:=hP;obtain⟨a,ha,ra⟩:=Ef v1 (by simpa using ex);obtain⟨b,hb,rb⟩:=Ef v2 (by simpa using ey);refine W.go elts kk pos i T _ _ E hm fun h'' st LB=>?_;have sub:∀c,c∈[z,TO,i1,i2]->c∈[z,TI,TO,i1,i2]:=fun c hc=>by
   simp only [mem_cons,not_mem_nil,or_false]at hc ⊢;rcases hc with h|h|h|h<;>simp [h]
  have hn:H T=none:=I.dG.fresh W8;have kk:∀c o,c ∉ [z,TI,TO,i1,i2]->s.heap.get? c=some o->h''.get? c=some o:=fun c o hc e=>LB c o (fun q=>hc (sub c q)) (hk c o (fun q=>hc (sub c q)) e);obtain⟨oT,eT,cT,dT⟩:=hT;refine⟨.ref T,upd H T (.tup [a,b]),I.LA (a:=T) yf kk W8 ⟨?_,[x,y],.cons ra (.cons rb .nil),oT,LB T oT (W.apart i T _ hm) eT,cT,dT⟩,rfl,⟨a,b,T,fun xs' hq=>?_,fun ys' hq=>?_,hn,rfl,rfl⟩,⟨st.1,st.2.1,st.2.2.1,st.2.2.2.1,st.2.2.2.2.1⟩,fun c hc=>?_⟩
  ·exact le_of_lt (aG (show 2<=1000 by decide))
  ·rw [I.sO hq q1];exact ha
  ·rw [I.sO hq q2];exact hb
  ·by_cases e:c=T
   ·subst e;obtain⟨u,hu,_⟩:=Eg (i:=i) ⟨hz,N1,N2,h1,h2⟩ c hc;exact absurd (lt_of_lt_of_le (Heap.lt_size hu) W8) (lt_irrefl _)
   ·rw [aV e];exact(yf c hc).1
 done:=fun X eP ew eK hc i pins s σ H E I yf tn stop=>by
  subst eP ew eK;obtain⟨xs,ys,q1,q2,hx⟩:=stop;obtain⟨bo,v1,p1,z1⟩:=I.list q1;obtain⟨Cv,v2,p2,z2⟩:=I.list q2;obtain⟨hz,N1,⟨a,b,N2⟩,h1,h2⟩:=tn;have W9:bo.toArray[i]?=none\/Cv.toArray[i]?=none:=by
   have z1:=v1.length;have z2:=v2.length;rcases Nat.le_total xs.length ys.length with h|h
   ·exact .inl (Array.getElem?_eq_none (by rw [size_toArray];omega))
   ·exact .inr (Array.getElem?_eq_none (by rw [size_toArray];omega))
  refine wpAny_pyNext_zip_end (I.ok.hd hc) D hz N1 N2 h1 h2 p1.isList p2.isList W9 fun h' hk=>⟨rfl,?_⟩;refine I.ye (t':=s.toks) yf fun c o hc e=>hk c o (fun q=>hc ?_) (fun q=>hc ?_) (fun q=>hc ?_) (fun q=>hc ?_) e<;>simp [q]
 self:=fun A i s Q E tn q=>wpAny_pyIter_zip tn.1 q
section
variable {X:Cx}{P:Fx}{elts:List Expr}{kk:Nat}{Pd:Pos}
def vz(ts us:List T):List T:=zipWith (fun t u=>T.tup [t,u]) ts us
theorem lT(ts us:List T):(vz ts us).length=min ts.length us.length:=by simp [vz]
theorem AD{ts us:List T}{i:Nat}{t:T}(h:(vz ts us)[i]?=some t):∃a b,ts[i]?=some a/\us[i]?=some b/\t=.tup [a,b]:=by
 unfold vz at h;rw [List.getElem?_zipWith]at h
 cases h1:ts[i]? with
 |none=>rw [h1]at h;simp at h
 |some a =>
  cases h2:us[i]? with
  |none=>rw [h1,h2]at h;simp at h
  |some b =>
   rw [h1,h2]at h;simp at h;exact⟨a,b,rfl,rfl,h.symm⟩
def RD(n:MA):MI:=fun Γ=>(n Γ).bind fun p=>match p.1 with
 |[.lst ts,.lst us]=>some (vz ts us,p.2)
 |_=>none
theorem LC{n:MA}{Γ Γ':G}{rs:List T}(h:RD n Γ=some (rs,Γ')):∃ts us,n Γ=some ([.lst ts,.lst us],Γ')/\rs=vz ts us:=by
 unfold RD at h
 cases h1:n Γ with
 |none=>rw [h1]at h;cases h
 |some p =>
  rw [h1]at h;obtain⟨us,Γ1⟩:=p;dsimp only [Option.bind]at h;split at h
  ·rename_i ts us
   cases h
   exact⟨ts,us,rfl,rfl⟩
  ·cases h
theorem LF{a b:Expr}{n:MA}{p pos:Pos}(hg:Gl X "zip")(hm:X.mg "zip" = none)(ha:Ah X P [a,b] n)(hs:starEach [a,b] X.env=[(false,eval a X.env),(false,eval b X.env)]:=by rfl)(GD:starEach [b] X.env=[(false,eval b X.env)]:=by rfl):
  Ao X P (.Tuple elts kk Pd) (.Call (.Name "zip" p) [a,b] [] pos) (RD n):=fun Γ rs Γ' h=>by
 obtain⟨ts,us,h1,rfl⟩:=LC h;intro pins s σ H R I ⟨Hs,S,k⟩;refine Call_ (iG I hg hm boot_zip (PyProof.Rows.callWith_type1 (eC (ha _ _ _ h1 pos pins s σ H (fun vs H1=>∃bq,aA H H1/\aA Hs bq/\aF (kc X P) P Γ' σ H1 bq/\fz (kc X P) bq vs [.lst ts,.lst us]) I ⟨Hs,S,fun vs H1 bq e1 e2 S1 f1=>⟨bq,e1,e2,S1,f1⟩⟩) fun ws s1 ⟨vs,H1,I1,r1,bq,e1,en,S1,f1⟩=>?_) (by rw [hs,GD]) (by rw [GD];rfl)));obtain⟨v,vs2,rfl,⟨l1,xs,rfl,q1,t1⟩,v2,vs3,rfl,⟨l2,ys,rfl,q2,t2⟩,e3⟩:=f1
 cases(show vs3=[] from e3)
 cases r1 with
 |cons r rr =>
 cases rr with
 |cons r' rr =>
 cases rr
 cases r
 cases r'
 obtain⟨bo,v1,p1,z1⟩:=I1.list (S1.sub.seq q1);obtain⟨Cv,v2,p2,z2⟩:=I1.list (S1.sub.seq q2);have U0:l1<s1.heap.objs.size:=by
  obtain⟨o,e,_⟩:=p1.isList;exact Heap.lt_size e
 have lt2:l2<s1.heap.objs.size:=by
  obtain⟨o,e,_⟩:=p2.isList;exact Heap.lt_size e
 refine call_zip_2 p1.isList p2.isList fun h' a1 a2 a3 a4 a5 hsz hk=>?_;have D:ZipApart (s1.heap.objs.size+4) (s1.heap.objs.size+2) (s1.heap.objs.size+3) s1.heap.objs.size (s1.heap.objs.size+1) l1 l2:=by
  have U0:@LT.lt Nat instLTNat l1 s1.heap.objs.size:=U0;have lt2:@LT.lt Nat instLTNat l2 s1.heap.objs.size:=lt2;constructor<;>(show @Ne Nat _ _;omega)
 have I2:Inv X pins σ H1 {s1 with heap:=h'}:=I1.kept (t':=s1.toks) hk;refine wpAny_pyIter_zip a1 ⟨s1.heap.objs.size+4,_,_,_,H1,rfl,I2,Iu D,⟨a1,a2,⟨_,_,a3⟩,a4,a5⟩,fun b hb=>?_,k _ H1 bq e1 en S1 fun i H2 bQ g1 g2=>?_⟩
 ·have hb:s1.heap.objs.size<=b:=by
   simp only [mem_cons,not_mem_nil,or_false]at hb;show @LE.le Nat instLENat _ _;rcases hb with rfl|rfl|rfl|rfl|rfl<;>omega
  exact I1.EU hb (I1.dG.fresh hb)
 ·have Ic:nV X.K H2 l1 xs:=(g1.trans g2).seq q1;have Te:nV X.K H2 l2 ys:=(g1.trans g2).seq q2;refine⟨fun t ht=>?_,fun hl=>?_⟩
  ·obtain⟨ta,tb,ea,eb,rfl⟩:=AD ht;obtain⟨va,hva,tva⟩:=ip t1 ea;obtain⟨vb,hvb,tvb⟩:=ip t2 eb;refine⟨⟨xs,ys,Ic,Te,(List.getElem?_eq_some_iff.mp hva).1,(List.getElem?_eq_some_iff.mp hvb).1⟩,fun x H' hy=>?_⟩;obtain⟨a',b',p',y1,y2,hn,rfl,rfl⟩:=hy;have y1:=y1 xs Ic;have y2:=y2 ys Te;rw [hva]at y1;rw [hvb]at y2
   cases y1
   cases y2
   exact .PR hn (bK (cA g1 _ _ tva) (bK (cA g1 _ _ tvb) bU))
  ·rw [lT]at hl;refine⟨xs,ys,Ic,Te,?_⟩;rw [aR t1,aR t2];exact hl
end
def B4(xs:Array Nat):Prop:=∀i j:Nat,i<j->∀a b:Nat,xs[i]?=some a->xs[j]?=some b->a<b
theorem getD_some{xs:Array Nat}{i d:Nat}(h:i<xs.size):xs.getD i d=xs[i]/\xs[i]?=some xs[i]:=by
 constructor
 ·simp [Array.getD,h]
 ·simp [h]
theorem Iv{xs:Array Nat}(R:B4 xs)(j:Nat):∀(f lo hi:Nat),hi<=xs.size->lo<=hi->hi-lo<=f ->
  (∀k a,k<lo->xs[k]?=some a->a<j)->(∀k a,hi<=k->xs[k]?=some a->j<=a) ->
  (SetTable.below.go xs j f lo hi<=xs.size)/\(∀k a,k<SetTable.below.go xs j f lo hi->xs[k]?=some a->a<j)/\(∀k a,SetTable.below.go xs j f lo hi<=k->xs[k]?=some a->j<=a):=by
 intro f
 induction f with
 |zero =>
  intro lo hi h1 h2 h3 h4 h5;have e:lo=hi:=by omega
  subst e;unfold SetTable.below.go;exact⟨h1,h4,h5⟩
 |succ f ih =>
  intro lo hi h1 h2 h3 h4 h5;unfold SetTable.below.go;by_cases hl:lo<hi
  ·rw [if_pos hl];have hm:(lo+hi) / 2<xs.size:=by omega
   obtain⟨e1,e2⟩:=getD_some (d:=j) hm;by_cases hc:xs.getD ((lo+hi) / 2) j<j
   ·simp only [if_pos hc];refine ih _ _ h1 (by omega) (by omega) (fun k a hk ha=>?_) h5;by_cases z:k=(lo+hi) / 2
    ·subst z;rw [e2]at ha
     cases ha
     rw [e1]at hc;exact hc
    ·have:=R k ((lo+hi) / 2) (by omega) a _ ha e2;rw [e1]at hc;omega
   ·simp only [if_neg hc];refine ih _ _ (by omega) (by omega) (by omega) h4 fun k a hk ha=>?_;rw [e1]at hc;by_cases z:(lo+hi) / 2=k
    ·subst z;rw [e2]at ha
     cases ha
     omega
    ·have:=R ((lo+hi) / 2) k (by omega) _ a e2 ha;omega
  ·rw [if_neg hl];have e:lo=hi:=by omega
   subst e;exact⟨h1,h4,h5⟩
theorem pV{xs:Array Nat}(R:B4 xs)(j:Nat):SetTable.below xs j<=xs.size/\(∀k a,k<SetTable.below xs j->xs[k]?=some a->a<j)/\(∀k a,SetTable.below xs j<=k->xs[k]?=some a->j<=a) :=
 Iv R j xs.size 0 xs.size (le_refl _) (zero_le _) (by omega) (fun k a h=>absurd h (not_lt_zero _)) (fun k a h e=>by
  have:=(Array.getElem?_eq_some_iff.mp e).1;omega)
theorem CH{xs:Array Nat}(R:B4 xs):SetTable.below xs 0=0:=by
 obtain⟨h1,h2,_⟩:=pV R 0
 cases e:SetTable.below xs 0 with
 |zero=>rfl
 |succ n =>
  rw [e]at h1 h2;have hn:n<xs.size:=by omega
  exact absurd (h2 n _ (lt_succ_self _) (getD_some (d:=0) hn).2) (not_lt_zero _)
theorem CJ{xs:Array Nat}(R:B4 xs){i a:Nat}(h:xs[i]?=some a):SetTable.below xs (a+1)=i+1:=by
 obtain⟨h1,h2,h3⟩:=pV R (a+1);have hi:=(Array.getElem?_eq_some_iff.mp h).1;rcases Nat.lt_trichotomy (SetTable.below xs (a+1)) (i+1)with z|z|z
 ·have:=h3 i a (by omega) h;omega
 ·exact z
 ·have hs:i+1<xs.size:=by omega
  have e:=(getD_some (d:=0) hs).2;have:=h2 (i+1) _ z e;have:=R i (i+1) (lt_succ_self _) a _ h e;omega
def wQ(t:SetTable)(j:Nat):Prop:=∀i:Nat,t.place[i]?≠some j
theorem Iw{t:SetTable}(R:B4 t.place){j:Nat}(h:t.place[SetTable.below t.place j]?≠some j):wQ t j:=fun i e=>by
 obtain⟨h1,h2,h3⟩:=pV R j;have hi:=(Array.getElem?_eq_some_iff.mp e).1;rcases lt_or_ge i (SetTable.below t.place j)with z|z
 ·exact absurd (h2 i j z e) (lt_irrefl _)
 ·rcases lt_or_ge (SetTable.below t.place j) i with y|y
  ·have hb:SetTable.below t.place j<t.place.size:=by omega
   have e':=(getD_some (d:=0) hb).2;have q1:=R _ i y _ _ e' e;have q2:=h3 _ _ (le_refl _) e';omega
  ·have:SetTable.below t.place j=i:=by omega
   rw [this]at h;exact h e
theorem wR{t:SetTable}(R:B4 t.place){j:Nat}(h:∀i,t.slot j ≠ .live i):wQ t j:=by
 refine Iw R fun e=>?_;refine h (SetTable.below t.place j) ?_;unfold SetTable.slot;simp [e]
theorem Iy{t:SetTable}(R:B4 t.place){ha:Nat->Int}{h:Int}:∀(f:Nat)(p:SetTable.Probe),(∀d,p.dummy=some d->wQ t d)->∀j dm,SetTable.probe.go t ha h f p=some (.empty j dm)->wQ t (dm.getD j):=by
 intro f
 induction f with
 |zero =>
  intro p hp j dm e;unfold SetTable.probe.go at e
  cases e
 |succ f ih =>
  intro p hp j dm e;have adv:∀q:SetTable.Probe,(t.advance q).dummy=q.dummy:=fun q=>by
   unfold SetTable.advance;split<;>rfl
  unfold SetTable.probe.go at e;split at e
  ·rename_i hs
   cases e
   cases hd:p.dummy with
   |none=>exact wR (j:=p.j) R fun i q=>by rw [hs]at q;cases q
   |some d=>exact hp d hd
  ·rename_i hs;refine ih _ (fun d hd=>?_) j dm e;rw [adv]at hd
   cases hd
   exact wR R fun i q=>by rw [hs]at q;cases q
  ·split at e
   ·cases e
   ·refine ih _ (fun d hd=>?_) j dm e;rw [adv]at hd;exact hp d hd
theorem LG{t:SetTable}(R:B4 t.place){h:Int}{sl:Nat}{b:Bool}(e:t.freeSlot h=some (sl,b)):wQ t sl:=by
 unfold SetTable.freeSlot at e;split at e
 ·rename_i j dm hp
  cases e
  refine Iy R _ _ (fun d hd=>?_) _ _ hp;unfold SetTable.probeStart at hd
  cases hd
 ·cases e
theorem pW{xs:Array Nat}:B4 xs↔xs.toList.Pairwise (·<·):=by
 constructor
 ·intro R;rw [pairwise_iff_getElem];intro i j hi hj nW;exact R i j nW _ _ (by rw [<-getElem?_toList];exact getElem?_eq_getElem hi) (by rw [<-getElem?_toList];exact getElem?_eq_getElem hj)
 ·intro h i j nW a b ha hb;rw [<-getElem?_toList]at ha hb;obtain⟨h1,e1⟩:=List.getElem?_eq_some_iff.mp ha;obtain⟨h2,e2⟩:=List.getElem?_eq_some_iff.mp hb;have:=pairwise_iff_getElem.mp h i j h1 h2 nW;omega
theorem LH{t:SetTable}(R:B4 t.place){j:Nat}(n:wQ t j):B4 (t.put j).1.place:=by
 rw [pW];show(SetTable.insertAt t.place (SetTable.below t.place j) j).toList.Pairwise (·<·);rw [SetTable.toList_insertAt];obtain⟨h1,h2,h3⟩:=pV R j;have hl:=pW.mp R;rw [pairwise_append,pairwise_cons];refine⟨hl.sublist (take_sublist ..),⟨fun a ha=>?_,hl.sublist (drop_sublist ..)⟩,fun a ha b hb=>?_⟩
 ·obtain⟨k,hk⟩:=List.mem_iff_getElem?.mp ha;rw [getElem?_drop,getElem?_toList]at hk;have q:=h3 _ a (Nat.le_add_right _ _) hk;have:a≠j:=fun e=>n _ (by rw [e]at hk;exact hk);omega
 ·obtain⟨k,hk⟩:=List.mem_iff_getElem?.mp ha;rw [getElem?_take]at hk;split at hk
  ·rename_i LB;rw [getElem?_toList]at hk;have q:=h2 k a LB hk;rcases mem_cons.mp hb with e|hb
   ·omega
   ·obtain⟨m,hm⟩:=List.mem_iff_getElem?.mp hb;rw [getElem?_drop,getElem?_toList]at hm;have:=h3 _ b (Nat.le_add_right _ _) hm;omega
  ·cases hk
theorem yj{β:Type}(f:Nat->Option β):∀l:List Nat,((l.filterMap fun j=>(f j).map (j,·)).map (·.1)).Sublist l
 |[]=>.slnil
 |a::l=>by
  rw [filterMap_cons]
  cases e:f a with
  |none=>exact(yj f l).cons a
  |some b=>exact(yj f l).cons₂ a
structure Gd(b:Bool)(t:SetTable):Prop where
 led:t.led=b
 Tf:t.plain=true->B4 t.place
theorem pX{b:Bool}{t:SetTable}(g:Gd b t)(n:Nat):Gd b (t.standIn n):=⟨g.led,fun h=>by cases h⟩
theorem Tg{b:Bool}{t:SetTable}(g:Gd b t)(n:Nat):Gd b (t.orStandIn n):=by
 unfold SetTable.orStandIn;split
 ·exact g
 ·exact pX g n
theorem Qc{b:Bool}{t:SetTable}{es:Array (Int×Value)}{h:Int}{x:Value}(g:Gd b t):Gd b (layNew t es h x).2.1:=by
 unfold layNew;split
 ·rename_i sl wd hf;refine Tg (t:=(t.put sl).1) ⟨g.led,fun hp=>?_⟩ _;have PN:t.plain=true:=hp;exact LH (g.Tf PN) (LG (g.Tf PN) hf)
 ·exact pX g _
theorem Iz{b:Bool}{t:SetTable}{es:Array (Int×Value)}{n:Nat}(g:Gd b t):Gd b (relayAll t es n).2.1:=by
 unfold relayAll;split
 ·rename_i t' order hr;dsimp only;split
  ·unfold SetTable.relaid SetTable.laid at hr
   cases ho:SetTable.layClean (SetTable.sizeAbove n-1) (es.map (·.1))with
   |none=>rw [ho]at hr;cases hr
   |some ow =>
    rw [ho]at hr
    cases hr
    refine⟨g.led,fun _=>pW.mpr ?_⟩;refine List.Pairwise.sublist ?_ (List.pairwise_lt_range (n:=SetTable.sizeAbove n-1+1));exact yj (fun j=>ow.getD j none) _
  ·exact pX g _
 ·exact pX g _
theorem AE(b:Bool):Gd b (.fresh 0 0 b):=⟨rfl,fun _ i j nW a c h=>by simp [SetTable.fresh]at h⟩
def iv:Value->Int
 |.int k _=>k
 |_=>0
def dR(prog:Program)(w:World)(h:Heap)(a:Addr)(ks:List Int):Prop:=∃o es ep t,h.get? a=some o/\o.ExactSet/\o.data=.set es ep t/\ElemsOf (intKind prog w) es.toList /\
 (es.toList.map fun e=>iv e.2).Perm ks/\es.size<scanBound/\t.fits es.size=true/\Gd (!w.params.followText "set-order") t
section
variable {prog:Program}{w:World}{A:Around}{E:Value->Shared->Prop}{s:Shared}{a:Addr}{ks:List Int}
theorem jQ{e:Int×Value}(h:(∃k,(intKind prog w).is k e.2=true/\e.1=(intKind prog w).hash k)/\e.2.scannable=true):∃t,e.2=.int (iv e.2) t:=by
 obtain⟨⟨k,h1,_⟩,_⟩:=h;obtain⟨t,e1⟩:=Value.isInt_shape (show Value.isInt k e.2=true from h1);rw [e1];exact⟨t,rfl⟩
theorem yk{e:Int×Value}(h:(∃k,(intKind prog w).is k e.2=true/\e.1=(intKind prog w).hash k)/\e.2.scannable=true)(k:Int):(intKind prog w).is k e.2=decide (iv e.2=k):=by
 obtain⟨t,e1⟩:=jQ h;have q:∀n:Int,(intKind prog w).is k (.int n t)=decide (n=k):=fun n=>by
  show Value.isInt k (.int n t)=_;by_cases z:n=k
  ·subst z;simp [Value.isInt]
  ·simp [Value.isInt,z]
 have z:=q (iv e.2);rw [<-e1]at z;exact z
theorem has_int{es:Array (Int×Value)}(nF:ElemsOf (intKind prog w) es.toList)(hp:(es.toList.map fun e=>iv e.2).Perm ks)(k:Int):(∃e∈es.toList,(intKind prog w).is k e.2=true)↔ks.any (·==k)=true:=by
 rw [any_eq_true];constructor
 ·rintro⟨e,he,hi⟩;rw [yk (nF e he)]at hi;refine⟨iv e.2,hp.mem_iff.mp (List.mem_map_of_mem he),?_⟩;simpa using hi
 ·rintro⟨n,hn,hi⟩;obtain⟨e,he,rfl⟩:=mem_map.mp (hp.mem_iff.mpr hn);refine⟨e,he,?_⟩;rw [yk (nF e he)];simpa using hi
theorem lU{o:Obj}{es rP:Array (Int×Value)}{ep:Nat}{t t':SetTable}{h:Heap}(ho:h.get? a=some o)(hex:o.ExactSet)(hd:o.data=.set es ep t)(nF:ElemsOf (intKind prog w) rP.toList)(hp:(rP.toList.map fun e=>iv e.2).Perm ks)(hb:rP.size<scanBound)(hf:t'.fits rP.size=true)
  (g:Gd (!w.params.followText "set-order") t'):(h.update a (Obj.putSet rP t')).get? a=some {o with data:=.set rP (ep+1) t'}/\dR prog w (h.update a (Obj.putSet rP t')) a ks:=by
 have q:=Heap.get?_update_self (Obj.putSet rP t') ho (by rw [putSet_of rP t' hd];rfl);rw [putSet_of rP t' hd]at q;exact⟨q,_,rP,ep+1,t',q,hex,rfl,nF,hp,hb,hf,g⟩
theorem IA{gw:Bool->Sem Unit}(hgw:∀(b:Bool)(s1:Shared)(R:Unit->Shared->Prop),R () s1->wpAny (model prog w) A (gw b) R E s1){o:Obj}{es nY:Array (Int×Value)}{ep:Nat}{t t1:SetTable}(ho:s.heap.get? a=some o)(hex:o.ExactSet)(hd:o.data=.set es ep t)
  (nF:ElemsOf (intKind prog w) nY.toList) (hp:(nY.toList.map fun e=>iv e.2).Perm ks) (hb:nY.size<scanBound) (hf:t1.fits nY.size=true) (g:Gd (!w.params.followText "set-order") t1) {wd:Bool} {R:Option Bool->Shared->Prop}
  (h:∀h',Heap.SameBut a s.heap h'->dR prog w h' a ks->R (some true) {s with heap:=h'}) :
  wpAny (model prog w) A (storeSet a nY t1 >>= fun _=>if(!wd&&t1.tooFull)=true then(gw (relayAll t1 nY (SetTable.grown nY.size)).2.2 >>= fun _=>storeSet a (relayAll t1 nY (SetTable.grown nY.size)).1 (relayAll t1 nY (SetTable.grown nY.size)).2.1 >>= fun _=>pure (some true))else pure (some true)) R E s:=by
 refine wpAny_bind (wpAny_storeSet_of ho hd ?_ (fits_of_scanBound hb));obtain⟨q,G1⟩:=lU (ks:=ks) ho hex hd nF hp hb hf g;have sb:=Heap.SameBut.update s.heap a (Obj.putSet nY t1);by_cases z:(!wd&&t1.tooFull)=true
 ·rw [if_pos z];have rp:=relayAll_perm t1 nY (SetTable.grown nY.size);have rf:=relayAll_fits t1 nY (SetTable.grown nY.size);have rg:=Iz (es:=nY) (n:=SetTable.grown nY.size) g;generalize relayAll t1 nY (SetTable.grown nY.size)=y at rp rf rg ⊢;obtain⟨es2,t2,b2⟩:=y;dsimp only at rp rf rg ⊢;have z2:es2.size=nY.size:=by
   have:=rp.length_eq;simpa using this
  refine wpAny_bind (hgw _ _ _ (wpAny_bind (wpAny_storeSet_of q rfl ?_ (fits_of_scanBound (by rw [z2];exact hb)))));obtain⟨_,G2⟩:=lU (ks:=ks) q hex rfl (nF.perm rp) ((rp.map _).trans hp) (by rw [z2];exact hb) rf rg;exact wpAny_pure (h _ (sb.trans (Heap.SameBut.update _ a _)) G2)
 ·rw [if_neg z];exact wpAny_pure (h _ sb G1)
theorem add_int{k:Int}{tk:Tok}{Q:Bool->Shared->Prop}(S:dR prog w s.heap a ks)(room:ks.length+1<scanBound)(h:∀b h',Heap.SameBut a s.heap h'->dR prog w h' a (step_dedup ks k)->Q b {s with heap:=h'}):
  wpAny (model prog w) A (setAddHashed a (.int k tk) (hashInt k)) Q E s:=by
 obtain⟨o,es,ep,t,ho,hex,hd,nF,hp,hb,hf,g⟩:=S;have Kw:(intKind prog w).is k (.int k tk)=true:=intKind_is _ _ _ _;have hsz:es.size=ks.length:=by
  have:=hp.length_eq;simpa using this
 unfold setAddHashed setAddHashedIn;refine wpAny_holding (wpAny_bind (wpAny_setState_of ho hd hf ?_));dsimp only;rw [byScan_of (x:=.int k tk) rfl hb nF,if_pos rfl];unfold setAddByScan;refine wpAny_bind (wpAny_bind (wpAny_rule (wpAny_bind (wpAny_setScan_of Kw ho hd hf nF ?_))))
 cases hr:List.findIdx? (fun e=>(intKind prog w).is k e.2) es.toList with
 |some j =>
  dsimp only;obtain⟨hj,hpj,_⟩:=List.findIdx?_eq_some_iff_getElem.mp hr;have hk:ks.any (·==k)=true:=(has_int nF hp k).mp ⟨es.toList[j],getElem_mem hj,hpj⟩;have q:=h false s.heap (Heap.SameBut.refl a s.heap) (by
   unfold step_dedup;rw [if_pos hk];exact⟨o,es,ep,t,ho,hex,hd,nF,hp,hb,hf,g⟩)
  exact wpAny_pure (wpAny_pure q)
 |none =>
  dsimp only;have hk:¬ks.any (·==k)=true:=fun z=>by
   obtain⟨e,he,hi⟩:=(has_int nF hp k).mpr z;have:=List.findIdx?_eq_none_iff.mp hr e he;rw [hi]at this
   cases this
  have sd:step_dedup ks k=ks++[k]:=by
   unfold step_dedup;rw [if_neg hk]
  rw [sd]at h;have lp:=layNew_perm t es (hashInt k) (.int k tk);have lf:=layNew_fits t es (hashInt k) (.int k tk);have lg:=Qc (es:=es) (h:=hashInt k) (x:=.int k tk) g;show wpAny (model prog w) A _ _ E s;generalize hL:layNew t es (hashInt k) (.int k tk)=y at lp lf lg ⊢;obtain⟨nY,t1,wd,gv⟩:=y;dsimp only at lp lf lg ⊢;rw [toList_push]at lp;have Xa:ElemsOf (intKind prog w) nY.toList:=(nF.push Kw rfl).perm lp;have z1:nY.size=ks.length+1:=by
   have:=lp.length_eq;rw [length_append,length_toList,length_toList]at this;rw [this,hsz];rfl
  have N3:(nY.toList.map fun e=>iv e.2).Perm (ks++[k]):=by
   refine(lp.map _).trans ?_;rw [map_append];exact hp.append (.refl _)
  have ggw:∀(b:Bool){s1:Shared}{R:Unit->Shared->Prop},R () s1->wpAny (model prog w) A (match b with|true=>rule "set.scan.the-table-gave-way" | false=>pure ()) R E s1:=fun b s1 R hq=>by
   cases b<;>first|exact wpAny_pure hq|exact wpAny_rule hq
  have tl:∀t2:SetTable,t2.fits nY.size=true->Gd (!w.params.followText "set-order") t2->∀{R:Option Bool->Shared->Prop},(∀h',Heap.SameBut a s.heap h'->dR prog w h' a (ks++[k])->R (some true) {s with heap:=h'}) ->
    wpAny (model prog w) A (storeSet a nY t2 >>= fun _=>if(!wd&&t2.tooFull)=true then((match (relayAll t2 nY (SetTable.grown nY.size)).2.2 with|true=>rule "set.scan.the-table-gave-way" | false=>pure ()) >>= fun _=>storeSet a (relayAll t2 nY (SetTable.grown nY.size)).1 (relayAll t2 nY (SetTable.grown nY.size)).2.1 >>= fun _=>pure (some true))else pure (some true)) R E s :=
   fun t2 f2 g2 R hR=>IA (gw:=fun b=>match b with|true=>rule "set.scan.the-table-gave-way" | false=>pure ()) (fun b s1 R' hq=>ggw b hq) ho hex hd Xa N3 (by omega) f2 g2 hR
  refine wpAny_bind (ggw _ ?_);split
  ·refine wpAny_bind ?_;rw [hashByValue_scannable 8 (x:=.int k tk) rfl];refine wpAny_pure (tl _ lf lg fun h' sb G'=>?_);exact wpAny_pure (h true h' sb G')
  ·refine wpAny_bind (wpAny_pure ?_);rw [if_pos rfl];refine tl _ lf lg fun h' sb G'=>?_;exact wpAny_pure (h true h' sb G')
end
section
variable {prog:Program}{w:World}{A:Around}
theorem dR.at{h h':Heap}{a:Addr}{ks:List Int}(S:dR prog w h a ks)(k:∀o,h.get? a=some o->h'.get? a=some o):dR prog w h' a ks:=by
 obtain⟨o,es,ep,t,ho,r⟩:=S;exact⟨o,es,ep,t,k o ho,r⟩
theorem IB{R:Result->Shared->Prop}{I:Addr}{fp wr:List Addr}{Gg:Array GenState->Array GenState->Prop}{n:Nat}{Pp:Nat->Value->Prop}{St:Nat->Shared->Prop}(W:WalksS prog w A.in1 I fp wr Gg n Pp St)(S:Addr)(nf:S∉fp)(val:Nat->Int)(Xb:∀i v,Pp i v->∃t,v=.int (val i) t)(hb:n+1<scanBound):
  ∀(k i:Nat)(s:Shared),n-i=k->i<=n->St i s->dR prog w s.heap S (firstMet val i)->(∀s',Moved (S::wr) Gg s s'->dR prog w s'.heap S (firstMet val n)->R (.ok (.ret .none)) s')->codeAny (model prog w) A (.builtin "set.update.loop" ⟨[.ref S,.ref I],[]⟩) R s:=by
 have nw:S∉wr:=fun z=>nf (W.sub _ z);have up:∀b∈wr,b∈S::wr:=fun b z=>mem_cons_of_mem _ z;intro k
 induction k with
 |zero =>
  intro i s hk hi st G1 fin;have e:i=n:=by omega
  subst e;refine codeAny_builtin PyProof.Rows.F.entry_set_update_loop ?_;rw [Around.under_plainId PyProof.Rows.F.plain_set_update_loop _];refine wpAny_bind (m:=pyNext (.ref I)) (W.done s _ _ st fun s' mv=>?_);refine wpAny_pure (fin s' (mv.mono up) (G1.at fun o q=>mv.heap S _ nw q))
 |succ k ih =>
  intro i s hk hi st G1 fin;have lt:i<n:=by omega
  refine codeAny_builtin PyProof.Rows.F.entry_set_update_loop ?_;rw [Around.under_plainId PyProof.Rows.F.plain_set_update_loop _];refine wpAny_bind (m:=pyNext (.ref I)) (W.item i s _ _ lt st fun v s' hp aK mv=>?_);obtain⟨t,rfl⟩:=Xb i v hp;refine wpAny_bind (m:=holding [Value.int (val i) t] (setAdd S (.int (val i) t))) (wpAny_holding ?_);unfold setAdd;refine wpAny_holding (wpAny_bind ((intKind prog w).pyHash (k:=val i) (intKind_is _ _ _ _) ?_));have rm:(firstMet val i).length+1<scanBound:=by
   have:=firstMet_length_le val i;omega
  refine add_int (s:={s' with toks:=s'.toks+1}) (G1.at fun o q=>mv.heap S _ nw q) rm fun b h' sb G2=>?_;have G3:dR prog w h' S (firstMet val (i+1)):=by
   rw [firstMet_succ];exact G2
  refine wpAny_pure ⟨plainId_quiet PyProof.Rows.F.plain_set_update_loop _,ih (i+1) _ (by omega) lt (W.frame _ s' _ _ aK (le_succ _) fun c hc o q=>?_) G3 fun s2 mv2 G4=>?_⟩
  ·exact(sb.2 c (fun z:c=S=>nf (z▸hc))).trans q
  ·exact fin s2 (Moved.trans W.gtrans ((mv.mono up).then_heap (le_succ _) fun c o hc q=>(sb.2 c (fun z:c=S=>hc (z▸mem_cons_self))).trans q) mv2) G4
def IC(led:Bool):Obj:={cls:=.type "set", dict:=none,data:=.set #[] 0 (.fresh 0 0 led)}
variable {E:Value->Shared->Prop}{s:Shared}
theorem LI(a:Value){Q:Value->Shared->Prop}(h:Q (.ref s.heap.objs.size) {s with heap:=s.heap.push (IC (!w.params.followText "set-order"))}):
  codeAny (model prog w) A (.call (.builtin "set.__new__") ⟨[.type "set", a],[]⟩) (wants Q E) s:=by
 refine codeAny_of_tree (show wpAny _ A.in1 (checkBuiltinCall "set.__new__" ⟨[.type "set", a],[]⟩ >>= fun _=>again (.builtin "set.__new__" ⟨[.type "set", a],[]⟩)) _ _ s from ?_);refine wpAny_bind (wpAny_of_eq (PySem.F.newCall_set_1 a) (wpAny_pure ⟨plainId_quiet PySem.F.plain_set_new _,codeAny_builtin PySem.F.entry_set_new ?_⟩));rw [Around.under_plainId PySem.F.plain_set_new _];unfold Builtin.«set.__new__» Builtin.Frozenset.newClass;have z:=sub_set_self;obtain⟨hp,g,d,tk,os⟩:=s;dsimp only
 wp_walk
 refine wpAny_askSetting (wpAny_pure ?_);dsimp only;simp only [newObj];exact wpAny_bind (wpAny_alloc (wpAny_pure (wpAny_pure h)))
end
theorem AF:Manifest.owners.lookup (String.ofList ['r','o','t','a','r','e','t','i','_','t','e','s'].reverse)=some Manifest.sig_set_iterator:=by kernel_rfl
theorem gf:PySem.Slot "set_iterator" "__next__" "set_iterator.__next__" :=
 PySem.Slot.of (owner := "set_iterator") (n := "__next__") (by rw [typeLookup_type,builtinLookup_eq_fast];kernel_rfl) (by decide +kernel) (by decide +kernel) (by decide +kernel) (by first|exact .inl (by decide +kernel)|exact .inr (by decide +kernel)) (by rw [isSubtype_type];kernel_rfl)
theorem pY:entryFor table "set_iterator.__next__" = some Builtin.«set_iterator.__next__»:=entryFor_of_tree (by kernel_rfl)
theorem pZ(a:Value):argsOk "set_iterator.__next__" ⟨[a],[]⟩:=by
 unfold argsOk;rw [signature?_of (id := "set_iterator.__next__") (n:=['_','_','t','x','e','n','_','_']) (o:=['r','o','t','a','r','e','t','i','_','t','e','s']) (by kernel_rfl) AF];kernel_rfl
theorem FF:entryFor table "set.__iter__" = some Builtin.«frozenset.__iter__» :=
 entryFor_alias (id' := "frozenset.__iter__") (by kernel_rfl) (by first|rfl|decide +kernel|(unfold String.splitOn;simp +decide [String.splitOnAux])) (by decide +kernel) (by kernel_rfl)
section
variable {prog:Program}{w:World}{A:Around}{E:Value->Shared->Prop}{s:Shared}
def vj(first:Value)(i:Int)(src:Value)(n:Int)(ep:Int):Obj:={cls:=.type "set_iterator", dict:=none,data:=.fields #[first,rawInt i,src,rawInt n,rawInt ep],slots:=#[]}
theorem AG{I S:Addr}{sl i n ep:Nat}{o:Obj}{es:Array (Int×Value)}{t:SetTable}{x:Value}{nx:Nat}{Q:Option Value->Shared->Prop}(hI:s.heap.get? I=some (vj (rawInt sl) i (.ref S) n ep))(ne:S≠I)(ho:s.heap.get? S=some o)(hd:o.data=.set es ep t)(hf:t.fits es.size=true)(hn:es.size=n)
  (sn:∀(A:Around)(E:Value->Shared->Prop)(s':Shared)(R:Option (Value×Nat)->Shared->Prop),s'.heap.get? S=some o->R (some (x,nx)) s'->wpAny (model prog w) A (setNext S sl i ep) R E s')
  (h:∀h',h'.get? I=some (vj (rawInt nx) (i+1:Nat) (.ref S) n ep)->(∀b u,b≠I->s.heap.get? b=some u->h'.get? b=some u)->Q (some x) {s with heap:=h'}):wpAny (model prog w) A (pyNext (.ref I)) Q E s:=by
 have hT:s.TypeIs (.ref I) "set_iterator" := ⟨_,hI,rfl⟩;unfold pyNext;refine wpAny_bind (wpAny_attempt (wpAny_callSpecial?_slot (name:=Str.ofString "__next__") hT gf (wpAny_call_entry gf hT pY ?_ (pZ _))));unfold Builtin.«set_iterator.__next__»;refine wpAny_bind (wpAny_of_eq (a:=(Value.ref I,[])) rfl ?_);dsimp only;refine wpAny_bind (wpAny_fieldsOf hI rfl ?_);dsimp only [rawInt];refine wpAny_bind (wpAny_setEntries_of ho hd hf ?_);rw [hn];have z:((n:Int) != (n:Int))=false:=by simp
 rw [z];simp only [false_eq_true,if_false];refine wpAny_bind (sn _ _ _ _ ho ?_);dsimp only;refine wpAny_bind (wpAny_setField_rec hI (by simp) fun h1 g1 b1=>?_);refine wpAny_bind (wpAny_setField_rec g1 (by simp) fun h2 g2 b2=>?_);refine wpAny_pure ⟨x,rfl,wpAny_pure (h h2 g2 fun b u hb e=>?_)⟩;exact(b2.2 b hb).trans ((b1.2 b hb).trans e)
theorem Eh{I S:Addr}{sl i n ep:Nat}{o:Obj}{es:Array (Int×Value)}{t:SetTable}{Q:Option Value->Shared->Prop}(hh:A.handled=none)(hI:s.heap.get? I=some (vj (rawInt sl) i (.ref S) n ep))(ne:S≠I)(ho:s.heap.get? S=some o)(hd:o.data=.set es ep t)(hf:t.fits es.size=true)(hn:es.size=n)
  (sn:∀(A:Around)(E:Value->Shared->Prop)(s':Shared)(R:Option (Value×Nat)->Shared->Prop),s'.heap.get? S=some o->R none s'->wpAny (model prog w) A (setNext S sl i ep) R E s')
  (h:∀h',(∀b u,b≠I->s.heap.get? b=some u->h'.get? b=some u)->Q none {s with heap:=h'}):wpAny (model prog w) A (pyNext (.ref I)) Q E s:=by
 have hT:s.TypeIs (.ref I) "set_iterator" := ⟨_,hI,rfl⟩;unfold pyNext;refine wpAny_bind (wpAny_attempt (wpAny_callSpecial?_slot (name:=Str.ofString "__next__") hT gf (wpAny_call_entry gf hT pY ?_ (pZ _))));unfold Builtin.«set_iterator.__next__»;refine wpAny_bind (wpAny_of_eq (a:=(Value.ref I,[])) rfl ?_);dsimp only;refine wpAny_bind (wpAny_fieldsOf hI rfl ?_);dsimp only [rawInt];refine wpAny_bind (wpAny_setEntries_of ho hd hf ?_);rw [hn];have z:((n:Int) != (n:Int))=false:=by simp
 rw [z];simp only [false_eq_true,if_false];refine wpAny_bind (sn _ _ _ _ ho ?_);dsimp only;refine wpAny_bind (wpAny_setField_rec hI (by simp) fun h1 g1 b1=>?_);refine wpAny_bind (m:=newExc (.type "StopIteration") []) ?_;simp only [newExc,newTuple];refine wpAny_bind (wpAny_newObj_type ?_ (by size_fits));refine wpAny_bind (m:=firstArgMember _ _) (wpAny_of_eq (a:=Value.none) (by first|rfl|(simp only [firstArgMember];rfl)) ?_);refine wpAny_newObj_type ?_ (by size_fits);simp only [raiseNew];refine wpAny_bind (wpAny_handled ?_)
 first|rw [show A.in1.handled=none from hh]|rw [hh]
 refine wpAny_bind (wpAny_pure (wpAny_throw ?_));refine wpAny_bind (wpAny_isInstance (T := "StopIteration") (b:=true) ⟨_,Heap.get?_push_size _ rfl,rfl⟩ isSubtype_stop ?_);exact wpAny_pure (h _ fun b u hb e=>Heap.get?_push_of_some _ (Heap.get?_push_of_some _ ((b1.2 b hb).trans e)))
theorem Th{src:Source}{n:Nat}{Q:Nat->Shared->Prop}(hn:n≠0)(h:∀i,i<n->Q i {s with drawn:=s.drawn.bump src}):wpAny (model prog w) A (choose src n) Q E s:=fun Γ p hΓ=>⟨hn,h _ (mod_lt _ (Nat.pos_of_ne_zero hn))⟩
theorem ub{α:Type}:∀{xs:List α}{i:Nat}(hi:i<xs.length),(xs[i]::xs.eraseIdx i).Perm xs
 |[],i,hi=>absurd hi (not_lt_zero _)
 |x::xs,0,hi=>.refl _
 |x::xs,i+1,hi=>by
  have SN:i<xs.length:=by simpa using hi
  have ih:=ub (xs:=xs) (i:=i) SN;show(xs[i]::x::xs.eraseIdx i).Perm (x::xs);exact(List.Perm.swap _ _ _).trans (ih.cons x)
theorem AH{α:Type}:∀(n:Nat)(xs:List α){s:Shared}{Q:List α->Shared->Prop},xs.length=n->(∀ys d,ys.Perm xs->Q ys {s with drawn:=d})->wpAny (model prog w) A (drawOrder n xs) Q E s
 |0,xs,s,Q,hl,h=>by
  cases xs with
  |nil=>exact wpAny_pure (h [] s.drawn (.refl _))
  |cons x xs=>cases hl
 |n+1,[],s,Q,hl,h=>by cases hl
 |n+1,x::xs,s,Q,hl,h=>by
  unfold drawOrder;refine wpAny_bind (Th (by simp) fun i hi=>?_);have e:(x::xs)[i]?=some ((x::xs)[i]):=getElem?_eq_getElem hi;rw [e];dsimp only;refine wpAny_bind (AH n _ (by rw [List.length_eraseIdx,if_pos hi,hl];rfl) fun ys d hp=>wpAny_pure ?_);refine h _ d ?_;refine(hp.cons _).trans ?_;exact(ub hi)
theorem Ei{S:Addr}{sl i ep:Nat}{o:Obj}{es:Array (Int×Value)}{t:SetTable}{R:Option (Value×Nat)->Shared->Prop}(ho:s.heap.get? S=some o)(hd:o.data=.set es ep t)(hf:t.fits es.size=true)(hw:w.params.followText "set-order" = true)
  (h:R (((pickOrder (w.params.setOrder S ep) es)[i]?).map fun e=>(e.2,sl)) s):wpAny (model prog w) A (setNext S sl i ep) R E s:=by
 unfold setNext;refine wpAny_bind (wpAny_setState_of ho hd hf ?_);dsimp only;unfold setsByText;refine wpAny_bind (wpAny_bind (wpAny_askSetting (wpAny_pure ?_)));rw [show(model prog w).w.params.followText "set-order" = true from hw,if_pos rfl];have z:(ep != ep)=false:=by simp
 rw [z];simp only [false_eq_true,if_false];unfold setWalk;refine wpAny_bind (wpAny_bind (wpAny_setState_of ho hd hf ?_));dsimp only;unfold setsByText;refine wpAny_bind (wpAny_bind (wpAny_askSetting (wpAny_pure ?_)));rw [show(model prog w).w.params.followText "set-order" = true from hw,if_pos rfl];exact wpAny_bind (wpAny_askSetting (wpAny_pure (wpAny_pure h)))
theorem AI{S:Addr}{sl i ep:Nat}{o:Obj}{es:Array (Int×Value)}{t:SetTable}{R:Option (Value×Nat)->Shared->Prop}(ho:s.heap.get? S=some o)(hd:o.data=.set es ep t)(hf:t.fits es.size=true)(hw:w.params.followText "set-order" = false)(hl:t.led=true)(hp:t.plain=true\/es.size<=1)
  (h:R (match es[SetTable.below t.place sl]?,t.place[SetTable.below t.place sl]? with|some (_,x),some j=>some (x,j+1)|_,_=>none) s):wpAny (model prog w) A (setNext S sl i ep) R E s:=by
 unfold setNext;refine wpAny_bind (wpAny_setState_of ho hd hf ?_);dsimp only;unfold setsByText;refine wpAny_bind (wpAny_bind (wpAny_askSetting (wpAny_pure ?_)));rw [show(model prog w).w.params.followText "set-order" = false from hw];simp only [false_eq_true,if_false];refine wpAny_ite_split (fun RE=>?_) (fun _=>?_)
 ·have RE:(!t.plain&&decide (es.size>1))=true:=RE;rw [and_eq_true,decide_eq_true_eq]at RE;rcases hp with z|z
  ·rw [z]at RE
   cases RE.1
  ·omega
 ·refine wpAny_bind ?_;show wpAny _ _ (if(!t.led&&!es.isEmpty)=true then unsupported _ else pure ()) _ _ _;rw [hl];exact wpAny_pure (wpAny_pure h)
theorem wU{α:Type}(f:Nat->Nat):∀(n k:Nat)(left:List α)(out:Array α),left.length=n->(pickOrder.go f n k left out).toList.Perm (out.toList++left)
 |0,k,left,out,hl=>by
  cases left with
  |nil =>
   unfold pickOrder.go;simp
  |cons x xs=>cases hl
 |n+1,k,left,out,hl=>by
  unfold pickOrder.go;have hi:f k % left.length<left.length:=mod_lt _ (by omega);rw [getElem?_eq_getElem hi];dsimp only;refine(wU f n (k+1) _ _ (by rw [List.length_eraseIdx,if_pos hi,hl];rfl)).trans ?_;rw [toList_push,append_assoc];exact List.Perm.append_left _ (ub hi)
theorem eO{α:Type}(f:Nat->Nat)(xs:Array α):(pickOrder f xs).toList.Perm xs.toList:=by
 unfold pickOrder;have:=wU f xs.size 0 xs.toList #[] (by simp);simpa using this
theorem Ej:PySem.Slot "set_iterator" "__iter__" "set_iterator.__iter__" :=
 PySem.Slot.of (owner := "set_iterator") (n := "__iter__") (by rw [typeLookup_type,builtinLookup_eq_fast];kernel_rfl) (by decide +kernel) (by decide +kernel) (by decide +kernel) (by first|exact .inl (by decide +kernel)|exact .inr (by decide +kernel)) (by rw [isSubtype_type];kernel_rfl)
theorem ID(a:Value):argsOk "set_iterator.__iter__" ⟨[a],[]⟩:=by
 unfold argsOk;rw [signature?_of (id := "set_iterator.__iter__") (n:=['_','_','r','e','t','i','_','_']) (o:=['r','o','t','a','r','e','t','i','_','t','e','s']) (by kernel_rfl) AF];kernel_rfl
theorem IE:entryFor table "set_iterator.__iter__" = some Builtin.«dict_keyiterator.__iter__» :=
 entryFor_alias (id' := "dict_keyiterator.__iter__") (by kernel_rfl) (by first|rfl|decide +kernel|(unfold String.splitOn;simp +decide [String.splitOnAux])) (by decide +kernel) (by kernel_rfl)
theorem uc{I:Addr}{f sr:Value}{i n ep:Int}{Q:Value->Shared->Prop}(hI:s.heap.get? I=some (vj f i sr n ep))(h:Q (.ref I) s):wpAny (model prog w) A (pyIter (.ref I)) Q E s:=by
 have hT:s.TypeIs (.ref I) "set_iterator" := ⟨_,hI,rfl⟩;refine wpAny_pyIter_slot hT Ej (wpAny_call_entry Ej hT IE (show wpAny _ _ (ret (.ref I)) _ _ s from wpAny_pure ⟨_,rfl, "set_iterator", _,hT,gf.lookup,h⟩) (ID _))
theorem yl{l l':List (Int×Value)}{ks:List Int}(p:l'.Perm l)(h:(l.map fun e=>iv e.2).Perm ks):((l'.map (·.2)).map iv).Perm ks:=by
 rw [map_map];exact(p.map _).trans h
theorem sD:∀{vs:List Value},(∀v∈vs,∃t,v=.int (iv v) t)->IntsAre vs (vs.map iv)
 |[],_=>.nil
 |v::vs,h=>by
  obtain⟨t,e⟩:=h v mem_cons_self;have ih:=sD (vs:=vs) fun u hu=>h u (mem_cons_of_mem _ hu);rw [map_cons];have q:IntsAre (.int (iv v) t::vs) (iv v::vs.map iv):=.cons _ _ ih;rw [<-e]at q;exact q
structure p0(prog:Program)(w:World)(h:Heap)(I S:Addr)(ks:List Int)(ord:List Value)(fp:List Addr)(St:Nat->Heap->Prop):Prop where
 walks:∀A:Around,A.handled=none->Walks prog w A I fp [I] ks.length (fun i v=>ord[i]?=some v) St
 start:St 0 h
 allI:IntsAre ord (ord.map iv)
 AJ:(ord.map iv).Perm ks
theorem FG{o:Obj}{es:Array (Int×Value)}{ep:Nat}{t:SetTable}{I S:Addr}{ks:List Int}(ne:S≠I)(hS:s.heap.get? S=some o)(hd:o.data=.set es ep t)(hf:t.fits es.size=true)(nF:ElemsOf (intKind prog w) es.toList)(hp:(es.toList.map fun e=>iv e.2).Perm ks)(hw:w.params.followText "set-order" = true)
  (hI:s.heap.get? I=some (vj (rawInt 0) 0 (.ref S) es.size ep)):p0 prog w s.heap I S ks ((pickOrder (w.params.setOrder S ep) es).toList.map (·.2)) [I,S] (fun i h=>h.get? I=some (vj (rawInt 0) (i:Nat) (.ref S) es.size ep)/\h.get? S=some o)where
 walks:=fun A hh=>{
  sub:=fun b hb=>by
   rw [mem_singleton.mp hb];exact mem_cons_self
  frame:=fun i h h' st k=>⟨k I mem_cons_self _ st.1,k S (by simp) _ st.2⟩
  item:=fun i s' Q E hi st hQ=>by
   have hl:(pickOrder (w.params.setOrder S ep) es).toList.length=ks.length:=by
    rw [(eO (w.params.setOrder S ep) es).length_eq,<-hp.length_eq,length_map]
   have hx:(pickOrder (w.params.setOrder S ep) es)[i]?=some ((pickOrder (w.params.setOrder S ep) es).toList[i]'(by omega)):=by
    rw [<-getElem?_toList];exact getElem?_eq_getElem (by omega)
   refine AG (sl:=0) (nx:=0) (x:=((pickOrder (w.params.setOrder S ep) es).toList[i]'(by omega)).2) st.1 ne st.2 hd hf rfl (fun A' E' s2 R h2 hR=>Ei h2 hd hf hw (by rw [hx];exact hR)) fun h' g kk=>hQ _ h' s'.toks ?_ ⟨g,kk S _ ne st.2⟩ fun b u hb e=>kk b u (fun z=>hb (by simp [z])) e;rw [getElem?_map,getElem?_toList,hx];rfl
  done:=fun s' Q E st hQ=>by
   have hl:(pickOrder (w.params.setOrder S ep) es).toList.length=ks.length:=by
    rw [(eO (w.params.setOrder S ep) es).length_eq,<-hp.length_eq,length_map]
   refine Eh (sl:=0) hh st.1 ne st.2 hd hf rfl (fun A' E' s2 R h2 hR=>Ei h2 hd hf hw ?_) fun h' kk=>hQ h' s'.toks fun b u hb e=>kk b u (fun z=>hb (by simp [z])) e;rw [<-getElem?_toList,getElem?_eq_none (by omega)];exact hR
  self:=fun i s' Q E st q=>uc st.1 q}
 start:=⟨hI,hS⟩
 allI:=sD fun v hv=>by
  obtain⟨e,he,rfl⟩:=mem_map.mp hv;exact jQ (prog:=prog) (w:=w) (nF e ((eO _ es).mem_iff.mp he))
 AJ:=yl (eO _ es) hp
theorem CK{o:Obj}{es:Array (Int×Value)}{ep:Nat}{t:SetTable}{I S:Addr}{ks:List Int}(ne:S≠I)(hS:s.heap.get? S=some o)(hd:o.data=.set es ep t)(hf:t.fits es.size=true)(nF:ElemsOf (intKind prog w) es.toList)(hp:(es.toList.map fun e=>iv e.2).Perm ks)(hw:w.params.followText "set-order" = false)
  (hl:t.led=true) (pl:t.plain=true\/es.size<=1) (R:B4 t.place) (hI:s.heap.get? I=some (vj (rawInt 0) 0 (.ref S) es.size ep)):p0 prog w s.heap I S ks (es.toList.map (·.2)) [I,S] (fun i h=>∃sl:Nat,SetTable.below t.place sl=i/\h.get? I=some (vj (rawInt sl) (i:Nat) (.ref S) es.size ep)/\h.get? S=some o)where
 walks:=fun A hh=>{
  sub:=fun b hb=>by
   rw [mem_singleton.mp hb];exact mem_cons_self
  frame:=fun i h h' ⟨sl,b,st⟩ k=>⟨sl,b,k I mem_cons_self _ st.1,k S (by simp) _ st.2⟩
  item:=fun i s' Q E hi ⟨sl,hb,st⟩ hQ=>by
   have hn:es.size=ks.length:=by
    rw [<-hp.length_eq,length_map,length_toList]
   have pz:t.place.size=es.size:=by
    simp only [SetTable.fits,and_eq_true,beq_iff_eq,decide_eq_true_eq]at hf;exact hf.1
   have h1:i<es.size:=by omega
   have h2:i<t.place.size:=by omega
   have e1:es[i]?=some (es[i].1,es[i].2):=by simp [h1]
   have e2:t.place[i]?=some t.place[i]:=by simp [h2]
   refine AG (nx:=t.place[i]+1) (x:=es[i].2) st.1 ne st.2 hd hf rfl (fun A' E' s2 R' h2 hR=>AI h2 hd hf hw hl pl (by rw [hb,e1,e2];exact hR)) fun h' g kk=>hQ _ h' s'.toks ?_ ⟨_,CJ R e2,g,kk S _ ne st.2⟩ fun b u hb e=>kk b u (fun z=>hb (by simp [z])) e;rw [getElem?_map,getElem?_toList,e1];rfl
  done:=fun s' Q E ⟨sl,hb,st⟩ hQ=>by
   have hn:es.size=ks.length:=by
    rw [<-hp.length_eq,length_map,length_toList]
   refine Eh hh st.1 ne st.2 hd hf rfl (fun A' E' s2 R' h2 hR=>AI h2 hd hf hw hl pl ?_) fun h' kk=>hQ h' s'.toks fun b u hb e=>kk b u (fun z=>hb (by simp [z])) e;rw [hb,Array.getElem?_eq_none (by omega)];exact hR
  self:=fun i s' Q E ⟨sl,_,st⟩ q=>uc st.1 q}
 start:=⟨0,CH R,hI,hS⟩
 allI:=sD fun v hv=>by
  obtain⟨e,he,rfl⟩:=mem_map.mp hv;exact jQ (prog:=prog) (w:=w) (nF e he)
 AJ:=yl (.refl _) hp
theorem IF{I S T:Addr}{pl:List Nat}{i n ep:Nat}{o oT:Obj}{es:Array (Int×Value)}{t:SetTable}{e:Int×Value}{j nT:Nat}{Q:Option Value->Shared->Prop}(hI:s.heap.get? I=some (vj (.ref T) i (.ref S) n ep))(ho:s.heap.get? S=some o)(hd:o.data=.set es ep t)(hf:t.fits es.size=true)(hn:es.size=n)
  (hT:s.heap.get? T=some oT) (dT:oT.data=.seq ((pl.map fun(k:Nat)=>rawInt k).toArray) nT) (hj:pl[i]?=some j) (he:es[j]?=some e)
  (h:∀h',h'.get? I=some (vj (.ref T) (i+1:Nat) (.ref S) n ep)->(∀b u,b≠I->s.heap.get? b=some u->h'.get? b=some u)->Q (some e.2) {s with heap:=h'}):wpAny (model prog w) A (pyNext (.ref I)) Q E s:=by
 have N4:s.TypeIs (.ref I) "set_iterator" := ⟨_,hI,rfl⟩;unfold pyNext;refine wpAny_bind (wpAny_attempt (wpAny_callSpecial?_slot (name:=Str.ofString "__next__") N4 gf (wpAny_call_entry gf N4 pY ?_ (pZ _))));unfold Builtin.«set_iterator.__next__»;refine wpAny_bind (wpAny_of_eq (a:=(Value.ref I,[])) rfl ?_);dsimp only;refine wpAny_bind (wpAny_fieldsOf hI rfl ?_);dsimp only [rawInt];refine wpAny_bind (wpAny_setEntries_of ho hd hf ?_);rw [hn];have z:((n:Int) != (n:Int))=false:=by simp
 rw [z];simp only [false_eq_true,if_false];refine wpAny_bind (wpAny_seqItems hT dT ?_);dsimp only;have ea:((pl.map fun(k:Nat)=>rawInt k).toArray)[(i:Int).toNat]?=some (.int (j:Nat) 0):=by
  rw [toNat_natCast,List.getElem?_toArray,getElem?_map,hj];rfl
 rw [ea];dsimp only;unfold setNextDrawn;refine wpAny_bind (wpAny_bind (wpAny_setState_of ho hd hf ?_));dsimp only;have z2:(ep != (ep:Int).toNat)=false:=by simp
 rw [z2];simp only [false_eq_true,if_false,toNat_natCast,he];refine wpAny_pure ?_;refine wpAny_bind (wpAny_setField_rec hI (by simp) fun h1 g1 b1=>?_);refine wpAny_pure ⟨e.2,rfl,wpAny_pure (h h1 g1 fun b u hb q=>?_)⟩;exact(b1.2 b hb).trans q
theorem LJ{I S T:Addr}{pl:List Nat}{i n ep:Nat}{o oT:Obj}{es:Array (Int×Value)}{t:SetTable}{nT:Nat}{Q:Option Value->Shared->Prop}(hh:A.handled=none)(hI:s.heap.get? I=some (vj (.ref T) i (.ref S) n ep))(ho:s.heap.get? S=some o)(hd:o.data=.set es ep t)(hf:t.fits es.size=true)(hn:es.size=n)
  (hT:s.heap.get? T=some oT) (dT:oT.data=.seq ((pl.map fun(k:Nat)=>rawInt k).toArray) nT) (hj:pl[i]?=none)
  (h:∀h',(∀b u,b≠I->s.heap.get? b=some u->h'.get? b=some u)->Q none {s with heap:=h'}):wpAny (model prog w) A (pyNext (.ref I)) Q E s:=by
 have N4:s.TypeIs (.ref I) "set_iterator" := ⟨_,hI,rfl⟩;unfold pyNext;refine wpAny_bind (wpAny_attempt (wpAny_callSpecial?_slot (name:=Str.ofString "__next__") N4 gf (wpAny_call_entry gf N4 pY ?_ (pZ _))));unfold Builtin.«set_iterator.__next__»;refine wpAny_bind (wpAny_of_eq (a:=(Value.ref I,[])) rfl ?_);dsimp only;refine wpAny_bind (wpAny_fieldsOf hI rfl ?_);dsimp only [rawInt];refine wpAny_bind (wpAny_setEntries_of ho hd hf ?_);rw [hn];have z:((n:Int) != (n:Int))=false:=by simp
 rw [z];simp only [false_eq_true,if_false];refine wpAny_bind (wpAny_seqItems hT dT ?_);dsimp only;have ea:((pl.map fun(k:Nat)=>rawInt k).toArray)[(i:Int).toNat]?=none:=by
  rw [toNat_natCast,List.getElem?_toArray,getElem?_map,hj];rfl
 rw [ea];dsimp only;refine wpAny_bind (wpAny_setField_rec hI (by simp) fun h0 g0 b0=>?_);refine wpAny_bind (wpAny_setField_rec g0 (by simp) fun h1 g1 b1=>?_);refine wpAny_bind (m:=newExc (.type "StopIteration") []) ?_;simp only [newExc,newTuple];refine wpAny_bind (wpAny_newObj_type ?_ (by size_fits));refine wpAny_bind (m:=firstArgMember _ _) (wpAny_of_eq (a:=Value.none) (by first|rfl|(simp only [firstArgMember];rfl)) ?_);refine wpAny_newObj_type ?_ (by size_fits);simp only [raiseNew];refine wpAny_bind (wpAny_handled ?_)
 first|rw [show A.in1.handled=none from hh]|rw [hh]
 refine wpAny_bind (wpAny_pure (wpAny_throw ?_));refine wpAny_bind (wpAny_isInstance (T := "StopIteration") (b:=true) ⟨_,Heap.get?_push_size _ rfl,rfl⟩ isSubtype_stop ?_);exact wpAny_pure (h _ fun b u hb e=>Heap.get?_push_of_some _ (Heap.get?_push_of_some _ ((b1.2 b hb).trans ((b0.2 b hb).trans e))))
theorem ym{es:Array (Int×Value)}{pl:List Nat}(p:pl.Perm (List.range es.size)):(pl.filterMap fun j=>es[j]?).Perm es.toList:=(p.filterMap _).trans (by rw [filterMap_getElem?_range])
theorem IG{es:Array (Int×Value)}:∀{pl:List Nat},(∀j∈pl,j<es.size)->∀i:Nat,(pl.filterMap fun j=>es[j]?)[i]?=(pl[i]?).bind fun j=>es[j]?
 |[],_,i=>by simp
 |j::pl,h,i=>by
  have hj:j<es.size:=h j mem_cons_self;have e:es[j]?=some es[j]:=by simp [hj]
  rw [filterMap_cons,e]
  cases i with
  |zero=>simp [hj]
  |succ i =>
   rw [getElem?_cons_succ,getElem?_cons_succ];exact IG (fun k hk=>h k (mem_cons_of_mem _ hk)) i
theorem CL{o oT:Obj}{es:Array (Int×Value)}{ep nT:Nat}{t:SetTable}{I S T:Addr}{pl:List Nat}{ks:List Int}(ne:S≠I)(nT':T≠I)(hS:s.heap.get? S=some o)(hd:o.data=.set es ep t)(hf:t.fits es.size=true)(nF:ElemsOf (intKind prog w) es.toList)(hp:(es.toList.map fun e=>iv e.2).Perm ks)
  (hT:s.heap.get? T=some oT) (dT:oT.data=.seq ((pl.map fun(k:Nat)=>rawInt k).toArray) nT) (pp:pl.Perm (List.range es.size)) (hI:s.heap.get? I=some (vj (.ref T) 0 (.ref S) es.size ep)) :
  p0 prog w s.heap I S ks ((pl.filterMap fun j=>es[j]?).map (·.2)) [I,S,T] (fun i h=>h.get? I=some (vj (.ref T) (i:Nat) (.ref S) es.size ep)/\h.get? S=some o/\h.get? T=some oT)where
 walks:=fun A hh=>{
  sub:=fun b hb=>by
   rw [mem_singleton.mp hb];exact mem_cons_self
  frame:=fun i h h' st k=>⟨k I mem_cons_self _ st.1,k S (by simp) _ st.2.1,k T (by simp) _ st.2.2⟩
  item:=fun i s' Q E hi st hQ=>by
   have hn:es.size=ks.length:=by
    rw [<-hp.length_eq,length_map,length_toList]
   have lp:pl.length=es.size:=by
    rw [pp.length_eq,length_range]
   have h1:i<pl.length:=by omega
   have h2:pl[i]<es.size:=mem_range.mp (pp.mem_iff.mp (getElem_mem h1));have e1:pl[i]?=some pl[i]:=getElem?_eq_getElem h1;have e2:es[pl[i]]?=some es[pl[i]]:=by simp [h2]
   refine IF st.1 st.2.1 hd hf rfl st.2.2 dT e1 e2 fun h' g kk=>hQ _ h' s'.toks ?_ ⟨g,kk S _ ne st.2.1,kk T _ nT' st.2.2⟩ fun b u hb e=>kk b u (fun z=>hb (by simp [z])) e;rw [getElem?_map,IG (fun j hj=>mem_range.mp (pp.mem_iff.mp hj)),e1];show Option.map _ es[pl[i]]?=_;rw [e2];rfl
  done:=fun s' Q E st hQ=>by
   have hn:es.size=ks.length:=by
    rw [<-hp.length_eq,length_map,length_toList]
   have lp:pl.length=es.size:=by
    rw [pp.length_eq,length_range]
   exact LJ hh st.1 st.2.1 hd hf rfl st.2.2 dT (getElem?_eq_none (by omega)) fun h' kk=>hQ h' s'.toks fun b u hb e=>kk b u (fun z=>hb (by simp [z])) e
  self:=fun i s' Q E st q=>uc st.1 q}
 start:=⟨hI,hS,hT⟩
 allI:=sD fun v hv=>by
  obtain⟨e,he,rfl⟩:=mem_map.mp hv;exact jQ (prog:=prog) (w:=w) (nF e ((ym pp).mem_iff.mp he))
 AJ:=yl (ym pp) hp
theorem FH{xs:Array Nat}(h:xs.size<=1):B4 xs:=fun i j nW a b ha hb=>by
 have:=(Array.getElem?_eq_some_iff.mp hb).1;omega
theorem IH{S:Addr}{ks:List Int}{Q:Value->Shared->Prop}(G1:dR prog w s.heap S ks)
  (h:∀(I:Addr)(h':Heap)(d':Drawn)(ord:List Value)(fp:List Addr)(St:Nat->Heap->Prop),s.heap.objs.size<=I->I<h'.objs.size->(∀b o,s.heap.get? b=some o->h'.get? b=some o)->(∀b∈fp,b<h'.objs.size/\(b=S\/s.heap.objs.size<=b))->p0 prog w h' I S ks ord fp St->Q (.ref I) {s with heap:=h',drawn:=d'}) :
  wpAny (model prog w) A (pyIter (.ref S)) Q E s:=by
 obtain⟨o,es,ep,t,ho,hex,hd,nF,hp,hb,hf,g⟩:=G1;have hT:s.TypeIs (.ref S) "set" := ⟨_,ho,hex.1⟩;have lt:S<s.heap.objs.size:=Heap.lt_size ho;refine wpAny_pyIter_slot hT PySem.F.slot_set_iter (wpAny_call_entry PySem.F.slot_set_iter hT FF ?_ (PySem.F.args_set_iter_1 _));unfold Builtin.«frozenset.__iter__»;refine wpAny_bind (wpAny_of_eq (a:=S) rfl ?_);unfold Builtin.Frozenset.sizeOf;refine wpAny_bind (wpAny_bind (wpAny_setEntries_of ho hd hf (wpAny_pure ?_)));unfold setDrawn;refine wpAny_bind (wpAny_bind (wpAny_setState_of ho hd hf ?_));dsimp only;unfold setsByText;refine wpAny_bind (wpAny_bind (wpAny_askSetting (wpAny_pure (wpAny_pure ?_))));show wpAny (model prog w) A.in1 (if(!w.params.followText "set-order" && (!t.plain&&decide (es.size>1)))=true then _ else _) _ _ _;by_cases z:(!w.params.followText "set-order" && (!t.plain&&decide (es.size>1)))=true
 ·rw [if_pos z];refine wpAny_bind (AH es.size (List.range es.size) (length_range ..) fun pl d nt=>?_);refine wpAny_bind (wpAny_newTuple ?_ (by rw [length_map,nt.length_eq,length_range];exact fits_of_scanBound hb));have xT:(s.heap.push {cls:=.type "tuple", data:=.seq (pl.map fun(i:Nat)=>rawInt i).toArray}).get? S=some o:=Heap.get?_push_of_some _ ho;refine wpAny_bind (wpAny_setEpoch_of (s:={s with heap:=s.heap.push {cls:=.type "tuple", data:=.seq (pl.map fun(i:Nat)=>rawInt i).toArray},drawn:=d}) xT hd hf ?_);unfold newFields;refine wpAny_bind (wpAny_newObj_type ?_ (by size_fits));refine wpAny_pure ⟨_,rfl, "set_iterator", _,⟨_,Heap.get?_push_size _ rfl,rfl⟩,gf.lookup,?_⟩;have zz:(s.heap.push {cls:=.type "tuple", data:=.seq (pl.map fun(i:Nat)=>rawInt i).toArray}).objs.size=s.heap.objs.size+1:=Heap.size_push ..;refine h _ _ d _ [_,S,s.heap.objs.size] _ ?_ ?_ (fun b u e=>Heap.get?_push_of_some _ (Heap.get?_push_of_some _ e)) (fun b hb=>?_) (CL (T:=s.heap.objs.size) (s:={s with heap:=(s.heap.push {cls:=.type "tuple", data:=.seq (pl.map fun(i:Nat)=>rawInt i).toArray}).push (vj (.ref s.heap.objs.size) 0 (.ref S) es.size ep)}) ?_ ?_ (Heap.get?_push_of_some _ xT) hd hf nF hp (Heap.get?_push_of_some _ (Heap.get?_push_size _ rfl)) rfl nt (Heap.get?_push_size _ rfl))
  ·rw [zz];exact le_succ _
  ·exact Nat.lt_of_lt_of_eq (lt_succ_self _) (Heap.size_push ..).symm
  ·refine⟨Nat.lt_of_lt_of_eq ?_ (Heap.size_push ..).symm,?_⟩
   ·show _<(s.heap.push {cls:=.type "tuple", data:=.seq (pl.map fun(i:Nat)=>rawInt i).toArray}).objs.size+1;rcases mem_cons.mp hb with e|hb
    ·rw [e];exact lt_succ_self _
    ·rw [zz];rcases mem_cons.mp hb with e|hb
     ·rw [e];exact lt_succ_of_lt (lt_succ_of_lt lt)
     ·rw [mem_singleton.mp hb];exact lt_succ_of_lt (lt_succ_self _)
   ·rcases mem_cons.mp hb with e|hb
    ·rw [e];refine .inr ?_;show s.heap.objs.size<=(s.heap.push {cls:=.type "tuple", data:=.seq (pl.map fun(i:Nat)=>rawInt i).toArray}).objs.size;rw [zz];exact le_succ _
    ·rcases mem_cons.mp hb with e|hb
     ·exact .inl e
     ·rw [mem_singleton.mp hb];exact .inr (le_refl _)
  ·rw [zz];exact ne_of_lt (lt_succ_of_lt lt)
  ·rw [zz];exact ne_of_lt (lt_succ_self _)
 ·rw [if_neg z];refine wpAny_bind (wpAny_pure (wpAny_bind (wpAny_setEpoch_of ho hd hf ?_)));unfold newFields;refine wpAny_bind (wpAny_newObj_type ?_ (by size_fits));refine wpAny_pure ⟨_,rfl, "set_iterator", _,⟨_,Heap.get?_push_size _ rfl,rfl⟩,gf.lookup,?_⟩;have hI:(s.heap.push (vj (rawInt 0) 0 (.ref S) es.size ep)).get? s.heap.objs.size=some (vj (rawInt 0) 0 (.ref S) es.size ep):=Heap.get?_push_size _ rfl;have hS1:(s.heap.push (vj (rawInt 0) 0 (.ref S) es.size ep)).get? S=some o:=Heap.get?_push_of_some _ ho;have ne:S≠s.heap.objs.size:=ne_of_lt lt;have fpk:∀b∈[s.heap.objs.size,S],b<(s.heap.push (vj (rawInt 0) 0 (.ref S) es.size ep)).objs.size/\(b=S\/s.heap.objs.size<=b):=fun b hb=>by
   rw [Heap.size_push];rcases mem_cons.mp hb with e|hb
   ·rw [e];exact⟨lt_succ_self _,.inr (le_refl _)⟩
   ·rw [mem_singleton.mp hb];exact⟨lt_succ_of_lt lt,.inl rfl⟩
  have fin:∀ord St,p0 prog w (s.heap.push (vj (rawInt 0) 0 (.ref S) es.size ep)) s.heap.objs.size S ks ord [s.heap.objs.size,S] St->Q (.ref s.heap.objs.size) {s with heap:=s.heap.push (vj (rawInt 0) 0 (.ref S) es.size ep)}:=fun ord St W =>
   h _ _ s.drawn ord [s.heap.objs.size,S] St (le_refl _) (by rw [Heap.size_push];exact lt_succ_self _) (fun b u e=>Heap.get?_push_of_some _ e) fpk W
  cases hw:w.params.followText "set-order" with
  |true=>exact fin _ _ (FG (s:={s with heap:=s.heap.push (vj (rawInt 0) 0 (.ref S) es.size ep)}) ne hS1 hd hf nF hp hw hI)
  |false =>
   rw [hw]at z g;have pl:t.plain=true\/es.size<=1:=by
    cases nt:t.plain with
    |true=>exact .inl rfl
    |false =>
     rw [nt]at z;refine .inr ?_;simpa using z
   have R:B4 t.place:=by
    rcases pl with q|q
    ·exact g.Tf q
    ·refine FH ?_;simp only [SetTable.fits,and_eq_true,beq_iff_eq,decide_eq_true_eq]at hf;omega
   exact fin _ _ (CK (s:={s with heap:=s.heap.push (vj (rawInt 0) 0 (.ref S) es.size ep)}) ne hS1 hd hf nF hp hw g.led pl R hI)
theorem II{r:Addr}{Q:Bool->Shared->Prop}(hT:s.TypeIs (.ref r) "set")(h:Q false s):wpAny (model prog w) A (Builtin.List.listLengthHint (.ref r)) Q E s:=by
 unfold Builtin.List.listLengthHint;refine wpAny_bind (wpAny_specialOf hT PySem.F.slot_set_len.lookup ?_);generalize hid:("set.__len__" : String)=id1
 wp_delta
 rw [show splitId id1=some ("set", "__len__") from by subst hid;decide +kernel];subst hid;refine wpAny_bind (wpAny_isInstance (T := "set") (b:=true) hT (by rw [isSubtype_type];kernel_rfl) ?_);refine wpAny_ite_split (fun q=>absurd q (by decide)) fun _=>?_;refine wpAny_ite_split (fun _=>?_) fun q=>absurd (by decide +kernel) q;exact wpAny_bind (wpAny_typeOf hT (wpAny_pure h))
theorem qJ{l:Addr}{items:Array Value}{ns:List Int}{Q:Value->Shared->Prop}(hh:A.handled=none)(hl:s.heap.IsList l items)(hi:IntsAre items.toList ns)(hb:items.size+1<scanBound)
  (h:∀(h':Heap)(tk:Nat),dR prog w h' s.heap.objs.size (firstMet (fun i=>ns.getD i 0) items.size)->(∀b o,s.heap.get? b=some o->h'.get? b=some o)->Q (.ref s.heap.objs.size) {s with heap:=h',toks:=tk}) :
  wpAny (model prog w) A (call (.type "set") [.ref l]) Q E s:=by
 obtain⟨c,tl,q1⟩:=PySem.F.called_set.mro;have q2:=PySem.F.called_set.made;have q3:=PySem.F.called_set.sub;have q4:=PySem.F.called_set.notType;have q5:=PySem.F.called_set.canCreate;have q6:=PySem.F.typeCall_set_1 (.ref l);refine wpAny_call (codeAny_of_tree (show wpAny _ _ (callAny (.type "set") _) _ _ _ from ?_));refine wpAny_pure ⟨Code.quiet_builtin _ (by decide +kernel),codeAny_builtin PySem.F.entry_type_call ?_⟩;rw [Around.under_plain (weight_type_call_type "set" [.ref l] []) rfl]
 repeat (any_goals (first|assumption|wp_step))
 generalize U3:IC (!w.params.followText "set-order")=so;have oc:so.cls=.type "set" := by rw [<-U3];rfl
 refine codeAny_mono (LI (.ref l) (E:=E) (Q:=fun obj s1=>obj=.ref s.heap.objs.size/\s1={s with heap:=s.heap.push so}) ⟨rfl,by rw [U3]⟩) fun r s1 hr=>?_
 cases r with
 |error e=>exact hr
 |ok fl =>
  cases fl with
  |ret obj =>
   obtain⟨rfl,rfl⟩:=hr;have nfr:so.isFreed=false:=by rw [<-U3];rfl
   have z8:(s.heap.push so).get? s.heap.objs.size=some so:=Heap.get?_push_size _ nfr;have hT:Shared.TypeIs {s with heap:=s.heap.push so} (.ref s.heap.objs.size) "set" := ⟨_,z8,oc⟩;have q7:=PySem.F.called_set.init.lookup;have q8:=PySem.F.called_set.init.bind (.ref s.heap.objs.size)
   repeat (any_goals (first|assumption|wp_step))
   refine codeAny_mono (codeAny_call_builtin (R:=wants (fun r s2=>r=.none/\∃h' tk,s2={s with heap:=h',toks:=tk}/\dR prog w h' s.heap.objs.size (firstMet (fun i=>ns.getD i 0) items.size)/\(∀b o,s.heap.get? b=some o->h'.get? b=some o)) E)
    PySem.F.called_set.init.plain PySem.F.entry_set_init (check_set_init_1 hT ?_)) fun r2 s2 Fs=>?_
   ·obtain⟨AK,Xc,rfl⟩:∃AK:Bool,AK=(!w.params.followText "set-order")/\so={cls:=.type "set", dict:=none,data:=.set #[] 0 (.fresh 0 0 AK)}:=⟨_,rfl,U3.symm⟩;obtain⟨ol,e1,e2,nl,e3⟩:=hl;obtain⟨x1,x2,x3,x4⟩:=ol;simp only at e2 e3;subst e2;subst e3;have en:(s.heap.push {cls:=.type "set", dict:=none,data:=.set #[] 0 (.fresh 0 0 AK)}).get? l=some {cls:=.type "list", dict:=x2,data:=.seq items nl,slots:=x4}:=Heap.get?_push_of_some _ e1;have y1:=PySem.F.sub_list_set;have y2:=PySem.F.sub_list_frozenset;have y3:(Value.type "list" == Value.type "dict")=false:=by decide
    have L1:(s.heap.push {cls:=.type "set", dict:=none,data:=.set #[] 0 (.fresh 0 0 AK)}).IsList l items:=⟨_,en,rfl,nl,rfl⟩;unfold Builtin.«set.__init__» noKeywords Builtin.Frozenset.updateFrom;generalize hPI:pyIter=PI
    wp_walk
    subst hPI;refine wpAny_pyIter_list L1 ?_;refine wpAny_bind (wpAny_runValue ?_);have lt:l<s.heap.objs.size:=Heap.lt_size e1;have h3:A.in1.in1.in1.handled=none:=by simp [hh]
    have ne:l≠(s.heap.push {cls:=.type "set", dict:=none,data:=.set #[] 0 (.fresh 0 0 AK)}).objs.size:=by
     rw [Heap.size_push];exact ne_of_lt (lt_succ_of_lt lt)
    have nf:s.heap.objs.size ∉ [(s.heap.push {cls:=.type "set", dict:=none,data:=.set #[] 0 (.fresh 0 0 AK)}).objs.size,l]:=by
     rw [Heap.size_push];intro z;rcases mem_cons.mp z with z|z
     ·exact ne_of_lt (lt_succ_self _) z
     ·exact ne_of_gt lt (mem_singleton.mp z)
    refine IB ((Walks.list h3 _ l ne items).toS) s.heap.objs.size nf (fun i=>ns.getD i 0) (fun i v hv=>IntsAre.int_at hi i v (by rw [getElem?_toList];exact hv)) hb (items.size-0) 0 _ (by omega) (zero_le _) ⟨⟨_,Heap.get?_push_size _ rfl,rfl,rfl⟩,L1.push _⟩ ?_ ?_
    ·refine⟨_,#[],0,.fresh 0 0 AK,Heap.get?_push_of_some _ z8,⟨rfl,rfl,rfl⟩,rfl,fun e he=>by simp at he,.refl _,by decide,by rfl,?_⟩;rw [<-Xc];exact AE _
    ·intro s' mv G1;obtain⟨h',g',d',RG,Wd⟩:=s'
     cases(show g'=s.gens from mv.gens)
     cases(show d'=s.drawn from mv.drawn)
     cases(show Wd=s.os from mv.os)
     refine wpAny_pure (show wpAny _ _ (ret Value.none) _ _ _ from wpAny_pure ⟨rfl,h',RG,rfl,G1,fun b o e=>?_⟩);have hb:b<s.heap.objs.size:=Heap.lt_size e;refine mv.heap b o (fun z=>?_) (Heap.get?_push_of_some _ (Heap.get?_push_of_some _ e));rcases mem_cons.mp z with z|z
     ·exact ne_of_lt hb z
     ·rw [Heap.size_push]at z;exact ne_of_lt (lt_succ_of_lt hb) (mem_singleton.mp z)
   ·cases r2 with
    |error e=>exact Fs
    |ok fl2 =>
     cases fl2 with
     |ret r =>
      obtain⟨rfl,h',tk,rfl,G1,hk⟩:=Fs
      repeat (any_goals (first|assumption|wp_step))
      exact h _ _ G1 hk
     |_=>exact Fs.elim
  |_=>exact hr.elim
theorem IJ{S:Addr}{ks:List Int}{Q:List Value->Shared->Prop}(hh:A.handled=none)(G1:dR prog w s.heap S ks)(hn:ks.length<=sizeLine)
  (h:∀(h':Heap)(tk:Nat)(d':Drawn)(ord:List Value),s.heap.objs.size<=h'.objs.size->(∀b o,s.heap.get? b=some o->h'.get? b=some o)->IntsAre ord (ord.map iv)->(ord.map iv).Perm ks->Q ord {s with heap:=h',toks:=tk,drawn:=d'}):wpAny (model prog w) A (collect (.ref S)) Q E s:=by
 have lt:S<s.heap.objs.size:=by
  obtain⟨o,_,_,_,e,_⟩:=G1;exact Heap.lt_size e
 unfold collect;refine wpAny_bind (wpAny_runValue (codeAny_builtin PySem.F.entry_proto_collect ?_));rw [Around.under_plainId PySem.F.plain_proto_collect _];refine wpAny_bind (m:=newList []) (wpAny_newObj_type ?_ (by size_fits));refine wpAny_pure ⟨plainId_quiet PySem.F.plain_list_iadd _,codeAny_builtin PySem.F.entry_list_iadd ?_⟩;rw [Around.under_plainId PySem.F.plain_list_iadd _];generalize eD:s.heap.objs.size=D at lt h ⊢;have Xd:(s.heap.push {cls:=.type "list", data:=.seq ([]:List Value).toArray}).get? D=some {cls:=.type "list", data:=.seq ([]:List Value).toArray}:=by
  rw [<-eD];exact Heap.get?_push_size _ rfl
 have G2:dR prog w (s.heap.push {cls:=.type "list", data:=.seq ([]:List Value).toArray}) S ks:=G1.at fun o e=>Heap.get?_push_of_some _ e;have ne:D≠S:=ne_of_gt lt;have N4:Shared.TypeIs {s with heap:=s.heap.push {cls:=.type "list", data:=.seq ([]:List Value).toArray}} (.ref S) "set" := by
  obtain⟨o,es,ep,t,e,x,_⟩:=G2;exact⟨o,e,x.1⟩
 show wpAny _ A.in1 (Builtin.List.listExtendWith (.ref D) (.ref S) (.ref D)) _ _ _;unfold Builtin.List.listExtendWith;refine wpAny_bind (wpAny_typeOf N4 ?_);have q1:Builtin.List.listSameRef (.ref D) (.ref S)=false:=by simp [Builtin.List.listSameRef,ne]
 rw [if_neg (by rw [q1];decide)];refine wpAny_bind (IH (s:={s with heap:=s.heap.push {cls:=.type "list", data:=.seq ([]:List Value).toArray}}) G2 fun I h1 d1 ord fp St i1 i2 k1 k2 W=>?_);have zz:(s.heap.push {cls:=.type "list", data:=.seq ([]:List Value).toArray}).objs.size=D+1:=by
  rw [<-eD];exact Heap.size_push ..
 have nf:D∉fp:=fun hm=>by
  rcases(k2 D hm).2 with e|e
  ·exact ne e
  ·have e:(s.heap.push {cls:=.type "list", data:=.seq ([]:List Value).toArray}).objs.size<=D:=e;rw [zz]at e;exact absurd e (Nat.not_succ_le_self _)
 have nI:∀b o,s.heap.get? b=some o->b≠I:=fun b o e z=>by
  have q:=Heap.lt_size e;have i1:(s.heap.push {cls:=.type "list", data:=.seq ([]:List Value).toArray}).objs.size<=I:=i1;rw [zz]at i1;rw [eD,z]at q;exact absurd (lt_of_lt_of_le (lt_trans q (lt_succ_self _)) i1) (lt_irrefl _)
 have hT1:Shared.TypeIs {s with heap:=h1,drawn:=d1} (.ref S) "set" := by
  obtain⟨o,e,c⟩:=N4;exact⟨o,k1 _ _ e,c⟩
 have key:∀(h2:Heap)(c2:Nat),St 0 h2->(∀b o,b≠D->h1.get? b=some o->h2.get? b=some o)->h2.get? D=some {cls:=.type "list", dict:=none,data:=.seq #[] c2,slots:=#[]} ->
   codeAny (model prog w) A (.builtin "list.extend.loop" ⟨[.ref D,.ref I,.ref D],[]⟩) (fun r s'=>match r with
    |.ok (.ret v)=>wpAny (model prog w) A (match v with | .ref a=>load a >>= fun o=>(match o.data with | .seq xs _=>pure xs.toList|_=>unsupported "internal:collect")|_=>unsupported "internal:collect") Q E s'
    |.error e=>E e s'
    |_=>False) {s with heap:=h2,drawn:=d1}:=fun h2 c2 st kk hD=>by
  refine codeAny_extend_loopS ((W.walks A.in1 hh).toS) hn D nf (.ref D) ks.length 0 _ #[] c2 rfl (zero_le _) st hD (ItemsOf.nil _) fun s' LK c' mv hD' items=>?_;refine wpAny_bind (wpAny_load hD' (wpAny_pure ?_));have eo:LK.toList=ord:=by
   have hl:ord.length=ks.length:=by
    have:=W.AJ.length_eq;rwa [length_map]at this
   refine ext_getElem? fun i=>?_;by_cases hi:i<LK.size
   ·have e1:LK[i]?=some LK[i]:=by simp [hi]
    rw [getElem?_toList,e1];exact(items.2 i _ e1).symm
   ·rw [getElem?_toList,Array.getElem?_eq_none (by omega),getElem?_eq_none (by have:=items.1;omega)]
  rw [eo,Moved.eq_with mv];refine h s'.heap s'.toks d1 ord (le_of_lt (Heap.lt_size hD')) (fun b o e=>?_) W.allI W.AJ;have bD:b≠D:=by
   rw [<-eD];exact ne_of_lt (Heap.lt_size e)
  refine mv.heap b o (fun z=>?_) (kk b o bD (k1 b o (Heap.get?_push_of_some _ e)));rcases mem_cons.mp z with z|z
  ·exact bD z
  ·exact nI b o e (mem_singleton.mp z)
 have Qd:=k1 _ _ Xd;refine wpAny_bind (wpAny_holding (II hT1 ?_));refine wpAny_ite_split (fun _=>?_) fun _=>wpAny_pure ⟨plainId_quiet PySem.F.plain_extend_loop _,codeAny_mono (key h1 _ W.start (fun b o _ e=>e) Qd) fun r s' q=>?_⟩
 ·refine wpAny_bind (wpAny_rule (wpAny_bind ?_));refine wpAny_bind (m:=updateSeq D (·.push .none)) (wpAny_updateSeq Qd rfl ?_);have a2:=Heap.get?_update_self (Obj.mapSeq (·.push Value.none)) Qd rfl;refine wpAny_updateSeq (hz:=by seq_fits) a2 rfl ?_;have a3:=Heap.get?_update_self (Obj.mapSeq (·.pop)) a2 rfl;refine wpAny_pure ⟨plainId_quiet PySem.F.plain_extend_loop _,codeAny_mono (key _ _ ?_ (fun b o hb e=>?_) a3) fun r s' q=>?_⟩
  ·refine(W.walks A hh).frame 0 _ _ W.start fun b hb o e=>?_;have bD:D≠b:=fun z=>nf (z▸hb);exact(Heap.get?_update_other _ _ bD).trans ((Heap.get?_update_other _ _ bD).trans e)
  ·exact(Heap.get?_update_other _ _ (Ne.symm hb)).trans ((Heap.get?_update_other _ _ (Ne.symm hb)).trans e)
  ·cases r with
   |error e=>exact q
   |ok fl =>
    cases fl with
    |ret v=>exact q
    |_=>exact q.elim
 ·cases r with
  |error e=>exact q
  |ok fl =>
   cases fl with
   |ret v=>exact q
   |_=>exact q.elim
theorem ud{S:Addr}{ks:List Int}{Q:Value->Shared->Prop}(hh:A.handled=none)(G1:dR prog w s.heap S ks)(Kd:ks.length<600)
  (h:∀(h':Heap)(tk:Nat)(d':Drawn)(a:Addr)(out:Array Value)(e:Nat),s.heap.objs.size<=a->(∀b o,s.heap.get? b=some o->h'.get? b=some o)->IntsAre out.toList (bh ks)->h'.get? a=some (seqObj "list" out e)->Q (.ref a) {s with heap:=h',toks:=tk,drawn:=d'}) :
  wpAny (model prog w) A (call (.builtin "sorted") [.ref S]) Q E s:=by
 refine Calls.call_function_entry kind_sorted plain_sorted entry_sorted (args_sorted1 _) ?_;unfold Builtin.«sorted»;refine wpAny_bind (m:=checkCount "sorted" 1 1 _) (wpAny_pure (wpAny_bind (IJ (A:=A.in1) hh G1 (le_of_lt (aG (by omega))) fun h1 tk d1 ord le k1 o1 o2=>?_)));have hl:ord.length<600:=by
  have:=o2.length_eq;rw [length_map]at this;omega
 refine wpAny_bind (wpAny_newList ?_ (le_of_lt (aG (by omega))));have z8:(h1.push (seqObj "list" ord.toArray 0)).get? h1.objs.size=some (seqObj "list" ord.toArray 0):=Heap.get?_push_size _ rfl;refine wpAny_bind (wpAny_holding (wpAny_call_entry slot_list_sort ⟨_,z8,rfl⟩ entry_list_sort (n9 z8 o1 (le_of_lt (aG (by omega))) fun out GB a1 a2 a3=>⟨_,rfl,?_⟩) (args_list_sort _)));have e:GB=bh ks:=ksm_same (a2.trans (o2.trans (bx ks).symm)) a3 (dJ ks);subst e;obtain⟨n,hn⟩:=sortedHeap_at (out:=out) z8;refine wpAny_pure ⟨_,rfl,h _ tk d1 h1.objs.size out n le (fun b o e=>?_) a1 hn⟩;have lt:b<h1.objs.size:=Heap.lt_size (k1 b o e);rw [sortedHeap_old (ne_of_lt lt) (by rw [size_push'];exact lt_succ_of_lt lt)];exact Heap.get?_push_of_some _ (k1 b o e)
end
def aY(ns:List Int):List Int:=ns.foldl step_dedup []
theorem gO(ns:List Int):firstMet (fun i=>ns.getD i 0) ns.length=aY ns:=by
 unfold firstMet aY;congr 1;refine ext_getElem? fun i=>?_;rw [getElem?_map];by_cases h:i<ns.length
 ·rw [getElem?_range h,getElem?_eq_getElem h];show some (ns.getD i 0)=_;simp [h]
 ·rw [getElem?_eq_none (by rw [length_range];omega),getElem?_eq_none (by omega)];rfl
theorem iE(ns:List Int):(aY ns).length<=ns.length:=by
 rw [<-gO];exact firstMet_length_le _ _
section
variable {X:Cx}{P:Fx}{pins:List (Addr×Obj)}{σ:St}{H:Hp}{s:Shared}
theorem _root_.L2.Inv.drawn(I:Inv X pins σ H s)(d:Drawn):Inv X pins σ H {s with drawn:=d} :=
 I.step (h':=s.heap) (g':=s.gens) (t':=s.toks) (d':=d) (ch:=[]) (fun _ z=>nomatch z) (fun _ _ _ _ _ e _=>e) (fun _ o _ _ _ e _=>⟨o.slots,e⟩) (fun _ _ _ _ n=>n) (fun _ o _ e=>⟨o,e⟩) (fun _ _ e=>e) (fun _ _ _ e=>e) (fun b ps e=>⟨#[],by rw [e];simp⟩) (fun _ hm=>hm) I.dG I.bare
def g9:List T->Option R
 |[.lst ts]=>match intsOf ts with
  |some ns=>if ns.length<600 then some (.own (.lst ((bh (aY ns)).map T.int)))else none
  |none=>none
 |_=>none
theorem yn{us:List T}{r:R}(h:g9 us=some r):∃ns:List Int,us=[.lst (ns.map T.int)]/\ns.length<600/\r=.own (.lst ((bh (aY ns)).map T.int)):=by
 unfold g9 at h;split at h
 ·rename_i ts;split at h
  ·rename_i ns hn;split at h
   ·rename_i hl
    cases h
    exact⟨ns,by rw [iD hn],hl,rfl⟩
   ·cases h
  ·cases h
 ·cases h
theorem lV{e:Expr}{n:MA}{p p' pos pos':Pos}(hc:X.calm=true)(hg:Gl X "sorted")(hm:X.mg "sorted" = none)(NY:Gl X "set")(J4:X.mg "set" = none)(ha:tK X P [e] n)(hs:starEach [e] X.env=[(false,eval e X.env)]:=by rfl)
  (GD:starEach [.Call (.Name "set" p') [e] [] pos'] X.env=[(false,eval (.Call (.Name "set" p') [e] [] pos') X.env)]:=by rfl) :
  bj X P (.Call (.Name "sorted" p) [.Call (.Name "set" p') [e] [] pos'] [] pos) (ba g9 n):=fun Γ r Γ' h=>by
 obtain⟨ts,h1,h2⟩:=qD h;obtain⟨ns,rfl,Kd,rfl⟩:=yn h2;intro pins s σ H Q I ⟨Hs,S,k⟩;have hh:=I.ok.hd hc;refine wpAny_Call_Name_kw (iG I hg hm boot_sorted ?_ (by decide) (by decide));refine PyProof.Rows.callWith_builtin1 ?_ GD rfl;rw [GD];refine Calls.spliced_cons ?_;refine wpAny_Call_Name_kw (iG I NY J4 PyProof.Rows.boot_set ?_ (by decide) (by decide));refine PyProof.Rows.callWith_type1 (eC (ha _ _ _ h1 pos' pins s σ H (fun vs H1=>∃bq,aA H H1/\aA Hs bq/\aF (kc X P) P Γ' σ H1 bq/\nX (kc X P) H1 bq vs [.lst (ns.map T.int)]) I ⟨Hs,S,fun vs H1 bq e1 e2 S1 f1=>⟨bq,e1,e2,S1,f1⟩⟩) fun ws s1 ⟨vs,H1,I1,r1,bq,e1,en,S1,f1⟩=>?_) hs rfl;obtain⟨v,rfl,a,xs,rfl,sq,rs⟩:=i8 f1;obtain⟨u,rfl,ru⟩:=vals1 r1
 cases(show u=Value.ref a from ru)
 have ex:=fK rs;subst ex;obtain⟨bo,vv,pl,_⟩:=I1.list sq;have hI:IntsAre bo ns:=intsAre_of vv;have hl:bo.length=ns.length:=hI.length;refine qJ (items:=bo.toArray) (ns:=ns) hh pl.isList hI (by rw [size_toArray,hl];unfold scanBound;omega) fun h2 U4 G2 k2=>?_;have I2:Inv X pins σ H1 {s1 with heap:=h2,toks:=U4}:=I1.kept k2;refine Calls.spliced_nil ?_;have hn:bo.toArray.size=ns.length:=by rw [size_toArray,hl]
 rw [hn,gO]at G2;refine ud (s:={s1 with heap:=h2,toks:=U4}) hh G2 (lt_of_le_of_lt (iE ns) Kd) fun h3 tk3 d3 b out n3 le k3 a1 U6=>?_;have hlen:(bh (aY ns)).length=(aY ns).length:=(bx _).length_eq;have hle:=iE ns;have I3:Inv X pins σ (upd H1 b (.lst ((bh (aY ns)).map V.int))) {s1 with heap:=h3,toks:=tk3,drawn:=d3}:=(I2.laid (a:=b) (o:=.lst ((bh (aY ns)).map V.int)) (t':=tk3) k3 le ⟨by rw [length_map,hlen];exact le_of_lt (aG (by omega)),out.toList,n3,jK a1,by rw [U6]⟩).drawn d3;obtain⟨Ii,e4,NX,S4,f4⟩:=Out.fin (.tI (I2.dG.fresh le) (jN (bh (aY ns)))) S1;exact⟨.ref b,_,I3,rfl,k _ _ Ii (e1.trans e4) (en.trans NX) S4 f4⟩
end
def wk(m i:Nat):Nat:=(i*5+1) % m
def IK(m:Nat):Nat->Nat->Nat
 |0,i=>i
 |n+1,i=>IK m n (wk m i)
def met(m:Nat):Nat->Nat->Nat->Nat
 |0,_,acc=>acc
 |n+1,i,acc=>met m n (wk m i) (acc ||| 1 <<< i)
theorem Ek(m j:Nat):∀(n i acc:Nat),(met m n i acc).testBit j=true->acc.testBit j=true\/∃t,t<n/\IK m t i=j
 |0,_,_,h=>.inl h
 |n+1,i,acc,h=>by
  rcases Ek m j n (wk m i) _ h with h|⟨t,ht,e⟩
  ·rw [Nat.testBit_or,Nat.one_shiftLeft,Nat.testBit_two_pow,or_eq_true]at h;rcases h with h|h
   ·exact .inl h
   ·exact .inr ⟨0,succ_pos _,by simpa [IK]using h⟩
  ·exact .inr ⟨t+1,Nat.succ_lt_succ ht,e⟩
theorem sE(m:Nat):∀(a b i:Nat),IK m (a+b) i=IK m b (IK m a i)
 |0,b,i=>by rw [zero_add];rfl
 |a+1,b,i=>by
  rw [show a+1+b=(a+b)+1 by omega];exact sE m a b (wk m i)
def AL(m:Nat):Bool:=met m m 0 0==2 ^ m-1&&IK m m 0==0
theorem LL{m:Nat}(h:AL m=true){i j:Nat}(hi:i<m)(hj:j<m):∃t,t<m/\IK m t i=j:=by
 unfold AL at h;rw [and_eq_true]at h;have h1:met m m 0 0=2 ^ m-1:=by simpa using h.1
 have h2:IK m m 0=0:=by simpa using h.2
 have at_:∀k,k<m->∃t,t<m/\IK m t 0=k:=fun k hk=>by
  have b:(met m m 0 0).testBit k=true:=by
   rw [h1,Nat.testBit_two_pow_sub_one];simpa using hk
  rcases Ek m k m 0 0 b with z|z
  ·simp at z
  ·exact z
 obtain⟨a,ha,ea⟩:=at_ i hi;obtain⟨b,hb,eb⟩:=at_ j hj;by_cases z:a<=b
 ·refine⟨b-a,by omega,?_⟩;rw [<-ea,<-sE,show a+(b-a)=b by omega];exact eb
 ·refine⟨b+m-a,by omega,?_⟩;rw [<-ea,<-sE,show a+(b+m-a)=m+b by omega,sE,h2];exact eb
theorem Ti:AL 8=true/\AL 16=true/\AL 32=true/\AL 64=true/\AL 128=true/\AL 256=true/\AL 512=true/\AL 1024=true:=by decide +kernel
theorem IL{n:Nat}(h:n<1024):SetTable.sizeAbove n>n/\8<=SetTable.sizeAbove n/\SetTable.sizeAbove n<=1024/\AL (SetTable.sizeAbove n)=true:=by
 have e:SetTable.sizeAbove n=(if 8<=n then(if 16<=n then(if 32<=n then(if 64<=n then(if 128<=n then(if 256<=n then(if 512<=n then(if 1024<=n then SetTable.sizeAbove.go n 56 2048 else 1024)else 512)else 256)else 128)else 64)else 32)else 16)else 8):=rfl;obtain⟨o8,o16,o32,o64,Xe,Xf,Xg,Tj⟩:=Ti;rw [e];by_cases h8:8<=n
 ·rw [if_pos h8];by_cases h16:16<=n
  ·rw [if_pos h16];by_cases h32:32<=n
   ·rw [if_pos h32];by_cases Kd:64<=n
    ·rw [if_pos Kd];by_cases Tn:128<=n
     ·rw [if_pos Tn];by_cases To:256<=n
      ·rw [if_pos To];by_cases Tq:512<=n
       ·rw [if_pos Tq];rw [if_neg (by omega)];exact⟨by omega,by omega,by omega,Tj⟩
       ·rw [if_neg Tq];exact⟨by omega,by omega,by omega,Xg⟩
      ·rw [if_neg To];exact⟨by omega,by omega,by omega,Xf⟩
     ·rw [if_neg Tn];exact⟨by omega,by omega,by omega,Xe⟩
    ·rw [if_neg Kd];exact⟨by omega,by omega,by omega,o64⟩
   ·rw [if_neg h32];exact⟨by omega,by omega,by omega,o32⟩
  ·rw [if_neg h16];exact⟨by omega,by omega,by omega,o16⟩
 ·rw [if_neg h8];exact⟨by omega,by omega,by omega,o8⟩
section
variable {mask:Nat}{owner:Array (Option Nat)}
def IM(owner:Array (Option Nat))(j:Nat):Prop:=owner.getD j (some 0)=none
theorem ue:∀{f i p j:Nat},SetTable.layClean.free mask owner f i p=some j->IM owner j
 |0,_,_,_,h=>by cases h
 |f+1,i,p,j,h=>by
  unfold SetTable.layClean.free at h
  cases q:(List.range (SetTable.runEnd mask i+1-i)).find? fun k=>(owner.getD (i+k) (some 0)).isNone with
  |some k =>
   rw [q]at h
   cases h
   have:=List.find?_some q;simpa [IM]using this
  |none =>
   rw [q]at h;exact ue (f:=f) h
theorem free_eq(f i p:Nat):SetTable.layClean.free mask owner (f+1) i p=match (List.range (SetTable.runEnd mask i+1-i)).find? (fun k=>(owner.getD (i+k) (some 0)).isNone)with
  |some k=>some (i+k)
  |none=>SetTable.layClean.free mask owner f ((i*5+1+p / 32) % (mask+1)) (p / 32):=rfl
theorem wV{f i p:Nat}:(∃j,SetTable.layClean.free mask owner (f+1) i p=some j)\/(¬IM owner i/\SetTable.layClean.free mask owner (f+1) i p=SetTable.layClean.free mask owner f ((i*5+1+p / 32) % (mask+1)) (p / 32)):=by
 rw [free_eq]
 cases q:(List.range (SetTable.runEnd mask i+1-i)).find? fun k=>(owner.getD (i+k) (some 0)).isNone with
 |some k=>exact .inl ⟨_,rfl⟩
 |none =>
  refine .inr ⟨fun z=>?_,rfl⟩;have hr:i<=SetTable.runEnd mask i:=by
   unfold SetTable.runEnd;split<;>omega
  have:=List.find?_eq_none.mp q 0 (mem_range.mpr (by omega));unfold IM at z;rw [Nat.add_zero,z]at this;exact this rfl
theorem wW:∀{f i:Nat},(∃t,t<f/\IM owner (IK (mask+1) t i))->∃j,SetTable.layClean.free mask owner f i 0=some j
 |0,_,⟨_,h,_⟩=>absurd h (not_lt_zero _)
 |f+1,i,⟨t,ht,hf⟩=>by
  rcases wV (mask:=mask) (owner:=owner) (f:=f) (i:=i) (p:=0)with h|⟨h1,h2⟩
  ·exact h
  ·rw [h2]
   cases t with
   |zero=>exact absurd hf h1
   |succ t=>exact wW (f:=f) ⟨t,by omega,hf⟩
theorem wX{n:Nat}(all:∀i,i<=mask->∃j,SetTable.layClean.free mask owner n i 0=some j):∀(c:Nat){i p:Nat},i<=mask->p<32 ^ c->∃j,SetTable.layClean.free mask owner (n+c) i p=some j
 |0,i,p,hi,hp=>by
  have:p=0:=by simpa using hp
  subst this;exact all i hi
 |c+1,i,p,hi,hp=>by
  rcases wV (mask:=mask) (owner:=owner) (f:=n+c) (i:=i) (p:=p)with h|⟨h1,h2⟩
  ·exact h
  ·rw [show n+(c+1)=n+c+1 by omega,h2];refine wX all c (Nat.le_of_lt_succ (mod_lt _ (succ_pos _))) ?_;rw [Nat.pow_succ]at hp;exact(Nat.div_lt_iff_lt_mul (by decide)).mpr hp
theorem FI(ho:AL (mask+1)=true){j:Nat}(hj:j<=mask)(hf:IM owner j){i p:Nat}(hi:i<=mask)(hp:p<2 ^ 64):∃j,SetTable.layClean.free mask owner (SetTable.turns mask) i p=some j:=by
 rw [show SetTable.turns mask=(mask+2)+13 from rfl];refine wX (fun i hi=>wW ?_) 13 hi (lt_of_lt_of_le hp (by decide));obtain⟨t,ht,e⟩:=LL ho (Nat.lt_succ_of_le hi) (Nat.lt_succ_of_le hj);exact⟨t,by omega,by rw [e];exact hf⟩
end
theorem uf{α:Type}{f g:Nat->Option α}:∀{L:List Nat},(∀x∈L,f x=g x)->L.filterMap f=L.filterMap g
 |[],_=>rfl
 |x::L,h=>by
  have ih:=uf fun y hy=>h y (mem_cons_of_mem x hy);have hx:=h x mem_cons_self
  cases q:g x with
  |none=>rw [filterMap_cons_none (hx.trans q),filterMap_cons_none q,ih]
  |some b=>rw [filterMap_cons_some (hx.trans q),filterMap_cons_some q,ih]
theorem AM{α:Type}{g:Nat->Option α}{j:Nat}{v:α}(hg:g j=none):∀{L:List Nat},L.Nodup->j∈L->(L.filterMap fun x=>if x=j then some v else g x).Perm (v::L.filterMap g)
 |[],_,h=>by cases h
 |x::L,nd,h=>by
  obtain⟨nx,nd⟩:=nodup_cons.mp nd;by_cases e:x=j
  ·subst e;have same:(L.filterMap fun y=>if y=x then some v else g y)=L.filterMap g:=by
    refine uf fun y hy=>?_;have z:¬y=x:=fun z=>by subst z;exact nx hy
    rw [if_neg z]
   rw [filterMap_cons_some (b:=v) (by rw [if_pos rfl]),filterMap_cons_none hg,same]
  ·have hj:j∈L:=by
    rcases mem_cons.mp h with z|z
    ·exact absurd z.symm e
    ·exact z
   have ih:=AM (v:=v) hg nd hj
   cases q:g x with
   |none=>rw [filterMap_cons_none (by rw [if_neg e,q]),filterMap_cons_none q];exact ih
   |some b=>rw [filterMap_cons_some (b:=b) (by rw [if_neg e,q]),filterMap_cons_some q];exact(ih.cons b).trans (List.Perm.swap ..)
section
variable {mask:Nat}
def Lay(mask:Nat)(owner:Array (Option Nat))(k:Nat):Prop:=owner.size=mask+1/\((List.range (mask+1)).filterMap fun j=>owner.getD j none).Perm (List.range k)
theorem IP{owner:Array (Option Nat)}{k:Nat}(L:Lay mask owner k)(hk:k<=mask):∃j,j<=mask/\IM owner j:=by
 refine Classical.byContradiction fun no=>?_;have all:∀j∈List.range (mask+1),(owner.getD j none).isSome=true:=fun j hj=>by
  have hj:=mem_range.mp hj;have hs:j<owner.size:=by rw [L.1];exact hj
  cases q:owner[j]with
  |none=>exact absurd ⟨j,Nat.le_of_lt_succ hj,by unfold IM;simp [Array.getD,hs,q]⟩ no
  |some v=>simp [Array.getD,hs,q]
 have e:=L.2.length_eq;rw [List.length_filterMap_eq_countP,List.countP_eq_length.mpr all,length_range,length_range]at e;omega
theorem LM{owner:Array (Option Nat)}{k j:Nat}(L:Lay mask owner k)(hf:IM owner j):Lay mask (owner.setIfInBounds j (some k)) (k+1):=by
 have hj:j<owner.size:=by
  unfold IM at hf;by_cases z:j<owner.size
  ·exact z
  ·simp [Array.getD,z]at hf
 have hn:owner.getD j none=none:=by
  unfold IM at hf;simpa [Array.getD,hj]using hf
 refine⟨by rw [Array.size_setIfInBounds,L.1],?_⟩;have e:((List.range (mask+1)).filterMap fun x=>(owner.setIfInBounds j (some k)).getD x none)=(List.range (mask+1)).filterMap fun x=>if x=j then some k else owner.getD x none:=by
  refine uf fun x _=>?_;rw [Array.getD_eq_getD_getElem?,Array.getD_eq_getD_getElem?,Array.getElem?_setIfInBounds];by_cases z:j=x
  ·subst z;simp [hj]
  ·rw [if_neg z,if_neg fun q=>z q.symm]
 rw [e];refine(AM hn List.nodup_range (mem_range.mpr (by rw [<-L.1];exact hj))).trans ?_;rw [show List.range (k+1)=List.range k++[k] from List.range_succ];exact(L.2.cons k).trans (List.perm_append_singleton k _).symm
def yo(mask:Nat)(acc:Option (Array (Option Nat)×Nat))(h:Int):Option (Array (Option Nat)×Nat):=do
  let(owner,k)<-acc
  let j<-SetTable.layClean.free mask owner (SetTable.turns mask) (SetTable.bits h % (mask+1)) (SetTable.bits h)
  pure (owner.setIfInBounds j (some k),k+1)
theorem LN(h:Int):SetTable.bits h<2 ^ 64:=by
 unfold SetTable.bits;have h1:=emod_nonneg h (by decide:(2 ^ 64:Int)≠0);have h2:=emod_lt_of_pos h (by decide:(0:Int)<2 ^ 64);omega
theorem AN(ho:AL (mask+1)=true):∀(hs:List Int)(owner:Array (Option Nat))(k:Nat),Lay mask owner k->k+hs.length<=mask->∃IQ,hs.foldl (yo mask) (some (owner,k))=some (IQ,k+hs.length)/\Lay mask IQ (k+hs.length)
 |[],owner,k,L,_=>⟨owner,rfl,L⟩
 |h::hs,owner,k,L,hl=>by
  rw [length_cons]at hl;obtain⟨j0,hj0,hf0⟩:=IP L (by omega);obtain⟨j,hj⟩:=FI ho hj0 hf0 (Nat.le_of_lt_succ (mod_lt (SetTable.bits h) (succ_pos mask))) (LN h);have st:yo mask (some (owner,k)) h=some (owner.setIfInBounds j (some k),k+1):=by
   show(SetTable.layClean.free mask owner (SetTable.turns mask) (SetTable.bits h % (mask+1)) (SetTable.bits h)).bind _=_;rw [hj];rfl
  obtain⟨o',h1,h2⟩:=AN ho hs _ (k+1) (LM L (ue hj)) (by omega);refine⟨o',?_,?_⟩
  ·rw [foldl_cons,st,h1,length_cons,show k+1+hs.length=k+(hs.length+1) by omega]
  ·rw [length_cons,show k+(hs.length+1)=k+1+hs.length by omega];exact h2
theorem vA(ho:AL (mask+1)=true)(hashes:Array Int)(hl:hashes.size<=mask):∃owner,SetTable.layClean mask hashes=some owner/\Lay mask owner hashes.size:=by
 have L0:Lay mask (Array.replicate (mask+1) none) 0:=by
  refine⟨Array.size_replicate,?_⟩;have e:((List.range (mask+1)).filterMap fun j=>(Array.replicate (mask+1) (none:Option Nat)).getD j none)=[]:=by
   refine List.filterMap_eq_nil_iff.mpr fun x _=>?_;rw [Array.getD_eq_getD_getElem?,Array.getElem?_replicate];split<;>rfl
  rw [e];exact List.Perm.refl _
 obtain⟨o,h1,h2⟩:=AN ho hashes.toList _ 0 L0 (by rw [zero_add,length_toList];exact hl);refine⟨o,?_,by rw [zero_add,length_toList]at h2;exact h2⟩;show(hashes.foldl (yo mask) (some (Array.replicate (mask+1) none,0))).map (·.1)=_;rw [<-Array.foldl_toList,h1];rfl
theorem p4{α:Type}(g:Nat->Option α):∀L:List Nat,((L.filterMap fun j=>(g j).map (j,·)).map (·.2))=L.filterMap g
 |[]=>rfl
 |x::L=>by
  cases q:g x with
  |none=>rw [filterMap_cons_none (by rw [q];rfl),filterMap_cons_none q,p4 g L]
  |some b=>rw [filterMap_cons_some (b:=(x,b)) (by rw [q];rfl),filterMap_cons_some q,map_cons,p4 g L]
theorem wY(ho:AL (mask+1)=true){hashes:Array Int}(hl:hashes.size<=mask)(finger moves:Nat)(led plain:Bool):∃t order,SetTable.laid mask finger moves led plain hashes=some (t,order) /\
  t.led=led/\t.plain=plain/\t.mask=mask/\B4 t.place/\t.fits hashes.size=true/\order.toList.Perm (List.range hashes.size):=by
 obtain⟨ow,h1,h2⟩:=vA ho hashes hl;have el:SetTable.laid mask finger moves led plain hashes=some ({mask,place:=(((List.range (mask+1)).filterMap fun j=>(ow.getD j none).map (j,·)).map (·.1)).toArray,dummies:=#[],finger,led,moves,plain},(((List.range (mask+1)).filterMap fun j=>(ow.getD j none).map (j,·)).map (·.2)).toArray):=by
  unfold SetTable.laid;rw [h1];rfl
 refine⟨_,_,el,rfl,rfl,rfl,pW.mpr ?_,?_,?_⟩
 ·exact List.Pairwise.sublist (yj (fun j=>ow.getD j none) _) (List.pairwise_lt_range (n:=mask+1))
 ·have e:((List.range (mask+1)).filterMap fun j=>(ow.getD j none).map (j,·)).length=hashes.size:=by
   have:=h2.2.length_eq;rw [<-p4,length_map,length_range]at this;exact this
  show((((List.range (mask+1)).filterMap fun j=>(ow.getD j none).map (j,·)).map (·.1)).toArray.size==hashes.size&&decide ((((List.range (mask+1)).filterMap fun j=>(ow.getD j none).map (j,·)).map (·.1)).toArray.size+0<=mask))=true;rw [size_toArray,length_map,e,beq_self_eq_true,decide_eq_true (by omega)];rfl
 ·show(((List.range (mask+1)).filterMap fun j=>(ow.getD j none).map (j,·)).map (·.2)).Perm _;rw [p4];exact h2.2
end
section
variable {prog:Program}{w:World}{A:Around}{E:Value->Shared->Prop}{s:Shared}{a b:Addr}{ks ms:List Int}
theorem ug{es:Array (Int×Value)}{order:Array Nat}(h:order.toList.Perm (List.range es.size)):(order.filterMap (es[·]?)).toList.Perm es.toList:=by
 rw [Array.toList_filterMap];exact ym h
theorem FJ{o:Obj}{es:Array (Int×Value)}{ep:Nat}{t:SetTable}{wanted:Nat}(ho:s.heap.get? a=some o)(hd:o.data=.set es ep t)(hf:t.fits es.size=true)(hb:es.size<scanBound)(g:Gd (!w.params.followText "set-order") t)(hw:es.size*2<=wanted)(Qe:wanted<1024){Q:Unit->Shared->Prop}
  (h:∀rP t',rP.toList.Perm es.toList->t'.fits rP.size=true->Gd (!w.params.followText "set-order") t'->wanted<t'.mask+1->AL (t'.mask+1)=true->Q () {s with heap:=s.heap.update a (Obj.putSet rP t')}):wpAny (model prog w) A (setRelay a wanted) Q E s:=by
 unfold setRelay;refine wpAny_bind (wpAny_setState_of ho hd hf ?_);dsimp only;obtain⟨u1,u2,u3,u4⟩:=IL Qe;have e1:SetTable.sizeAbove wanted-1+1=SetTable.sizeAbove wanted:=by omega
 obtain⟨t',order,l1,l2,l3,l4,l5,l6,l7⟩:=wY (mask:=SetTable.sizeAbove wanted-1) (hashes:=es.map (·.1)) (by rw [e1];exact u4) (by rw [size_map];omega) t.finger (t.movedTo (SetTable.sizeAbove wanted-1)) t.led t.plain;rw [size_map]at l6 l7;rw [if_neg (by rw [sizeLine_eq];omega),show t.relaid (es.map fun x=>x.1) wanted=some (t',order) from l1];have pp:=ug (es:=es) l7;have pz:(order.filterMap (es[·]?)).size=es.size:=by
  have:=pp.length_eq;rw [length_toList,length_toList]at this;exact this
 have Xh:∀{R:Array (Int×Value)×SetTable->Shared->Prop},R (order.filterMap (es[·]?),t') s->wpAny (model prog w) A (if((order.filterMap (es[·]?)).size != es.size)=true then(do let _<-(unsupported "internal:set-table-lost-an-element" : Sem PUnit);pure (order.filterMap (es[·]?),t'))else pure (order.filterMap (es[·]?),t')) R E s:=fun hR=>by
  rw [if_neg (by simp [pz])];exact wpAny_pure hR
 refine wpAny_bind (Xh ?_);dsimp only;refine wpAny_storeSet_of ho hd (h _ _ pp (by rw [pz];exact l6) ⟨l2.trans g.led,fun _=>l5⟩ (by rw [l4,e1];exact u1) (by rw [l4,e1];exact u4)) (fits_of_scanBound (by rw [pz];exact hb))
def j9(rs ks ms:List Int):Prop:=(∀k,k∈rs↔k∈ks\/k∈ms)/\(ks.Nodup->ms.Nodup->rs.Nodup)/\rs.length<=ks.length+ms.length
theorem Qf(ks:List Int)(k x:Int):x∈step_dedup ks k↔x∈ks\/x=k:=by
 unfold step_dedup;by_cases h:ks.any (·==k)=true
 ·rw [if_pos h];refine⟨.inl,fun z=>z.elim id fun z=>?_⟩;subst z;obtain⟨y,hy,e⟩:=any_eq_true.mp h;have:y=x:=by simpa using e
  exact this▸hy
 ·rw [if_neg h,mem_append,mem_singleton]
theorem IS{ks:List Int}(n:ks.Nodup)(k:Int):(step_dedup ks k).Nodup:=by
 unfold step_dedup;by_cases h:ks.any (·==k)=true
 ·rw [if_pos h];exact n
 ·rw [if_neg h,nodup_append];refine⟨n,by simp,fun x hx y hy e=>?_⟩;rw [mem_singleton]at hy;subst hy;subst e;exact h (any_eq_true.mpr ⟨x,hx,by simp⟩)
theorem IT(ks:List Int)(k:Int):(step_dedup ks k).length<=ks.length+1:=by
 unfold step_dedup;split
 ·omega
 ·rw [length_append];exact le_refl _
theorem Xi(ms:List Int):∀ks:List Int,(∀k,k∈ms.foldl step_dedup ks↔k∈ks\/k∈ms)/\(ks.Nodup->(ms.foldl step_dedup ks).Nodup)/\(ms.foldl step_dedup ks).length<=ks.length+ms.length:=by
 induction ms with
 |nil=>exact fun ks=>⟨fun k=>by simp,id,le_refl _⟩
 |cons m ms ih =>
  intro ks;obtain⟨h1,h2,h3⟩:=ih (step_dedup ks m);have h4:=IT ks m;refine⟨fun k=>?_,fun n=>h2 (IS n m),?_⟩
  ·rw [foldl_cons,h1,Qf,mem_cons];constructor
   ·rintro((h|h)|h)
    ·exact .inl h
    ·exact .inr (.inl h)
    ·exact .inr (.inr h)
   ·rintro(h|h|h)
    ·exact .inl (.inl h)
    ·exact .inl (.inr h)
    ·exact .inr h
  ·rw [foldl_cons,length_cons];omega
theorem El{each:Sem Unit}{o:Obj}{eo:Array (Int×Value)}{Xj:Nat}{to:SetTable}(ne:b≠a)(hd:o.data=.set eo Xj to)(hf:to.fits eo.size=true)
  (he:∀(s1:Shared)(R:Unit->Shared->Prop),s1.heap.get? b=some o->R () s1->wpAny (model prog w) A each R E s1):∀(l:List (Int×Value)){s:Shared}{ks:List Int}{Q:PUnit->Shared->Prop},ElemsOf (intKind prog w) l->s.heap.get? b=some o->dR prog w s.heap a ks->ks.length+l.length+1<scanBound ->
  (∀h',Heap.SameBut a s.heap h'->dR prog w h' a ((l.map fun e=>iv e.2).foldl step_dedup ks)->Q PUnit.unit {s with heap:=h'}) ->
  wpAny (model prog w) A (forIn l PUnit.unit fun x _=>match x with
   |(h,x)=>do
    let _<-holding [x] (setAddHashed a x h)
    each
    let y<-setState b
    if(y.2.1 != Xj)=true then do
     let _<-(unsupported "set.changed-during-merge" : Sem PUnit)
     pure (ForInStep.yield PUnit.unit)
    else pure (ForInStep.yield PUnit.unit)) Q E s
 |[],s,ks,Q,_,_,S,_,h=>wpAny_pure (h s.heap (Heap.SameBut.refl a s.heap) S)
 |(hh,x)::l,s,ks,Q,nF,hb,S,hn,h=>by
  obtain⟨⟨k,hk1,LB⟩,hs⟩:=nF.head;obtain⟨t,ex⟩:=jQ nF.head;dsimp only at hk1 LB hs ex;have ek:iv x=k:=by
   have:=yk nF.head k;dsimp only at this;rw [hk1]at this;simpa using this.symm
  rw [ek]at ex;subst ex;have LB:hh=hashInt k:=LB;subst LB;rw [length_cons]at hn;rw [forIn_cons];refine wpAny_bind (wpAny_bind (wpAny_holding (add_int S (by omega) fun bb h' sb G1=>?_)));have gb:h'.get? b=some o:=(sb.2 b ne).trans hb;refine wpAny_bind (he _ _ gb (wpAny_bind (wpAny_setState_of gb hd hf ?_)));dsimp only;rw [if_neg (by simp)];refine wpAny_pure ?_;have sl:=IT ks k;refine El ne hd hf he l (s:={s with heap:=h'}) nF.tail gb G1 (by omega) fun h2 LO G2=>?_;exact h h2 (sb.trans LO) G2
theorem oC{f:(Int×Value)->Option Bool×Unit->Sem (ForInStep (Option Bool×Unit))}(hf:∀h k t,f (h,.int k t) (none,())=pure (.yield (none,()))):∀(l:List (Int×Value)){R:Option Bool×Unit->Shared->Prop},ElemsOf (intKind prog w) l->R (none,()) s->wpAny (model prog w) A (forIn l ((none,()):Option Bool×Unit) f) R E s
 |[],R,_,h=>wpAny_pure h
 |(hh,x)::l,R,nF,h=>by
  obtain⟨t,ex⟩:=jQ nF.head;dsimp only at ex;rw [ex,forIn_cons,hf];exact wpAny_bind (wpAny_pure (oC hf l nF.tail h))
theorem uh{o:Obj}{es:Array (Int×Value)}{ep:Nat}{t:SetTable}{Q:Array (Int×Value)->Shared->Prop}(ho:s.heap.get? a=some o)(hd:o.data=.set es ep t)(hf:t.fits es.size=true)(h:Q es s):wpAny (model prog w) A (setEntries a) Q E s:=by
 unfold setEntries;exact wpAny_bind (wpAny_setState_of ho hd hf (wpAny_pure h))
theorem FK{R:Bool->Shared->Prop}(S:dR prog w s.heap a ks)(T:dR prog w s.heap b ms)(h:R true s):wpAny (model prog w) A (setsQuiet [b,a]) R E s:=by
 obtain⟨o1,e1,p1,t1,xT,HI,CM,IU,N3,NW,LP,g1⟩:=S;obtain⟨o2,e2,p2,t2,Ts,hx2,hd2,Ea,hp2,UW,hf2,g2⟩:=T;unfold setsQuiet;refine wpAny_bind ?_;rw [forIn_cons];refine wpAny_bind (wpAny_bind (uh Ts hd2 hf2 ?_));rw [<-forIn_toList];refine wpAny_bind (oC (fun _ _ _=>rfl) _ Ea (wpAny_pure ?_));dsimp only;rw [forIn_cons];refine wpAny_bind (wpAny_bind (uh xT CM LP ?_));rw [<-forIn_toList];refine wpAny_bind (oC (fun _ _ _=>rfl) _ IU (wpAny_pure ?_));dsimp only;rw [List.forIn_nil];exact wpAny_pure (wpAny_pure h)
theorem FL{o:Obj}{es:Array (Int×Value)}{ep:Nat}{t:SetTable}{Q:Array (Int×Value)->Shared->Prop}(ho:s.heap.get? b=some o)(hd:o.data=.set es ep t)(hf:t.fits es.size=true)(g:Gd (!w.params.followText "set-order") t)
  (c:(w.params.followText "set-order" || t.led&&t.plain||decide (es.size<=1))=true) (h:∀arr:Array (Int×Value),arr.toList.Perm es.toList->Q arr s):wpAny (model prog w) A (setWalk b) Q E s:=by
 unfold setWalk;refine wpAny_bind (wpAny_setState_of ho hd hf ?_);dsimp only;unfold setsByText;refine wpAny_bind (wpAny_bind (wpAny_askSetting (wpAny_pure ?_)));show wpAny (model prog w) A (if w.params.followText "set-order" = true then _ else _) _ _ _;by_cases hw:w.params.followText "set-order" = true
 ·rw [if_pos hw];exact wpAny_bind (wpAny_askSetting (wpAny_pure (h _ (eO _ es))))
 ·rw [if_neg hw];have hw':w.params.followText "set-order" = false:=by simpa using hw
  rw [hw',Bool.false_or]at c;have hl:t.led=true:=by rw [g.led,hw'];rfl
  have nd:(!t.plain&&decide (es.size>1))=false:=by
   rw [hl,Bool.true_and]at c
   cases hp:t.plain with
   |true=>rfl
   |false =>
    rw [hp,Bool.false_or]at c;have:=of_decide_eq_true c;rw [Bool.not_false,Bool.true_and];exact decide_eq_false (by omega)
  show wpAny (model prog w) A (if(!t.plain&&decide (es.size>1))=true then _ else _) _ _ _;rw [nd,if_neg Bool.false_ne_true];refine wpAny_bind (?_:wpAny (model prog w) A (if(!t.led&&decide (es.size>1))=true then unsupported "set:maker-not-led" else pure ()) _ _ _);rw [hl,Bool.not_true,Bool.false_and,if_neg Bool.false_ne_true];exact wpAny_pure (wpAny_pure (h es (.refl _)))
theorem AO{Q:Array (Int×Value)->Shared->Prop}(ne:b≠a)(S:dR prog w s.heap a ks){o:Obj}{es:Array (Int×Value)}{ep:Nat}{t:SetTable}(ho:s.heap.get? b=some o)(hx:o.ExactSet)(hd:o.data=.set es ep t)(nF:ElemsOf (intKind prog w) es.toList)(hb:es.size<scanBound)(hf:t.fits es.size=true)(g:Gd (!w.params.followText "set-order") t)
  (h:∀(arr:Array (Int×Value)) h',arr.toList.Perm es.toList->Heap.SameBut a s.heap h'->dR prog w h' a ks->Q arr {s with heap:=h'}):wpAny (model prog w) A (setWalkUnseen b [a] (some a)) Q E s:=by
 unfold setWalkUnseen;refine wpAny_bind (wpAny_setState_of ho hd hf ?_);dsimp only;unfold setsByText;refine wpAny_bind (wpAny_bind (wpAny_askSetting (wpAny_pure ?_)));show wpAny (model prog w) A (if(w.params.followText "set-order" || t.led&&t.plain||decide (es.size<=1))=true then _ else _) _ _ _;by_cases c:(w.params.followText "set-order" || t.led&&t.plain||decide (es.size<=1))=true
 ·rw [if_pos c];exact FL ho hd hf g c fun arr hp=>h arr s.heap hp (Heap.SameBut.refl a s.heap) S
 ·rw [if_neg c];have T:dR prog w s.heap b (es.toList.map fun e=>iv e.2):=⟨o,es,ep,t,ho,hx,hd,nF,.refl _,hb,hf,g⟩;refine wpAny_bind (FK S T ?_);rw [if_neg (by simp)];refine wpAny_bind (wpAny_rule ?_);obtain⟨o1,e1,p1,t1,xT,HI,CM,IU,N3,NW,LP,g1⟩:=S;refine wpAny_bind (wpAny_setState_of xT CM LP ?_);dsimp only;by_cases d:(t1.led&&!t.led||t1.plain&&!t.plain)=true
  ·rw [if_pos d];refine wpAny_bind (wpAny_storeSet_of xT CM (wpAny_pure ?_) (fits_of_scanBound NW));have G2:=lU (ks:=ks) (t':={t1 with led:=t1.led&&t.led,plain:=t1.plain&&t.plain}) xT HI CM IU N3 NW LP ⟨by show(t1.led&&t.led)=_;rw [g1.led,g.led,Bool.and_self],fun z=>g1.Tf (and_eq_true_iff.mp z).1⟩;exact h es _ (.refl _) (Heap.SameBut.update s.heap a _) G2.2
  ·rw [if_neg d];exact wpAny_pure (h es s.heap (.refl _) (Heap.SameBut.refl a s.heap) ⟨o1,e1,p1,t1,xT,HI,CM,IU,N3,NW,LP,g1⟩)
def Xk(prog:Program)(w:World)(h:Heap)(a:Addr)(ks:List Int)(more:Nat):Prop:=∃o es ep t,h.get? a=some o/\o.ExactSet/\o.data=.set es ep t/\ElemsOf (intKind prog w) es.toList /\
 (es.toList.map fun e=>iv e.2).Perm ks/\es.size<scanBound/\t.fits es.size=true/\Gd (!w.params.followText "set-order") t/\(ks=[]->AL (t.mask+1)=true/\more<=t.mask)
theorem IV{more:Nat}{Q:Unit->Shared->Prop}(S:dR prog w s.heap a ks)(hO:s.heap.get? a=some (IC (!w.params.followText "set-order"))\/ks≠[])(hn:ks.length+more<500)(h:∀h',Heap.SameBut a s.heap h'->Xk prog w h' a ks more->Q () {s with heap:=h'}):wpAny (model prog w) A (setRoomFor a more) Q E s:=by
 obtain⟨o,es,ep,t,ho,hx,hd,hl,hp,hb,hf,g⟩:=S;have hz:es.size=ks.length:=by
  have:=hp.length_eq;simpa using this
 have pl:t.place.size=es.size:=by
  simp only [SetTable.fits,and_eq_true,beq_iff_eq]at hf;exact hf.1
 unfold setRoomFor;refine wpAny_bind (wpAny_setState_of ho hd hf ?_);dsimp only;by_cases c:(t.fill+more)*5≥t.mask*3
 ·rw [show t.roomFor more=some ((t.place.size+more)*2) from if_pos c];dsimp only;refine FJ ho hd hf hb g (by omega) (by omega) fun rP t' p f' g' m' o'=>?_;have z2:rP.size=es.size:=by
   have:=p.length_eq;simpa using this
  refine h _ (Heap.SameBut.update s.heap a _) ?_;have q:=Heap.get?_update_self (Obj.putSet rP t') ho (by rw [putSet_of rP t' hd];rfl);rw [putSet_of rP t' hd]at q;exact⟨_,rP,ep+1,t',q,hx,rfl,hl.perm p,(p.map _).trans hp,by rw [z2];exact hb,f',g',fun _=>⟨o',by omega⟩⟩
 ·rw [show t.roomFor more=none from if_neg c];dsimp only;refine wpAny_pure (h s.heap (Heap.SameBut.refl a s.heap) ⟨o,es,ep,t,ho,hx,hd,hl,hp,hb,hf,g,fun ek=>?_⟩);rcases hO with hO|hO
  ·rw [ho]at hO
   cases hO
   cases hd
   refine⟨Ti.1,?_⟩;have c:¬(0+more)*5≥7*3:=c;show more<=7;omega
  ·exact absurd ek hO
theorem CN{ts to:SetTable}{n:Nat}(hf:ts.fits n=true)(h:ts.road to ≠ .oneByOne):n=0:=by
 unfold SetTable.road at h;by_cases c:(ts.fill != 0)=true
 ·rw [if_pos c]at h;exact absurd rfl h
 ·have c:ts.fill=0:=by simpa using c
  simp only [SetTable.fits,and_eq_true,beq_iff_eq]at hf;unfold SetTable.fill at c;omega
theorem wZ{each:Sem Unit}{Q:Unit->Shared->Prop}(ne:b≠a)(S:dR prog w s.heap a ks)(T:dR prog w s.heap b ms)(hO:s.heap.get? a=some (IC (!w.params.followText "set-order"))\/ks≠[])(hn:ks.length+ms.length<500)
  (he:∀(s1:Shared)(R:Unit->Shared->Prop),(∀o,s.heap.get? b=some o->s1.heap.get? b=some o)->R () s1->wpAny (model prog w) A each R E s1)
  (h:∀h' rs,Heap.SameBut a s.heap h'->dR prog w h' a rs->j9 rs ks ms->(ms=[]->h'=s.heap)->Q () {s with heap:=h'}):wpAny (model prog w) A (setMerge a b each) Q E s:=by
 obtain⟨o,eo,Xj,to,ho,hx,hd,hl,hp,hb,hf,g⟩:=T;have hz:eo.size=ms.length:=by
  have:=hp.length_eq;simpa using this
 unfold setMerge;rw [if_neg (show ¬(a==b)=true by simpa using fun z:a=b=>ne z.symm)];refine wpAny_bind (wpAny_setState_of ho hd hf ?_);dsimp only;by_cases em:eo.isEmpty=true
 ·rw [if_pos em];have m0:ms=[]:=by
   have:eo.size=0:=by simpa [Array.isEmpty]using em
   exact List.eq_nil_of_length_eq_zero (by omega)
  subst m0;exact wpAny_pure (h s.heap ks (Heap.SameBut.refl a s.heap) S ⟨fun k=>by simp,fun n _=>n,by simp⟩ fun _=>rfl)
 ·rw [if_neg em];have m0:ms≠[]:=fun z=>em (by
   subst z;have:eo.size=0:=by simpa using hz
   simpa [Array.isEmpty]using this)
  refine wpAny_bind (IV S hO (by omega) fun h1 RH G1=>?_);obtain⟨o1,e1,p1,t1,xT,HI,CM,IU,N3,NW,LP,g1,W2⟩:=G1;have gb:h1.get? b=some o:=(RH.2 b ne).trans ho;refine wpAny_bind (wpAny_setState_of xT CM LP ?_);dsimp only;have k0:t1.road to ≠ .oneByOne->ks=[]:=fun z=>by
   have z1:=CN LP z;have:=N3.length_eq;rw [length_map,length_toList,z1]at this;exact List.eq_nil_of_length_eq_zero this.symm
  cases hr:t1.road to with
  |slotForSlot =>
   dsimp only;have ek:=k0 (by rw [hr];intro z;cases z);subst ek;refine wpAny_storeSet_of xT CM ?_ (fits_of_scanBound hb);have G2:=lU (ks:=ms) (t':={to with finger:=t1.finger,led:=t1.led&&to.led,moves:=t1.moves,plain:=t1.plain&&to.plain}) xT HI CM hl hp hb hf ⟨by show(t1.led&&to.led)=_;rw [g1.led,g.led,Bool.and_self],fun z=>g.Tf (and_eq_true_iff.mp z).2⟩;exact h _ ms (RH.trans (Heap.SameBut.update h1 a _)) G2.2 ⟨fun k=>by simp,fun _ n=>n,by simp⟩ fun z=>absurd z m0
  |clean =>
   dsimp only;have ek:=k0 (by rw [hr];intro z;cases z);obtain⟨or,mk⟩:=W2 ek;subst ek;obtain⟨t',order,l1,l2,l3,l4,l5,l6,l7⟩:=wY (mask:=t1.mask) (hashes:=eo.map (·.1)) or (by rw [size_map];exact mk) t1.finger t1.moves (t1.led&&to.led) (t1.plain&&to.plain);rw [size_map]at l6 l7;rw [l1];have pp:=ug (es:=eo) l7;have pz:(order.filterMap (eo[·]?)).size=eo.size:=by
    have:=pp.length_eq;rw [length_toList,length_toList]at this;exact this
   have Xh:∀{R:Array (Int×Value)×SetTable->Shared->Prop},R (order.filterMap (eo[·]?),t') {s with heap:=h1}->wpAny (model prog w) A (if((order.filterMap (eo[·]?)).size != eo.size)=true then(do let _<-(unsupported "internal:set-table-lost-an-element" : Sem PUnit);pure (order.filterMap (eo[·]?),t'))else pure (order.filterMap (eo[·]?),t')) R E {s with heap:=h1}:=fun hR=>by
    rw [if_neg (by simp [pz])];exact wpAny_pure hR
   refine wpAny_bind (Xh ?_);dsimp only;refine wpAny_storeSet_of xT CM ?_ (fits_of_scanBound (by rw [pz];exact hb));have G2:=lU (ks:=ms) (t':=t') xT HI CM (hl.perm pp) ((pp.map _).trans hp) (by rw [pz];exact hb) (by rw [pz];exact l6) ⟨by rw [l2,g1.led,g.led,Bool.and_self],fun _=>l5⟩;exact h _ ms (RH.trans (Heap.SameBut.update h1 a _)) G2.2 ⟨fun k=>by simp,fun _ n=>n,by simp⟩ fun z=>absurd z m0
  |oneByOne =>
   dsimp only;refine wpAny_bind (AO (s:={s with heap:=h1}) ne ⟨o1,e1,p1,t1,xT,HI,CM,IU,N3,NW,LP,g1⟩ gb hx hd hl hb hf g fun arr h2 pa LO G2=>?_);have gb2:h2.get? b=some o:=(LO.2 b ne).trans gb;have la:arr.toList.length=ms.length:=by
    rw [pa.length_eq,length_toList,hz]
   rw [<-forIn_toList];refine wpAny_bind (El (s:={s with heap:=h2}) ne hd hf (fun s1 R q1 q2=>he s1 R (fun o' e=>by rw [ho]at e;cases e;exact q1) q2) arr.toList (hl.perm pa) gb2 G2 (by show _<4096;omega) fun h3 sb3 G3=>wpAny_pure ?_);obtain⟨u1,u2,u3⟩:=Xi (arr.toList.map fun e=>iv e.2) ks;have pm:(arr.toList.map fun e=>iv e.2).Perm ms:=(pa.map _).trans hp;refine h h3 _ ((RH.trans LO).trans sb3) G3 ⟨fun k=>by rw [u1,pm.mem_iff],fun n _=>u2 n,by rw [pm.length_eq]at u3;exact u3⟩ fun z=>absurd z m0
theorem LQ:entryFor table "set.__or__" = some Builtin.«frozenset.__or__» :=
 entryFor_alias (id' := "frozenset.__or__") (by kernel_rfl) (by first|rfl|decide +kernel|(unfold String.splitOn;simp +decide [String.splitOnAux])) (by decide +kernel) (by kernel_rfl)
theorem yp{v:Addr}{R:Bool->Shared->Prop}(S:dR prog w s.heap v ks)(h:R true s):wpAny (model prog w) A (Builtin.Frozenset.isAnySet (.ref v)) R E s:=by
 obtain⟨o,es,ep,t,ho,hx,_⟩:=S;unfold Builtin.Frozenset.isAnySet;refine wpAny_bind (wpAny_isInstance (T := "set") (b:=true) ⟨o,ho,hx.1⟩ sub_set_self ?_);exact wpAny_pure h
theorem IW{v:Addr}{R:Value->Shared->Prop}(S:dR prog w s.heap v ks)(h:R (.type "set") s):wpAny (model prog w) A (Builtin.Frozenset.baseOf v) R E s:=by
 obtain⟨o,es,ep,t,ho,hx,_⟩:=S;unfold Builtin.Frozenset.baseOf;refine wpAny_bind (wpAny_isInstance (T := "set") (b:=true) ⟨o,ho,hx.1⟩ sub_set_self ?_);exact wpAny_pure h
end
open Builtin Builtin.Frozenset in
def orU(id:String)(l:Addr)(r:Value):Sem Value:=do
 let result<-copyOf l
 if r != .ref l then holding [result] (updateFrom id (<-addrOf result) r)
 return result
open Builtin Builtin.Frozenset in
def orB:Builtin:=fun args=>do
 let(self,other)<-slot1 "__or__" args
 let(l,r):=if false then(other,self)else(self,other)
 if !(<-isAnySet l <&&> isAnySet r)then rule s!"frozenset.{"__or__"}.declined";return<-ret .notImplemented
 ret (<-orU s!"frozenset.{"__or__"}" (<-addrOf l) r)
theorem LR:Builtin.«frozenset.__or__»=orB:=by
 with_unfolding_all rfl
section
variable {prog:Program}{w:World}{A:Around}{E:Value->Shared->Prop}{s:Shared}{a b:Addr}{ks ms:List Int}
theorem IX{h:Heap}{c:Addr}(e:h.get? c=some (IC (!w.params.followText "set-order"))):dR prog w h c [] :=
 ⟨_,#[],0,_,e,⟨rfl,rfl,rfl⟩,rfl,fun _ hq=>absurd hq not_mem_nil,List.Perm.refl _,by decide,rfl,AE _⟩
theorem IY{Q:Value->Shared->Prop}(S:dR prog w s.heap a ks)(hn:ks.length<500)(h:∀h',s.heap.objs.size<h'.objs.size->(∀b o,s.heap.get? b=some o->h'.get? b=some o)->(h'.get? s.heap.objs.size=some (IC (!w.params.followText "set-order"))\/ks≠[])->∀rs,dR prog w h' s.heap.objs.size rs->j9 rs [] ks->Q (.ref s.heap.objs.size) {s with heap:=h'}):wpAny (model prog w) A (Builtin.Frozenset.copyOf a) Q E s:=by
 unfold Builtin.Frozenset.copyOf;refine wpAny_bind (IW S ?_);unfold newSet setsByText;refine wpAny_bind (wpAny_bind (wpAny_bind (wpAny_askSetting (wpAny_pure ?_))));dsimp only;simp only [newObj];refine wpAny_bind (wpAny_alloc (wpAny_pure ?_));refine wpAny_bind (wpAny_pure ?_);have lt:a<s.heap.objs.size:=by
  obtain⟨o,es,ep,t,ho,_⟩:=S;exact Heap.lt_size ho
 have ge:(s.heap.push (IC (!w.params.followText "set-order"))).get? s.heap.objs.size=some (IC (!w.params.followText "set-order")):=Heap.get?_push_size _ rfl;have kp:∀b o,s.heap.get? b=some o->(s.heap.push (IC (!w.params.followText "set-order"))).get? b=some o:=fun b o e=>Heap.get?_push_of_some _ e;refine wpAny_bind (wZ (s:={s with heap:=s.heap.push (IC (!w.params.followText "set-order"))}) (ks:=[]) (ms:=ks) (ne_of_lt lt) (IX ge) (S.at fun o e=>kp a o e) (.inl ge) (by simpa using hn) (fun s1 R _ r=>wpAny_pure r) fun h' rs sb G1 U em=>wpAny_pure ?_);refine h h' ?_ (fun b o e=>(sb.2 b (ne_of_lt (Heap.lt_size e))).trans (kp b o e)) ?_ rs G1 U
 ·rw [sb.1];exact Nat.lt_of_lt_of_eq (lt_succ_self _) (Heap.size_push ..).symm
 ·by_cases z:ks=[]
  ·refine .inl ?_;rw [em z];exact ge
  ·exact .inr z
theorem AQ{rs qs ks ms:List Int}(h1:j9 rs [] ks)(h2:j9 qs rs ms):j9 qs ks ms:=by
 refine⟨fun k=>?_,fun n m=>h2.2.1 (h1.2.1 nodup_nil n) m,?_⟩
 ·rw [h2.1,h1.1];simp
 ·have:=h1.2.2;have:=h2.2.2;simp only [length_nil]at *;omega
theorem LS{Q:Value->Shared->Prop}(ne:b≠a)(S:dR prog w s.heap a ks)(T:dR prog w s.heap b ms)(hn:ks.length+ms.length<500)(h:∀h' rs,s.heap.objs.size<h'.objs.size->(∀b o,s.heap.get? b=some o->h'.get? b=some o)->dR prog w h' s.heap.objs.size rs->j9 rs ks ms->Q (.ref s.heap.objs.size) {s with heap:=h'}):wpAny (model prog w) A (binaryOp .BitOr (.ref a) (.ref b)) Q E s:=by
 have tyS:s.TypeIs (.ref a) "set" := by
  obtain⟨o,es,ep,t,ho,hx,_⟩:=S;exact⟨o,ho,hx.1⟩
 have tyT:s.TypeIs (.ref b) "set" := by
  obtain⟨o,es,ep,t,ho,hx,_⟩:=T;exact⟨o,ho,hx.1⟩
 refine wpAny_binaryOp_same tyS tyT PySem.F.fills_set_or PySem.F.slot_set_or (wpAny_call_entry PySem.F.slot_set_or tyS LQ ?_ (PySem.F.args_set_or_2 _ _));rw [LR];unfold orB;refine wpAny_bind (wpAny_of_eq (a:=(Value.ref a,Value.ref b)) rfl ?_);dsimp only;simp only [false_eq_true,if_false];refine wpAny_bind (wpAny_bind (yp S ?_));refine yp T ?_;rw [if_neg (by simp)];refine wpAny_bind (wpAny_pure ?_);unfold orU;refine wpAny_bind (wpAny_bind (IY S (by omega) fun h1 U0 kp1 hO rs G1 U1=>?_));have lb:b<s.heap.objs.size:=by
  obtain⟨o,es,ep,t,ho,_⟩:=T;exact Heap.lt_size ho
 rw [if_pos (show(Value.ref b != Value.ref a)=true by simpa using ne)];refine wpAny_bind (wpAny_pure ?_);refine wpAny_bind (wpAny_holding ?_);unfold Builtin.Frozenset.updateFrom;have T1:dR prog w h1 b ms:=T.at fun o e=>kp1 b o e;refine wpAny_bind (yp (s:={s with heap:=h1}) T1 ?_);rw [if_pos rfl];refine wpAny_bind (wpAny_pure ?_);unfold Builtin.Frozenset.merge;obtain⟨o,es,ep,t,ho,hx,hd,hl,hp,hb,hf,g⟩:=id T1;refine wpAny_bind (wpAny_setEpoch_of (s:={s with heap:=h1}) ho hd hf ?_);have r0:h1.get? s.heap.objs.size=some (IC (!w.params.followText "set-order"))\/rs≠[]:=by
  rcases hO with z|z
  ·exact .inl z
  ·refine .inr fun e=>?_
   cases ks with
   |nil=>exact z rfl
   |cons k ks =>
    have:=(U1.1 k).mpr (.inr mem_cons_self);rw [e]at this
    cases this
 have l1:=U1.2.2;refine wZ (s:={s with heap:=h1}) (ks:=rs) (ms:=ms) (ne_of_lt lb) G1 T1 r0 (by simp only [length_nil]at l1;omega) (fun s1 R q r=>?_) fun h2 qs LO G2 U2 _=>wpAny_pure ?_
 ·unfold Builtin.Frozenset.unchanged;refine wpAny_bind (wpAny_setEpoch_of (q o ho) hd hf ?_);rw [if_neg (by simp)];exact wpAny_pure r
 ·refine wpAny_pure ⟨_,rfl,fun z=>(nomatch z),h h2 qs ?_ (fun c o' e=>?_) G2 (AQ U1 U2)⟩
  ·rw [LO.1];exact U0
  ·exact(LO.2 c (ne_of_lt (Heap.lt_size e))).trans (kp1 c o' e)
end
def sF(n n':MA):MX:=fun Γ=>(n Γ).bind fun p=>(n' p.2).bind fun q=>match p.1,q.1 with
 |[.lst ts],[.lst us]=>match intsOf ts,intsOf us with
  |some xs,some ys=>if xs.length+ys.length<500 then some (.own (.lst ((bh (aY (xs++ys))).map T.int)),q.2)else none
  |_,_=>none
 |_,_=>none
theorem AR{n n':MA}{Γ Γ':G}{r:R}(h:sF n n' Γ=some (r,Γ')):∃(xs ys:List Int) (Γ1:G),n Γ=some ([.lst (xs.map T.int)],Γ1)/\n' Γ1=some ([.lst (ys.map T.int)],Γ')/\xs.length+ys.length<500/\r=.own (.lst ((bh (aY (xs++ys))).map T.int)):=by
 unfold sF at h
 cases h1:n Γ with
 |none=>rw [h1]at h;cases h
 |some p =>
  rw [h1]at h;obtain⟨ps,Γ1⟩:=p;dsimp only [Option.bind]at h
  cases h2:n' Γ1 with
  |none=>rw [h2]at h;cases h
  |some q =>
   rw [h2]at h;obtain⟨qs,Γ2⟩:=q;dsimp only at h;split at h
   ·rename_i ts us;split at h
    ·rename_i xs ys hx hy;split at h
     ·rename_i hl
      cases h
      exact⟨xs,ys,Γ1,by rw [iD hx],by rw [h2,iD hy],hl,rfl⟩
     ·cases h
    ·cases h
   ·cases h
theorem AS{rs xs ys:List Int}(h:j9 rs (aY xs) (aY ys)):rs.Perm (aY (xs++ys)):=by
 have nd:∀ns:List Int,(aY ns).Nodup/\∀k,k∈aY ns↔k∈ns:=fun ns=>by
  obtain⟨h1,h2,_⟩:=Xi ns [];exact⟨h2 nodup_nil,fun k=>by have:=h1 k;simpa [aY]using this⟩
 refine(List.perm_ext_iff_of_nodup (h.2.1 (nd xs).1 (nd ys).1) (nd _).1).mpr fun k=>?_;rw [h.1,(nd xs).2,(nd ys).2,(nd _).2,mem_append]
section
variable {X:Cx}{P:Fx}{pins:List (Addr×Obj)}{σ:St}{H:Hp}{s:Shared}
theorem CO{e e':Expr}{n n':MA}{p p1 p2 pos LU Cy Qg:Pos}(hc:X.calm=true)(hg:Gl X "sorted")(hm:X.mg "sorted" = none)(NY:Gl X "set")(J4:X.mg "set" = none)(ha:tK X P [e] n)(Tt:tK X P [e'] n')(hs:starEach [e] X.env=[(false,eval e X.env)]:=by rfl)(qY:starEach [e'] X.env=[(false,eval e' X.env)]:=by rfl)
  (GD:starEach [.BinOp (.Call (.Name "set" p1) [e] [] LU) .BitOr (.Call (.Name "set" p2) [e'] [] Cy) Qg] X.env=[(false,eval (.BinOp (.Call (.Name "set" p1) [e] [] LU) .BitOr (.Call (.Name "set" p2) [e'] [] Cy) Qg) X.env)]:=by rfl) :
  bj X P (.Call (.Name "sorted" p) [.BinOp (.Call (.Name "set" p1) [e] [] LU) .BitOr (.Call (.Name "set" p2) [e'] [] Cy) Qg] [] pos) (sF n n'):=fun Γ r Γ' h=>by
 obtain⟨xs,ys,Γ1,h1,h2,aA6,rfl⟩:=AR h;have Kd:=iE (xs++ys);rw [length_append]at Kd;intro pins s σ H Q I ⟨Hs,S,k⟩;have hh:=I.ok.hd hc;refine wpAny_Call_Name_kw (iG I hg hm boot_sorted ?_ (by decide) (by decide));refine PyProof.Rows.callWith_builtin1 ?_ GD rfl;rw [GD];refine Calls.spliced_cons (wpAny_BinOp ?_);refine wpAny_Call_Name_kw (iG I NY J4 PyProof.Rows.boot_set ?_ (by decide) (by decide));refine PyProof.Rows.callWith_type1 (eC (ha _ _ _ h1 LU pins s σ H (fun vs H1=>∃bq,aA H H1/\aA Hs bq/\aF (kc X P) P Γ1 σ H1 bq/\nX (kc X P) H1 bq vs [.lst (xs.map T.int)]) I ⟨Hs,S,fun vs H1 bq e1 e2 S1 f1=>⟨bq,e1,e2,S1,f1⟩⟩) fun ws s1 ⟨vs,H1,I1,r1,bq,e1,en,S1,f1⟩=>?_) hs rfl;obtain⟨v,rfl,a,zs,rfl,sq,rs⟩:=i8 f1;obtain⟨u,rfl,ru⟩:=vals1 r1
 cases(show u=Value.ref a from ru)
 have ex:=fK rs;subst ex;obtain⟨bo,vv,pl,_⟩:=I1.list sq;have hI:IntsAre bo xs:=intsAre_of vv;have hl:bo.length=xs.length:=hI.length;refine qJ (items:=bo.toArray) (ns:=xs) hh pl.isList hI (by rw [size_toArray,hl];unfold scanBound;omega) fun h2' U4 G2 k2=>?_;have I2:Inv X pins σ H1 {s1 with heap:=h2',toks:=U4}:=I1.kept k2;have hn:bo.toArray.size=xs.length:=by rw [size_toArray,hl]
 rw [hn,gO]at G2;have fp:∀b∈[s1.heap.objs.size],qw X pins H1 b:=fun b hb=>by
  rw [mem_singleton.mp hb];exact I1.EU (le_refl _) (I1.dG.fresh (le_refl _))
 obtain⟨o2,es2,ep2,t2,Ts,hx2,hd2,ai7⟩:=id G2;have I3:=I2.pinned (fp:=[s1.heap.objs.size]) fp fun b hb=>by
  rw [mem_singleton.mp hb];exact⟨o2,Ts,fun v q=>by rw [hd2]at q;cases q⟩
 refine wpAny_Call_Name_kw (iG I3 NY J4 PyProof.Rows.boot_set ?_ (by decide) (by decide));refine PyProof.Rows.callWith_type1 (eC (Tt _ _ _ h2 Cy _ _ σ H1 (fun vs H3=>∃jH,aA H1 H3/\aA bq jH/\aF (kc X P) P Γ' σ H3 jH/\nX (kc X P) H3 jH vs [.lst (ys.map T.int)]) I3 ⟨bq,S1,fun vs H1 bq e1 e2 S1 f1=>⟨bq,e1,e2,S1,f1⟩⟩) fun ws s3 ⟨vs,H3,I4,r3,jH,e3,Cp,S3,f3⟩=>?_) qY rfl;obtain⟨v,rfl,a',B5,rfl,sq',FN⟩:=i8 f3;obtain⟨u,rfl,Xl⟩:=vals1 r3
 cases(show u=Value.ref a' from Xl)
 have ex:=fK FN;subst ex;obtain⟨Cv,vv',pl',_⟩:=I4.list sq';have hJ:IntsAre Cv ys:=intsAre_of vv';have U7:Cv.length=ys.length:=hJ.length;have U6:s3.heap.get? s1.heap.objs.size=some o2:=(I4.pin _ (mem_append_right _ (mem_append_right _ (iH (mem_singleton.mpr rfl) Ts)))).1;have I5:Inv X pins σ H3 s3:=I4.lQ;have lt3:s1.heap.objs.size<s3.heap.objs.size:=Heap.lt_size U6;refine qJ (items:=Cv.toArray) (ns:=ys) hh pl'.isList hJ (by rw [size_toArray,U7];unfold scanBound;omega) fun h4 Tu G4 k4=>?_;have I6:Inv X pins σ H3 {s3 with heap:=h4,toks:=Tu}:=I5.kept k4;have VN:Cv.toArray.size=ys.length:=by rw [size_toArray,U7]
 rw [VN,gO]at G4;have G2':dR X.prog X.w h4 s1.heap.objs.size (aY xs):=G2.at fun o q=>by
  rw [Ts]at q
  cases q
  exact k4 _ _ U6
 have lx:=iE xs;have ly:=iE ys;refine LS (s:={s3 with heap:=h4,toks:=Tu}) (ne_of_gt lt3) G2' G4 (by omega) fun h5 qs lt5 k5 G5 U5=>?_;have I7:Inv X pins σ H3 {s3 with heap:=h5,toks:=Tu}:=I6.kept (t':=Tu) k5;refine Calls.spliced_nil ?_;have pq:=AS U5;have lq:=pq.length_eq;refine ud (s:={s3 with heap:=h5,toks:=Tu}) hh G5 (by omega) fun h6 tk6 d6 b out n6 le k6 a1 Xm=>?_;have es:bh qs=bh (aY (xs++ys)):=ksm_same ((bx qs).trans (pq.trans (bx _).symm)) (dJ qs) (dJ _);rw [es]at a1;have hlen:(bh (aY (xs++ys))).length=(aY (xs++ys)).length:=(bx _).length_eq;have I8:Inv X pins σ (upd H3 b (.lst ((bh (aY (xs++ys))).map V.int))) {s3 with heap:=h6,toks:=tk6,drawn:=d6}:=(I7.laid (a:=b) (o:=.lst ((bh (aY (xs++ys))).map V.int)) (t':=tk6) k6 le ⟨by rw [length_map,hlen];exact le_of_lt (aG (by omega)),out.toList,n6,jK a1,by rw [Xm]⟩).drawn d6;obtain⟨Hs9,e9,e9',S9,f9⟩:=Out.fin (.tI (I7.dG.fresh le) (jN (bh (aY (xs++ys))))) S3;exact⟨.ref b,_,I8,rfl,k _ _ Hs9 ((e1.trans e3).trans e9) ((en.trans Cp).trans e9') S9 f9⟩
end
open PySem PySem.Spec PyProof.Rows L2 PySem.W
section
variable (n:Nat)(v:Nat->Int)
def kw{α:Type}:KasT α->(α->Prop)->Prop
 |.ret a,Q=>Q a
 |.ask i j f,Q=>i<n/\j<n/\kw (f (decide (v i<v j))) Q
def PP(p:Array Nat):Prop:=p.toList.Perm (List.range n)
variable {n v}
theorem PP.size{p:Array Nat}(h:PP n p):p.size=n:=by
 have:=List.Perm.length_eq h;simpa using this
theorem PP.lt{p:Array Nat}(h:PP n p){i:Nat}(hi:i<n):p.getD i 0<n:=by
 have hs:i<p.size:=by rw [h.size];exact hi
 have e:p.getD i 0=p[i]:=by simp [Array.getD,hs]
 rw [e];have m:p[i]∈p.toList:=by simp
 exact mem_range.mp (List.Perm.mem_iff h |>.mp m)
end
def oq(a b:Int×Int):Bool:=decide (a.1<b.1)||(decide (a.1=b.1)&&decide (a.2<b.2))
def GF(a b:Int×Int):Bool:=!oq b a
theorem nG{a b:Int×Int}:oq a b=true↔a.1<b.1\/(a.1=b.1/\a.2<b.2):=by
 unfold oq;simp
theorem Em{a b:Int×Int}:GF a b=true↔a.1<b.1\/(a.1=b.1/\a.2<=b.2):=by
 unfold GF
 cases h:oq b a with
 |true =>
  have:=nG.mp h;simp only [Bool.not_true,false_eq_true,false_iff];omega
 |false =>
  have:¬oq b a=true:=by rw [h];simp
  rw [nG]at this;simp only [Bool.not_false,true_iff];omega
def bZ(ps:List (Int×Int)):List (Int×Int):=ps.mergeSort GF
theorem cV(ps:List (Int×Int)):(bZ ps).Perm ps:=mergeSort_perm ps _
theorem nH{a b c:Int×Int}(h:oq a b=true)(g:oq b c=true):oq a c=true:=by
 rw [nG]at *;rcases h with h|⟨e,h⟩
 ·rcases g with g|⟨e',g⟩
  ·exact .inl (Int.lt_trans h g)
  ·exact .inl (e'▸h)
 ·rcases g with g|⟨e',g⟩
  ·exact .inl (e▸g)
  ·exact .inr ⟨e.trans e',Int.lt_trans h g⟩
theorem En(a:Int×Int):oq a a=false:=by
 cases h:oq a a with
 |false=>rfl
 |true =>
  rcases nG.mp h with h|h
  ·exact absurd h (Int.lt_irrefl _)
  ·exact absurd h.2 (Int.lt_irrefl _)
theorem yq{a b:Int×Int}(h:oq a b=false):a=b\/oq b a=true:=by
 have h:¬oq a b=true:=by rw [h];exact Bool.false_ne_true
 rw [nG]at h ⊢;rcases Int.lt_trichotomy a.1 b.1 with e|e|e
 ·exact absurd (.inl e) h
 ·rcases Int.lt_trichotomy a.2 b.2 with f|f|f
  ·exact absurd (.inr ⟨e,f⟩) h
  ·exact .inl (Prod.ext e f)
  ·exact .inr (.inr ⟨e.symm,f⟩)
 ·exact .inr (.inl e)
theorem yr{a b:Int×Int}:GF a b=true↔oq b a=false:=by
 unfold GF
 cases oq b a<;>decide
theorem ot(ps:List (Int×Int)):(bZ ps).Pairwise fun a b=>GF a b=true :=
 List.pairwise_mergeSort (fun a b c h1 h2=>by
  rw [yr]at *
  cases h:oq c a with
  |false=>rfl
  |true =>
   rcases yq h1 with e|e
   ·rw [<-e]at h;rw [h]at h2;cases h2
   ·rw [nH h e]at h2;cases h2) (fun a b=>by
  rw [or_eq_true,yr,yr]
  cases h:oq b a with
  |false=>exact .inl rfl
  |true =>
   cases g:oq a b with
   |false=>exact .inr rfl
   |true=>have:=nH h g;rw [En]at this;cases this) ps
theorem rC{a b:List (Int×Int)}(p:a.Perm b)(h:a.Pairwise fun x y=>GF x y=true):a=bZ b :=
 List.Perm.eq_of_pairwise (le:=fun x y=>GF x y=true) (fun x y _ _ h1 h2=>by
  rw [yr]at h1 h2;rcases yq h2 with e|e
  ·exact e
  ·rw [e]at h1;cases h1) h (ot b) (p.trans (cV b).symm)
def rk(ps:List (Int×Int))(x:Int×Int):Int:=(ps.countP fun y=>oq y x:Nat)
theorem w4{α:Type}{p q:α->Bool}:∀{l:List α}{x:α},(∀y∈l,p y=true->q y=true)->x∈l->p x=false->q x=true->l.countP p<l.countP q
 |y::l,x,h,hx,h1,h2=>by
  have hm:l.countP p<=l.countP q:=List.countP_mono_left fun z hz=>h z (mem_cons_of_mem _ hz);rcases mem_cons.mp hx with e|e
  ·subst e;rw [List.countP_cons_of_neg (by rw [h1];simp),countP_cons_of_pos h2];omega
  ·have ih:=w4 (fun z hz=>h z (mem_cons_of_mem _ hz)) e h1 h2;by_cases hy:p y=true
   ·rw [countP_cons_of_pos hy,countP_cons_of_pos (h y mem_cons_self hy)];omega
   ·rw [List.countP_cons_of_neg hy];by_cases hq:q y=true
    ·rw [countP_cons_of_pos hq];omega
    ·rw [List.countP_cons_of_neg hq];exact ih
theorem N5{ps:List (Int×Int)}{x y:Int×Int}(hx:x∈ps):oq x y=decide (rk ps x<rk ps y):=by
 unfold rk
 cases h:oq x y with
 |true =>
  symm
  rw [decide_eq_true_eq];exact Int.ofNat_lt.mpr (w4 (l:=ps) (p:=fun z=>oq z x) (q:=fun z=>oq z y) (x:=x) (fun z _ hz=>nH hz h) hx (En x) h)
 |false =>
  symm
  rw [decide_eq_false_iff_not];have:ps.countP (fun z=>oq z y)<=ps.countP (fun z=>oq z x):=List.countP_mono_left fun z _ hz=>by
   rcases yq h with e|e
   ·rw [e];exact hz
   ·exact nH hz e
  exact fun q=>Nat.not_lt.mpr this (Int.ofNat_lt.mp q)
inductive cM(h:Heap):List Value->List (Int×Int)->Prop where
 |nil:cM h [] []
 |cons {a:Addr} {o:Obj} {n:Nat} {x y:Int} {t u:Tok} {vs:List Value} {ps:List (Int×Int)} (ho:h.get? a=some o) (hc:o.cls=.type "tuple") (hd:o.data=.seq #[.int x t,.int y u] n) (r:cM h vs ps):cM h (.ref a::vs) ((x,y)::ps)
theorem cM.length{h:Heap}{vs:List Value}{ps:List (Int×Int)}(r:cM h vs ps):vs.length=ps.length:=by
 induction r with
 |nil=>rfl
 |cons _ _ _ _ ih=>rw [length_cons,length_cons,ih]
theorem cM.at{h h':Heap}{vs:List Value}{ps:List (Int×Int)}(r:cM h vs ps)(k:∀b o,h.get? b=some o->o.cls=.type "tuple" -> h'.get? b=some o):cM h' vs ps:=by
 induction r with
 |nil=>exact .nil
 |cons ho hc hd _ ih=>exact .cons (k _ _ ho hc) hc hd ih
theorem cM.get{h:Heap}{vs:List Value}{ps:List (Int×Int)}(r:cM h vs ps):∀{i:Nat},i<ps.length->∃a o n t u,vs.getD i Value.none=.ref a/\h.get? a=some o/\o.cls=.type "tuple" /\ o.data=.seq #[.int (ps.getD i (0,0)).1 t,.int (ps.getD i (0,0)).2 u] n:=by
 induction r with
 |nil=>intro i hi;exact absurd hi (not_lt_zero _)
 |@cons a o n x y t u vs ps ho hc hd _ ih =>
  intro i hi
  cases i with
  |zero=>exact⟨a,o,n,t,u,rfl,ho,hc,hd⟩
  |succ i =>
   obtain⟨a',o',n',t',u',e1,e2⟩:=ih (i:=i) (by simpa using hi);exact⟨a',o',n',t',u',by simpa using e1,by simpa using e2⟩
theorem cM.kat{h:Heap}{vs:List Value}{ps:List (Int×Int)}(r:cM h vs ps):∃fs:List Value,KatTups h vs fs/\fs.length=ps.length/\∀v∈fs,∃x t,v=.int x t:=by
 induction r with
 |nil=>exact⟨[],trivial,rfl,fun v hv=>nomatch hv⟩
 |@cons a o n x y t u vs ps ho hc hd _ ih =>
  obtain⟨fs,h1,h2,h3⟩:=ih;refine⟨.int x t::fs,.cons ho hc hd rfl h1,by rw [length_cons,length_cons,h2],fun v hv=>?_⟩;rcases mem_cons.mp hv with e|e
  ·exact⟨x,t,e⟩
  ·exact h3 v e
section
variable {prog:Program}{w:World}{A:Around}{E:Value->Shared->Prop}{s:Shared}
theorem LV{a b:Addr}{oa ob:Obj}{na nb:Nat}{x y:Int×Int}{t u t' u':Tok}{Q:Bool->Shared->Prop}(ha:s.heap.get? a=some oa)(da:oa.data=.seq #[.int x.1 t,.int x.2 u] na)(hb:s.heap.get? b=some ob)(db:ob.data=.seq #[.int y.1 t',.int y.2 u'] nb)(h:Q (oq x y) s):
  wpAny (model prog w) A (keyLt' (tuples' true) (.ref a) (.ref b)) Q E s:=by
 refine kat_lt ha da hb db (kat_cons (wpAny_eqBool_int (kat_go (fun e=>?_) fun e=>?_)))
 ·have e:x.1=y.1:=by simpa using e
  refine kat_yes (kat_cons (wpAny_eqBool_int (kat_go (fun e'=>?_) fun e'=>?_)))
  ·have e':x.2=y.2:=by simpa using e'
   refine kat_yes (kat_nil ?_);have z:oq x y=false:=by
    cases q:oq x y with
    |false=>rfl
    |true =>
     rw [nG]at q;omega
   rw [z]at h;exact h
  ·refine kat_no (kat_one _ _ (lt_int ?_));have z:oq x y=decide (x.2<y.2):=by
    unfold oq;rw [e];simp
   rw [z]at h;exact h
 ·have e:x.1≠y.1:=by simpa using e
  refine kat_no (oneLt_int ?_);have z:oq x y=decide (x.1<y.1):=by
   unfold oq;simp [e]
  rw [z]at h;exact h
theorem FO{α:Type}{d:α}{l:List α}{p:List Nat}(h:p.Perm (List.range l.length)):(p.map fun i=>l.getD i d).Perm l:=by
 refine(h.map _).trans (List.Perm.of_eq ?_);refine ext_getElem? fun i=>?_;rw [getElem?_map];by_cases hi:i<l.length
 ·rw [getElem?_range hi,getElem?_eq_getElem hi];simp [hi]
 ·rw [getElem?_eq_none (by rw [length_range];omega),getElem?_eq_none (by omega)];rfl
theorem LX{α:Type}{d:α}{l l':List α}(h:l'.Perm l):∃p:List Nat,p.Perm (List.range l.length)/\l'=p.map fun i=>l.getD i d:=by
 induction h with
 |nil=>exact⟨[],.nil,rfl⟩
 |@cons x l1 l2 _ ih =>
  obtain⟨p,hp,e⟩:=ih;refine⟨0::p.map (·+1),?_,?_⟩
  ·rw [length_cons,range_succ_eq_map];exact(hp.map _).cons 0
  ·rw [map_cons,map_map,e];rfl
 |swap x y l =>
  refine⟨1::0::(List.range l.length).map (·+2),?_,?_⟩
  ·rw [length_cons,length_cons,range_succ_eq_map,range_succ_eq_map,map_cons,map_map];exact List.Perm.swap 0 1 _
  ·rw [map_cons,map_cons,map_map];have:l=(List.range l.length).map fun i=>l.getD i d:=by
    refine ext_getElem? fun i=>?_;rw [getElem?_map];by_cases hi:i<l.length
    ·rw [getElem?_range hi,getElem?_eq_getElem hi];simp [hi]
    ·rw [getElem?_eq_none (by omega),getElem?_eq_none (by rw [length_range];omega)];rfl
   conv=>lhs;rw [this]
   rfl
 |@trans l1 l2 l3 h1 h2 ih1 ih2 =>
  obtain⟨p,hp,e⟩:=ih1;obtain⟨q,hq,e'⟩:=ih2;have lq:q.length=l2.length:=by rw [e',length_map]
  refine⟨p.map fun i=>q.getD i 0,(FO (lq▸hp)).trans hq,?_⟩;rw [e,map_map];refine map_congr_left fun i hi=>?_;have lt:i<q.length:=by
   have:=mem_range.mp (hp.mem_iff.mp hi);omega
  rw [e'];simp [getD_eq_getElem?_getD,getElem?_map,getElem?_eq_getElem lt]
def FP(h:Heap):Value->Int×Int
 |.ref a=>match h.get? a with
  |some o=>match o.data with
   |.seq xs _=>(numOf (xs.getD 0 .none),numOf (xs.getD 1 .none))
   |_=>(0,0)
  |none=>(0,0)
 |_=>(0,0)
theorem yt{h:Heap}{a:Addr}{o:Obj}{x y:Int}{t u:Tok}{n:Nat}(e:h.get? a=some o)(d:o.data=.seq #[.int x t,.int y u] n):FP h (.ref a)=(x,y):=by
 unfold FP;simp only [e,d];rfl
theorem cM.Xn{h:Heap}{vs:List Value}{ps:List (Int×Int)}(r:cM h vs ps):ps=vs.map (FP h):=by
 induction r with
 |nil=>rfl
 |cons ho hc hd _ ih=>rw [map_cons,yt ho hd,<-ih]
theorem cM.mem{h:Heap}{vs:List Value}{ps:List (Int×Int)}(r:cM h vs ps):∀v∈vs,∃a o n x y t u,v=.ref a/\h.get? a=some o/\o.cls=.type "tuple" /\ o.data=.seq #[.int x t,.int y u] n/\(x,y)∈ps:=by
 induction r with
 |nil=>exact fun v hv=>nomatch hv
 |cons ho hc hd _ ih =>
  intro v hv;rcases mem_cons.mp hv with e|e
  ·exact⟨_,_,_,_,_,_,_,e,ho,hc,hd,mem_cons_self⟩
  ·obtain⟨a,o,n,x,y,t,u,h1,h2,h3,h4,h5⟩:=ih v e;exact⟨a,o,n,x,y,t,u,h1,h2,h3,h4,mem_cons_of_mem _ h5⟩
theorem lF{a:Addr}{vs:List Value}{ps:List (Int×Int)}{n:Nat}{P:PySem.Fin->Shared->Prop}(ho:s.heap.get? a=some (seqObj "list" vs.toArray n))(tp:cM s.heap vs ps)(hs:vs.length<=sizeLine)
  (h:∀p:List Nat,p.Perm (List.range vs.length)->(p.map fun i=>ps.getD i (0,0))=bZ ps->P (.done (.ret .none)) {s with heap:=sortedHeap s.heap a vs ((p.map fun i=>vs.getD i Value.none).toArray)}) :
  wpAny (model prog w) A (Builtin.«list.sort» ⟨[.ref a],[]⟩) P E s:=by
 have kp:∀b o,s.heap.get? b=some o->o.cls=.type "tuple" -> (((s.heap.update a (Obj.mapSeq fun _=>#[])).push (seqObj "tuple" vs.toArray 0)).push (seqObj "list" #[] 0)).get? b=some o:=fun b o e c=>by
  have ne:a≠b:=fun z=>by
   subst z;rw [ho]at e
   cases e
   exact absurd (show Value.type "list" = Value.type "tuple" from c) (by decide)
  exact Heap.get?_push_of_some _ (Heap.get?_push_of_some _ ((Heap.get?_update_other _ _ ne).trans e))
 refine n8 (kd:=tuples' true) (v:=fun p=>rk ps (FP s.heap p.1)) ho hs (fun l2 Q q=>?_) (fun x hx y hy st Q kk q=>?_) fun out hp hw=>?_
 ·obtain⟨fs,k1,k2,k3⟩:=(tp.at kp).kat;have hl:=tp.length;refine kat_kind (T:=.type "int") k1 (by omega) (fun v hv=>?_) (by decide) q;obtain⟨x,t,rfl⟩:=k3 v hv;exact Looks.of_pure rfl
 ·obtain⟨x,HI,rfl⟩:=mem_map.mp hx;obtain⟨y,Wz,rfl⟩:=mem_map.mp hy;obtain⟨ai,oi,ni,x1,x2,ti,ui,rfl,f2,f3,f4,f5⟩:=tp.mem x HI;obtain⟨aj,oj,nj,y1,y2,tj,uj,rfl,g2,g3,g4,g5⟩:=tp.mem y Wz;simp only [yt f2 f4,yt g2 g4]at q;rw [<-N5 f5]at q;rw [lt'_eq];refine wpS_bind (wpS_get ?_);rw [kk];exact wpS_bind (wpS_lift (wpAny_attempt (LV (x:=(x1,x2)) (y:=(y1,y2)) (kp _ _ f2 f3) f4 (kp _ _ g2 g3) g4 ⟨rfl,wpS_pure q⟩)))
 ·obtain⟨p,p1,p2⟩:=LX (d:=Value.none) hp;have e:out.map (FP s.heap)=p.map fun i=>ps.getD i (0,0):=by
   rw [p2,map_map];refine map_congr_left fun i hi=>?_;have lt:=mem_range.mp (p1.mem_iff.mp hi);rw [tp.Xn];simp [getD_eq_getElem?_getD,getElem?_map,getElem?_eq_getElem lt]
  rw [p2];refine h p p1 ?_;rw [<-e];refine rC (by rw [tp.Xn];exact hp.map _) ?_;rw [pairwise_map];refine List.Pairwise.imp_of_mem (fun{x y} hx hy q=>?_) hw;have my:FP s.heap y∈ps:=by
   rw [tp.Xn];exact List.mem_map_of_mem (hp.mem_iff.mp hy)
  unfold GF;rw [N5 my,not_eq_true',decide_eq_false_iff_not];exact not_lt.mpr q
end
section
variable {X:Cx}{pins:List (Addr×Obj)}{σ:St}{H H':Hp}{s:Shared}{h':Heap}
theorem _root_.L2.Inv.LY{t':Nat}{d':Drawn}(I:Inv X pins σ H s)(k:∀b u,s.heap.get? b=some u->h'.get? b=some u)(e:aA H H')(fr:∀b o,H' b=some o->H b=some o\/(s.heap.objs.size<=b/\eG X.prog X.w H' h' b o)):
  Inv X pins σ H' {s with heap:=h',toks:=t',drawn:=d'}:=by
 refine I.step (g':=s.gens) (d':=d') (ch:=[]) (fun _ z=>nomatch z) (fun b o _ _ _ q _=>k b o q) (fun b o _ _ _ q _=>⟨o.slots,k b o q⟩) (fun b o _ q n=>?_) (fun b o _ q=>⟨o,k b o q⟩) (fun b xs q=>e _ _ q) (fun b o u q=>e _ _ q) (fun b ps q=>⟨#[],by rw [e _ _ q];simp⟩) (fun m hm=>?_) (fun b u q=>?_) I.bare
 ·cases z:H' b with
  |none=>rfl
  |some u =>
   rcases fr b u z with y|y
   ·rw [n]at y
    cases y
   ·exact absurd (lt_of_lt_of_le (Heap.lt_size q) y.1) (lt_irrefl _)
 ·obtain⟨o,es,ep,ho,r⟩:=hm;exact⟨o,es,ep,k _ o ho,r⟩
 ·rcases fr b u q with y|y
  ·exact(I.dG b u y).qq (fun c v _ z=>k c v z) (fun c z=>e _ _ z) fun c xs z=>e _ _ z
  ·exact y.2
end
def lW(H:Hp):List Addr->List (Int×Int)->Hp
 |a::as,p::ps=>upd (lW H as ps) a (.tup [.int p.1,.int p.2])
 |_,_=>H
theorem fF{H:Hp}{b:Addr}:∀{as:List Addr}{ps:List (Int×Int)},b∉as->lW H as ps b=H b
 |[],ps,_=>by
  unfold lW;rfl
 |a::as,[],_=>rfl
 |a::as,p::ps,h=>by
  show upd (lW H as ps) a _ b=_;rw [aV (fun z=>h (by rw [z];exact mem_cons_self))];exact fF fun z=>h (mem_cons_of_mem _ z)
theorem nJ{H:Hp}{b:Addr}{o:HO}:∀{as:List Addr}{ps:List (Int×Int)},as.Pairwise (·<·)->lW H as ps b=some o->H b=some o\/∃(i:Nat) (p:Int×Int),as[i]?=some b/\ps[i]?=some p/\o=.tup [.int p.1,.int p.2]
 |[],ps,_,h=>.inl (by unfold lW at h;exact h)
 |a::as,[],_,h=>.inl h
 |a::as,p::ps,hp,h=>by
  have h:upd (lW H as ps) a (.tup [.int p.1,.int p.2]) b=some o:=h;by_cases z:b=a
  ·subst z;rw [bB]at h
   cases h
   exact .inr ⟨0,p,rfl,rfl,rfl⟩
  ·rw [aV z]at h;rcases nJ (pairwise_cons.mp hp).2 h with y|⟨i,q,e1,e2,e3⟩
   ·exact .inl y
   ·exact .inr ⟨i+1,q,by simpa using e1,by simpa using e2,e3⟩
theorem yu{H:Hp}:∀{as:List Addr}{ps:List (Int×Int)}{i:Nat}{a:Addr}{p:Int×Int},as.Pairwise (·<·)->as[i]?=some a->ps[i]?=some p->lW H as ps a=some (.tup [.int p.1,.int p.2])
 |[],ps,i,a,p,_,h,_=>by simp at h
 |b::as,[],i,a,p,_,_,h=>by simp at h
 |b::as,q::ps,0,a,p,_,h1,h2=>by
  simp at h1 h2;subst h1;subst h2;exact bB
 |b::as,q::ps,i+1,a,p,hp,h1,h2=>by
  have h1:as[i]?=some a:=by simpa using h1
  have h2:ps[i]?=some p:=by simpa using h2
  have PN:=pairwise_cons.mp hp;have ne:a≠b:=by
   have:=PN.1 a (mem_of_getElem? h1);exact ne_of_gt this
  show upd (lW H as ps) b _ a=_;rw [aV ne];exact yu PN.2 h1 h2
def aw(p:Int×Int):T:=.tup [.int p.1,.int p.2]
theorem AU{K:KC}{Hs:Hp}{as:List Addr}{ps:List (Int×Int)}(hp:as.Pairwise (·<·)):∀(is:List Nat),(∀i∈is,i<as.length/\i<ps.length)->fz K (lW Hs as ps) (is.map fun i=>V.ref (as.getD i 0)) (is.map fun i=>aw (ps.getD i (0,0)))
 |[],_=>bU
 |i::is,h=>by
  have ih:=AU (K:=K) (Hs:=Hs) hp is fun j hj=>h j (mem_cons_of_mem _ hj);obtain⟨h1,h2⟩:=h i mem_cons_self;refine bK ?_ ih;have e1:as[i]?=some (as.getD i 0):=by
   rw [getD_eq_getElem?_getD,getElem?_eq_getElem h1];rfl
  have e2:ps[i]?=some (ps.getD i (0,0)):=by
   rw [getD_eq_getElem?_getD,getElem?_eq_getElem h2];rfl
  exact⟨_,_,rfl,vm.of (yu hp e1 e2),bK rfl (bK rfl bU)⟩
def kf:List Key->List T->Option (List (Int×Int))
 |[],[]=>some []
 |.inl k::ks,.int v::ts=>(kf ks ts).map fun ps=>(k,v)::ps
 |_,_=>none
theorem w6:∀{ks:List Key}{ts:List T}{ps:List (Int×Int)},kf ks ts=some ps->ks=ps.map (fun p=>Sum.inl p.1)/\ts=ps.map fun p=>T.int p.2
 |[],[],ps,h=>by
  cases h
  exact⟨rfl,rfl⟩
 |[],t::ts,ps,h=>by cases h
 |.inr x::ks,ts,ps,h=>by
  unfold kf at h
  cases h
 |.inl k::ks,[],ps,h=>by cases h
 |.inl k::ks,t::ts,ps,h=>by
  cases t with
  |int v =>
   have h:(kf ks ts).map (fun ps=>(k,v)::ps)=some ps:=h
   cases e:kf ks ts with
   |none=>rw [e]at h;cases h
   |some qs =>
    rw [e]at h
    cases h
    obtain⟨h1,h2⟩:=w6 e;exact⟨by rw [h1];rfl,by rw [h2];rfl⟩
  |_=>cases h
theorem Tv{kvs:List (Key×V)}{vs:List (Key×Value)}(h:KV kvs vs):∀{j:Nat}{k:Key}{x:Value},vs[j]?=some (k,x)->∃v,kvs[j]?=some (k,v)/\RelV v x:=by
 induction h with
 |nil=>intro j k x e;simp at e
 |@cons p q l r hd _ ih =>
  intro j k x e
  cases j with
  |zero =>
   simp at e;subst e;exact⟨p.2,congrArg some (Prod.ext hd.1 rfl),hd.2⟩
  |succ j =>
   obtain⟨v,e1,e2⟩:=ih (j:=j) (by simpa using e);exact⟨v,by simpa using e1,e2⟩
theorem IZ{kvs:List (Key×V)}{vs:List (Key×Value)}(h:KV kvs vs):kvs.length=vs.length:=Paired.length h
theorem w8:∀(ps:List (Int×Int)),(ps.map fun p=>(Sum.inl p.1:Key)).zip (ps.map fun p=>V.int p.2)=ps.map fun p=>((Sum.inl p.1:Key),V.int p.2)
 |[]=>rfl
 |p::ps=>by
  rw [map_cons,map_cons,zip_cons_cons,w8 ps];rfl
theorem w9(as:List Addr):∀(q:List Nat),(∀i∈q,i<as.length)->Vals (q.map fun i=>V.ref (as.getD i 0)) (q.map fun i=>(as.map Value.ref).getD i Value.none)
 |[],_=>.nil
 |i::q,h=>by
  refine .cons ?_ (w9 as q fun j hj=>h j (mem_cons_of_mem _ hj));have hi:=h i mem_cons_self;show(as.map Value.ref).getD i Value.none=.ref (as.getD i 0);rw [getD_eq_getElem?_getD,getD_eq_getElem?_getD,getElem?_map,getElem?_eq_getElem hi];rfl
theorem AV:∀{K:KC}{H:Hp}{ps:List (Int×Int)}{xs:List V},fz K H xs (ps.map fun p=>T.int p.2)->xs=ps.map fun p=>V.int p.2
 |K,H,[],xs,h=>h
 |K,H,p::ps,xs,h=>by
  obtain⟨v,vs,rfl,r,rs⟩:=h;have e:v=V.int p.2:=r;rw [e,AV rs];rfl
section
variable {prog:Program}{w:World}{A:Around}{E:Value->Shared->Prop}{s:Shared}
theorem LZ{ps:List (Int×Int)}{kvs:List (Key×Value)}(kv:KV (ps.map fun p=>((Sum.inl p.1:Key),V.int p.2)) kvs){lo:Addr}{h:Heap}{as:List Addr}(g:KdxG (bN prog w) kvs lo h as)(hl:as.length=kvs.length):cM h (as.map Value.ref) ps:=by
 have key:∀(n:Nat)(RJ:List Addr)(zG:List (Int×Int)),RJ.length=zG.length->(∀i a,RJ[i]?=some a->as[n+i]?=some a)->(∀i p,zG[i]?=some p->ps[n+i]?=some p)->cM h (RJ.map Value.ref) zG:=by
  intro n RJ
  induction RJ generalizing n with
  |nil =>
   intro zG e _ _
   cases zG with
   |nil=>exact .nil
   |cons p zG=>cases e
  |cons a RJ ih =>
   intro zG e h1 h2
   cases zG with
   |nil=>cases e
   |cons p zG =>
    have ea:=h1 0 a rfl;have ep:=h2 0 p rfl;obtain⟨ky,k,x,e1,e2,e3⟩:=g.pairs _ a ea;obtain⟨v,e4,e5⟩:=Tv kv e1;rw [getElem?_map,ep]at e4
    cases e4
    obtain⟨u,rfl⟩:=e5;have:∃t,ky=.int p.1 t:=by
     have e2:sN (.inl p.1) ky=true:=e2;exact Value.isInt_shape e2
    obtain⟨t,rfl⟩:=this;refine .cons (x:=p.1) (y:=p.2) e3 rfl rfl (ih (n+1) zG (by simpa using e) (fun i b hb=>?_) fun i q hq=>?_)
    ·have:=h1 (i+1) b (by simpa using hb);rw [show n+1+i=n+(i+1) by omega];exact this
    ·have:=h2 (i+1) q (by simpa using hq);rw [show n+1+i=n+(i+1) by omega];exact this
 have hk:=IZ kv;rw [length_map]at hk;exact key 0 as ps (by omega) (fun i a e=>by rw [zero_add];exact e) fun i p e=>by rw [zero_add];exact e
theorem yv{v d:Addr}{ps:List (Int×Int)}{kvs:List (Key×Value)}{Q:Value->Shared->Prop}(hh:A.handled=none)(hv:s.heap.IsItemsView v d)(hm:s.heap.DictOf (bN prog w) d kvs)(kv:KV (ps.map fun p=>((Sum.inl p.1:Key),V.int p.2)) kvs)(Kd:ps.length<600)
  (h:∀(h':Heap)(tk:Nat)(D:Addr)(as:List Addr)(p:List Nat)(e:Nat),v<D->as.length=ps.length->as.Pairwise (·<·)->(∀a∈as,s.heap.objs.size<a/\a<D)->(∀b o,s.heap.get? b=some o->h'.get? b=some o)->p.Perm (List.range ps.length)->(p.map fun i=>ps.getD i (0,0))=bZ ps ->
   cM h' (as.map Value.ref) ps->h'.get? D=some (seqObj "list" ((p.map fun i=>(as.map Value.ref).getD i Value.none).toArray) e)->Q (.ref D) {s with heap:=h',toks:=tk}):wpAny (model prog w) A (call (.builtin "sorted") [.ref v]) Q E s:=by
 obtain⟨o,es,ep,x1,x2,x3,x4,x5,x6⟩:=hm;have hk:=IZ kv;rw [length_map]at hk;refine Calls.call_function_entry kind_sorted plain_sorted entry_sorted (args_sorted1 _) ?_;unfold Builtin.«sorted»;refine wpAny_bind (m:=checkCount "sorted" 1 1 _) (wpAny_pure (wpAny_bind (kdx_collect (A:=A.in1) (knd:=bN prog w) (kvs:=kvs) (ep:=ep) hh hv ⟨o,es,x1,x2,x3,x4,x5,x6⟩ (le_of_lt (aG (by omega))) fun h1 tk as k1 hl g=>?_)));have Ea:as.length=ps.length:=by omega
 have tp:=LZ kv g hl;refine wpAny_bind (wpAny_newList ?_ (by rw [length_map];exact le_of_lt (aG (by omega))));have z8:(h1.push (seqObj "list" (as.map Value.ref).toArray 0)).get? h1.objs.size=some (seqObj "list" (as.map Value.ref).toArray 0):=Heap.get?_push_size _ rfl;have tp1:cM (h1.push (seqObj "list" (as.map Value.ref).toArray 0)) (as.map Value.ref) ps:=tp.at fun b o e _=>Heap.get?_push_of_some _ e;refine wpAny_bind (wpAny_holding (wpAny_call_entry slot_list_sort ⟨_,z8,rfl⟩ entry_list_sort (lF z8 tp1 (by rw [length_map];exact le_of_lt (aG (by omega))) fun p hp hs=>⟨_,rfl,?_⟩) (args_list_sort _)));obtain⟨n,hn⟩:=sortedHeap_at (out:=(p.map fun i=>(as.map Value.ref).getD i Value.none).toArray) z8;have old:∀b o,h1.get? b=some o->(sortedHeap (h1.push (seqObj "list" (as.map Value.ref).toArray 0)) h1.objs.size (as.map Value.ref) ((p.map fun i=>(as.map Value.ref).getD i Value.none).toArray)).get? b=some o:=fun b o e=>by
  have lt:b<h1.objs.size:=Heap.lt_size e;rw [sortedHeap_old (ne_of_lt lt) (by rw [size_push'];exact lt_succ_of_lt lt)];exact Heap.get?_push_of_some _ e
 rw [length_map,Ea]at hp;have vD:v<h1.objs.size:=by
  obtain⟨ov,z,_⟩:=hv;exact Heap.lt_size (k1 _ _ z)
 exact wpAny_pure ⟨_,rfl,h _ tk h1.objs.size as p n vD Ea g.rise (fun a ha=>⟨g.above a ha,g.there ha⟩) (fun b o e=>old b o (k1 b o e)) hp hs (tp.at fun b o e _=>old b o e) hn⟩
end
section
variable {X:Cx}{P:Fx}{o:Expr}{p pos pos' apos:Pos}
def eQ(m:MX):MX:=fun Γ=>(m Γ).bind fun q=>match q.1.tree with
 |.eX ks ts=>match kf ks ts with
  |some ps=>if ps.length<600 then some (.own (.lst ((bZ ps).map aw)),q.2)else none
  |none=>none
 |_=>none
theorem uk{m:MX}{Γ Γ':G}{r:R}(h:eQ m Γ=some (r,Γ')):∃r1 ps,m Γ=some (r1,Γ')/\r1.tree=.eX (ps.map fun p=>Sum.inl p.1) (ps.map fun p=>T.int p.2)/\ps.length<600/\r=.own (.lst ((bZ ps).map aw)):=by
 unfold eQ at h
 cases h1:m Γ with
 |none=>rw [h1]at h;cases h
 |some q =>
  rw [h1]at h;obtain⟨r1,Γ1⟩:=q;dsimp only [Option.bind]at h;split at h
  ·rename_i ks ts ht;split at h
   ·rename_i ps hp;split at h
    ·rename_i hl
     cases h
     obtain⟨e1,e2⟩:=w6 hp;exact⟨r1,ps,rfl,by rw [ht,e1,e2],hl,rfl⟩
    ·cases h
   ·cases h
  ·cases h
theorem jm{m:MX}{pl:Sem Bool}(hc:X.calm=true)(hg:Gl X "sorted")(hm:X.mg "sorted" = none)(ho:bj X P o m)
  (GD:starEach [.Call (.Attribute o "items" apos) [] [] pos'] X.env=[(false,eval (.Call (.Attribute o "items" apos) [] [] pos') X.env)]:=by rfl)
  (ht:eval (.Call (.Attribute o "items" apos) [] [] pos') X.env=(do
   let ov<-eval o X.env
   standAt apos.atName
   let(f,first)<-holding [ov] (getMethod ov "items" pl)
   callWith pos' f first (backTo pos' (starEach [] X.env)) (backToKw pos' (keywordEach [] X.env))):=by rfl) :
  bj X P (.Call (.Name "sorted" p) [.Call (.Attribute o "items" apos) [] [] pos'] [] pos) (eQ m):=fun Γ r Γ' h=>by
 obtain⟨r1,ps,h1,htr,Kd,rfl⟩:=uk h;intro pins s σ H Q I ⟨Hs,S,k⟩;have hh:=I.ok.hd hc;refine wpAny_Call_Name_kw (iG I hg hm boot_sorted ?_ (by decide) (by decide));refine PyProof.Rows.callWith_builtin1 ?_ GD rfl;rw [GD];refine Calls.spliced_cons ?_;refine methodCall_KW (pl:=pl) (eC (ho _ _ _ h1 pins s σ H (fun v H1=>∃bq,aA H H1/\aA Hs bq/\aF (kc X P) P Γ' σ H1 bq/\vw (kc X P) H1 bq v r1.tree) I ⟨Hs,S,fun v H1 bq e1 e2 S1 f1=>⟨bq,e1,e2,S1,S1.DR f1⟩⟩) fun u s1 ⟨x,H1,I1,rx,bq,e1,en,S1,tb⟩=>?_) ht;rw [htr]at tb;obtain⟨d,xs,rfl,hd,lx,rs⟩:=tb
 cases(show u=Value.ref d from rx)
 have ex:=AV rs;subst ex;rw [w8]at hd;obtain⟨_,Xo,kvs,kv,Tw⟩:=I1.dG d _ hd;obtain⟨od,ees,eep,y1,y2,y3⟩:=id Tw;refine getMethod_builtin Tw.typeIs PySem.F.plainAttrs_dict PySem.F.slot_dict_items PySem.F.type_dict_items (fun a e=>by cases e;exact⟨od,y1,y2.2.1⟩) ?_;refine callWith_method0 ?_;refine call_meetsIn PySem.F.slot_dict_items Tw.typeIs PySem.F.entry_dict_items (PySem.F.args_dict_items_1 _) (meets_dict_items (bN X.prog X.w) d Xo) ⟨⟨kvs,Tw⟩,?_⟩;refine Calls.spliced_nil ?_;have Xp:(s1.heap.push {cls:=.type "dict_items", data:=.fields #[.ref d]}).DictOf (bN X.prog X.w) d kvs:=by
  obtain⟨a1,a2,a3,a4,a5⟩:=Tw;exact⟨a1,a2,a3,Heap.get?_push_of_some _ a4,a5⟩
 refine yv (s:={s1 with heap:=s1.heap.push {cls:=.type "dict_items", data:=.fields #[.ref d]}}) hh ⟨_,Heap.get?_push_size _ rfl,rfl,rfl⟩ Xp kv Kd fun h' tk D as q e vD al ap ab k2 qp qs tp Xd=>?_;have sz:(s1.heap.push {cls:=.type "dict_items", data:=.fields #[.ref d]}).objs.size=s1.heap.objs.size+1:=Heap.size_push ..;have ab:∀a∈as,s1.heap.objs.size<=a/\a<D:=fun a ha=>by
  have:=ab a ha;refine⟨?_,this.2⟩;have z:(s1.heap.push {cls:=.type "dict_items", data:=.fields #[.ref d]}).objs.size<a:=this.1;rw [sz]at z;exact le_of_lt (Nat.lt_of_succ_lt z)
 have RK:s1.heap.objs.size<=D:=le_of_lt vD;have nD:D∉as:=fun z=>lt_irrefl _ (ab D z).2;have fH:∀b,s1.heap.objs.size<=b->H1 b=none:=fun b hb=>I1.dG.fresh hb;have fS:∀b,s1.heap.objs.size<=b->bq b=none:=fun b hb=>S1.sub.free (fH b hb);have sT:∀G:Hp,(∀b,s1.heap.objs.size<=b->G b=none)->aA G (lW G as ps):=fun G fr b u q=>by
  rw [fF (fun z=>by rw [fr b (ab b z).1]at q;cases q)];exact q
 have qr:∀i∈q,i<as.length/\i<ps.length:=fun i hi=>by
  have:=mem_range.mp (qp.mem_iff.mp hi);omega
 have tr:=AU (K:=kc X P) (Hs:=bq) (ps:=ps) ap q qr;have trq:(q.map fun i=>aw (ps.getD i (0,0)))=(bZ ps).map aw:=by
  rw [<-qs,map_map];rfl
 rw [trq]at tr;have nDT:lW H1 as ps D=none:=by
  rw [fF nD];exact fH D RK
 have e2:aA H1 (upd (lW H1 as ps) D (.lst (q.map fun i=>V.ref (as.getD i 0)))):=(sT H1 fH).trans (dQ nDT);have Xq:Inv X pins σ (upd (lW H1 as ps) D (.lst (q.map fun i=>V.ref (as.getD i 0)))) {s1 with heap:=h',toks:=tk}:=by
  refine I1.LY (d':=s1.drawn) (fun b u z=>k2 b u (Heap.get?_push_of_some _ z)) e2 fun b u z=>?_;by_cases y:b=D
  ·subst y;rw [bB]at z
   cases z
   refine .inr ⟨RK,by rw [length_map,qp.length_eq,length_range];exact le_of_lt (aG (by omega)),_,e,?_,Xd⟩;exact w9 as q fun i hi=>(qr i hi).1
  ·rw [aV y]at z;rcases nJ ap z with z|⟨i,w',z1,z2,rfl⟩
   ·exact .inl z
   ·refine .inr ⟨(ab b (mem_of_getElem? z1)).1,le_of_lt (aG (show 2<=1000 by decide)),?_⟩;obtain⟨a',o',n',t',u',g1,g2,g3,g4⟩:=tp.get (i:=i) (List.getElem?_eq_some_iff.mp z2).1;have ga:a'=b:=by
     have:(as.map Value.ref).getD i Value.none=.ref b:=by
      rw [getD_eq_getElem?_getD,getElem?_map,z1];rfl
     rw [this]at g1
     cases g1
     rfl
    subst ga;have gp:ps.getD i (0,0)=w':=by
     rw [getD_eq_getElem?_getD,z2];rfl
    rw [gp]at g4;exact⟨[.int w'.1 t',.int w'.2 u'],.cons ⟨t',rfl⟩ (.cons ⟨u',rfl⟩ .nil),o',g2,g3,n',g4⟩
 have hq:Q (.ref D) (upd (lW H1 as ps) D (.lst (q.map fun i=>V.ref (as.getD i 0)))):=by
  have st:aA bq (lW bq as ps):=sT bq fS;refine k _ _ (lW bq as ps) (e1.trans e2) (en.trans st) ((S1.grow e2).share st (fun b u z=>?_) (fun b u z=>?_) fun i t b z1 z2=>?_) ⟨D,rfl,S1.kept.free (fH D RK),⟨?_,_,bB,tr⟩,S1.j1 (fH D RK)⟩
  ·have nb:b≠D:=fun y=>by
    subst y;rw [fF nD,fS _ RK]at z
    cases z
   rw [aV nb];by_cases m:b∈as
   ·rcases nJ ap z with z|⟨i,w',z1,z2,rfl⟩
    ·rw [fS b (ab b m).1]at z
     cases z
    ·exact yu ap z1 z2
   ·rw [fF m]at z ⊢;exact S1.sub _ _ z
  ·rcases nJ ap z with z|⟨i,w',z1,z2,rfl⟩
   ·exact S1.new b u z
   ·exact .inr (S1.kept.free (fH b (ab b (mem_of_getElem? z1)).1))
  ·obtain⟨c,q1,_,q3⟩:=S1.own i t z1;rw [z2]at q1
   cases q1
   have nm:b∉as:=fun m=>by
    obtain⟨ob,hob,_⟩:=q3.there;rw [fH b (ab b m).1]at hob
    cases hob
   rw [fF nm];exact q3.free
  ·rw [fF nD];exact fS D RK
 exact⟨.ref D,_,Xq,rfl,hq⟩
end
mutual
def p5:T->Option PyData
 |.cg=>some .none
 |.bl b=>some (.bool b)
 |.int i=>some (.int i)
 |.str x=>some (.str x)
 |.lst ts=>(fo ts).map .list
 |.tup ts=>(fo ts).map .tuple
 |.eX _ _=>none
 |.obj _=>none
def fo:List T->Option (List PyData)
 |[]=>some []
 |t::ts=>(p5 t).bind fun d=>(fo ts).map fun ds=>d::ds
end
mutual
theorem yw:∀(t:T)(d:PyData),p5 t=some d->d.hasDict=false
 |.cg,d,h=>by cases h;rfl
 |.bl b,d,h=>by cases h;rfl
 |.int i,d,h=>by cases h;rfl
 |.str x,d,h=>by cases h;rfl
 |.lst ts,d,h=>by
  unfold p5 at h
  cases e:fo ts with
  |none=>rw [e]at h;cases h
  |some ds =>
   rw [e]at h
   cases h
   exact jn ts ds e
 |.tup ts,d,h=>by
  unfold p5 at h
  cases e:fo ts with
  |none=>rw [e]at h;cases h
  |some ds =>
   rw [e]at h
   cases h
   exact jn ts ds e
 |.eX ks ts,d,h=>by cases h
 |.obj n,d,h=>by cases h
theorem jn:∀(ts:List T)(ds:List PyData),fo ts=some ds->PyData.hasDictAll ds=false
 |[],ds,h=>by cases h;rfl
 |t::ts,ds,h=>by
  unfold fo at h
  cases e:p5 t with
  |none=>rw [e]at h;cases h
  |some d =>
   rw [e]at h
   cases e2:fo ts with
   |none =>
    have h:(fo ts).map (fun ds=>d::ds)=some ds:=h;rw [e2]at h;cases h
   |some es =>
    have h:(fo ts).map (fun ds=>d::ds)=some ds:=h;rw [e2]at h
    cases h
    show(d.hasDict||PyData.hasDictAll es)=false;rw [yw t d e,jn ts es e2];rfl
end
section
variable {X:Cx}{cl:Nat->Addr}{pins:List (Addr×Obj)}{s:Shared}{σ:St}{H:Hp}
mutual
theorem I0(I:Inv X pins σ H s):∀(t:T)(v:V)(u:Value)(d:PyData),p5 t=some d->Tr ⟨X.K,cl⟩ H v t->RelV v u->∃as,Reads s.heap u d as
 |.cg,v,u,d,h,q,r=>by
  cases h
  cases(show v=.cg from q)
  cases(show u=Value.none from r)
  exact⟨_,.none⟩
 |.bl b,v,u,d,h,q,r=>by
  cases h
  cases(show v=.bl b from q)
  cases(show u=Value.bool b from r)
  exact⟨_,.bool b⟩
 |.int i,v,u,d,h,q,r=>by
  cases h
  cases(show v=.int i from q)
  obtain⟨t,rfl⟩:=(show ∃t,u=Value.int i t from r);exact⟨_,.int i t⟩
 |.str x,v,u,d,h,q,r=>by
  cases h
  cases(show v=.str x from q)
  obtain⟨t,rfl⟩:=(show ∃t,u=Value.str x t from r);exact⟨_,.str x t⟩
 |.lst ts,v,u,d,h,q,r=>by
  unfold p5 at h
  cases e:fo ts with
  |none=>rw [e]at h;cases h
  |some ds =>
   rw [e]at h
   cases h
   obtain⟨a,xs,rfl,sq,rs⟩:=q
   cases(show u=Value.ref a from r)
   obtain⟨bo,vv,⟨o,n,e1,e2,e3,e4⟩,_⟩:=I.list sq;obtain⟨as,ra⟩:=qK I ts xs bo ds e rs vv;exact⟨_,.list e1 e2 e4 ra⟩
 |.tup ts,v,u,d,h,q,r=>by
  unfold p5 at h
  cases e:fo ts with
  |none=>rw [e]at h;cases h
  |some ds =>
   rw [e]at h
   cases h
   obtain⟨a,xs,rfl,sq,rs⟩:=q
   cases(show u=Value.ref a from r)
   obtain⟨bo,vv,⟨o,e1,e2,n,e4⟩,_⟩:=I.tuple sq;obtain⟨as,ra⟩:=qK I ts xs bo ds e rs vv;exact⟨_,.tuple e1 e2 e4 ra⟩
 |.eX ks ts,v,u,d,h,q,r=>by cases h
 |.obj n,v,u,d,h,q,r=>by cases h
theorem qK(I:Inv X pins σ H s):∀(ts:List T)(vs:List V)(us:List Value)(ds:List PyData),fo ts=some ds->fz ⟨X.K,cl⟩ H vs ts->Vals vs us->∃as,ReadsAll s.heap us ds as
 |[],vs,us,ds,h,q,r=>by
  cases h
  cases(show vs=[] from q)
  cases r
  exact⟨_,.nil⟩
 |t::ts,vs,us,ds,h,q,r=>by
  unfold fo at h
  cases e:p5 t with
  |none=>rw [e]at h;cases h
  |some d =>
   rw [e]at h;have h:(fo ts).map (fun ds=>d::ds)=some ds:=h
   cases e2:fo ts with
   |none=>rw [e2]at h;cases h
   |some es =>
    rw [e2]at h
    cases h
    obtain⟨v,vr,rfl,q1,q2⟩:=q
    cases r with
    |cons r1 r2 =>
    obtain⟨as,h1⟩:=I0 I t v _ d e q1 r1;obtain⟨bs,h2⟩:=qK I ts vr _ es e2 q2 r2;exact⟨_,.cons h1 h2⟩
end
end
section
variable {prog:Program}{w:World}{A:Around}{E:Value->Shared->Prop}{s:Shared}
end
section
variable {X:Cx}{P:Fx}{cl:Nat->Addr}
end
theorem walk{l:PySem.W.OpenLaw}{q:Program}{loose:List Str}{XP:(Str->Option Value)->Heap->Prop}{YP:World->Heap->Prop}{d:DefRec}{K:Params->PySem.W.Frag}{k:Nat}{x:Str}{cf:CF}(hn:l.most=some 63)(KP:d.params.defaults=[])(hr:dr k callerA)
  (hY:∀(w:World)(h:Heap),YP w h->(K w.params).In h)
  (F:∀(w:World)(mg:Str->Option Value)(fa:Addr)(h:Heap),(K w.params).In h->h.Ns mainGlobals mg->mg d.name=some (.ref fa) ->
   ∃fd:FuncData,(∀(s:Shared)(u:Value),BindsTo s fd ⟨[u],[]⟩ [(x,u)])/\∀base:Heap,(K w.params).In base->base.Ns mainGlobals mg->bP l.prog w (K w.params) mg base hV k fa fd [x] (hZ ⟨K w.params,fun _=>0⟩ 1 cf))
  (Tz:∀ns:List Int,ns.length<=63->∃Γ,cf [.sh (.lst (ns.map T.int))]=some (.sh (.bl true),Γ)) :
  PySem.W.WalkO q loose XP YP l.row.toRowW d [] (fun f vs=>PySem.call f vs) :=
 L2.xO (n:=63) (k:=k) (x:=x) (CX:=fun _=>hV) (sp:=fun w=>hZ ⟨K w.params,fun _=>0⟩ 1 cf) hn (by decide) KP hr hY F
  (fun w H a ns hl _ sq=>by
   obtain⟨Γ,h⟩:=Tz ns hl;exact⟨rfl,[.sh (.lst (ns.map T.int))],.sh (.bl true),Γ,H,H,h,iC (K:=⟨K w.params,fun _=>0⟩) (aA.refl _) (bK (v:=.ref a) (t:=.lst (ns.map T.int)) (show Tr _ H (.ref a) (.lst (ns.map T.int)) from⟨a,_,rfl,sq,jN ns⟩) bU),fun v H' bu _ _ f=>f⟩) fun _ _ _ _ _ z=>z
def vk:List (Nat×Nat×CF)->Nat->Option (Nat×CF)
 |[],_=>none
 |(k,np,cf)::l,n=>if n=k then some (np,cf)else vk l n
theorem CP{X:Cx}{cl:Nat->Addr}{m:Str}:∀n np cf,vk [] n=some (np,cf)->j8 X cl m n np cf:=fun n np cf h=>nomatch h
theorem di{X:Cx}{cl:Nat->Addr}{m:Str}{k np:Nat}{cf:CF}{l:List (Nat×Nat×CF)}(h:j8 X cl m k np cf)(r:∀n np cf,vk l n=some (np,cf)->j8 X cl m n np cf):∀n U8 U9,vk ((k,np,cf)::l) n=some (U8,U9)->j8 X cl m n U8 U9:=fun n U8 U9 e=>by
 unfold vk at e;by_cases z:n=k
 ·rw [if_pos z]at e
  cases e
  rw [z];exact h
 ·rw [if_neg z]at e;exact r n U8 U9 e
def L3(s:Stmt):List Stmt:=match s with
 |.ClassDef _ _ _ b _ _ _ _ _ _ _=>b
 |_=>[]
def lX(s:Stmt)(i:Nat):Stmt:=(L3 s).getD i (.Pass ⟨0,0,0,0⟩)
theorem Xr{α:Type}{P:List α->Prop}(h:P []):∀us:List α,us.length=0->P us
 |[],_=>h
theorem L4{α:Type}{P:List α->Prop}{n:Nat}(h:∀a us,us.length=n->P (a::us)):∀us:List α,us.length=n+1->P us
 |a::us,e=>h a us (Nat.succ.inj e)
theorem all1{α:Type}{P:List α->Prop}(h:∀a,P [a]):∀us:List α,us.length=1->P us:=L4 fun a=>Xr (h a)
theorem all2{α:Type}{P:List α->Prop}(h:∀a b,P [a,b]):∀us:List α,us.length=2->P us:=L4 fun a=>all1 (h a)
theorem yx{α:Type}{P:List α->Prop}(h:∀a b c,P [a,b,c]):∀us:List α,us.length=3->P us:=L4 fun a=>all2 (h a)
theorem L5{α:Type}{P:List α->Prop}(h:∀a b c d,P [a,b,c,d]):∀us:List α,us.length=4->P us:=L4 fun a=>yx (h a)
def TC(K:PySem.W.Frag)(cf:CF):Sp:=fun vs H Q E=>∀cl,hZ ⟨K,cl⟩ 1 cf vs H Q E
theorem Qh{P:Program}{w:World}{K:PySem.W.Frag}{mg:Str->Option Value}{base:Heap}{CX:DI}{k:Nat}{f:Addr}{fd:FuncData}{ps:List Str}{cf:CF}{cl:Nat->Addr}(F:bP P w K mg base CX k f fd ps (hZ ⟨K,cl⟩ 1 cf)):bP P w K mg base CX k f fd ps (TC K cf):=F.imp fun vs H Q E q=>q cl
theorem TF{l:PySem.W.OpenLaw}{q:Program}{loose:List Str}{XP:(Str->Option Value)->Heap->Prop}{YP:World->Heap->Prop}{d:DefRec}{K:Params->PySem.W.Frag}{k:Nat}{x:Str}{cf:CF}(hn:l.most=some 63)(KP:d.params.defaults=[])(hr:dr k callerA)
  (hY:∀(w:World)(h:Heap),YP w h->(K w.params).In h)
  (F:∀(w:World)(mg:Str->Option Value)(fa:Addr)(h:Heap),(K w.params).In h->h.Ns mainGlobals mg->mg d.name=some (.ref fa) ->
   ∃fd:FuncData,(∀(s:Shared)(u:Value),BindsTo s fd ⟨[u],[]⟩ [(x,u)])/\∀base:Heap,(K w.params).In base->base.Ns mainGlobals mg->bP l.prog w (K w.params) mg base hV k fa fd [x] (TC (K w.params) cf))
  (Tz:∀ns:List Int,ns.length<=63->∃Γ,cf [.sh (.lst (ns.map T.int))]=some (.sh (.bl true),Γ)) :
  PySem.W.WalkO q loose XP YP l.row.toRowW d [] (fun f vs=>PySem.call f vs) :=
 L2.xO (n:=63) (k:=k) (x:=x) (CX:=fun _=>hV) (sp:=fun w=>TC (K w.params) cf) hn (by decide) KP hr hY F
  (fun w H a ns hl _ sq cl=>by
   obtain⟨Γ,h⟩:=Tz ns hl;exact⟨rfl,[.sh (.lst (ns.map T.int))],.sh (.bl true),Γ,H,H,h,iC (K:=⟨K w.params,cl⟩) (aA.refl _) (bK (v:=.ref a) (t:=.lst (ns.map T.int)) (show Tr _ H (.ref a) (.lst (ns.map T.int)) from⟨a,_,rfl,sq,jN ns⟩) bU),fun v H' bu _ _ f=>f⟩) fun _ _ _ _ _ z=>z
theorem walkZ{l:PySem.W.OpenLaw}{q:Program}{loose:List Str}{XP:(Str->Option Value)->Heap->Prop}{d:DefRec}{K:Params->PySem.W.Frag}{as:List Addr}{n t k:Nat}{x:Str}{cf:CF}(e:∀P,as=(K P).map (·.1))(hn:l.most=some 63)(KP:d.params.defaults=[])(hr:dr k callerA)
  (F:∀(w:World)(mg:Str->Option Value)(fa:Addr)(h:Heap),(K w.params).In h->h.Ns mainGlobals mg->mg d.name=some (.ref fa) ->
   ∃fd:FuncData,(∀(s:Shared)(u:Value),BindsTo s fd ⟨[u],[]⟩ [(x,u)])/\∀base:Heap,(K w.params).In base->base.Ns mainGlobals mg->bP l.prog w (K w.params) mg base hV k fa fd [x] (TC (K w.params) cf))
  (Tz:∀ns:List Int,ns.length<=63->∃Γ,cf [.sh (.lst (ns.map T.int))]=some (.sh (.bl true),Γ)) :
  WalkX q loose XP (PySem.W.X.obsZ as) (PySem.W.X.valZ K n t) l.row.toRowW d [] (fun f vs=>PySem.call f vs) :=
 fun w s₀ s₁ mg mb G y a o pm cd doc dV kV h1 h2 h3 h4 h5 h6 args vals aa L E7 SD hrd SA Wn =>
  TF (YP:=fun w h=>(K w.params).In h) hn KP hr (fun _ _ h=>h) F Tz w s₀ s₁ mg mb G (InK.keeps w _ _ (PySem.W.X.z_facts e y).2.1 L.keeps) a o pm cd doc dV kV h1 h2 h3 h4 h5 h6 args vals aa E7 SD hrd SA Wn
inductive Ag where
 |v (t:T)|l (i:Nat)
abbrev ML:=G->Option (List Ag×G)
def lJ:List Ag->Nat->Option Nat
 |[],_=>none
 |.l i::r,k=>if i=k then some 0 else(lJ r k).map (·+1)
 |.v _::r,k=>(lJ r k).map (·+1)
theorem qL:∀{ags:List Ag}{k j:Nat},lJ ags k=some j->ags[j]?=some (.l k)
 |[],k,j,h=>by cases h
 |.l i::r,k,j,h=>by
  unfold lJ at h;by_cases e:i=k
  ·rw [if_pos e]at h
   cases h
   rw [e];rfl
  ·rw [if_neg e]at h
   cases q:lJ r k with
   |none=>rw [q]at h;cases h
   |some j' =>
    rw [q]at h
    cases h
    simpa using qL q
 |.v t::r,k,j,h=>by
  unfold lJ at h
  cases q:lJ r k with
  |none=>rw [q]at h;cases h
  |some j' =>
   rw [q]at h
   cases h
   simpa using qL q
theorem jR:∀{ags:List Ag}{k:Nat},lJ ags k=none->∀j:Nat,ags[j]?≠some (.l k)
 |[],k,h,j,e=>by simp at e
 |.l i::r,k,h,j,e=>by
  unfold lJ at h;by_cases z:i=k
  ·rw [if_pos z]at h
   cases h
  ·rw [if_neg z]at h
   cases q:lJ r k with
   |some j'=>rw [q]at h;cases h
   |none =>
    cases j with
    |zero =>
     simp at e;exact z e
    |succ j=>exact jR q j (by simpa using e)
 |.v t::r,k,h,j,e=>by
  unfold lJ at h
  cases q:lJ r k with
  |some j'=>rw [q]at h;cases h
  |none =>
   cases j with
   |zero=>simp at e
   |succ j=>exact jR q j (by simpa using e)
def N6:List Ag->Bool
 |[]=>true
 |.l i::r=>(lJ r i).isNone&&N6 r
 |.v _::r=>N6 r
theorem CQ:∀{ags:List Ag}{i j k:Nat},N6 ags=true->ags[j]?=some (.l i)->ags[k]?=some (.l i)->j=k
 |[],i,j,k,_,h,_=>by simp at h
 |.v t::r,i,j,k,hn,h,h'=>by
  cases j with
  |zero=>simp at h
  |succ j =>
   cases k with
   |zero=>simp at h'
   |succ k=>exact congrArg (·+1) (CQ (ags:=r) (i:=i) hn (by simpa using h) (by simpa using h'))
 |.l a::r,i,j,k,hn,h,h'=>by
  unfold N6 at hn;rw [and_eq_true]at hn;have hno:lJ r a=none:=Option.isNone_iff_eq_none.mp hn.1
  cases j with
  |zero =>
   cases k with
   |zero=>rfl
   |succ k =>
    simp at h h';subst h;exact absurd h' (jR hno k)
  |succ j =>
   cases k with
   |zero =>
    simp at h h';subst h';exact absurd h (jR hno j)
   |succ k=>exact congrArg (·+1) (CQ (ags:=r) (i:=i) hn.2 (by simpa using h) (by simpa using h'))
def L6(Γ:G):Ag->Slot
 |.v t=>.sh t
 |.l i=>(Γ[i]?).getD .no
def lG(ags:List Ag)(Γ2:G):Nat->G->G
 |_,[]=>[]
 |k,s::Γ=>(match lJ ags k with
  |some j=>(Γ2[j]?).getD .no
  |none=>s)::lG ags Γ2 (k+1) Γ
theorem xc(ags:List Ag)(Γ2:G):∀(k:Nat)(Γ:G)(i:Nat),(lG ags Γ2 k Γ)[i]?=Γ[i]?.map fun s=>match lJ ags (k+i)with
  |some j=>(Γ2[j]?).getD .no
  |none=>s
 |k,[],i=>rfl
 |k,s::Γ,0=>rfl
 |k,s::Γ,i+1=>by
  show(lG ags Γ2 (k+1) Γ)[i]?=Γ[i]?.map _;rw [xc ags Γ2 (k+1) Γ i,show k+1+i=k+(i+1) by omega]
theorem p6(ags:List Ag)(Γ2:G):∀(k:Nat)(Γ:G),(lG ags Γ2 k Γ).length=Γ.length
 |k,[]=>rfl
 |k,s::Γ=>by
  show(lG ags Γ2 (k+1) Γ).length+1=Γ.length+1;rw [p6 ags Γ2 (k+1) Γ]
theorem iF{ags:List Ag}{Γ2 Γ:G}{k:Nat}{s:Slot}(h:(lG ags Γ2 0 Γ)[k]?=some s)(hs:s ≠ .no):(∃j:Nat,ags[j]?=some (Ag.l k)/\Γ2[j]?=some s)\/(Γ[k]?=some s/\∀j:Nat,ags[j]?≠some (Ag.l k)):=by
 rw [xc,zero_add]at h
 cases q:lJ ags k with
 |none =>
  rw [q]at h;refine .inr ⟨?_,jR q⟩
  cases z:Γ[k]? with
  |none=>rw [z]at h;cases h
  |some s' =>
   rw [z]at h;exact h
 |some j =>
  rw [q]at h;refine .inl ⟨j,qL q,?_⟩
  cases z:Γ[k]? with
  |none=>rw [z]at h;cases h
  |some s' =>
   rw [z]at h;have h:(Γ2[j]?).getD .no=s:=Option.some.inj h
   cases y:Γ2[j]? with
   |none =>
    rw [y]at h;exact absurd h.symm hs
   |some s2 =>
    rw [y]at h;rw [show s2=s from h]
inductive lK(K:KC)(σ:St)(Hs:Hp):List V->List Ag->Prop where
 |nil:lK K σ Hs [] []
 |v {x:V} {t:T} {xs:List V} {as:List Ag} (h:Tr K Hs x t) (r:lK K σ Hs xs as):lK K σ Hs (x::xs) (.v t::as)
 |l {x:V} {i:Nat} {xs:List V} {as:List Ag} (h:σ[i]?=some (some x)) (r:lK K σ Hs xs as):lK K σ Hs (x::xs) (.l i::as)
theorem lK.mono{K:KC}{σ:St}{Hs bu:Hp}{xs:List V}{as:List Ag}(e:aA Hs bu)(h:lK K σ Hs xs as):lK K σ bu xs as:=by
 induction h with
 |nil=>exact .nil
 |v h r ih=>exact .v (cA e _ _ h) ih
 |l h r ih=>exact .l h ih
theorem lK.length{K:KC}{σ:St}{Hs:Hp}{xs:List V}{as:List Ag}(h:lK K σ Hs xs as):xs.length=as.length:=by
 induction h with
 |nil=>rfl
 |v h r ih=>simp [ih]
 |l h r ih=>simp [ih]
theorem lK.atV{K:KC}{σ:St}{Hs:Hp}{xs:List V}{as:List Ag}(h:lK K σ Hs xs as):∀{j:Nat}{t:T},as[j]?=some (.v t)->∃x,xs[j]?=some x/\Tr K Hs x t:=by
 induction h with
 |nil=>intro j t e;simp at e
 |v h r ih =>
  intro j t e
  cases j with
  |zero =>
   simp at e;subst e;exact⟨_,rfl,h⟩
  |succ j =>
   obtain⟨x,h1,h2⟩:=ih (by simpa using e);exact⟨x,by simpa using h1,h2⟩
 |l h r ih =>
  intro j t e
  cases j with
  |zero=>simp at e
  |succ j =>
   obtain⟨x,h1,h2⟩:=ih (by simpa using e);exact⟨x,by simpa using h1,h2⟩
theorem lK.Ke{K:KC}{σ:St}{Hs:Hp}{xs:List V}{as:List Ag}(h:lK K σ Hs xs as):∀{j i:Nat},as[j]?=some (.l i)->∃x,xs[j]?=some x/\σ[i]?=some (some x):=by
 induction h with
 |nil=>intro j t e;simp at e
 |v h r ih =>
  intro j t e
  cases j with
  |zero=>simp at e
  |succ j =>
   obtain⟨x,h1,h2⟩:=ih (by simpa using e);exact⟨x,by simpa using h1,h2⟩
 |l h r ih =>
  intro j t e
  cases j with
  |zero =>
   simp at e;subst e;exact⟨_,rfl,h⟩
  |succ j =>
   obtain⟨x,h1,h2⟩:=ih (by simpa using e);exact⟨x,by simpa using h1,h2⟩
section
variable {K:KC}{P:Fx}{Γ Γ2:G}{σ:St}{H H' Hs bu:Hp}{ags:List Ag}{vs:List V}
def AW(ags:List Ag)(Γ:G)(σ:St)(a:Addr):Prop:=∃(j i:Nat) (t:T),ags[j]?=some (.l i)/\Γ[i]?=some (Slot.own t)/\σ[i]?=some (some (V.ref a))
open Classical in
def gD(ags:List Ag)(Γ:G)(σ:St)(H:Hp):Hp:=fun a=>if AW ags Γ σ a then none else H a
theorem AX{a:Addr}(h:AW ags Γ σ a):gD ags Γ σ H a=none:=if_pos h
theorem nK{a:Addr}(h:¬AW ags Γ σ a):gD ags Γ σ H a=H a:=if_neg h
theorem sG{j:Nat}{s:Slot}(h:(ags.map (L6 Γ))[j]?=some s)(hs:s ≠ .no):(∃t,ags[j]?=some (.v t)/\s=.sh t)\/∃i,ags[j]?=some (.l i)/\Γ[i]?=some s:=by
 rw [getElem?_map]at h
 cases q:ags[j]? with
 |none=>rw [q]at h;cases h
 |some g =>
  rw [q]at h;have h:L6 Γ g=s:=Option.some.inj h
  cases g with
  |v t=>exact .inl ⟨t,rfl,h.symm⟩
  |l i =>
   refine .inr ⟨i,rfl,?_⟩;have h:(Γ[i]?).getD .no=s:=h
   cases z:Γ[i]? with
   |none =>
    rw [z]at h;exact absurd h.symm hs
   |some s2 =>
    rw [z]at h;rw [show s2=s from h]
theorem xf(S:aF K P Γ σ H Hs)(hn:N6 ags=true)(A:lK K σ Hs vs ags):aF K ⟨gD ags Γ σ H,Hs,K.cl,B3⟩ (ags.map (L6 Γ)) (vs.map some) H Hs where
 kept:=fun a o h=>by
  have h:gD ags Γ σ H a=some o:=h;by_cases z:AW ags Γ σ a
  ·rw [show gD ags Γ σ H a=none from AX z]at h
   cases h
  ·rw [show gD ags Γ σ H a=H a from nK z]at h;exact h
 sub:=S.sub
 new:=fun a o h=>.inl h
 fix:=fun i v h=>nomatch h
 sh:=fun j t h=>by
  rcases sG h (fun z=>nomatch z)with⟨t',h1,h2⟩|⟨i,h1,h2⟩
  ·cases h2
   obtain⟨x,q1,q2⟩:=A.atV h1;exact⟨x,by rw [getElem?_map,q1];rfl,q2⟩
  ·obtain⟨x,q1,q2⟩:=A.Ke h1;obtain⟨y,q3,q4⟩:=S.sh i t h2;rw [q2]at q3
   cases q3
   exact⟨x,by rw [getElem?_map,q1];rfl,q4⟩
 own:=fun j t h=>by
  rcases sG h (fun z=>nomatch z)with⟨t',h1,h2⟩|⟨i,h1,h2⟩
  ·cases h2
  ·obtain⟨x,q1,q2⟩:=A.Ke h1;obtain⟨a,q3,_,q5⟩:=S.own i t h2;rw [q2]at q3
   cases q3
   exact⟨a,by rw [getElem?_map,q1];rfl,AX ⟨j,i,t,h1,h2,q2⟩,q5⟩
 apart:=fun j k t u a n h h' e e'=>by
  rcases sG h (fun z=>nomatch z)with⟨t',h1,h2⟩|⟨i,h1,h2⟩
  ·cases h2
  ·rcases sG h' (fun z=>nomatch z)with⟨t',g1,g2⟩|⟨i',g1,g2⟩
   ·cases g2
   ·obtain⟨x,q1,q2⟩:=A.Ke h1;obtain⟨x',r1,r2⟩:=A.Ke g1;rw [getElem?_map,q1]at e;rw [getElem?_map,r1]at e'
    cases e
    cases e'
    have ne:i≠i':=fun z=>n (CQ hn h1 (z▸g1));exact S.apart i i' t u a ne h2 g2 q2 r2
 len:=by rw [length_map,length_map,A.length]
theorem aF.um(S:aF K P Γ σ H Hs){a:Addr}(h:gD ags Γ σ H a=none):P.H0 a=none:=by
 by_cases z:AW ags Γ σ a
 ·obtain⟨j,i,t,_,h2,h3⟩:=z;obtain⟨b,q1,q2,_⟩:=S.own i t h2;rw [h3]at q1
  cases q1
  exact q2
 ·rw [nK z]at h;exact S.kept.free h
theorem aF.sI(S:aF K P Γ σ H Hs){k:Nat}{t:T}{a:Addr}(h:Γ[k]?=some (.own t))(hk:∀j:Nat,ags[j]?≠some (.l k))(ha:σ[k]?=some (some (.ref a))):gD ags Γ σ H a=H a:=by
 refine nK fun⟨j,i,u,h1,h2,h3⟩=>?_;have ne:i≠k:=fun z=>hk j (z▸h1);exact S.apart i k u t a ne h2 h h3 ha
theorem aF.CS(S:aF K P Γ σ H Hs)(A:lK K σ Hs vs ags)(e:aA Hs bu)(S2:aF K ⟨gD ags Γ σ H,Hs,K.cl,B3⟩ Γ2 (vs.map some) H' bu):aF K P (lG ags Γ2 0 Γ) σ H' bu where
 kept:=fun a o h=>by
  refine S2.kept a o ?_;show gD ags Γ σ H a=some o;rw [nK]
  ·exact S.kept a o h
  ·intro⟨j,i,t,_,h2,h3⟩;obtain⟨b,q1,q2,_⟩:=S.own i t h2;rw [h3]at q1
   cases q1
   rw [q2]at h
   cases h
 sub:=S2.sub
 new:=fun a o h=>by
  rcases S2.new a o h with q|q
  ·exact S.new a o q
  ·exact .inr (S.um q)
 fix:=S.fix
 sh:=fun k t h=>by
  rcases iF h (fun z=>nomatch z)with⟨j,h1,h2⟩|⟨h1,_⟩
  ·obtain⟨x,q1,q2⟩:=S2.sh j t h2;obtain⟨y,r1,r2⟩:=A.Ke h1;rw [getElem?_map,r1]at q1
   cases q1
   exact⟨_,r2,q2⟩
  ·obtain⟨x,q1,q2⟩:=S.sh k t h1;exact⟨x,q1,cA e _ _ q2⟩
 own:=fun k t h=>by
  rcases iF h (fun z=>nomatch z)with⟨j,h1,h2⟩|⟨h1,h2⟩
  ·obtain⟨a,q1,q2,q3⟩:=S2.own j t h2;obtain⟨y,r1,r2⟩:=A.Ke h1;rw [getElem?_map,r1]at q1
   cases q1
   exact⟨a,r2,S.um q2,q3⟩
  ·obtain⟨a,q1,q2,q3⟩:=S.own k t h1;have nl:=S.sI (ags:=ags) h1 h2 q1;refine⟨a,q1,q2,q3.mono (fun o ho=>S2.kept a o (by show gD ags Γ σ H a=some o;rw [nl];exact ho)) e ?_⟩
   cases z:bu a with
   |none=>rfl
   |some o =>
    rcases S2.new a o z with w|w
    ·have w1:=q3.free;rw [show Hs a=some o from w]at w1
     cases w1
    ·obtain⟨o',ho,_⟩:=q3.there;rw [show gD ags Γ σ H a=none from w]at nl;rw [<-nl]at ho
     cases ho
 apart:=fun k1 k2 t u a n h h' e1 e2=>by
  rcases iF h (fun z=>nomatch z)with⟨j,h1,h2⟩|⟨h1,h2⟩
  ·obtain⟨y,r1,r2⟩:=A.Ke h1;rw [e1]at r2
   cases r2
   rcases iF h' (fun z=>nomatch z)with⟨j',g1,g2⟩|⟨g1,g2⟩
   ·obtain⟨y',s1,s2⟩:=A.Ke g1;rw [e2]at s2
    cases s2
    have ne:j≠j':=fun z=>by
     rw [z,g1]at h1
     cases h1
     exact n rfl
    exact S2.apart j j' t u a ne h2 g2 (by rw [getElem?_map,r1];rfl) (by rw [getElem?_map,s1];rfl)
   ·obtain⟨b,q1,q2,q3⟩:=S2.own j t h2;rw [getElem?_map,r1]at q1
    cases q1
    have nl:=S.sI (ags:=ags) g1 g2 e2;obtain⟨b,w1,_,w3⟩:=S.own k2 u g1;rw [e2]at w1
    cases w1
    obtain⟨o',ho,_⟩:=w3.there;rw [show gD ags Γ σ H a=none from q2]at nl;rw [<-nl]at ho
    cases ho
  ·rcases iF h' (fun z=>nomatch z)with⟨j',g1,g2⟩|⟨g1,g2⟩
   ·obtain⟨y',s1,s2⟩:=A.Ke g1;rw [e2]at s2
    cases s2
    obtain⟨b,q1,q2,q3⟩:=S2.own j' u g2;rw [getElem?_map,s1]at q1
    cases q1
    have nl:=S.sI (ags:=ags) h1 h2 e1;obtain⟨b,w1,_,w3⟩:=S.own k1 t h1;rw [e1]at w1
    cases w1
    obtain⟨o',ho,_⟩:=w3.there;rw [show gD ags Γ σ H a=none from q2]at nl;rw [<-nl]at ho
    cases ho
   ·exact S.apart k1 k2 t u a n h1 g1 e1 e2
 len:=by rw [p6];exact S.len
theorem gZ.CS{v:V}{r:R}(S:aF K P Γ σ H Hs)(A:lK K σ Hs vs ags)(hr:(∃t,r=.sh t)\/∃t,r=.own t)(f:gZ K ⟨gD ags Γ σ H,Hs,K.cl,B3⟩ Γ2 (vs.map some) H' bu v r):gZ K P (lG ags Γ2 0 Γ) σ H' bu v r:=by
 rcases hr with⟨t,rfl⟩|⟨t,rfl⟩
 ·exact f
 ·obtain⟨a,rfl,n,q,no⟩:=f;refine⟨a,rfl,S.um n,q,fun k u h e=>?_⟩;rcases iF h (fun z=>nomatch z)with⟨j,h1,h2⟩|⟨h1,h2⟩
  ·obtain⟨y,r1,r2⟩:=A.Ke h1;rw [e]at r2
   cases r2
   exact no j u h2 (by rw [getElem?_map,r1];rfl)
  ·have nl:=S.sI (ags:=ags) h1 h2 e;obtain⟨b,w1,_,w3⟩:=S.own k u h1;rw [e]at w1
   cases w1
   obtain⟨o',ho,_⟩:=w3.there;rw [show gD ags Γ σ H a=none from n]at nl;rw [<-nl]at ho
   cases ho
end
def sQ:T->Bool
 |.cg=>true
 |.bl _=>true
 |.int _=>true
 |.str _=>true
 |_=>false
def Xs:R->Bool
 |.sh t=>sQ t
 |.own (.lst ts)=>ts.all sQ
 |_=>false
section
variable {K:KC}{P:Fx}{Γ Γ' Γ2:G}{σ σ2:St}{H H' Hs bu Hx:Hp}
theorem sJ{v:V}{t:T}(h:sQ t=true)(q:Tr K Hs v t):Tr K bu v t:=by
 cases t<;>first|exact q|cases h
theorem uo:∀{ts:List T}{xs:List V},ts.all sQ=true->fz K Hs xs ts->fz K bu xs ts
 |[],xs,_,q=>q
 |t::ts,xs,h,q=>by
  rw [all_cons,and_eq_true]at h;obtain⟨v,vs,rfl,q1,q2⟩:=q;exact⟨v,vs,rfl,sJ h.1 q1,uo h.2 q2⟩
theorem nX.trs(s:aA Hs H){vs:List V}{ts:List T}(h:nX K H Hs vs ts):fz K H vs ts:=by
 induction h with
 |nil=>exact bU
 |cons h r ih=>exact bK (h.tr s) ih
theorem gZ.bor{v:V}{r:R}{P2:Fx}(S:aF K P Γ σ H Hs)(e:P2.H0=H)(hr:Xs r=true)(f:gZ K P2 Γ2 σ2 H' bu v r):gZ K P Γ σ H' Hs v r:=by
 cases r with
 |sh t=>exact sJ hr f
 |own t =>
  cases t with
  |lst ts =>
   obtain⟨a,rfl,n,⟨_,xs,hx,rs⟩,_⟩:=f;rw [e]at n;exact⟨a,rfl,S.kept.free n,⟨S.sub.free n,xs,hx,uo hr rs⟩,S.j1 n⟩
  |_=>cases hr
 |bor i t=>cases hr
end
section
variable {X:Cx}{P:Fx}{e o:Expr}{es:List Expr}{pos:Pos}
def rdL(K:KC)(P:Fx)(Γ:G)(ags:List Ag)(Γ':G):TA:=fun σ H Q=>∃Hs,aF K P Γ σ H Hs/\∀vs H' bu,aA H H'->aA Hs bu->aF K P Γ' σ H' bu->lK K σ bu vs ags->Q vs H'
def Ja(X:Cx)(P:Fx)(es:List Expr)(m:ML):Prop:=∀Γ ags Γ',m Γ=some (ags,Γ')->PA X es (rdL (kc X P) P Γ ags Γ')
def Qi:ML:=fun Γ=>some ([],Γ)
def yy(m:MX)(n:ML):ML:=fun Γ=>(m Γ).bind fun p=>match p.1 with
 |.bor i _=>(n p.2).map fun q=>(.l i::q.1,q.2)
 |r=>(n (dH r p.2).2).map fun q=>(.v (dH r p.2).1::q.1,q.2)
theorem Eo:Ja X P [] Qi:=fun Γ ts Γ' h=>by
 cases h
 exact qx.imp fun σ H Q ⟨Hs,S,k⟩=>k [] H Hs (aA.refl _) (aA.refl _) S .nil
theorem jS{m:MX}{n:ML}(ha:bj X P e m)(hr:Ja X P es n)(hs:starEach (e::es) X.env=(false,eval e X.env)::starEach es X.env:=by rfl):Ja X P (e::es) (yy m n):=fun Γ ags Γ' h=>by
 unfold yy at h
 cases h1:m Γ with
 |none=>rw [h1]at h;cases h
 |some p =>
  rw [h1]at h;obtain⟨r,Γ1⟩:=p
  cases r with
  |bor i t =>
   have h:(n Γ1).map (fun q=>(Ag.l i::q.1,q.2))=some (ags,Γ'):=h
   cases h2:n Γ1 with
   |none=>rw [h2]at h;cases h
   |some q =>
    rw [h2]at h
    cases h
    refine(gL (ha _ _ _ h1) (hr _ _ _ h2) hs).imp fun σ H Q ⟨Hs,S,k⟩=>⟨Hs,S,fun v H1 bq e1 en S1 f1=>⟨bq,S1,fun vs H2 bQ e2 hW S2 f2=>?_⟩⟩;exact k _ H2 bQ (e1.trans e2) (en.trans hW) S2 (.l f1.1 f2)
  |sh t =>
   have h:(n Γ1).map (fun q=>(Ag.v t::q.1,q.2))=some (ags,Γ'):=h
   cases h2:n Γ1 with
   |none=>rw [h2]at h;cases h
   |some q =>
    rw [h2]at h
    cases h
    refine(gL (ha _ _ _ h1) (hr _ _ _ h2) hs).imp fun σ H Q ⟨Hs,S,k⟩=>⟨Hs,S,fun v H1 bq e1 en S1 f1=>⟨bq,S1,fun vs H2 bQ e2 hW S2 f2=>?_⟩⟩;exact k _ H2 bQ (e1.trans e2) (en.trans hW) S2 (.v (cA hW _ _ f1) f2)
  |own t =>
   have h:(n Γ1).map (fun q=>(Ag.v t::q.1,q.2))=some (ags,Γ'):=h
   cases h2:n Γ1 with
   |none=>rw [h2]at h;cases h
   |some q =>
    rw [h2]at h
    cases h
    refine(gL (ha _ _ _ h1) (hr _ _ _ h2) hs).imp fun σ H Q ⟨Hs,S,k⟩=>⟨Hs,S,fun v H1 bq e1 en S1 f1=>?_⟩;obtain⟨PV,g,WC,tr⟩:=S1.dH f1;refine⟨PV,WC,fun vs H2 bQ e2 hW S2 f2=>?_⟩;exact k _ H2 bQ (e1.trans e2) (en.trans (g.trans hW)) S2 (.v (cA hW _ _ tr) f2)
def AY(np:Nat)(cf:CF)(n:ML):MS:=fun Γ=>(n Γ).bind fun p=>if p.1.length=np/\N6 p.1=true then match cf (p.1.map (L6 p.2))with
 |some (_,Γ2)=>some (.nx (lG p.1 (Γ2.take np) 0 p.2))
 |none=>none else none
theorem Jb{k np:Nat}{f:Addr}{fd:FuncData}{ps:List Str}{cf:CF}{x:Str}{p pos':Pos}{n:ML}(F:bP X.prog X.w X.K X.mg X.base hV k f fd ps (hZ (kc X P) np cf))(hr:dr k X.A)(hg:Gl X x)(hm:X.mg x=some (.ref f))(hk:keepIn X.K (.ref f)=true)(hb:Binds X.K fd ps [])
  (ha:Ja X P (e::es) n) (sU:(x==("__debug__" : Str))=false:=by decide) (he:starEach (e::es) X.env=(false,eval e X.env)::starEach es X.env:=by rfl) (nt:(backTo pos (starEach es X.env)).any (·.1)=false:=by rfl)
  (hs:swapsWith (.Call (.Name x p) (e::es) [] pos) none pos'.line X.env=pure false:=by rfl):lI X P (.Expr (.Call (.Name x p) (e::es) [] pos) pos') (AY np cf n):=h7 fun Γ res h=>by
 unfold AY at h
 cases h1:n Γ with
 |none=>rw [h1]at h;cases h
 |some q =>
  rw [h1]at h;obtain⟨ags,Γ1⟩:=q;dsimp only [Option.bind]at h;split at h
  ·rename_i hl;split at h
   ·rename_i r Γ2 hc
    cases h
    refine(DD (r8 (dvs:=[]) (E:=E0) F hr hg hm hk hb .nil wG (ha _ _ _ h1) sU he nt) hs).imp fun D σ H ⟨Hs,S,kk⟩=>⟨Hs,S,fun vs H1 bq e1 en S1 f1=>?_⟩;show hZ (kc X P) np cf (vs++[]) H1 _ E0;rw [append_nil];refine⟨by rw [f1.length,hl.1],ags.map (L6 Γ1),r,Γ2,bq,gD ags Γ1 σ H1,hc,xf S1 hl.2 f1,fun v H2 bQ e2 S2 f2=>?_⟩;exact kk σ H2 bQ (en.trans e2) (S1.CS f1 e2 S2)
   ·cases h
  ·cases h
end
theorem AZ:typeLookup (.type "list") "keys" = pure none:=by rw [typeLookup_type,builtinLookup_eq_fast];kernel_rfl
theorem uq:typeLookup (.type "list") "__getattr__" = pure none:=by rw [typeLookup_type,builtinLookup_eq_fast];kernel_rfl
section
variable {prog:Program}{w:World}{A:Around}{E:Value->Shared->Prop}
theorem L7{a:Addr}{o:Obj}{bo:Array Value}{n:Nat}{u:Tok}{hp:Heap}{g:Array GenState}{d:Drawn}{tk:Nat}{os:OsState}{Q:Fin->Shared->Prop}(hh:A.handled=none)(hx:hp.get? a=some o)(hc:o.cls=.type "list")(N7:o.dict=none)(N8:o.data=.seq bo n)
  (h:∀h' tk e,Heap.NewAttrErr hp h' e (.ref a) "keys" -> E (.ref e) ⟨h',g,d,tk,os⟩):wpAny (model prog w) A (Builtin.«object.__getattribute__» ⟨[.ref a,.str "keys" u],[]⟩) Q E ⟨hp,g,d,tk,os⟩:=by
 obtain⟨c,dd,da,sl⟩:=o;dsimp only at hc N7 N8;subst hc N7 N8;have hT:(⟨hp,g,d,tk,os⟩:Shared).TypeIs (.ref a) "list" := ⟨_,hx,rfl⟩;have hm:=AZ;unfold Builtin.«object.__getattribute__»
 repeat (any_goals (first|assumption|wp_step))
 exact wpAny_raiseAttrError hh h (attrMsg_fits (by decide +kernel) (by size_fits))
end
section
variable {prog:Program}{w:World}{A:Around}{E:Value->Shared->Prop}{a:Addr}{o:Obj}{bo:Array Value}{n:Nat}{hp:Heap}{g:Array GenState}{d:Drawn}{tk:Nat}{os:OsState}
theorem FQ{u:Tok}{R:Result->Shared->Prop}(hh:A.handled=none)(hx:hp.get? a=some o)(hc:o.cls=.type "list")(N7:o.dict=none)(N8:o.data=.seq bo n)
  (h:∀h' tk e,Heap.NewAttrErr hp h' e (.ref a) "keys" -> R (.error (.ref e)) ⟨h',g,d,tk,os⟩) :
  codeAny (model prog w) A (.call (.builtin "list.__getattribute__") ⟨[.ref a,.str "keys" u],[]⟩) R ⟨hp,g,d,tk,os⟩ :=
 codeAny_call_builtin PySem.F.slot_list_getattribute.plain PySem.F.entry_list_ga (PySem.F.slot_list_getattribute.check _ _ _ _ _ _ _ _ (show(⟨hp,g,d,tk,os⟩:Shared).TypeIs (.ref a) "list" from⟨_,hx,hc⟩) (PySem.F.args_list_getattribute_2 _ _) (L7 hh hx hc N7 N8 h))
theorem L8{u:Tok}{Q:Value->Shared->Prop}(hh:A.handled=none)(hx:hp.get? a=some o)(hc:o.cls=.type "list")(N7:o.dict=none)(N8:o.data=.seq bo n)
  (h:∀h' tk e,Heap.NewAttrErr hp h' e (.ref a) "keys" -> E (.ref e) ⟨h',g,d,tk,os⟩):wpAny (model prog w) A (getAttrBy (.ref a) (.str "keys" u) false) Q E ⟨hp,g,d,tk,os⟩:=by
 have hT:(⟨hp,g,d,tk,os⟩:Shared).TypeIs (.ref a) "list" := ⟨_,hx,hc⟩;have f1:=sub_AttributeError;have f2:=PySem.F.slot_list_getattribute.lookup;have f3:=PySem.F.slot_list_getattribute.bind (.ref a);have f5:=uq
 repeat (any_goals (first|assumption|wp_step))
 refine FQ hh hx hc N7 N8 fun h' RG e he=>?_;obtain⟨t',u',hy⟩:=he.there;have hx':h'.get? a=some o:=he.keeps _ _ hx;have hT':(⟨h',g,d,RG,os⟩:Shared).TypeIs (.ref a) "list" := ⟨_,hx',hc⟩
 repeat (any_goals (first|assumption|wp_step))
 exact h _ _ _ he
theorem FR{Q:Option Value->Shared->Prop}(hh:A.handled=none)(hx:hp.get? a=some o)(hc:o.cls=.type "list")(N7:o.dict=none)(N8:o.data=.seq bo n)
  (h:∀h' tk,(∀b o,hp.get? b=some o->h'.get? b=some o)->Q none ⟨h',g,d,tk,os⟩):wpAny (model prog w) A (getAttr? (.ref a) "keys") Q E ⟨hp,g,d,tk,os⟩:=by
 unfold getAttr? getAttrBy?;refine wpAny_bind (wpAny_mkText ?_);refine wpAny_bind (wpAny_attempt (L8 hh hx hc N7 N8 fun h' RG e he=>?_));obtain⟨t',u',hy⟩:=he.there;refine wpAny_bind (wpAny_isInstance (T := "AttributeError") (b:=true) ⟨_,hy,rfl⟩ sub_AttributeError ?_);exact wpAny_pure (h _ _ he.keeps)
end
theorem xg:entryFor table "dict.update.loop" = some Builtin.«dict.update.loop»:=entryFor_of_tree (by kernel_rfl)
theorem nL:plainId "dict.update.loop" = true:=by decide +kernel
def p7(kvs:List (Key×V))(ps:List (Int×Int)):List (Key×V):=ps.foldl (fun acc p=>putK acc (.inl p.1) (.int p.2)) kvs
theorem Jc(kvs:List (Key×V))(k:Key)(v:V):(putK kvs k v).length<=kvs.length+1:=by
 unfold putK;split<;>simp
def TupAt(h:Heap)(v:Value)(p:Int×Int):Prop:=∃a o n t u,v=.ref a/\h.get? a=some o/\o.cls=.type "tuple" /\ o.data=.seq #[.int p.1 t,.int p.2 u] n
section
variable {prog:Program}{w:World}{A:Around}{R:Result->Shared->Prop}{D I l:Addr}{items:Array Value}{ps:List (Int×Int)}
theorem pair_items{E:Value->Shared->Prop}{s:Shared}{v:Value}{p:Int×Int}{Q:List Value->Shared->Prop}(h:TupAt s.heap v p)(q:∀t u,Q [.int p.1 t,.int p.2 u] s):wpAny (model prog w) A (Builtin.Dict.pairItems v) Q E s:=by
 obtain⟨a,o,n,t,u,rfl,ho,hc,hd⟩:=h;unfold Builtin.Dict.pairItems;refine wpAny_bind (wpAny_typeOf (T := "tuple") ⟨_,ho,hc⟩ ?_);rw [if_pos (by decide)];refine wpAny_bind (wpAny_seqItems ho hd ?_);exact wpAny_pure (q t u)
theorem FT(hh:A.handled=none)(Xt:D≠I)(nDl:D≠l)(nlI:l≠I)(hlen:items.size=ps.length)(hsz:ps.length<=1000):∀(k i:Nat)(s:Shared)(kvs:List (Key×V))(vs:List (Key×Value)),ps.length-i=k->i<=ps.length->s.heap.IsListIter I l i->s.heap.IsList l items ->
  (∀(j:Nat)(v:Value)(p:Int×Int),items[j]?=some v->ps[j]?=some p->TupAt s.heap v p/\v ≠ .ref D/\v ≠ .ref I)->s.heap.DictOf (bN prog w) D vs->KV kvs vs->kvs.length<=i ->
  (∀h' tk RL,(∀b o,b≠D->b≠I->s.heap.get? b=some o->h'.get? b=some o)->h'.DictOf (bN prog w) D RL->KV (p7 kvs (ps.drop i)) RL->R (.ok (.ret .none)) {s with heap:=h',toks:=tk}) ->
  codeAny (model prog w) A (.builtin "dict.update.loop" ⟨[.ref D,.ref I,rawInt i,.none],[]⟩) R s:=by
 intro k
 induction k with
 |zero =>
  intro i s kvs vs hk hi hit hl ht hd kv hle hR;have e:i=ps.length:=by omega
  refine codeAny_builtin xg ?_;rw [Around.under_plainId nL _];show wpAny _ A.in1 (pyNext (.ref I) >>= _) _ _ s;refine wpAny_bind (wpAny_pyNext_list_end hh hit hl (Array.getElem?_eq_none (by omega)) fun h' hx=>?_);show wpAny _ A.in1 (Builtin.Dict.addKeywords D [] >>= _) _ _ _;refine wpAny_bind (wpAny_of_eq (a:=()) rfl ?_);refine wpAny_pure (hR h' s.toks vs (fun b o _ hb e=>hx b o hb e) ?_ ?_)
  ·obtain⟨o,es,ep,h1,h2,h3,h4,h5,h6⟩:=hd;exact⟨o,es,ep,hx D o Xt h1,h2,h3,h4,h5,h6⟩
  ·rw [e,drop_length];exact kv
 |succ k ih =>
  intro i s kvs vs hk hi hit hl ht hd kv hle hR;have Kb:i<ps.length:=by omega
  have hx:items[i]?=some items[i]:=by simp [hlen,Kb]
  have hp:ps[i]?=some ps[i]:=getElem?_eq_getElem Kb;refine codeAny_builtin xg ?_;rw [Around.under_plainId nL _];show wpAny _ A.in1 (pyNext (.ref I) >>= _) _ _ s;refine wpAny_bind (wpAny_pyNext_list_item hit hl hx fun h1 Xu RH=>?_);have k1:∀b o,b≠I->s.heap.get? b=some o->h1.get? b=some o:=fun b o hb e=>RH.extBut b o hb e;have TH:∀(j:Nat)(v:Value)(p:Int×Int),items[j]?=some v->ps[j]?=some p->TupAt h1 v p/\v ≠ .ref D/\v ≠ .ref I:=fun j v p a b=>by
   obtain⟨⟨c,o,n,t,u,rfl,g1,g2,g3⟩,g4,g5⟩:=ht j v p a b;exact⟨⟨c,o,n,t,u,rfl,k1 c o (fun z=>g5 (by rw [z])) g1,g2,g3⟩,g4,g5⟩
  have CM:h1.DictOf (bN prog w) D vs:=by
   obtain⟨o,es,ep,a1,a2,a3,a4,a5,a6⟩:=hd;exact⟨o,es,ep,k1 D o Xt a1,a2,a3,a4,a5,a6⟩
  have vl:vs.length<=sizeLine:=by
   rw [<-kv.length];exact le_of_lt (aG (by omega))
  refine wpAny_bind (wpAny_holding (wpAny_bind (wpAny_tryCatch (pair_items (TH i _ _ hx hp).1 fun t u=>?_))));refine wpAny_holding (wpAny_dictSet_pairs (k:=.inl ps[i].1) (qX prog w _ _) CM (fun h2 hd2 LO=>?_) vl);have k2:∀b o,b≠D->h1.get? b=some o->h2.get? b=some o:=fun b o hb e=>LO.extBut b o hb e;refine wpAny_pure ⟨plainId_quiet nL _,?_⟩;refine ih (i+1) _ (putK kvs (.inl ps[i].1) (.int ps[i].2)) _ (by omega) Kb (Xu.at fun o e=>k2 I o Xt.symm e) ((hl.at fun o e=>k1 l o nlI e).at fun o e=>k2 l o nDl.symm e) (fun j v p a b=>?_) hd2 (kv.put _ ⟨_,rfl⟩) (by have:=Jc kvs (.inl ps[i].1) (.int ps[i].2);omega) fun h' tk RL kk dd kv'=>?_
  ·obtain⟨⟨c,o,n,t,u,rfl,g1,g2,g3⟩,g4,g5⟩:=TH j v p a b;exact⟨⟨c,o,n,t,u,rfl,k2 c o (fun z=>g4 (by rw [z])) g1,g2,g3⟩,g4,g5⟩
  ·refine hR h' tk RL (fun b o n1 n2 e=>kk b o n1 n2 (k2 b o n1 (k1 b o n2 e))) dd ?_;rw [drop_eq_getElem_cons Kb];exact kv'
end
section
variable {prog:Program}{w:World}{A:Around}{E:Value->Shared->Prop}{s:Shared}{l:Addr}{bo:Array Value}{n:Nat}{ol:Obj}{ps:List (Int×Int)}
theorem CT{Q:Value->Shared->Prop}(hh:A.handled=none)(hl:s.heap.get? l=some ol)(Xv:ol.cls=.type "list")(hld:ol.dict=none)(hls:ol.data=.seq bo n)(hlen:bo.size=ps.length)(hsz:ps.length<=1000)
  (ht:∀(j:Nat)(v:Value)(p:Int×Int),bo[j]?=some v->ps[j]?=some p->TupAt s.heap v p)
  (hQ:∀h' tk vs,(∀b o,s.heap.get? b=some o->h'.get? b=some o)->h'.DictOf (bN prog w) s.heap.objs.size vs->KV (p7 [] ps) vs->Q (.ref s.heap.objs.size) {s with heap:=h',toks:=tk}) :
  wpAny (model prog w) A (call (.type "dict") [.ref l]) Q E s:=by
 refine callType_codes (Q₁:=fun obj s₁=>obj=.ref s.heap.objs.size/\s₁={s with heap:=s.heap.push {cls:=.type "dict", data:=.dict #[]}}) PySem.F.kt_called_dict (PySem.F.kt_typeCall_dict_1 _) PySem.F.entry_dict_init (kt_code_dict_new _ ⟨rfl,rfl⟩) ?_;rintro obj s₁ ⟨rfl,rfl⟩;have L9:(s.heap.push {cls:=.type "dict", data:=.dict #[]}).DictOf (bN prog w) s.heap.objs.size []:=Heap.DictOf.new s.heap;have IU:(s.heap.push {cls:=.type "dict", data:=.dict #[]}).get? l=some ol:=Heap.get?_push_of_some _ hl;have ltl:l<s.heap.objs.size:=Heap.lt_size hl;refine⟨L9.typeIs,PySem.F.args_dict_init_2 _ _,?_⟩;unfold Builtin.«dict.__init__»;refine wpAny_bind ?_;unfold Builtin.Dict.selfAndRest;refine wpAny_bind (wpAny_notOrdered_dict L9.typeIs ?_);show wpAny _ _ (pure (s.heap.objs.size,[Value.ref l])) _ _ _;refine wpAny_pure ?_;show wpAny _ _ (Builtin.Dict.updateFrom "dict.__init__" s.heap.objs.size (.ref l) [] .none) _ _ _;unfold Builtin.Dict.updateFrom;refine wpAny_bind (wpAny_typeOf (T := "list") ⟨_,IU,Xv⟩ ?_);rw [if_pos (by decide)];obtain⟨hp,g,d,tk,os⟩:=s;refine wpAny_bind (FR hh IU Xv hld hls fun h1 tk1 k1=>?_);refine wpAny_ite_split (fun _=>?_) (fun z=>absurd rfl z);refine wpAny_bind (wpAny_rule ?_);have Ea:h1.IsList l bo:=⟨_,k1 _ _ IU,Xv,n,hls⟩;refine wpAny_bind (wpAny_pyIter_list Ea ?_);refine wpAny_pure ⟨plainId_quiet nL _,?_⟩;have Va:hp.objs.size<h1.objs.size:=by
  obtain⟨o,_,_,e,_⟩:=L9;exact Heap.lt_size (k1 _ _ e)
 have k2:∀b o,hp.get? b=some o->(h1.push {cls:=.type "list_iterator", data:=.fields #[.ref l,.int 0 0]}).get? b=some o:=fun b o e=>Heap.get?_push_of_some _ (k1 b o (Heap.get?_push_of_some _ e));refine FT (prog:=prog) (w:=w) (A:=A.in1) (D:=hp.objs.size) (I:=h1.objs.size) (l:=l) (items:=bo) (ps:=ps) hh (ne_of_lt Va) (ne_of_gt ltl) (ne_of_lt (lt_trans ltl Va)) hlen hsz ps.length 0 ⟨h1.push {cls:=.type "list_iterator", data:=.fields #[.ref l,.int 0 0]},g,d,tk1,os⟩ [] [] (by omega) (zero_le _) ⟨_,Heap.get?_push_size _ rfl,rfl,rfl⟩ (Ea.at fun o e=>Heap.get?_push_of_some _ e) (fun j v p a b=>?_) ?_ .nil (le_refl _) fun h' RG RL kk dd kv=>?_
 ·obtain⟨c,o,m,t,u,rfl,g1,g2,g3⟩:=ht j v p a b;have lc:c<hp.objs.size:=Heap.lt_size g1;refine⟨⟨c,o,m,t,u,rfl,k2 c o g1,g2,g3⟩,fun z=>?_,fun z=>?_⟩
  ·cases z
   exact lt_irrefl _ lc
  ·cases z
   exact lt_irrefl _ (lt_trans lc Va)
 ·obtain⟨o,es,ep,a1,a2⟩:=L9;exact⟨o,es,ep,Heap.get?_push_of_some _ (k1 _ _ a1),a2⟩
 ·refine⟨rfl,hQ h' RG RL (fun b o e=>kk b o (ne_of_lt (Heap.lt_size e)) (ne_of_lt (lt_trans (Heap.lt_size e) Va)) (k2 b o e)) dd ?_⟩;exact kv
end
def iQ(ps:List (Int×Int))(k v:Int):List (Int×Int):=if ps.any (fun p=>decide (p.1=k))=true then ps.map (fun p=>if p.1=k then(p.1,v)else p)else ps++[(k,v)]
def foldZ(ps:List (Int×Int)):List (Int×Int):=ps.foldl (fun acc p=>iQ acc p.1 p.2) []
def Kf(p:Int×Int):Key×V:=(.inl p.1,.int p.2)
theorem Qj(qs:List (Int×Int))(k v:Int):putK (qs.map Kf) (.inl k) (.int v)=(iQ qs k v).map Kf:=by
 unfold putK iQ;have e:((qs.map Kf).any fun kv=>decide (kv.1=Sum.inl k))=qs.any fun p=>decide (p.1=k):=by
  rw [any_map];congr 1;funext p;simp [Kf]
 rw [e];split
 ·rw [map_map,map_map];refine map_congr_left fun p _=>?_;simp only [Kf,Function.comp];by_cases z:p.1=k
  ·simp [z]
  ·simp [z]
 ·rw [map_append];rfl
theorem xh:∀(ps qs:List (Int×Int)),p7 (qs.map Kf) ps=(ps.foldl (fun acc p=>iQ acc p.1 p.2) qs).map Kf
 |[],qs=>rfl
 |p::ps,qs=>by
  show p7 (putK (qs.map Kf) (.inl p.1) (.int p.2)) ps=_;rw [Qj,xh ps];rfl
def jo:List T->Option (List (Int×Int))
 |[]=>some []
 |.tup [.int a,.int b]::r=>(jo r).map fun ps=>(a,b)::ps
 |_::_=>none
theorem oD(ps:List (Int×Int)):jo (ps.map aw)=some ps:=by
 induction ps with
 |nil=>rfl
 |cons p ps ih =>
  show(jo (ps.map aw)).map (fun q=>(p.1,p.2)::q)=_;rw [ih];rfl
theorem qM:∀{ts:List T}{ps:List (Int×Int)},jo ts=some ps->ts=ps.map aw
 |[],ps,h=>by
  cases h
  rfl
 |t::ts,ps,h=>by
  unfold jo at h;split at h
  ·rename_i e
   cases e
  ·rename_i a b r e
   cases e
   cases q:jo ts with
   |none=>rw [q]at h;cases h
   |some qs =>
    rw [q]at h
    cases h
    rw [qM q];rfl
  ·cases h
def ic:List T->Option R
 |[.lst ts]=>match jo ts with
  |some ps=>if ps.length<=1000 then some (.own (.eX ((foldZ ps).map fun p=>.inl p.1) ((foldZ ps).map fun p=>.int p.2)))else none
  |none=>none
 |_=>none
theorem CU{us:List T}{r:R}(h:ic us=some r):∃ps:List (Int×Int),us=[.lst (ps.map aw)]/\ps.length<=1000/\r=.own (.eX ((foldZ ps).map fun p=>.inl p.1) ((foldZ ps).map fun p=>.int p.2)):=by
 unfold ic at h;split at h
 ·rename_i ts;split at h
  ·rename_i ps hp;split at h
   ·rename_i hl
    cases h
    exact⟨ps,by rw [qM hp],hl,rfl⟩
   ·cases h
  ·cases h
 ·cases h
theorem Jd(ps:List (Int×Int))(k v:Int):(iQ ps k v).length<=ps.length+1:=by
 unfold iQ;split<;>simp
theorem lY:∀(ps qs:List (Int×Int)),(ps.foldl (fun acc p=>iQ acc p.1 p.2) qs).length<=qs.length+ps.length
 |[],qs=>by simp
 |p::ps,qs=>by
  have h:=lY ps (iQ qs p.1 p.2);have h2:=Jd qs p.1 p.2;rw [length_cons];show(ps.foldl _ (iQ qs p.1 p.2)).length<=_;omega
theorem xk(ps:List (Int×Int)):(foldZ ps).length<=ps.length:=by
 have h:=lY ps [];simpa [foldZ]using h
theorem Ma(qs:List (Int×Int)):(qs.map fun p=>(Sum.inl p.1:Key)).zip (qs.map fun p=>V.int p.2)=qs.map Kf:=by
 induction qs with
 |nil=>rfl
 |cons p qs ih =>
  rw [map_cons,map_cons,zip_cons_cons,ih];rfl
theorem FU{K:KC}{H:Hp}(qs:List (Int×Int)):fz K H (qs.map fun p=>V.int p.2) (qs.map fun p=>T.int p.2):=by
 induction qs with
 |nil=>exact bU
 |cons p qs ih=>exact bK (show Tr K H (.int p.2) (.int p.2) from rfl) ih
section
variable {X:Cx}{cl:Nat->Addr}
theorem A0(hc:X.calm=true):ro X cl (.type "dict") ic:=by
 intro pins s σ H vs us Q I r ⟨Hs,ts,res,sm,h1,hg,k⟩;obtain⟨ps,rfl,N9,rfl⟩:=CU hg;obtain⟨v,rfl,a,xs,rfl,sq,rs⟩:=i8 h1;obtain⟨u,rfl,ru⟩:=vals1 r
 cases(show u=Value.ref a from ru)
 obtain⟨bo,vv,⟨o,n,e1,e2,e3,e4⟩,hz⟩:=I.list sq;have hh:=I.ok.hd hc;have hlx:xs.length=ps.length:=by rw [aR rs,length_map]
 have hli:bo.toArray.size=ps.length:=by rw [size_toArray,<-vv.length,hlx]
 refine CT (ps:=ps) hh e1 e2 e3 e4 hli N9 (fun j u p hj hp=>?_) fun h' tk ws kp dd kv=>?_
 ·have ht:(ps.map aw)[j]?=some (aw p):=by rw [getElem?_map,hp];rfl
  obtain⟨x,hx,tx⟩:=ip rs ht;obtain⟨u',hu',Xl⟩:=vv.get hx;have hj:bo[j]?=some u:=by simpa using hj
  rw [hj]at hu'
  cases hu'
  obtain⟨b,ys,rfl,Te,rs2⟩:=tx
  cases(show u=Value.ref b from Xl)
  obtain⟨Cv,v2,⟨o2,g1,g2,m,g3⟩,_⟩:=I.tuple (pK sm Te);obtain⟨y1,r1,rfl,q1,y2,r2,rfl,q2,q3⟩:=rs2
  cases(show y1=V.int p.1 from q1)
  cases(show y2=V.int p.2 from q2)
  cases(show r2=[] from q3)
  cases v2 with
  |cons w1 v3 =>
  cases v3 with
  |cons w2 v4 =>
  cases v4
  obtain⟨t1,rfl⟩:=w1;obtain⟨t2,rfl⟩:=w2;exact⟨b,o2,m,t1,t2,rfl,g1,g2,g3⟩
 ·have ef:p7 [] ps=(foldZ ps).map Kf:=xh ps [];have hfl:=xk ps;rw [ef,<-Ma]at kv;refine⟨.ref s.heap.objs.size,_,I.laid (a:=s.heap.objs.size) (o:=.dK (((foldZ ps).map fun p=>(Sum.inl p.1:Key)).zip ((foldZ ps).map fun p=>V.int p.2))) (t':=tk) kp (le_refl _) ⟨?_,beq_eq_false_iff_ne.mpr (Ne.symm (ne_of_lt I.big)),ws,kv,dd⟩,rfl,k _ _ (.newD (I.dG.fresh (le_refl _)) (by rw [length_map,length_map]) (FU _))⟩;rw [length_zip,length_map,length_map];have:=aG N9;omega
end
def qN(n:Int)(ns:List Int):Int:=ns.foldl (fun a b=>if a<b then b else a) n
theorem Ep:∀(ns:List Int)(n:Int),n<=qN n ns/\∀a∈ns,a<=qN n ns
 |[],n=>⟨Int.le_refl _,fun a h=>nomatch h⟩
 |b::ns,n=>by
  have ih:=Ep ns (if n<b then b else n);have e:qN n (b::ns)=qN (if n<b then b else n) ns:=rfl;rw [e];by_cases h:n<b
  ·rw [if_pos h]at ih ⊢;exact⟨le_trans (Int.le_of_lt h) ih.1,fun a ha=>by
    rcases mem_cons.mp ha with rfl|ha
    ·exact ih.1
    ·exact ih.2 a ha⟩
  ·rw [if_neg h]at ih ⊢;exact⟨ih.1,fun a ha=>by
    rcases mem_cons.mp ha with rfl|ha
    ·exact le_trans (not_lt.mp h) ih.1
    ·exact ih.2 a ha⟩
theorem A1:∀(ns:List Int)(n:Int),qN n ns∈n::ns
 |[],n=>mem_cons_self
 |b::ns,n=>by
  have ih:=A1 ns (if n<b then b else n);have e:qN n (b::ns)=qN (if n<b then b else n) ns:=rfl;rw [e];rcases mem_cons.mp ih with h|h
  ·rw [h];by_cases z:n<b
   ·rw [if_pos z];exact mem_cons_of_mem _ mem_cons_self
   ·rw [if_neg z];exact mem_cons_self
  ·exact mem_cons_of_mem _ (mem_cons_of_mem _ h)
theorem Mb{n M:Int}{ns:List Int}(h1:M∈n::ns)(h2:∀a∈n::ns,a<=M):M=qN n ns:=by
 have g:=Ep ns n;refine Int.le_antisymm ?_ (h2 _ (A1 ns n));rcases mem_cons.mp h1 with rfl|h
 ·exact g.1
 ·exact g.2 M h
def xl:List T->Option R
 |[.lst ts]=>(intsOf ts).bind fun ns=>match ns with
  |n::ns=>some (.sh (.int (qN n ns)))
  |[]=>none
 |_=>none
theorem FV{us:List T}{r:R}(h:xl us=some r):∃n ns,us=[.lst ((n::ns).map T.int)]/\r=.sh (.int (qN n ns)):=by
 unfold xl at h;split at h
 ·rename_i ts
  cases e:intsOf ts with
  |none=>rw [e]at h;cases h
  |some ns =>
   rw [e]at h
   cases ns with
   |nil=>cases h
   |cons n ns =>
    cases h
    exact⟨n,ns,by rw [iD e],rfl⟩
 ·cases h
section
variable {X:Cx}{cl:Nat->Addr}
theorem Er(hc:X.calm=true):ro X cl (.builtin "max") xl:=by
 intro pins s σ H vs us Q I r ⟨Hs,ts,res,sm,h1,hg,k⟩;obtain⟨n,ns,rfl,rfl⟩:=FV hg;obtain⟨v,rfl,a,xs,rfl,sq,rs⟩:=i8 h1;obtain⟨u,rfl,ru⟩:=vals1 r
 cases(show u=Value.ref a from ru)
 have ex:=fK rs;subst ex;obtain⟨bo,vv,pl,_⟩:=I.list sq;have hI:IntsAre bo (n::ns):=intsAre_of vv;have hl:=pl.isList;obtain⟨ys,e⟩:=hI.allInts.items;have vp:n::ns=ys.toList.map (·.1):=by rw [<-hI.numsOf,<-nums_intItems,<-e]
 have hsz:0<ys.size:=by
  have z:ns.length+1=(ys.toList.map (·.1)).length:=congrArg List.length vp;rw [length_map]at z;have z2:ys.toList.length=ys.size:=length_toList;omega
 rw [e]at hl;refine max_intList (I.ok.hd hc) hl hsz fun v h' tk hv hk=>?_;obtain⟨t,rfl⟩:=intItems_at hv;obtain⟨g1,g2⟩:=argBest_gt (numAt ys) (ys.size-1);refine⟨.int _,H,I.kept (t':=tk) hk,⟨t,rfl⟩,?_⟩;have em:=Mb (n:=n) (ns:=ns) (M:=numAt ys (argBest (fun i j=>decide (numAt ys i>numAt ys j)) (ys.size-1))) ?_ ?_
 ·rw [em];exact k _ H (.val rfl)
 ·rw [vp,numAt_eq];exact getD_mem (by rw [length_map,length_toList];omega)
 ·intro c hcm;rw [vp]at hcm;obtain⟨j,hj,rfl⟩:=mem_getD hcm;rw [length_map,length_toList]at hj;rw [<-numAt_eq];exact g2 j (by omega)
end
end M
namespace L2
open PySem PySem.Spec PyProof.Rows
section
variable {X:Cx}{pins:List (Addr×Obj)}{σ:St}{H:Hp}{s:Shared}{a:Addr}{kvs:List (Key×V)}{k:Key}{u:Value}{A:Around}{E:Value->Shared->Prop}
theorem Qk{v:V}{r:Value}{Q:Value->Shared->Prop}(I:Inv X pins σ H s)(e:H a=some (.dK kvs))(ry:RelV (kV k) u)(rv:RelV v r)(hz:kvs.length<sizeLine)
  (h1:∀v' w' s',jJ kvs k=some v'->Inv X pins σ H s'->RelV v' w'->Q w' s') (h2:∀s',jJ kvs k=none->Inv X pins σ (upd H a (.dK (putK kvs k v))) s'->Q r s') :
  wpAny (model X.prog X.w) A (call (.builtin "dict.setdefault") [.ref a,u,r]) Q E s:=by
 obtain⟨z,hd,vs,rel,dd⟩:=NG I.dG e;refine call_meetsIn PySem.F.slot_dict_setdefault dd.typeIs PySem.F.entry_dict_setdefault (PySem.F.args_dict_setdefault_3 _ _ _) (kt_meets_setdefault (bN X.prog X.w) a (Hc ry) hd r)
  ⟨vs,dd,by rw [<-rel.length];exact z,fun w' hw=>?_,fun hn h' Pn hs=>?_⟩
 ·cases hv:jJ kvs k with
  |none =>
   have:=lP.none_of (o:=valueAt vs k) (by rw [<-hv];exact rel.val k);rw [this]at hw
   cases hw
  |some v' =>
   obtain⟨w2,Qe,rw2⟩:=lP.some_of (v:=v') (o:=valueAt vs k) (by rw [<-hv];exact rel.val k);rw [hw]at Qe
   cases Qe
   exact h1 v' w' _ hv (I.tok _) rw2
 ·cases hv:jJ kvs k with
  |some v' =>
   obtain⟨w2,Qe,_⟩:=lP.some_of (v:=v') (o:=valueAt vs k) (by rw [<-hv];exact rel.val k);rw [hn]at Qe
   cases Qe
  |none =>
   have he:∃q,h'.get? a=some q:=let⟨q,_,_,hq,_⟩:=Pn;⟨q,hq⟩
   have hl:(putK kvs k v).length<=sizeLine:=by have:=lR kvs k v;omega
   exact h2 _ hv (xN I (by rw [e];exact True.intro) hs he (Hf hl hd (rel.put k rv) Pn))
end
def Ql(td ty tx:TE):TE:=fun σ H Q=>td σ H fun x H1=>∃a,x=.ref a/\IsD H1 a/\ty σ H1 fun y H2=>tx σ H2 fun z H3=>∃kvs k,H3 a=some (.dK kvs)/\y=kV k/\kvs.length<sizeLine /\
 (∀v,jJ kvs k=some v->Q v H3)/\(jJ kvs k=none->Q z (upd H3 a (.dK (putK kvs k z))))
section
variable {X:Cx}{o e f:Expr}{apos gY:Pos}{td ty tx:TE}
theorem Je(ho:PE X o td)(he:PE X e ty)(hf:PE X f tx)(m:M2 X o "setdefault" apos e f gY):PE X (.Call (.Attribute o "setdefault" apos) [e,f] [] gY) (Ql td ty tx):=by
 intro pins s σ H Q I h;refine wpAny_Call_method m.base m.NI m.line PySem.F.plainAttrs_dict PySem.F.slot_dict_setdefault PySem.F.type_dict_setdefault (eC (ho pins s σ H _ I h) fun u s1 ⟨x,H1,I1,rx,a,ex,d,q1⟩=>?_);subst ex;obtain rfl:u=Value.ref a:=rx;obtain⟨t1,t2,_⟩:=Pt I1 d;refine⟨t1,t2,?_⟩;rw [m.trees];refine Calls.callWith_builtin rfl (Calls.evalArgs_plain (Calls.spliced_cons (eC (he pins s1 σ H1 _ I1 q1) fun iv s2 ⟨y,H2,I2,ry,q2⟩ =>
  Calls.spliced_cons (eC (hf pins s2 σ H2 _ I2 q2) fun fv s3 ⟨z,H3,I3,rz,kvs,k,ea,ey,hz,q3,q4⟩=>Calls.spliced_nil ?_))))
 subst ey;exact Qk I3 ea ry rz hz (fun v' w' s' hv I4 Ph=>⟨v',H3,I4,Ph,q3 v' hv⟩) fun s' hv I4=>⟨z,_,I4,rz,q4 hv⟩
end
end L2
namespace M
open PySem PySem.Spec PyProof.Rows L2
def Es{α:Type}:List Key->List α->Key->Option α
 |k'::ks,t::ts,k=>if k'=k then some t else Es ks ts k
 |_,_,_=>none
theorem ur(k:Key):∀{ks:List Key}{xs:List V},jJ (ks.zip xs) k=Es ks xs k
 |[],xs=>by cases xs<;>rfl
 |a::ks,[]=>rfl
 |a::ks,x::xs=>by
  have ih:=ur k (ks:=ks) (xs:=xs);unfold jJ at ih ⊢;show(((a,x)::ks.zip xs).find? fun kv=>decide (kv.1=k)).map (·.2)=if a=k then some x else Es ks xs k
  by_cases e:a=k
  ·rw [if_pos e,List.find?_cons_of_pos (by simpa using e)];rfl
  ·rw [if_neg e,List.find?_cons_of_neg (by simpa using e)];exact ih
theorem yz{K:KC}{H:Hp}(k:Key):∀{ks:List Key}{xs:List V}{ts:List T},fz K H xs ts->(Es ks xs k=none/\Es ks ts k=none)\/∃v t,Es ks xs k=some v/\Es ks ts k=some t/\Tr K H v t
 |[],xs,ts,_=>.inl ⟨rfl,rfl⟩
 |a::ks,xs,[],h=>by
  cases(show xs=[] from h)
  exact .inl ⟨rfl,rfl⟩
 |a::ks,xs,t::ts,h=>by
  obtain⟨v,vs,rfl,hv,hr⟩:=h;show((if a=k then some v else Es ks vs k)=none/\(if a=k then some t else Es ks ts k)=none)\/∃v' t',(if a=k then some v else Es ks vs k)=some v'/\(if a=k then some t else Es ks ts k)=some t'/\Tr K H v' t';by_cases e:a=k
  ·rw [if_pos e,if_pos e];exact .inr ⟨v,t,rfl,rfl,hv⟩
  ·rw [if_neg e,if_neg e];exact yz k hr
def RM(i:Nat)(k:Key)(n:Int)(ks:List Key)(ts:List T)(Γ:G):Option (Int×G):=match Es ks ts k with
 |some (.int o)=>some (o,Γ)
 |some _=>none
 |none=>some (n,Γ.set i (.own (.eX (Io ks k) (Eb ks ts k (.int n)))))
def A2(r:R):Option (Key×Unit):=(keyOf r.tree).map fun k=>(k,())
def uu(r:R):Option (Int×Unit):=match r.tree with
 |.int n=>some (n,())
 |_=>none
def uv:Option Slot->Option (List Key×List T)
 |some (.own (.eX ks ts))=>some (ks,ts)
 |_=>none
def xm(i:Nat)(mk mv me:MX)(mt mf:MS):MS:=fun Γ=>(uv Γ[i]?).bind fun _=>(mk Γ).bind fun p=>(mv p.2).bind fun q=>(A2 p.1).bind fun k=>(uu q.1).bind fun n=>(uv q.2[i]?).bind fun d =>
 if d.1.length<sizeLine then(RM i k.1 n.1 d.1 d.2 q.2).bind fun o=>(me o.2).bind fun z=>(uu z.1).bind fun b=>if o.1=b.1 then mf z.2 else mt z.2 else none
theorem FW{r:R}{k:Key}{u:Unit}(h:A2 r=some (k,u)):keyOf r.tree=some k:=by
 obtain⟨k',e,h⟩:=SU h
 cases h
 exact e
theorem xn{r:R}{n:Int}{u:Unit}(h:uu r=some (n,u)):r.tree=.int n:=by
 unfold uu at h
 cases e:r.tree with
 |int m=>rw [e]at h;cases h;rfl
 |_=>rw [e]at h;cases h
theorem xo{o:Option Slot}{ks:List Key}{ts:List T}(h:uv o=some (ks,ts)):o=some (.own (.eX ks ts)):=by
 unfold uv at h;split at h
 ·cases h;rfl
 ·cases h
section
variable {X:Cx}{P:Fx}{o ke ve e2:Expr}{apos gY pos pos':Pos}
theorem Jf{i:Nat}{mk mv me:MX}{mt mf:MS}{x y:List Stmt}(ho:PE X o (ER i))(hk:bj X P ke mk)(hv:bj X P ve mv)(he:bj X P e2 me)(ha:iM X P x mt)(hb:iM X P y mf)(m:M2 X o "setdefault" apos ke ve gY)(hm:behindInMarks .NotEq e2=false):
  lI X P (.If (.Compare (.Call (.Attribute o "setdefault" apos) [ke,ve] [] gY) [.NotEq] [e2] pos) x y pos') (xm i mk mv me mt mf):=h7 fun Γ res h=>by
 obtain⟨ks0,ts0,h0,h⟩:=fV h;obtain⟨r1,Γ1,h1,h⟩:=fV h;obtain⟨r2,Γ2,h2,h⟩:=fV h;obtain⟨k,_,RC,h⟩:=fV h;obtain⟨n,_,hn,h⟩:=fV h;obtain⟨ks,ts,hi,h⟩:=fV h;dsimp only at RC hn hi h;have RC:=FW RC;have hn:=xn hn;have hi:=xo hi;have h0:=xo h0;by_cases hl:ks.length<sizeLine
 ·rw [if_pos hl]at h;obtain⟨old,Γ3,hs,h⟩:=fV h;obtain⟨r3,Γ4,h3,h⟩:=fV h;obtain⟨b,_,Vb,h⟩:=fV h;dsimp only at h3 Vb h;have Vb:=xn Vb;have AB:∃tA tB,vi X x tA/\vi X y tB/\∀D σ H,NR (kc X P) P Γ4 res D σ H->(if(!decide (V.int old=V.int b))=true then tA D σ H else tB D σ H):=by
   by_cases e:old=b
   ·rw [if_pos e]at h;refine⟨_,_,jI,hb.at h,fun D σ H q=>?_⟩;rw [if_neg (by rw [e];simp)];exact q
   ·rw [if_neg e]at h;refine⟨_,_,ha.at h,jI,fun D σ H q=>?_⟩;rw [if_pos (by simpa using e)];exact q
  obtain⟨tA,tB,pA,pB,ab⟩:=AB;refine(GS (DH Nz (Je ho (hk _ _ _ h1) (hv _ _ _ h2) m) (he _ _ _ h3) hm) pA pB).imp fun D σ H ⟨Hs,S,kk⟩=>?_;have fin:∀(H3 jH:Hp),aA Hs jH->aF (kc X P) P Γ3 σ H3 jH->NQ (kc X P) P Γ3 r3 Γ4 σ H3 fun y H2=>rNe (.int old) y H2 fun x H'=>∃k,x=.bl k/\(if k=true then tA D σ H' else tB D σ H'):=fun H3 jH e3 S3 =>
   ⟨jH,S3,fun w H4 Ii e4 NX S4 f4=>by
    have ew:=S4.DR f4;rw [Vb]at ew
    cases(show w=V.int b from ew)
    exact⟨rfl,_,rfl,ab D σ H4 ⟨Ii,S4,fun σ' H' bu e'=>kk σ' H' bu (e3.trans (NX.trans e'))⟩⟩⟩
  obtain⟨a,Tt,_,q0⟩:=S.own i _ h0;obtain⟨_,xs0,WI,_,_⟩:=q0;refine⟨_,Tt,a,rfl,.inl ⟨_,.inl WI⟩,Hs,S,fun y H2 bQ e2 hW S2 f2=>⟨bQ,S2,fun z H3 jH e3 Cp S3 f3=>?_⟩⟩;have ey:=Az RC (S2.DR f2);have ez:=S3.DR f3;rw [hn]at ez
  cases(show z=V.int n from ez)
  obtain⟨a',hb',_,q3⟩:=S3.own i _ hi;rw [Tt]at hb'
  cases hb'
  obtain⟨nf,xs,hx,lx,rx⟩:=q3;have hz:(ks.zip xs).length<sizeLine:=by
   rw [length_zip];omega
  refine⟨_,k,hx,ey,hz,fun v hv=>?_,fun hv=>?_⟩
  ·rw [ur]at hv;rcases yz k (ks:=ks) rx with⟨w1,_⟩|⟨v',t,w1,w2,tr⟩
   ·rw [w1]at hv;cases hv
   ·rw [w1]at hv
    cases hv
    unfold RM at hs;rw [w2]at hs
    cases t with
    |int oo =>
     cases hs
     cases(show v=V.int old from tr)
     exact fin H3 jH (hW.trans Cp) S3
    |_=>cases hs
  ·rw [ur]at hv;rcases yz k (ks:=ks) rx with⟨w1,w2⟩|⟨v',t,w1,w2,tr⟩
   ·unfold RM at hs;rw [w2]at hs
    cases hs
    rw [Ay lx];exact fin _ jH (hW.trans Cp) (S3.rewrite hi Tt ⟨nf,_,bB,tZ lx k _,Ee rx (show Tr (kc X P) jH (V.int n) (.int n) from rfl) k⟩)
   ·rw [w1]at hv;cases hv
 ·rw [if_neg hl]at h
  cases h
end
section
variable {X:Cx}{cl:Nat->Addr}
end
def Et:T->Bool
 |.tup ts=>ts.all sQ
 |t=>sQ t
def uw:R->Bool
 |.sh t=>sQ t
 |.own (.lst ts)=>ts.all Et
 |_=>false
def LD(H:Hp)(a:Addr):Prop:=(∃xs,Rd H a (.lst xs))\/∃kvs,H a=some (.dK kvs)
def TpO(o:HO):Prop:=(∃xs,o=.tup xs)\/∃o' xs,o=.GI o' (.tup xs)
open Classical in
def ij(H Hs:Hp)(vs:List V):Hp:=fun a=>if V.ref a∈vs/\LD H a then H a else Hs a
open Classical in
def ik(H Hs bQ:Hp):Hp:=fun a=>if H a=none/\∃o,bQ a=some o/\TpO o then bQ a else Hs a
section
variable {K:KC}{P:Fx}{Γ Γ' Γ2:G}{σ σ2:St}{H H' Hs bu:Hp}{vs:List V}
theorem jT(s:aA Hs H):aA Hs (ij H Hs vs):=fun a o h=>by
 unfold ij;split
 ·exact s a o h
 ·exact h
theorem A3(s:aA Hs H):aA (ij H Hs vs) H:=fun a o h=>by
 unfold ij at h;split at h
 ·exact h
 ·exact s a o h
theorem Eu{a:Addr}(m:V.ref a∈vs)(l:LD H a):ij H Hs vs a=H a:=if_pos ⟨m,l⟩
theorem vw.view(s:aA Hs H){v:V}{t:T}(m:v∈vs)(h:vw K H Hs v t):Tr K (ij H Hs vs) v t:=by
 cases t with
 |lst ts =>
  obtain⟨a,xs,rfl,sq,rs⟩:=h;refine⟨a,xs,rfl,?_,cj (jT s) _ _ rs⟩;rcases sq with sq|sq
  ·refine .inl ?_;unfold Rd;rw [Eu m (.inl ⟨xs,sq⟩)];exact sq
  ·exact .inr sq
 |eX ks ts =>
  obtain⟨a,xs,rfl,e,l,rs⟩:=h;exact⟨a,xs,rfl,by rw [Eu m (.inr ⟨_,e⟩)];exact e,l,cj (jT s) _ _ rs⟩
 |cg=>exact h
 |bl b=>exact h
 |int i=>exact h
 |str x=>exact h
 |tup ts=>exact cA (jT s) _ _ h
 |obj c=>exact cA (jT s) _ _ h
theorem nX.view(s:aA Hs H){ws:List V}{ts:List T}(h:nX K H Hs ws ts)(m:∀v∈ws,v∈vs):fz K (ij H Hs vs) ws ts:=by
 induction h with
 |nil=>exact bU
 |cons h r ih=>exact bK (h.view s (m _ mem_cons_self)) (ih fun v hv=>m v (mem_cons_of_mem _ hv))
theorem aF.more{P2:Fx}{Γ2:G}{σ2:St}{H1 H2 bq bQ:Hp}(S1:aF K P Γ σ H1 bq)(S2:aF K P2 Γ2 σ2 H2 bQ)(e0:P2.H0=H1):aF K P Γ σ H2 (ik H1 bq bQ):=by
 have k2:aA H1 H2:=e0▸S2.kept;refine(S1.grow k2).share (fun a o h=>?_) (fun a o h=>?_) (fun a o h=>?_) fun i t a h1 h2=>?_
 ·unfold ik;rw [if_neg (fun z=>by rw [S1.sub a o h]at z;cases z.1)];exact h
 ·unfold ik at h;split at h
  ·exact S2.sub a o h
  ·exact k2 a o (S1.sub a o h)
 ·unfold ik at h;split at h
  ·rename_i z;exact .inr (S1.kept.free z.1)
  ·exact S1.new a o h
 ·obtain⟨b,q1,q2,q3⟩:=S1.own i t h1;rw [h2]at q1
  cases q1
  unfold ik;have ne:¬H1 a=none:=fun z=>by
   cases t with
   |lst ts=>obtain⟨_,xs,e,_⟩:=q3;rw [z]at e;cases e
   |eX ks ts=>obtain⟨_,xs,e,_⟩:=q3;rw [z]at e;cases e
   |_=>exact q3.elim
  rw [if_neg (fun z=>ne z.1)];exact q3.free
theorem Jg{vs:List V}{Γ2:G}{σ2:St}{H1 H2 bq bQ:Hp}{c:Nat->Addr}(S2:aF K ⟨H1,ij H1 bq vs,c,B3⟩ Γ2 σ2 H2 bQ){b:Addr}{ys:List V}(sq:vm K.f bQ b ys):vm K.f (ik H1 bq bQ) b ys:=by
 rcases sq with sq|sq
 ·have at_:∀o,bQ b=some o->TpO o->ik H1 bq bQ b=some o:=fun o e tp=>by
   by_cases z:H1 b=none
   ·unfold ik;rw [if_pos ⟨z,o,e,tp⟩,e]
   ·have w:=(S2.new b o e).resolve_right z;unfold ik;rw [if_neg (fun y=>z y.1)];have w:ij H1 bq vs b=some o:=w;unfold ij at w;split at w
    ·rename_i y;exfalso;rcases y.2 with⟨xs,r|⟨o',r⟩⟩|⟨kvs,r⟩
     all_goals
      rw [r]at w
      cases w
      rcases tp with⟨_,t⟩|⟨_,_,t⟩<;>cases t
    ·exact w
  refine .inl ?_;rcases sq with e|⟨o',e⟩
  ·exact .inl (at_ _ e (.inl ⟨_,rfl⟩))
  ·exact .inr ⟨o',at_ _ e (.inr ⟨_,_,rfl⟩)⟩
 ·exact .inr sq
theorem A4{vs:List V}{Γ2:G}{σ2:St}{H1 H2 bq bQ:Hp}{c:Nat->Addr}(S2:aF K ⟨H1,ij H1 bq vs,c,B3⟩ Γ2 σ2 H2 bQ):∀{ts:List T}{xs:List V},ts.all Et=true->fz K bQ xs ts->fz K (ik H1 bq bQ) xs ts
 |[],xs,_,q=>q
 |t::ts,xs,h,q=>by
  rw [all_cons,and_eq_true]at h;obtain⟨v,vs,rfl,q1,q2⟩:=q;refine⟨v,vs,rfl,?_,A4 S2 h.2 q2⟩
  cases t with
  |tup us =>
   obtain⟨b,ys,rfl,sq,rs⟩:=q1;exact⟨b,ys,rfl,Jg S2 sq,uo h.1 rs⟩
  |cg=>exact q1
  |bl b=>exact q1
  |int i=>exact q1
  |str x=>exact q1
  |lst us=>cases h.1
  |eX ks us=>cases h.1
  |obj c=>cases h.1
theorem gZ.more{vs:List V}{Γ2:G}{σ2:St}{H1 H2 bq bQ:Hp}{c:Nat->Addr}{v:V}{r:R}(S1:aF K P Γ σ H1 bq)(S2:aF K ⟨H1,ij H1 bq vs,c,B3⟩ Γ2 σ2 H2 bQ)(hr:uw r=true)(f:gZ K ⟨H1,ij H1 bq vs,c,B3⟩ Γ2 σ2 H2 bQ v r):gZ K P Γ σ H2 (ik H1 bq bQ) v r:=by
 cases r with
 |sh t=>exact sJ hr f
 |own t =>
  cases t with
  |lst ts =>
   obtain⟨a,rfl,n,⟨fr,xs,hx,rs⟩,_⟩:=f;have n:H1 a=none:=n;refine⟨a,rfl,S1.kept.free n,⟨?_,xs,hx,A4 S2 hr rs⟩,S1.j1 n⟩;unfold ik;rw [if_neg (fun z=>by obtain⟨_,o,e,_⟩:=z;rw [fr]at e;cases e)];exact S1.sub.free n
  |_=>cases hr
 |bor i t=>cases hr
def ie(np:Nat)(cf:CF)(n:MA):MX:=fun Γ=>(n Γ).bind fun p=>if p.1.length=np then match cf (p.1.map Slot.sh)with
 |some (r,_)=>if uw r=true then some (r,p.2)else none
 |none=>none else none
theorem CV{np:Nat}{cf:CF}{n:MA}{r:R}(h:ie np cf n Γ=some (r,Γ')):∃ts Γ2,n Γ=some (ts,Γ')/\ts.length=np/\cf (ts.map Slot.sh)=some (r,Γ2)/\uw r=true:=by
 unfold ie at h
 cases h1:n Γ with
 |none=>rw [h1]at h;cases h
 |some p =>
  rw [h1]at h;obtain⟨ts,Γ1⟩:=p;dsimp only [Option.bind]at h;split at h
  ·rename_i hl;split at h
   ·rename_i r' Γ2 q;split at h
    ·rename_i hb
     cases h
     exact⟨ts,Γ2,rfl,hl,q,hb⟩
    ·cases h
   ·cases h
  ·cases h
end
section
variable {X:Cx}{P:Fx}{e o:Expr}{es:List Expr}{pos:Pos}
theorem qO{k np:Nat}{f:Addr}{fd:FuncData}{ps:List Str}{cf:CF}{x:Str}{p:Pos}{n:MA}(F:bP X.prog X.w X.K X.mg X.base hV k f fd ps (hZ (kc X P) np cf))(hr:dr k X.A)(hg:Gl X x)(hm:X.mg x=some (.ref f))(hk:keepIn X.K (.ref f)=true)(hb:Binds X.K fd ps [])
  (ha:tK X P (e::es) n) (sU:(x==("__debug__" : Str))=false:=by decide) (he:starEach (e::es) X.env=(false,eval e X.env)::starEach es X.env:=by rfl) (nt:(backTo pos (starEach es X.env)).any (·.1)=false:=by rfl) :
  bj X P (.Call (.Name x p) (e::es) [] pos) (ie np cf n):=fun Γ r Γ' h=>by
 obtain⟨ts,Γ2,h1,hl,h2,Fs⟩:=CV h;refine(r8 (dvs:=[]) (E:=E0) F hr hg hm hk hb .nil wG (ha _ _ _ h1) sU he nt).imp fun σ H Q ⟨Hs,S,k⟩=>⟨Hs,S,fun vs H1 bq e1 en S1 f1=>?_⟩;show hZ (kc X P) np cf (vs++[]) H1 Q E0;rw [append_nil];have tr:=f1.view S1.sub (vs:=vs) fun v hv=>hv;refine⟨by rw [aR tr,hl],ts.map Slot.sh,r,Γ2,ij H1 bq vs,H1,h2,iC (A3 S1.sub) tr,fun v H2 bQ e2 S2 f2=>?_⟩;refine k v H2 (ik H1 bq bQ) (e1.trans S2.kept) (en.trans fun a o q=>?_) (S1.more S2 rfl) (gZ.more S1 S2 Fs f2);unfold ik;rw [if_neg (fun z=>by rw [S1.sub a o q]at z;cases z.1)];exact q
def fG(tb:Nat->Option (Nat×CF))(mo:MX)(ma:MA):MX:=fun Γ=>(mo Γ).bind fun p=>match p.1 with
 |.sh (.obj n)=>match tb n with
  |some (np,cf)=>(ma p.2).bind fun q=>if q.1.length+1=np then match cf (.sh (.obj n)::q.1.map Slot.sh)with
   |some (r,_)=>if uw r=true then some (r,q.2)else none
   |none=>none else none
  |none=>none
 |_=>none
theorem CW{tb:Nat->Option (Nat×CF)}{mo:MX}{ma:MA}{Γ Γ':G}{r:R}(h:fG tb mo ma Γ=some (r,Γ')):∃n Γ1 np cf ts Γ2,mo Γ=some (.sh (.obj n),Γ1)/\tb n=some (np,cf)/\ma Γ1=some (ts,Γ')/\ts.length+1=np/\cf (.sh (.obj n)::ts.map Slot.sh)=some (r,Γ2)/\uw r=true:=by
 unfold fG at h
 cases h1:mo Γ with
 |none=>rw [h1]at h;cases h
 |some p =>
  rw [h1]at h;obtain⟨r1,Γ1⟩:=p;dsimp only [Option.bind]at h;split at h
  ·rename_i n;split at h
   ·rename_i np cf ht
    cases h2:ma Γ1 with
    |none=>rw [h2]at h;cases h
    |some q =>
     rw [h2]at h;obtain⟨ts,Γ3⟩:=q;dsimp only at h;split at h
     ·rename_i hl;split at h
      ·rename_i r' Γ2 hc;split at h
       ·rename_i hb
        cases h
        exact⟨n,Γ1,np,cf,ts,Γ2,rfl,ht,h2,hl,hc,hb⟩
       ·cases h
      ·cases h
     ·cases h
   ·cases h
  ·cases h
theorem fN{m:Str}{apos:Pos}{tb:Nat->Option (Nat×CF)}{mo:MX}{ma:MA}{pl:Sem Bool}(Qm:∀n np cf,tb n=some (np,cf)->j8 X P.cl m n np cf)(ho:bj X P o mo)(ha:tK X P (e::es) ma)
  (B9:starEach (e::es) X.env=(false,eval e X.env)::starEach es X.env:=by rfl) (nt:(backTo pos (starEach es X.env)).any (·.1)=false:=by rfl)
  (ht:eval (.Call (.Attribute o m apos) (e::es) [] pos) X.env=(do
   let ov<-eval o X.env
   standAt apos.atName
   let(f,first)<-holding [ov] (getMethod ov m pl)
   callWith pos f first (backTo pos (starEach (e::es) X.env)) (backToKw pos (keywordEach [] X.env))):=by rfl) :
  bj X P (.Call (.Attribute o m apos) (e::es) [] pos) (fG tb mo ma):=fun Γ r Γ' h=>by
 obtain⟨n,Γ1,np,cf,ts,Γ2,h1,h2,h3,hl,hc,Fs⟩:=CW h;obtain⟨f,fd,ps,k,c,mm,F,hr,hb⟩:=Qm n np cf h2;refine(Ky (dvs:=[]) (E:=E0) (ho _ _ _ h1) c mm F hr hb .nil wG (ha _ _ _ h3) B9 nt ht).imp fun σ H Q ⟨Hs,S,k⟩=>⟨Hs,S,fun v H1 bq e1 en S1 f1=>?_⟩;obtain⟨a,dx,rfl,ea⟩:=f1;refine⟨a,dx,[],rfl,S1.sub _ _ ea,rfl,bq,S1,fun vs H2 bQ e2 hW S2 f2=>?_⟩;have tr0:=f2.view S2.sub (vs:=vs) fun v hv=>hv;have tr:fz (kc X P) (ij H2 bQ vs) (.ref a::vs) (.obj n::ts):=bK (v:=.ref a) (t:=.obj n) ⟨a,dx,rfl,jT S2.sub _ _ (hW _ _ ea)⟩ tr0;show hZ (kc X P) np cf (.ref a::(vs++[])) H2 Q E0;rw [append_nil];refine⟨by show vs.length+1=np;rw [aR tr0,hl],(T.obj n::ts).map Slot.sh,r,Γ2,ij H2 bQ vs,H2,hc,iC (A3 S2.sub) tr,fun w H3 jH e3 S3 f3=>?_⟩;refine k w H3 (ik H2 bQ jH) (e1.trans (e2.trans S3.kept)) (en.trans (hW.trans fun a o q=>?_)) (S2.more S3 rfl) (gZ.more S2 S3 Fs f3);unfold ik;rw [if_neg (fun z=>by rw [S2.sub a o q]at z;cases z.1)];exact q
end
def lZ:T->T->Option R:=fun t u=>match u with
 |.lst us=>if Ft t=true/\pQ us=true/\(toD t).depth<=60/\PyData.depthAll (cL us)<=60 then some (.sh (.bl (!us.any fun y=>eqT y t)))else none
 |_=>none
theorem CY{t u:T}{r:R}(h:lZ t u=some r):∃us,u=.lst us/\Ft t=true/\pQ us=true/\(toD t).depth<=60/\PyData.depthAll (cL us)<=60/\r=.sh (.bl (!us.any fun y=>eqT y t)):=by
 unfold lZ at h;split at h
 ·rename_i us;split at h
  ·rename_i c
   cases h
   exact⟨us,rfl,c.1,c.2.1,c.2.2.1,c.2.2.2,rfl⟩
  ·cases h
 ·cases h
theorem A5(t:T):∀us:List T,(cL us).any (fun y=>PyData.eqv y (toD t))=us.any fun y=>eqT y t
 |[]=>rfl
 |u::us=>by
  show(PyData.eqv (toD u) (toD t)||(cL us).any fun y=>PyData.eqv y (toD t))=(eqT u t||us.any fun y=>eqT y t);rw [A5 t us];rfl
section
variable {X:Cx}{cl:Nat->Addr}
theorem FX(hu:X.A.units+64<cLine):rn X cl (compareOp .NotIn) lZ:=by
 intro pins s σ H x y v u Q I rx ry ⟨Hs,t,w,r,sm,h1,h2,hg,k⟩;obtain⟨us,rfl,o1,o2,d1,d2,rfl⟩:=CY hg;obtain⟨as,q1⟩:=iO (cl:=cl) I t x v o1 (h1.tr sm) rx;obtain⟨bs,q2⟩:=iO (cl:=cl) I (.lst us) y u o2 (h2.tr sm) ry;refine PySem.SeqAt.notIn_list_reads (d:=toD t) (xs:=cL us) q2 q1 ?_ ?_ ?_ ?_
 ·have:=nA (.lst us) o2;exact this
 ·exact nA t o1
 ·omega
 ·rw [A5];exact⟨.bl (!us.any fun y=>eqT y t),H,I,rfl,k _ H (.val rfl)⟩
end
section
variable {prog:Program}{w:World}{A:Around}{E:Value->Shared->Prop}{s:Shared}
abbrev FY(h:Heap)(vs:List Value):Heap:=((h.push (seqObj "list" #[] 0)).update h.objs.size (Obj.mapSeq (·++vs.toArray))).push (seqObj "list" vs.toArray 0)
theorem rD{l:Addr}{vs:List Value}{Q:Value->Shared->Prop}(hl:s.heap.IsList l vs.toArray)(hs:vs.length<900)(C:List Value->Prop)
  (TJ:∀(P:PySem.Fin->Shared->Prop)(a:Addr),(FY s.heap vs).get? a=some (seqObj "list" vs.toArray 0)->(∀b o,s.heap.get? b=some o->(FY s.heap vs).get? b=some o)->(∀out:List Value,C out->P (.done (.ret .none)) {s with heap:=sortedHeap (FY s.heap vs) a vs out.toArray})->wpAny (model prog w) A.in1.in1 (Builtin.«list.sort» ⟨[.ref a],[]⟩) P E {s with heap:=FY s.heap vs})
  (h:∀(h':Heap)(a:Addr)(out:List Value)(e:Nat),s.heap.objs.size<=a->(∀b o,s.heap.get? b=some o->h'.get? b=some o)->C out->h'.get? a=some (seqObj "list" out.toArray e)->Q (.ref a) {s with heap:=h'}) :
  wpAny (model prog w) A (call (.builtin "sorted") [.ref l]) Q E s:=by
 refine Calls.call_function_entry kind_sorted plain_sorted entry_sorted (args_sorted1 _) ?_;unfold Builtin.«sorted»;refine wpAny_bind (m:=checkCount "sorted" 1 1 _) (wpAny_pure (wpAny_bind (collect_list hl ?_ (le_of_lt (aG (by omega))))));refine wpAny_bind (wpAny_newList ?_ (le_of_lt (aG (by omega))));have z8:(FY s.heap vs).get? ((s.heap.push (seqObj "list" #[] 0)).update s.heap.objs.size (Obj.mapSeq (·++vs.toArray))).objs.size=some (seqObj "list" vs.toArray 0):=Heap.get?_push_size _ rfl;have k1:∀b o,s.heap.get? b=some o->(FY s.heap vs).get? b=some o:=fun b o e=>by
  have lt:b<s.heap.objs.size:=Heap.lt_size e;exact Heap.get?_push_of_some _ ((Heap.get?_update_other _ _ (ne_of_gt lt)).trans (Heap.get?_push_of_some _ e))
 refine wpAny_bind (wpAny_holding (wpAny_call_entry slot_list_sort ⟨_,z8,rfl⟩ entry_list_sort (TJ _ _ z8 k1 fun out hc=>⟨_,rfl,?_⟩) (args_list_sort _)));obtain⟨n,hn⟩:=sortedHeap_at (out:=out.toArray) z8;have sz:((s.heap.push (seqObj "list" #[] 0)).update s.heap.objs.size (Obj.mapSeq (·++vs.toArray))).objs.size=s.heap.objs.size+1:=by rw [Heap.size_update,size_push']
 refine wpAny_pure ⟨_,rfl,h _ _ out n (by rw [sz];exact le_succ _) (fun b o e=>?_) hc hn⟩;have lt:b<s.heap.objs.size:=Heap.lt_size e;rw [sortedHeap_old (by rw [sz];exact ne_of_lt (lt_succ_of_lt lt)) (by rw [size_push',sz];exact lt_succ_of_lt (lt_succ_of_lt lt))];exact k1 b o e
end
def fI:List T->Option R
 |[.lst ts]=>match intsOf ts with
  |some ns=>if ns.length<600 then some (.own (.lst ((bh ns).map T.int)))else none
  |none=>match jo ts with
   |some ps=>if ps.length<600 then some (.own (.lst ((bZ ps).map aw)))else none
   |none=>none
 |_=>none
theorem CZ{us:List T}{r:R}(h:fI us=some r):(∃ns:List Int,us=[.lst (ns.map T.int)]/\ns.length<600/\r=.own (.lst ((bh ns).map T.int)))\/∃ps:List (Int×Int),us=[.lst (ps.map aw)]/\ps.length<600/\r=.own (.lst ((bZ ps).map aw)):=by
 unfold fI at h;split at h
 ·rename_i ts;split at h
  ·rename_i ns hn;split at h
   ·rename_i hl
    cases h
    exact .inl ⟨ns,by rw [iD hn],hl,rfl⟩
   ·cases h
  ·split at h
   ·rename_i ps hp;split at h
    ·rename_i hl
     cases h
     exact .inr ⟨ps,by rw [qM hp],hl,rfl⟩
    ·cases h
   ·cases h
 ·cases h
section
variable {X:Cx}{cl:Nat->Addr}
theorem Ew{K:KC}{pins:List (Addr×Obj)}{s:Shared}{σ:St}{H:Hp}(hK:K.f=X.K)(I:Inv X pins σ H s):∀{ps:List (Int×Int)}{xs:List V}{bo:List Value},fz K H xs (ps.map aw)->Vals xs bo->cM s.heap bo ps
 |[],xs,bo,h,v=>by
  cases(show xs=[] from h)
  cases v
  exact .nil
 |p::ps,xs,bo,h,v=>by
  obtain⟨x,xs',rfl,⟨a,ys,rfl,sq,ry⟩,r⟩:=h
  cases v with
  |cons r1 r2 =>
   rename_i u us
   cases(show u=Value.ref a from r1)
   obtain⟨y1,ys1,rfl,e1,y2,ys2,rfl,e2,e3⟩:=ry
   cases(show y1=V.int p.1 from e1)
   cases(show y2=V.int p.2 from e2)
   cases(show ys2=[] from e3)
   rw [hK]at sq;obtain⟨ts,vt,⟨o,ho,hc,n,hd⟩,_⟩:=I.tuple sq
   cases vt with
   |cons q1 q2 =>
    cases q2 with
    |cons q2 q3 =>
     cases q3
     obtain⟨t1,rfl⟩:=q1;obtain⟨t2,rfl⟩:=q2;exact .cons ho hc hd (Ew hK I r r2)
theorem Ex{K:KC}{H:Hp}:∀{ts:List T}{xs:List V},fz K H xs ts->∀{i:Nat},i<ts.length->Tr K H (xs.getD i .cg) (ts.getD i .cg)
 |[],_,_,i,h=>absurd h (not_lt_zero _)
 |t::ts,xs,q,i,h=>by
  obtain⟨v,vs,rfl,q1,q2⟩:=q
  cases i with
  |zero=>exact q1
  |succ i=>exact Ex q2 (by simpa using h)
theorem xp{K:KC}{H:Hp}{ts:List T}{xs:List V}(q:fz K H xs ts):∀p:List Nat,(∀i∈p,i<ts.length)->fz K H (p.map fun i=>xs.getD i .cg) (p.map fun i=>ts.getD i .cg)
 |[],_=>bU
 |i::p,h=>bK (Ex q (h i mem_cons_self)) (xp q p fun j hj=>h j (mem_cons_of_mem _ hj))
theorem A6:∀{xs:List V}{us:List Value},Vals xs us->∀{i:Nat},i<xs.length->RelV (xs.getD i .cg) (us.getD i .none)
 |_,_,.nil,i,h=>absurd h (not_lt_zero _)
 |x::xs,u::us,.cons r t,i,h=>by
  cases i with
  |zero=>exact r
  |succ i=>exact A6 t (by simpa using h)
theorem ux{xs:List V}{us:List Value}(v:Vals xs us):∀p:List Nat,(∀i∈p,i<xs.length)->Vals (p.map fun i=>xs.getD i .cg) (p.map fun i=>us.getD i .none)
 |[],_=>.nil
 |i::p,h=>.cons (A6 v (h i mem_cons_self)) (ux v p fun j hj=>h j (mem_cons_of_mem _ hj))
theorem uy:ro X cl (.builtin "sorted") fI:=by
 intro pins s σ H vs us Q I r ⟨Hs,ts,res,sm,h1,hg,k⟩;rcases CZ hg with⟨ns,rfl,hl6,rfl⟩|⟨ps,rfl,hl6,rfl⟩
 ·obtain⟨v,rfl,a,xs,rfl,sq,rs⟩:=i8 h1;obtain⟨u,rfl,ru⟩:=vals1 r
  cases(show u=Value.ref a from ru)
  have ex:=fK rs;subst ex;obtain⟨bo,vv,pl,_⟩:=I.list sq;have hI:IntsAre bo ns:=intsAre_of vv;have hl:bo.length=ns.length:=hI.length;refine rD pl.isList (by omega) (fun out=>IntsAre out (bh ns)) (fun P b hb _ hP=>n9 hb hI (le_of_lt (aG (by omega))) fun out GB a1 a2 a3=>?_) fun h' b out e le kp hc Xw=>?_
  ·have e:GB=bh ns:=ksm_same (a2.trans (bx ns).symm) a3 (dJ ns);subst e;have:=hP out.toList a1;rw [Array.toArray_toList]at this;exact this
  ·have hlen:(bh ns).length=ns.length:=(bx ns).length_eq;refine⟨.ref b,_,I.laid (a:=b) (o:=.lst ((bh ns).map V.int)) (t':=s.toks) kp le ⟨?_,out,e,jK hc,by rw [Xw]⟩,rfl,k _ _ (.tI (I.dG.fresh le) (jN _))⟩;rw [length_map,hlen];exact le_of_lt (aG (by omega))
 ·obtain⟨v,rfl,a,xs,rfl,sq,rs⟩:=i8 h1;obtain⟨u,rfl,ru⟩:=vals1 r
  cases(show u=Value.ref a from ru)
  obtain⟨bo,vv,pl,_⟩:=I.list sq;have tp:=Ew (K:=⟨X.K,cl⟩) rfl I (cj sm _ _ rs) vv;have hl:bo.length=ps.length:=tp.length;have hx:xs.length=ps.length:=by
   have:=aR rs;rw [length_map]at this;exact this
  refine rD pl.isList (by omega) (fun out=>∃p:List Nat,p.Perm (List.range ps.length)/\(p.map fun i=>ps.getD i (0,0))=bZ ps/\out=p.map fun i=>bo.getD i Value.none) (fun P b hb kp hP=>lF hb (tp.at fun c o e _=>kp c o e) (le_of_lt (aG (by omega))) fun p p1 p2=>hP _ ⟨p,hl▸p1,p2,rfl⟩) fun h' b out e le kp hc Xw=>?_;obtain⟨p,p1,p2,rfl⟩:=hc;have lt:∀i∈p,i<ps.length:=fun i hi=>mem_range.mp (p1.mem_iff.mp hi);have UZ:p.length=ps.length:=by rw [p1.length_eq,length_range]
  have te:(p.map fun i=>(ps.map aw).getD i .cg)=(bZ ps).map aw:=by
   rw [<-p2,map_map];refine map_congr_left fun i hi=>?_;have:=lt i hi;simp [getD_eq_getElem?_getD,getElem?_map,getElem?_eq_getElem this]
  have tr:=xp rs p fun i hi=>by rw [length_map];exact lt i hi
  rw [te]at tr;refine⟨.ref b,_,I.laid (a:=b) (o:=.lst (p.map fun i=>xs.getD i .cg)) (t':=s.toks) kp le ⟨?_,p.map (fun i=>bo.getD i Value.none),e,ux vv p fun i hi=>by rw [hx];exact lt i hi,by rw [Xw]⟩,rfl,k _ _ (.tI (I.dG.fresh le) tr)⟩;rw [length_map,UZ];exact le_of_lt (aG (by omega))
end
def A7(np:Nat)(cf:CF)(n:ML):MS:=fun Γ=>(n Γ).bind fun p=>if p.1.length=np/\N6 p.1=true then match cf (p.1.map (L6 p.2))with
 |some (.sh t,Γ2)=>if sQ t=true then some (.rt (.sh t) (lG p.1 (Γ2.take np) 0 p.2))else none
 |_=>none else none
section
variable {X:Cx}{P:Fx}{e:Expr}{es:List Expr}{pos:Pos}
theorem Jh{k np:Nat}{f:Addr}{fd:FuncData}{ps:List Str}{cf:CF}{x:Str}{p pos':Pos}{n:ML}(F:bP X.prog X.w X.K X.mg X.base hV k f fd ps (hZ (kc X P) np cf))(hr:dr k X.A)(hg:Gl X x)(hm:X.mg x=some (.ref f))(hk:keepIn X.K (.ref f)=true)(hb:Binds X.K fd ps [])
  (ha:Ja X P (e::es) n) (sU:(x==("__debug__" : Str))=false:=by decide) (he:starEach (e::es) X.env=(false,eval e X.env)::starEach es X.env:=by rfl) (nt:(backTo pos (starEach es X.env)).any (·.1)=false:=by rfl) :
  lI X P (.Return (some (.Call (.Name x p) (e::es) [] pos)) pos') (A7 np cf n):=h7 fun Γ res h=>by
 unfold A7 at h
 cases h1:n Γ with
 |none=>rw [h1]at h;cases h
 |some q =>
  rw [h1]at h;obtain⟨ags,Γ1⟩:=q;dsimp only [Option.bind]at h;split at h
  ·rename_i hl;split at h
   ·rename_i t Γ2 hc;split at h
    ·rename_i hs
     cases h
     refine(GR (r8 (dvs:=[]) (E:=E0) F hr hg hm hk hb .nil wG (ha _ _ _ h1) sU he nt)).imp fun D σ H ⟨Hs,S,kk⟩=>⟨Hs,S,fun vs H1 bq e1 en S1 f1=>?_⟩;show hZ (kc X P) np cf (vs++[]) H1 _ E0;rw [append_nil];refine⟨by rw [f1.length,hl.1],ags.map (L6 Γ1),.sh t,Γ2,bq,gD ags Γ1 σ H1,hc,xf S1 hl.2 f1,fun v H2 bQ e2 S2 f2=>?_⟩;exact kk σ H2 bQ (en.trans e2) v (S1.CS f1 e2 S2) (sJ hs f2)
    ·cases h
   ·cases h
  ·cases h
end
structure C0(K:PySem.W.Frag)(C:Addr):Prop where
 hg:plainGet K C "__class__" = true
 hd:hasDictIn K C=true
 ha:findIn K (.ref C) "__class__" = some (some (.builtin "object.__class__"))
 hn:specialIn K (.builtin "object.__class__") "__get__" = some (some (.builtin "getset_descriptor.__get__"))
 ht:takesIn K (.builtin "object.__class__")=some true
 hm:mroIn K C (.type "object")=some true
section
variable {X:Cx}{P:Fx}{e:Expr}{p p2 pos:Pos}
def Xx(cl:Nat->Addr)(D:Addr)(tb:Nat->Option Bool):List V->Hp->VK->Prop:=fun xs H Q=>∃a n dx b,xs=[.ref a,.ref D]/\H a=some (.ins (cl n) dx [])/\tb n=some b/\Q (.bl b) H
theorem Ji{cl:Nat->Addr}{D:Addr}{tb:Nat->Option Bool}(Qm:∀n b,tb n=some b->C0 X.K (cl n)/\kitOne X.K (.ref (cl n)) (.ref D)=some b):gx X (.builtin "isinstance") (Xx cl D tb):=by
 intro pins s σ H xs us Q I r ⟨a,n,dx,b,ex,ha,ht,q⟩;subst ex;obtain⟨u,w,rfl,r1,r2⟩:=vals2 r
 cases(show u=Value.ref a from r1)
 cases(show w=Value.ref D from r2)
 obtain⟨Z,hk⟩:=Qm n b ht;have ok:=I.dG a _ ha;obtain⟨_,_,ne,ho,mA,ns,_⟩:=ok;obtain⟨od,it,_⟩:=GZ.look ⟨ho,ns,ne⟩;exact kia_one (PySem.W.kitx_own Z.hg Z.hd Z.ha Z.hn Z.ht Z.hm) I.wx it hk (fun z=>nomatch z) fun tk=>⟨.bl b,H,I.tok tk,rfl,q⟩
def p8(tb:Nat->Option Bool)(m:MX):MX:=fun Γ=>(m Γ).bind fun p=>match p.1 with
 |.sh (.obj n)=>(tb n).map fun b=>(.sh (.bl b),p.2)
 |_=>none
theorem nM{x:Str}{D:Addr}{m:MX}{tb:Nat->Option Bool}(Qm:∀n b,tb n=some b->C0 X.K (P.cl n)/\kitOne X.K (.ref (P.cl n)) (.ref D)=some b)
  (hg:Gl X "isinstance") (hm:X.mg "isinstance" = none) (NY:Gl X x) (J4:X.mg x=some (.ref D)) (hv:bj X P e m) (hd:(x==("__debug__" : Str))=false:=by decide)
  (B9:starEach [e,.Name x p2] X.env=(false,eval e X.env)::starEach [.Name x p2] X.env:=by rfl) (P7:starEach [.Name x p2] X.env=(false,eval (.Name x p2) X.env)::starEach [] X.env:=by rfl) (nt:(backTo pos (starEach [.Name x p2] X.env)).any (·.1)=false:=by rfl) :
  bj X P (.Call (.Name "isinstance" p) [e,.Name x p2] [] pos) (p8 tb m):=fun Γ r Γ' wO=>by
 unfold p8 at wO
 cases h1:m Γ with
 |none=>rw [h1]at wO;cases wO
 |some q =>
  rw [h1]at wO;obtain⟨r1,Γ1⟩:=q;dsimp only [Option.bind]at wO;split at wO
  ·rename_i n
   cases ht:tb n with
   |none=>rw [ht]at wO;cases wO
   |some b =>
    rw [ht]at wO
    cases wO
    refine(sV (Ji Qm) hg hm (by decide +kernel) (gL (hv _ _ _ h1) (gL (Ki (v:=.ref D) NY J4 rfl hd) qx P7) B9) (by decide) (by decide) B9 nt).imp fun σ H Q ⟨Hs,S,k⟩=>⟨Hs,S,fun v H1 bq e1 en S1 f1=>?_⟩;obtain⟨a,dx,rfl,ea⟩:=f1;exact⟨a,n,dx,b,rfl,S1.sub _ _ ea,ht,k _ H1 bq e1 en S1 rfl⟩
  ·cases wO
def xq(l:List (Nat×Bool)):Nat->Option Bool:=fun n=>l.lookup n
theorem nN{Q:Nat->Bool->Prop}:∀n b,xq [] n=some b->Q n b:=fun n b h=>by cases h
theorem aW{Q:Nat->Bool->Prop}{n0:Nat}{b0:Bool}{l:List (Nat×Bool)}(h0:Q n0 b0)(h:∀n b,xq l n=some b->Q n b):∀n b,xq ((n0,b0)::l) n=some b->Q n b:=fun n b q=>by
 unfold xq at q;rw [List.lookup_cons]at q;split at q
 ·rename_i e
  cases q
  have e:n=n0:=by simpa using e
  rw [e];exact h0
 ·exact h n b q
end
section
variable {X:Cx}{P:Fx}{o:Expr}{pos:Pos}
theorem FZ{m:Str}{apos:Pos}{tb:Nat->Option (Nat×CF)}{mo:MX}{pl:Sem Bool}(Qm:∀n np cf,tb n=some (np,cf)->j8 X P.cl m n np cf)(ho:bj X P o mo)
  (ht:eval (.Call (.Attribute o m apos) [] [] pos) X.env=(do
   let ov<-eval o X.env
   standAt apos.atName
   let(f,first)<-holding [ov] (getMethod ov m pl)
   callWith pos f first (backTo pos (starEach [] X.env)) (backToKw pos (keywordEach [] X.env))):=by rfl) :
  bj X P (.Call (.Attribute o m apos) [] [] pos) (Aw tb mo aU):=fun Γ r Γ' h=>by
 obtain⟨n,Γ1,np,cf,ts,Γ2,h1,h2,h3,hl,hc,Fs⟩:=FC h
 cases h3
 obtain⟨f,fd,ps,k,c,mm,F,hr,hb⟩:=Qm n np cf h2;refine(G6 (dvs:=[]) (E:=E0) (ho _ _ _ h1) c mm F hr hb .nil wG ht).imp fun σ H Q ⟨Hs,S,k⟩=>⟨Hs,S,fun v H1 bq e1 en S1 f1=>?_⟩;obtain⟨a,dx,rfl,ea⟩:=f1;refine⟨a,dx,[],rfl,S1.sub _ _ ea,rfl,?_⟩;have tr:fz (kc X P) bq [.ref a] [.obj n]:=bK (v:=.ref a) (t:=.obj n) ⟨a,dx,rfl,ea⟩ bU;show hZ (kc X P) np cf [.ref a] H1 Q E0;refine⟨hl,[T.obj n].map Slot.sh,r,Γ2,bq,H1,hc,iC S1.sub tr,fun w H3 jH e3 S3 f3=>?_⟩;exact k w H3 jH (e1.trans S3.kept) (en.trans e3) (S1.after e3 S3) (gZ.after S1 Fs f3)
theorem sv(i:Nat){x:Str}(hN:X.N[i]?=some x:=by rfl)(hv:UJ X.env.scope x:=by first|exact Or.inl rfl|exact Or.inr (Or.inl rfl)|exact Or.inr (Or.inr rfl))(hd:(x==("__debug__" : Str))=false:=by decide)
  (ES:(x==("__classdict__" : Str))=false:=by decide):bj X P (.Name x pos) (mV i):=SV (pv i hN hv hd ES)
theorem cI{N P:List Str}{sc:Scope}(a:sc.kind=.function)(b:sc.isCoroutine=false)(c:sc.isGenerator=false)(d:N.take P.length=P)(h:N.Nodup/\(∀x∈P,sc.names.lookup x=some .local\/sc.names.lookup x=some .cell)/\∀y∈sc.names,y.2 ≠ .free):aT N P sc:=⟨a,b,c,h.1,d,h.2.1,h.2.2⟩
theorem bX{np i:Nat}{x:Str}{m:MX}{e:Expr}{pos':Pos}(hN:X.N.Nodup)(hF:∀i,np<=i->P.F i=none)(he:bj X P e m)(hi:X.N[i]?=some x:=by rfl)(hx:Loc X.env.scope x:=by exact Or.inl rfl)(hl:np<=i:=by decide)(hs:swapsWith e (some (.Name x pos')) pos.line X.env=pure false:=by rfl)(hf:X.fn x=true\/X.env.scope.names.lookup x=some .local:=by first|exact .inl rfl|exact .inr rfl|assumption):
  lI X P (.Assign [.Name x pos'] e pos) (bJ i m):=DW hN hi hx (hF i hl) he hs hf
theorem cN{np i:Nat}{x:Str}(hN:X.N.Nodup)(hF:∀i,np<=i->P.F i=none)(hi:X.N[i]?=some x:=by rfl)(hx:Loc X.env.scope x:=by exact Or.inl rfl)(hl:np<=i:=by decide)(hf:X.fn x=true\/X.env.scope.names.lookup x=some .local:=by first|exact .inl rfl|exact .inr rfl|assumption):xY X P (.Name x pos) (aM i):=jP hN hi hx (hF i hl) hf
theorem cG{k k' np:Nat}{f:Addr}{fd:FuncData}{ps:List Str}{cf:CF}{x:Str}{p:Pos}{n:MA}{e:Expr}{es:List Expr}(hr:dr k' X.A)(F:bP X.prog X.w X.K X.mg X.base hV k f fd ps (hZ (kc X P) np cf))(hm:X.mg x=some (.ref f))(hk:keepIn X.K (.ref f)=true)(hb:Binds X.K fd ps [])
  (ha:Ah X P (e::es) n) (hg:Gl X x:=by rfl) (hl:k<=k':=by decide) (sU:(x==("__debug__" : Str))=false:=by decide) (he:starEach (e::es) X.env=(false,eval e X.env)::starEach es X.env:=by rfl) (nt:(backTo pos (starEach es X.env)).any (·.1)=false:=by rfl) :
  bj X P (.Call (.Name x p) (e::es) [] pos) (aE np cf n):=HM F (hr.mono hl) hg hm hk hb ha sU he nt
theorem fJ{Pr:Program}{w:World}{K:PySem.W.Frag}{mg:Str->Option Value}{base:Heap}{Q:(Nat->Addr)->Prop}{cl:Nat->Addr}{x qual:Str}{st:Stmt}{f:Addr}{fd:FuncData}{N ps:List Str}{k n np:Nat}{m:MS}(T:Q cl)(F:jY K x qual st f fd)(Sc:aT N ps (ak st))
  (hb:∀{jW:Value}{A:Around}{outer:List Env}{s:Shared}{H:Hp}{E:XK}{P:Fx},(∀i,np<=i->P.F i=none)->dr k (A.deeper (envOfC qual (ak st) s.heap.objs.size f jW))->(A.deeper (envOfC qual (ak st) s.heap.objs.size f jW)).units+64<cLine->Q P.cl ->
   iM (xH hV Pr w K mg base N qual (ak st) f jW A outer s H E).GQ P (aO st) m) (hn:N.length=n:=by rfl) (hp:ps.length=np:=by rfl) :
  bP Pr w K mg base hV (k+1) f fd ps (hZ ⟨K,cl⟩ np (du n m)):=WK F Sc hn hp fun jW A outer s H E P hcl hF hr=>by
 subst hcl;exact hb hF hr hr.units T
end
end M
namespace LW
open PySem PySem.Spec PyProof.Rows L2 M
def kg:MS:=aL (bJ 3 (ba ic (ck (mV 1) aU))) (aL (gy (rq (mV 2)) (aM 4) (xm 3 (ah eF (mV 4) (mC (.int 0))) (ah eF (mV 4) (mC (.int 1))) (ah eF (mV 4) (mC (.int 1))) (aS 3 (mC .cg)) aN)) (aS 3 (eQ (mV 3))))
def cv:CF:=du 5 kg
def gQ:MS:=aL (bJ 3 (ah cz (mV 1) (mV 2))) (aS 3 (xW (ax (ah P4 (ba eL (ck (mV 3) aU)) (mC (.int 0)))) (eA (aQ (ba xl (ck (mV 3) aU)) aU)) (eA aU)))
def bG:CF:=du 4 gQ
def dc:MS:=aL (eE (fw (ax (ah cO (mV 1) (eA aU))) (ax (ah cO (mV 1) (mV 2)))) (aS 3 (ba fM (ck (mV 2) aU))) aN) (aS 3 (xW (ax (ah cO (mV 2) (eA aU))) (ba fM (ck (mV 1) aU)) (mC .cg)))
def bf:CF:=du 3 dc
def fb:MS:=aL (eE (ax (ah cO (mV 1) (yg (mV 2) tQ (pS (ba eL (ck (mV 1) aU)))))) (aS 3 (ba fM (ck (mV 2) aU))) aN) (aS 3 (xW (ax (ah cO (mV 2) (yg (mV 1) tQ (pS (ba eL (ck (mV 2) aU)))))) (ba fM (ck (mV 1) aU)) (mC .cg)))
def bz:CF:=du 3 fb
def kh:MS:=aS 3 (sF (ck (mV 1) aU) (ck (mV 2) aU))
def bR:CF:=du 3 kh
def ki:MS:=aS 3 (ah cO (fG (vk [(1,3,bG),(2,3,bR),(3,3,bf),(4,3,bz),(5,3,cv)]) (mV 0) (ck (mV 1) (ck (mV 2) aU))) (mV 2))
def ao:CF:=du 3 ki
def jq:MS:=aS 1 (mC (.str "most"))
def gg:CF:=du 1 jq
def kj:MS:=aS 1 (mC (.str "set"))
def gS:CF:=du 1 kj
def jr:MS:=aS 1 (mC (.str "once"))
def gh:CF:=du 1 jr
def kl:MS:=aS 1 (mC (.str "row"))
def gT:CF:=du 1 kl
def km:MS:=aS 1 (mC (.str "map"))
def gU:CF:=du 1 km
def Ga:MS:=aL (eE (ax (ah cO (mV 0) (mC (.str "most")))) (aS 1 (rX 1)) aN) (aL (eE (ax (ah cO (mV 0) (mC (.str "set")))) (aS 1 (rX 2)) aN) (aL (eE (ax (ah cO (mV 0) (mC (.str "once")))) (aS 1 (rX 3)) aN) (aL (eE (ax (ah cO (mV 0) (mC (.str "row")))) (aS 1 (rX 4)) aN) (aS 1 (rX 5)))))
def iR:CF:=du 1 Ga
def A8:MS:=aS 2 (gz [none] (rq (yg (mV 0) tQ (pS (mV 1)))) (aM 0) lE (ah gu (mV 0) (ah Ct (mC (.int 10)) (mC (.int 40)))))
def gk:CF:=du 2 A8
def yA:MS:=aL (bJ 2 (ah gu (mV 0) (mC (.int 1000000007)))) (aL (bJ 3 (eA aU)) (aL (gy (GC (ck (ah cz (mV 1) (mC (.int 2))) aU)) (aM 4) (aL (bJ 5 (ah cz (ah cz (ah fL (mV 2) (mC (.int 11))) (ah fL (mC (.int 3)) (mV 4))) (mC (.int 17)))) (aL (bJ 2 (ah gu (ah cz (ah fL (ah fL (mV 2) (mV 2)) (mC (.int 5))) (mV 5)) (mC (.int 1000000007)))) (cU 3 (ah rV (mV 2) (mC (.int 11))))))) (aS 2 (yg (mV 3) (pS (mC (.int 2))) tQ))))
def bp:CF:=du 6 yA
def A9:MS:=aS 1 (oe (tR "int" (mV 0)) (DU (tR "bool" (mV 0))))
def ko:CF:=du 1 A9
def iu:MS:=aL (eE (ax (ah cO (ah gu (mV 0) (mC (.int 3))) (mC (.int 0)))) (aS 1 (ah gu (ah rV (mV 0) (mC (.int 3))) (mC (.int 7)))) aN) (aL (eE (ax (ah cO (ah gu (mV 0) (mC (.int 3))) (mC (.int 1)))) (aS 1 (ah Ca (mC (.int 999999999)) (ah gu (ah rV (mV 0) (mC (.int 3))) (mC (.int 5))))) aN) (aS 1 (ah gu (ah fL (mV 0) (mC (.int 7919))) (mC (.int 1000000000)))))
def bS:CF:=du 1 iu
def Ba:MS:=aL (bJ 2 (gz [none] (rq (CC (mV 1) (pS (mC (.int 0))) tQ (pS (mC (.int 2))))) (aM 0) lE (aE 1 bS (aQ (mV 0) aU)))) (aL (eE (fw (ax (ah cO (mV 0) (mC (.str "most")))) (ax (ah cO (mV 0) (mC (.str "once"))))) (aS 2 (yg (mV 2) tQ (pS (mC (.int 1))))) aN) (aL (eE (ax (ah cO (mV 0) (mC (.str "row")))) (aS 2 (mV 2)) aN) (aL (eE (ax (ah cO (mV 0) (mC (.str "set")))) (aS 2 (ba g9 (ck (mV 2) aU))) aN) (aL (bJ 3 Iq) (aL (gy (RD (aQ (mV 2) (aQ (CC (mV 1) (pS (mC (.int 1))) tQ (pS (mC (.int 2)))) aU))) (j4 2 (bW (aM 4) (bW (aM 5) j3))) (ua 3 (mV 4) (aE 1 bS (aQ (mV 5) aU)))) (aS 2 (eQ (mV 3))))))))
def fc:CF:=du 6 Ba
def oE:MS:=aL (eE (ax (ah cO (ah gu (mV 0) (mC (.int 8))) (mC (.int 1)))) (aS 1 (ah cz (mC (.int 12)) (ah gu (ah rV (mV 0) (mC (.int 8))) (mC (.int 30))))) aN) (aS 1 (ah gu (ah rV (mV 0) (mC (.int 8))) (mC (.int 6))))
def bM:CF:=du 1 oE
def iS:MS:=aL (eE (ax (ah cO (mV 0) (mC (.str "most")))) (aS 3 (yg (ba fI (ck (ah cz (mV 1) (mV 2)) aU)) (pS (yh (mC (.int 1)))) tQ)) aN) (aL (eE (ax (ah cO (mV 0) (mC (.str "set")))) (aS 3 (ba g9 (ck (ah cz (mV 1) (mV 2)) aU))) aN) (aL (eE (ax (ah cO (mV 0) (mC (.str "once")))) (aS 3 (yg (ah cz (mV 1) (mV 2)) tQ (pS (mC (.int 1))))) aN) (aL (eE (ax (ah cO (mV 0) (mC (.str "row")))) (aS 3 (ah cz (mV 1) (mV 2))) aN) (aL (bJ 3 (ba ic (ck (mV 2) aU))) (aL (gy (rq (mV 1)) (j4 2 (bW (aM 4) (bW (aM 5) j3))) (ua 3 (mV 4) (mV 5))) (aS 3 (eQ (mV 3))))))))
def eR:CF:=du 6 iS
def gW:MS:=aL (eE (ax (ah cO (mV 0) (mC (.str "map")))) (aL (xZ (j4 2 (bW (aM 4) (bW (aM 5) j3))) (ah eF (mV 1) (mV 2))) (aS 4 (ah cz (ah cz (yg (mV 1) tQ (pS (mV 2))) (eA (aQ (lH (aQ (mV 4) (aQ (ah gu (ah cz (ah cz (mV 5) (mC (.int 1))) (ah gu (mV 3) (mC (.int 9)))) (ah Ct (mC (.int 10)) (mC (.int 9)))) aU))) aU))) (yg (mV 1) (pS (ah cz (mV 2) (mC (.int 1)))) tQ)))) aN) (aL (eE (ax (ah cO (mV 0) (mC (.str "set")))) (aS 4 (ba g9 (ck (ah cz (ah cz (yg (mV 1) tQ (pS (mV 2))) (yg (mV 1) (pS (ah cz (mV 2) (mC (.int 1)))) tQ)) (eA (aQ (ah gu (ah fL (mV 3) (mC (.int 7919))) (ah Ct (mC (.int 10)) (mC (.int 9)))) aU))) aU))) aN) (aL (bJ 5 (ah gu (ah cz (ah cz (ah eF (mV 1) (mV 2)) (mC (.int 1))) (ah gu (mV 3) (mC (.int 9)))) (ah Ct (mC (.int 10)) (mC (.int 9))))) (aS 4 (ah cz (ah cz (yg (mV 1) tQ (pS (mV 2))) (eA (aQ (mV 5) aU))) (yg (mV 1) (pS (ah cz (mV 2) (mC (.int 1)))) tQ)))))
def dw:CF:=du 6 gW
def eS:MS:=aL (bJ 4 (aE 2 fc (aQ (mV 0) (aQ (mV 3) aU)))) (aL (bJ 5 (ah gu (mV 2) (mC (.int 5)))) (aL (bJ 6 (ah gu (ah rV (mV 2) (mC (.int 5))) (ah cz (ba eL (ck (mV 1) aU)) (mC (.int 1))))) (aL (eE (fw (ax (ah cO (mV 5) (mC (.int 0)))) (ax (ah cO (mV 1) (eA aU)))) (aS 4 (mV 4)) aN) (aL (eE (ax (ah cO (mV 5) (mC (.int 1)))) (aS 4 (yg (mV 1) tQ (pS (mV 6)))) aN) (aL (eE (ax (ah cO (mV 5) (mC (.int 2)))) (aS 4 (aE 3 eR (aQ (mV 0) (aQ (mV 1) (aQ (mV 4) aU))))) aN) (aL (eE (ax (ah cO (mV 5) (mC (.int 3)))) (aS 4 (aE 4 dw (aQ (mV 0) (aQ (mV 1) (aQ (ah gu (mV 6) (ba eL (ck (mV 1) aU))) (aQ (ah rV (mV 2) (mC (.int 7))) aU)))))) aN) (aS 4 (ba fM (ck (mV 1) aU)))))))))
def cw:CF:=du 7 eS
def C1:MS:=aL (bJ 1 (ah eF (eA (aQ (mC (.str "most")) (aQ (mC (.str "set")) (aQ (mC (.str "once")) (aQ (mC (.str "row")) (aQ (mC (.str "map")) aU)))))) (ah gu (mV 0) (mC (.int 5))))) (aL (bJ 2 (aE 2 bp (aQ (ah rV (mV 0) (mC (.int 5))) (aQ (mC (.int 6)) aU)))) (aL (bJ 3 (aE 2 fc (aQ (mV 1) (aQ (aE 2 bp (aQ (ah eF (mV 2) (mC (.int 0))) (aQ (ah fL (mC (.int 2)) (aE 1 bM (aQ (ah eF (mV 2) (mC (.int 1))) aU))) aU))) aU)))) (aL (bJ 4 (aE 2 bp (aQ (ah eF (mV 2) (mC (.int 3))) (aQ (ah fL (mC (.int 2)) (aE 1 bM (aQ (ah eF (mV 2) (mC (.int 4))) aU))) aU)))) (aL (bJ 5 (aE 4 cw (aQ (mV 1) (aQ (mV 3) (aQ (ah eF (mV 2) (mC (.int 2))) (aQ (mV 4) aU)))))) (aL (eE (ax (ah cO (ah gu (ah eF (mV 2) (mC (.int 5))) (mC (.int 2))) (mC (.int 1)))) (aS 1 (lH (aQ (mV 1) (aQ (mV 5) (aQ (mV 3) aU))))) aN) (aS 1 (lH (aQ (mV 1) (aQ (mV 3) (aQ (mV 5) aU))))))))))
def hE:CF:=du 6 C1
def C2:MS:=aL (eE (ax (ah cO (mV 0) (mC (.str "most")))) (aS 3 (xW (ax (ah jV (ah cz (mV 1) (mV 2)) (eA aU))) (eA (aQ (ba xl (ck (ah cz (mV 1) (mV 2)) aU)) aU)) (eA aU))) aN) (aL (eE (ax (ah cO (mV 0) (mC (.str "set")))) (aL (bJ 3 (eA aU)) (aL (gy (rq (ba fI (ck (ah cz (mV 1) (mV 2)) aU))) (aM 4) (eE (fw (ax (ah cO (mV 3) (eA aU))) (ax (ah jV (ah eF (mV 3) (yh (mC (.int 1)))) (mV 4)))) (cU 3 (mV 4)) aN)) (aS 3 (mV 3)))) aN) (aL (eE (ax (ah cO (mV 0) (mC (.str "map")))) (aL (gy (rq (mV 1)) (j4 2 (bW (aM 5) (bW (aM 4) j3))) (gy (rq (mV 2)) (j4 2 (bW (aM 6) (bW (aM 7) j3))) (eE (jO (ax (ah cO (mV 6) (mV 5))) (ax (ah jV (mV 7) (mV 4)))) (aS 3 (mC .cg)) aN))) (aS 3 (ba fI (ck (ah cz (mV 1) (gz [none,some 1] (rq (mV 2)) (aM 0) (ax (ah lZ (mV 0) (mV 1))) (mV 0))) aU)))) aN) (aL (xZ (j4 2 (bW (aM 8) (bW (aM 9) j3))) (xW (ax (ah DY (ba eL (ck (mV 1) aU)) (ba eL (ck (mV 2) aU)))) (lH (aQ (mV 1) (aQ (mV 2) aU))) (lH (aQ (mV 2) (aQ (mV 1) aU))))) (aL (gy (GC (ck (ba eL (ck (mV 8) aU)) aU)) (aM 10) (eE (ax (ah jV (ah eF (mV 8) (mV 10)) (ah eF (mV 9) (mV 10)))) (aS 3 (mC .cg)) aN)) (aS 3 (ba fM (ck (mV 9) aU)))))))
def cx:CF:=du 11 C2
def uz:MS:=aL (eE (fu (ax (tR "list" (mV 1)))) (aS 2 (mC (.bl false))) aN) (aL (bJ 2 (eA aU)) (aL (gy (rq (mV 1)) (aM 3) (aL (bJ 4 (lH (aQ (mV 3) aU))) (aL (eE (ax (ah cO (mV 0) (mC (.str "map")))) (aL (eE (fw (fu (ax (tR "tuple" (mV 3)))) (ax (ah jV (ba eL (ck (mV 3) aU)) (mC (.int 2))))) (aS 2 (mC (.bl false))) aN) (bJ 4 (mV 3))) aN) (aL (gy (RB (mV 4)) (aM 5) (eE (fw (fu (ax (aE 1 ko (aQ (mV 5) aU)))) (fw (ax (ah DY (mV 5) (mC (.int 0)))) (ax (ah P4 (mV 5) (mC (.int 999999999)))))) (aS 2 (mC (.bl false))) aN)) (cU 2 (ah eF (mV 4) (mC (.int 0)))))))) (aL (eE (fw (ax (ah cO (mV 0) (mC (.str "most")))) (ax (ah cO (mV 0) (mC (.str "once"))))) (aS 2 (ah DY (ba eL (ck (mV 2) aU)) (mC (.int 2)))) aN) (aS 2 (Fp (ah cO (mV 0) (mC (.str "row"))) (ba CB (ck (gz [none,some 2] (GC (ck (ah Ca (ba eL (ck (mV 2) aU)) (mC (.int 1))) aU)) (aM 0) lE (ah DY (ah eF (mV 1) (mV 0)) (ah eF (mV 1) (ah cz (mV 0) (mC (.int 1)))))) aU)))))))
def cP:CF:=du 6 uz
def Bb:MS:=aS 2 (oe (tR "bool" (mV 0)) (ah cO (mV 0) (mV 1)))
def dM:CF:=du 2 Bb
def Gb:MS:=aL (eE (ax (ah cO (mV 0) (mC (.str "most")))) (aS 1 (rX 1)) aN) (aL (eE (ax (ah cO (mV 0) (mC (.str "set")))) (aS 1 (rX 2)) aN) (aL (eE (ax (ah cO (mV 0) (mC (.str "once")))) (aS 1 (rX 3)) aN) (aL (eE (ax (ah cO (mV 0) (mC (.str "row")))) (aS 1 (rX 4)) aN) (aS 1 (rX 5)))))
def iT:CF:=du 1 Gb
def uA:MS:=aL (bJ 2 (eA (aQ (p8 (xq [(1,true),(2,false),(3,false),(4,false),(5,false)]) (mV 0)) (aQ (p8 (xq [(1,false),(2,true),(3,false),(4,false),(5,false)]) (mV 0)) (aQ (p8 (xq [(1,false),(2,false),(3,true),(4,false),(5,false)]) (mV 0)) (aQ (p8 (xq [(1,false),(2,false),(3,false),(4,true),(5,false)]) (mV 0)) aU)))))) (aL (bJ 3 (gz [none,some 1] (rq (eA (aQ (mC (.str "most")) (aQ (mC (.str "set")) (aQ (mC (.str "once")) (aQ (mC (.str "row")) (aQ (mC (.str "map")) aU))))))) (aM 0) lE (ah cO (mV 1) (mV 0)))) (aS 2 (oe (p8 (xq [(1,true),(2,true),(3,true),(4,true),(5,true)]) (mV 0)) (ah cO (ah cz (mV 2) (eA (aQ (p8 (xq [(1,false),(2,false),(3,false),(4,false),(5,true)]) (mV 0)) aU))) (mV 3)))))
def dS:CF:=du 4 uA
def eU:MS:=aL (bJ 2 (mC (.int 5))) (aL (eE (jO (ax (ah jV (mV 1) (eA aU))) (ax (ah cO (mV 0) (mC (.str "set"))))) (bJ 2 (ah cz (ah eF (mV 1) (yh (mC (.int 1)))) (mC (.int 1)))) aN) (aL (eE (jO (ax (ah jV (mV 1) (eA aU))) (ax (ah cO (mV 0) (mC (.str "map"))))) (bJ 2 (ah cz (ah eF (ah eF (mV 1) (yh (mC (.int 1)))) (mC (.int 0))) (mC (.int 1)))) aN) (aL (eE (fw (ax (ah P4 (mV 2) (mC (.int 999999999)))) (jO (ax (ah jV (mV 1) (eA aU))) (fw (ax (ah cO (mV 0) (mC (.str "most")))) (ax (ah cO (mV 0) (mC (.str "once"))))))) ((fun Γ=>some (.rt (.sh .cg) Γ))) aN) (eE (ax (ah cO (mV 0) (mC (.str "map")))) (cU 1 (lH (aQ (mV 2) (aQ (mC (.int 7)) aU)))) (cU 1 (mV 2))))))
def cy:CF:=du 3 eU
def Bc:MS:=aL (AY 2 cy (yy (mV 1) (yy (mV 2) Qi))) (aL (bJ 4 (ie 3 cx (ck (mV 1) (ck (mV 2) (ck (mV 3) aU))))) (aL (eE (ax (ah jV (fG (vk [(1,3,bG),(2,3,bR),(3,3,bf),(4,3,bz),(5,3,cv)]) (mV 0) (ck (mV 2) (ck (mV 3) aU))) (mV 4))) (aS 4 (mC (.bl false))) aN) (aS 4 (oe (aE 2 dM (aQ (fG (vk [(0,3,ao),(1,3,ao),(2,3,ao),(3,3,ao),(4,3,ao),(5,3,ao)]) (mV 0) (ck (mV 2) (ck (mV 3) aU))) (aQ (ah cO (mV 4) (mV 3)) aU))) (aE 2 dM (aQ (fG (vk [(0,3,ao),(1,3,ao),(2,3,ao),(3,3,ao),(4,3,ao),(5,3,ao)]) (mV 0) (ck (mV 3) (ck (mV 2) aU))) (aQ (ah cO (mV 4) (mV 2)) aU)))))))
def iw:CF:=du 5 Bc
def Bd:MS:=aL (bJ 4 (ie 3 cx (ck (mV 1) (ck (mV 2) (ck (mV 3) aU))))) (aL (bJ 5 (ba fM (ck (mV 2) aU))) (aL (bJ 6 (ba fM (ck (mV 3) aU))) (aL (bJ 7 (fG (vk [(1,3,bG),(2,3,bR),(3,3,bf),(4,3,bz),(5,3,cv)]) (mV 0) (ck (mV 5) (ck (mV 6) aU)))) (aL (eE (ax (ah Le (mV 4) (mC .cg))) (eE (ax (ah D0 (mV 7) (mC .cg))) (aS 4 (mC (.bl false))) aN) (aL (eE (fw (fu (ax (ie 2 cP (ck (mV 1) (ck (mV 7) aU))))) (ax (ah jV (mV 7) (mV 4)))) (aS 4 (mC (.bl false))) aN) (aL (cU 7 (lH (aQ (mC (.int 7)) (aQ (mC (.int 7)) aU)))) (eE (ax (ah jV (fG (vk [(1,3,bG),(2,3,bR),(3,3,bf),(4,3,bz),(5,3,cv)]) (mV 0) (ck (mV 5) (ck (mV 6) aU))) (mV 4))) (aS 4 (mC (.bl false))) aN)))) (aL (eE (fw (fu (ax (aE 2 dM (aQ (fG (vk [(0,3,ao),(1,3,ao),(2,3,ao),(3,3,ao),(4,3,ao),(5,3,ao)]) (mV 0) (ck (mV 5) (ck (mV 6) aU))) (aQ (ah cO (mV 4) (mV 3)) aU))))) (fu (ax (aE 2 dM (aQ (fG (vk [(0,3,ao),(1,3,ao),(2,3,ao),(3,3,ao),(4,3,ao),(5,3,ao)]) (mV 0) (ck (mV 6) (ck (mV 5) aU))) (aQ (ah cO (mV 4) (mV 2)) aU)))))) (aS 4 (mC (.bl false))) aN) (aL (eE (fw (ax (ah jV (mV 5) (mV 2))) (fw (ax (ah jV (mV 6) (mV 3))) (fw (ax (ah jV (Aw (vk [(1,1,gg),(2,1,gS),(3,1,gh),(4,1,gT),(5,1,gU)]) (mV 0) aU) (mV 1))) (fu (ax (aE 2 dS (aQ (mV 0) (aQ (mV 1) aU)))))))) (aS 4 (mC (.bl false))) aN) (A7 4 iw (yy (mV 0) (yy (mV 1) (yy (mV 5) (yy (mV 6) Qi)))))))))))
def dN:CF:=du 8 Bd
def TK:MS:=aL (gy (rq (aE 2 gk (aQ (ah cz (eA (aQ (mC (.int 0)) (aQ (mC (.int 1)) (aQ (mC (.int 2)) (aQ (mC (.int 3)) (aQ (mC (.int 4)) aU)))))) (mV 0)) (aQ (mC (.int 45)) aU)))) (aM 1) (aL (xZ (j4 3 (bW (aM 2) (bW (aM 3) (bW (aM 4) j3)))) (aE 1 hE (aQ (mV 1) aU))) (eE (fw (fu (ax (aE 4 dN (aQ (aE 1 iR (aQ (mV 2) aU)) (aQ (mV 2) (aQ (mV 3) (aQ (mV 4) aU))))))) (fu (ax (aE 4 dN (aQ (aE 1 iT (aQ (mV 2) aU)) (aQ (mV 2) (aQ (mV 3) (aQ (mV 4) aU)))))))) (aS 1 (mC (.bl false))) aN))) (aS 1 (mC (.bl true)))
def yB:CF:=du 5 TK
def top(i:Nat):Stmt:=PySem.Challenge.pw_surejoin_k02_joined.main.body.getD i (.Pass ⟨0,0,0,0⟩)
abbrev dW:Stmt:=lX (top 7) 2
abbrev dy:Stmt:=lX (top 3) 2
abbrev dC:Stmt:=lX (top 5) 2
abbrev dX:Stmt:=lX (top 6) 2
abbrev dY:Stmt:=lX (top 4) 2
abbrev dZ:Stmt:=lX (top 2) 0
abbrev dD:Stmt:=lX (top 3) 0
abbrev d0:Stmt:=lX (top 4) 0
abbrev dE:Stmt:=lX (top 5) 0
abbrev d4:Stmt:=lX (top 6) 0
abbrev d5:Stmt:=lX (top 7) 0
abbrev gH:Stmt:=top 8
abbrev dO:Stmt:=top 10
abbrev d7:Stmt:=top 11
abbrev fe:Stmt:=top 12
abbrev d8:Stmt:=top 13
abbrev dP:Stmt:=top 14
abbrev fO:Stmt:=top 15
abbrev fP:Stmt:=top 16
abbrev dF:Stmt:=top 17
abbrev ff:Stmt:=top 18
abbrev fQ:Stmt:=top 19
abbrev eV:Stmt:=top 20
abbrev cD:Stmt:=top 21
abbrev fg:Stmt:=top 22
abbrev gJ:Stmt:=top 23
abbrev cE:Stmt:=top 24
abbrev fR:Stmt:=top 25
abbrev fh:Stmt:=top 26
abbrev fi:Stmt:=top 27
abbrev ku:Stmt:=top 28
abbrev qo:List Str:=["self", "one", "other"]
abbrev rY:List Str:=["self"]
abbrev GG:List Str:=["_law_x"]
abbrev RN:List Str:=["_law_cell"]
abbrev TL:List Str:=["_law_script", "_law_many"]
abbrev TM:List Str:=["_law_found"]
abbrev TN:List Str:=["_law_found", "_law_due"]
abbrev TQ:List Str:=["_law_word"]
abbrev TR:List Str:=["_law_script"]
abbrev Vc:List Str:=["_law_cell", "_law_many"]
abbrev Mc:List Str:=["_law_word", "_law_xs"]
abbrev Md:List Str:=["_law_word", "_law_state_here", "_law_fresh"]
abbrev Me:List Str:=["_law_word", "_law_state_here", "_law_at", "_law_x"]
abbrev Mf:List Str:=["_law_word", "_law_state_here", "_law_x", "_law_xs"]
abbrev Mg:List Str:=["_law_word", "_law_one", "_law_other_here"]
abbrev Mh:List Str:=["_law_word", "_law_thing"]
abbrev Mi:List Str:=["_law_kind", "_law_word"]
abbrev Mj:List Str:=["_law_word", "_law_state_here"]
abbrev Mk:List Str:=["_law_kind", "_law_word", "_law_first", "_law_second"]
abbrev Ml:List Str:=["_law_kind", "_law_word", "_law_one", "_law_other_here"]
set_option genInjectivity false in
set_option genSizeOf false in
structure Ad where
 kx:Addr
 kA:FuncData
 js:Addr
 jt:FuncData
 ju:Addr
 jv:FuncData
 kB:Addr
 kC:FuncData
 kD:Addr
 kE:FuncData
 cW:Addr
 kF:FuncData
 jw:Addr
 jx:FuncData
 kG:Addr
 kH:FuncData
 jy:Addr
 jz:FuncData
 kI:Addr
 kJ:FuncData
 kK:Addr
 kL:FuncData
 qP:Addr
 qQ:FuncData
 md:Addr
 mj:FuncData
 kM:Addr
 kN:FuncData
 mn:Addr
 mq:FuncData
 kO:Addr
 kP:FuncData
 mw:Addr
 mx:FuncData
 oF:Addr
 oG:FuncData
 oH:Addr
 oI:FuncData
 jA:Addr
 jB:FuncData
 mz:Addr
 mB:FuncData
 oJ:Addr
 oK:FuncData
 oM:Addr
 oN:FuncData
 iU:Addr
 iV:FuncData
 mD:Addr
 mE:FuncData
 qR:Addr
 qS:FuncData
 iW:Addr
 iX:FuncData
 oO:Addr
 oP:FuncData
 mF:Addr
 mG:FuncData
 mH:Addr
 mI:FuncData
 Jj:Addr
 Jk:FuncData
structure Tx(K:PySem.W.Frag)(mg:Str->Option Value)(a:Ad)(cl:Nat->Addr):Prop where
 yC:jY K "joined" "Map.joined" dW a.kx a.kA
 yD:Binds K a.kA qo []
 vB:jY K "joined" "Most.joined" dy a.js a.jt
 vC:Binds K a.jt qo []
 vE:jY K "joined" "Once.joined" dC a.ju a.jv
 vF:Binds K a.jv qo []
 yE:jY K "joined" "Row.joined" dX a.kB a.kC
 yF:Binds K a.kC qo []
 yG:jY K "joined" "Set.joined" dY a.kD a.kE
 yH:Binds K a.kE qo []
 yI:jY K "under" "Kind.under" dZ a.cW a.kF
 fj:Binds K a.kF qo []
 vG:jY K "called" "Most.called" dD a.jw a.jx
 vH:Binds K a.jx rY []
 yJ:jY K "called" "Set.called" d0 a.kG a.kH
 yK:Binds K a.kH rY []
 vI:jY K "called" "Once.called" dE a.jy a.jz
 vJ:Binds K a.jz rY []
 yL:jY K "called" "Row.called" d4 a.kI a.kJ
 yM:Binds K a.kJ rY []
 yN:jY K "called" "Map.called" d5 a.kK a.kL
 yO:Binds K a.kL rY []
 Ge:mg "kind_of" = some (.ref a.qP)
 xr:jY K "kind_of" "kind_of" gH a.qP a.qQ
 Gf:Binds K a.qQ ["word"] []
 Be:mg "_law_cells" = some (.ref a.md)
 rE:jY K "_law_cells" "_law_cells" dO a.md a.mj
 Bf:Binds K a.mj TL []
 kQ:mg "_law_spread" = some (.ref a.kM)
 ix:jY K "_law_spread" "_law_spread" d7 a.kM a.kN
 kR:Binds K a.kN Vc []
 Bg:mg "_law_whole" = some (.ref a.mn)
 rF:jY K "_law_whole" "_law_whole" fe a.mn a.mq
 Bh:Binds K a.mq TM []
 p9:mg "_law_number" = some (.ref a.kO)
 kS:jY K "_law_number" "_law_number" d8 a.kO a.kP
 qa:Binds K a.kP GG []
 rG:mg "_law_state" = some (.ref a.mw)
 mJ:jY K "_law_state" "_law_state" dP a.mw a.mx
 rH:Binds K a.mx Mc []
 uB:mg "_law_size" = some (.ref a.oF)
 oQ:jY K "_law_size" "_law_size" fO a.oF a.oG
 uC:Binds K a.oG GG []
 C3:mg "_law_over" = some (.ref a.oH)
 uD:jY K "_law_over" "_law_over" fP a.oH a.oI
 C4:Binds K a.oI Md []
 vK:mg "_law_changed" = some (.ref a.jA)
 ou:jY K "_law_changed" "_law_changed" dF a.jA a.jB
 vL:Binds K a.jB Me []
 Bj:mg "_law_other" = some (.ref a.mz)
 rJ:jY K "_law_other" "_law_other" ff a.mz a.mB
 Bk:Binds K a.mB Mf []
 C5:mg "_law_pair" = some (.ref a.oJ)
 uE:jY K "_law_pair" "_law_pair" fQ a.oJ a.oK
 C6:Binds K a.oK RN []
 uF:mg "_law_join" = some (.ref a.oM)
 oR:jY K "_law_join" "_law_join" eV a.oM a.oN
 uG:Binds K a.oN Mg []
 uH:mg "_law_is_state" = some (.ref a.iU)
 mK:jY K "_law_is_state" "_law_is_state" cD a.iU a.iV
 uI:Binds K a.iV Mh []
 jc:mg "_law_truth" = some (.ref a.mD)
 hG:jY K "_law_truth" "_law_truth" fg a.mD a.mE
 jd:Binds K a.mE TN []
 Gh:mg "_law_own" = some (.ref a.qR)
 xt:jY K "_law_own" "_law_own" gJ a.qR a.qS
 Gi:Binds K a.qS TQ []
 uJ:mg "_law_of_class" = some (.ref a.iW)
 mL:jY K "_law_of_class" "_law_of_class" cE a.iW a.iX
 uK:Binds K a.iX Mi []
 C7:mg "_law_grow" = some (.ref a.oO)
 uL:jY K "_law_grow" "_law_grow" fR a.oO a.oP
 C8:Binds K a.oP Mj []
 Bl:mg "_law_grown" = some (.ref a.mF)
 rK:jY K "_law_grown" "_law_grown" fh a.mF a.mG
 Bm:Binds K a.mG Mk []
 rL:mg "_law_right" = some (.ref a.mH)
 mM:jY K "_law_right" "_law_right" fi a.mH a.mI
 rM:Binds K a.mI Ml []
 aj8:mg "law" = some (.ref a.Jj)
 TU:jY K "law" "law" ku a.Jj a.Jk
 aj9:Binds K a.Jk TR []
 Mm:mg "Kind" = some (.ref (cl 0))
 Xy:Lx K (cl 0)
 Jl:Gy K (cl 0)
 vM:Meth K (cl 0) "under" a.cW
 yP:mg "Most" = some (.ref (cl 1))
 Jm:Lx K (cl 1)
 uM:Gy K (cl 1)
 nO:C0 K (cl 1)
 yQ:kitOne K (.ref (cl 1)) (.ref (cl 0))=some true
 Bn:kitOne K (.ref (cl 1)) (.ref (cl 5))=some false
 yR:kitOne K (.ref (cl 1)) (.ref (cl 1))=some true
 yS:kitOne K (.ref (cl 1)) (.ref (cl 3))=some false
 Bo:kitOne K (.ref (cl 1)) (.ref (cl 4))=some false
 Bp:kitOne K (.ref (cl 1)) (.ref (cl 2))=some false
 uN:Meth K (cl 1) "called" a.jw
 uO:Meth K (cl 1) "joined" a.js
 vN:Meth K (cl 1) "under" a.cW
 C9:mg "Set" = some (.ref (cl 2))
 Oa:Lx K (cl 2)
 yT:Gy K (cl 2)
 qT:C0 K (cl 2)
 Bq:kitOne K (.ref (cl 2)) (.ref (cl 0))=some true
 Dc:kitOne K (.ref (cl 2)) (.ref (cl 5))=some false
 Br:kitOne K (.ref (cl 2)) (.ref (cl 1))=some false
 Bt:kitOne K (.ref (cl 2)) (.ref (cl 3))=some false
 De:kitOne K (.ref (cl 2)) (.ref (cl 4))=some false
 Df:kitOne K (.ref (cl 2)) (.ref (cl 2))=some true
 vO:Meth K (cl 2) "called" a.kG
 vP:Meth K (cl 2) "joined" a.kD
 yU:Meth K (cl 2) "under" a.cW
 yV:mg "Once" = some (.ref (cl 3))
 Jn:Lx K (cl 3)
 uP:Gy K (cl 3)
 nP:C0 K (cl 3)
 yW:kitOne K (.ref (cl 3)) (.ref (cl 0))=some true
 Bu:kitOne K (.ref (cl 3)) (.ref (cl 5))=some false
 yX:kitOne K (.ref (cl 3)) (.ref (cl 1))=some false
 yY:kitOne K (.ref (cl 3)) (.ref (cl 3))=some true
 Bv:kitOne K (.ref (cl 3)) (.ref (cl 4))=some false
 Bw:kitOne K (.ref (cl 3)) (.ref (cl 2))=some false
 uQ:Meth K (cl 3) "called" a.jy
 uR:Meth K (cl 3) "joined" a.ju
 vQ:Meth K (cl 3) "under" a.cW
 Dg:mg "Row" = some (.ref (cl 4))
 Ob:Lx K (cl 4)
 yZ:Gy K (cl 4)
 qU:C0 K (cl 4)
 Bx:kitOne K (.ref (cl 4)) (.ref (cl 0))=some true
 Dh:kitOne K (.ref (cl 4)) (.ref (cl 5))=some false
 By:kitOne K (.ref (cl 4)) (.ref (cl 1))=some false
 Bz:kitOne K (.ref (cl 4)) (.ref (cl 3))=some false
 Dj:kitOne K (.ref (cl 4)) (.ref (cl 4))=some true
 Dk:kitOne K (.ref (cl 4)) (.ref (cl 2))=some false
 vR:Meth K (cl 4) "called" a.kI
 vS:Meth K (cl 4) "joined" a.kB
 y0:Meth K (cl 4) "under" a.cW
 Dl:mg "Map" = some (.ref (cl 5))
 Oc:Lx K (cl 5)
 y4:Gy K (cl 5)
 qV:C0 K (cl 5)
 BA:kitOne K (.ref (cl 5)) (.ref (cl 0))=some true
 Dm:kitOne K (.ref (cl 5)) (.ref (cl 5))=some true
 BB:kitOne K (.ref (cl 5)) (.ref (cl 1))=some false
 BC:kitOne K (.ref (cl 5)) (.ref (cl 3))=some false
 Dn:kitOne K (.ref (cl 5)) (.ref (cl 4))=some false
 Dp:kitOne K (.ref (cl 5)) (.ref (cl 2))=some false
 vT:Meth K (cl 5) "called" a.kK
 vU:Meth K (cl 5) "joined" a.kx
 y6:Meth K (cl 5) "under" a.cW
 TV:mg "all" = none
 Jo:mg "bool" = none
 Jp:mg "dict" = none
 TX:mg "int" = none
 bY:mg "isinstance" = none
 mN:mg "len" = none
 kT:mg "list" = none
 Od:mg "max" = none
 y7:mg "range" = none
 Ey:mg "set" = none
 fx:mg "sorted" = none
 Mn:mg "tuple" = none
 TY:mg "zip" = none
variable {Pr:Program}{w:World}{K:PySem.W.Frag}{mg:Str->Option Value}{base:Heap}{a:Ad}{cl:Nat->Addr}
theorem jC:aT ["self", "one", "other", "numbers", "pair"] qo (ak dW):=cI rfl rfl rfl rfl (by decide +kernel)
theorem vV(T:Tx K mg a cl):bP Pr w K mg base hV 1 a.kx a.kA qo (hZ ⟨K,cl⟩ 3 cv):=by
 refine fJ T T.yC jC fun hF hr hu T=>?_;exact ae (bX jC.nd hF (cX (A0 rfl) (by rfl) T.Jp (by decide +kernel) (av (sv 1) aH)))
  (ae (eJ PassesOwn.never rfl (eI (sv 2)) (cN jC.nd hF) (af (Jf (pv 3) (cZ (sv 4) aq) (cZ (sv 4) aq) (cZ (sv 4) aq) (af (au (np:=3) j2)) aC ⟨rfl,rfl,rfl,rfl⟩ rfl)))
  (af (au (np:=3) (jm rfl (by rfl) T.fx (sv 3)))))
theorem mO:aT ["self", "one", "other", "numbers"] qo (ak dy):=cI rfl rfl rfl rfl (by decide +kernel)
theorem uS(T:Tx K mg a cl):bP Pr w K mg base hV 1 a.js a.jt qo (hZ ⟨K,cl⟩ 3 bG):=by
 refine fJ T T.vB mO fun hF hr hu T=>?_;exact ae (bX mO.nd hF (ar aZ (sv 1) (sv 2)))
  (af (au (np:=3) (tL (ay Cu (bL iP (by rfl) T.mN (by decide +kernel) (av (sv 3) aH)) aq (az _)) (bV (ag (bL (Er rfl) (by rfl) T.Od (by decide +kernel) (av (sv 3) aH)) aD)) (bV aD))))
theorem uT:aT qo qo (ak dC):=cI rfl rfl rfl rfl (by decide +kernel)
theorem uU(T:Tx K mg a cl):bP Pr w K mg base hV 1 a.ju a.jv qo (hZ ⟨K,cl⟩ 3 bf):=by
 refine fJ T T.vE uT fun hF hr hu T=>?_;exact ae (aP ((fk (ay (aJ hu) (sv 1) (bV aD) (az _)) (eZ (ay (aJ hu) (sv 1) (sv 2) (az _)))).t) (af (au (np:=3) (cX i9 (by rfl) T.kT (by decide +kernel) (av (sv 2) aH)))) aC)
  (af (au (np:=3) (tL (ay (aJ hu) (sv 2) (bV aD) (az _)) (cX i9 (by rfl) T.kT (by decide +kernel) (av (sv 1) aH)) j2)))
theorem vW:aT qo qo (ak dX):=cI rfl rfl rfl rfl (by decide +kernel)
theorem vX(T:Tx K mg a cl):bP Pr w K mg base hV 1 a.kB a.kC qo (hZ ⟨K,cl⟩ 3 bz):=by
 refine fJ T T.yE vW fun hF hr hu T=>?_;exact ae (aP (ay (aJ hu) (sv 1) (cC (sv 2) cF (cn (bL iP (by rfl) T.mN (by decide +kernel) (av (sv 1) aH)))) (az _)) (af (au (np:=3) (cX i9 (by rfl) T.kT (by decide +kernel) (av (sv 2) aH)))) aC)
  (af (au (np:=3) (tL (ay (aJ hu) (sv 2) (cC (sv 1) cF (cn (bL iP (by rfl) T.mN (by decide +kernel) (av (sv 2) aH)))) (az _)) (cX i9 (by rfl) T.kT (by decide +kernel) (av (sv 1) aH)) j2)))
theorem vY:aT qo qo (ak dY):=cI rfl rfl rfl rfl (by decide +kernel)
theorem vZ(T:Tx K mg a cl):bP Pr w K mg base hV 1 a.kD a.kE qo (hZ ⟨K,cl⟩ 3 bR):=by
 refine fJ T T.yG vY fun hF hr hu T=>?_;exact af (au (np:=3) (CO rfl (by rfl) T.fx (by rfl) T.Ey (av (sv 1) aH) (av (sv 2) aH)))
theorem nQ{X:Cx}{cl:Nat->Addr}(T:Tx X.K X.mg a cl)(hr:dr 1 X.A):∀n np cf,vk [(1,3,bG),(2,3,bR),(3,3,bf),(4,3,bz),(5,3,cv)] n=some (np,cf)->j8 X cl "joined" n np cf :=
 (di ⟨_,_,_,_,T.uM,T.uO,uS T,hr.mono (by decide),T.vC⟩ (di ⟨_,_,_,_,T.yT,T.vP,vZ T,hr.mono (by decide),T.yH⟩ (di ⟨_,_,_,_,T.uP,T.uR,uU T,hr.mono (by decide),T.vF⟩ (di ⟨_,_,_,_,T.yZ,T.vS,vX T,hr.mono (by decide),T.yF⟩ (di ⟨_,_,_,_,T.y4,T.vU,vV T,hr.mono (by decide),T.yD⟩ CP)))))
theorem v5:aT qo qo (ak dZ):=cI rfl rfl rfl rfl (by decide +kernel)
theorem d9(T:Tx K mg a cl):bP Pr w K mg base hV 2 a.cW a.kF qo (hZ ⟨K,cl⟩ 3 ao):=by
 refine fJ T T.yI v5 fun hF hr hu T=>?_;exact af (au (np:=3) (fW (aJ hu) (fN (nQ T (hr.mono (by decide))) (sv 0) (av (sv 1) (av (sv 2) aH))) (sv 2) (az _)))
theorem qb{X:Cx}{cl:Nat->Addr}(T:Tx X.K X.mg a cl)(hr:dr 2 X.A):∀n np cf,vk [(0,3,ao),(1,3,ao),(2,3,ao),(3,3,ao),(4,3,ao),(5,3,ao)] n=some (np,cf)->j8 X cl "under" n np cf :=
 (di ⟨_,_,_,_,T.Jl,T.vM,d9 T,hr.mono (by decide),T.fj⟩ (di ⟨_,_,_,_,T.uM,T.vN,d9 T,hr.mono (by decide),T.fj⟩ (di ⟨_,_,_,_,T.yT,T.yU,d9 T,hr.mono (by decide),T.fj⟩ (di ⟨_,_,_,_,T.uP,T.vQ,d9 T,hr.mono (by decide),T.fj⟩ (di ⟨_,_,_,_,T.yZ,T.y0,d9 T,hr.mono (by decide),T.fj⟩ (di ⟨_,_,_,_,T.y4,T.y6,d9 T,hr.mono (by decide),T.fj⟩ CP))))))
theorem uV:aT rY rY (ak dD):=cI rfl rfl rfl rfl (by decide +kernel)
theorem uW(T:Tx K mg a cl):bP Pr w K mg base hV 1 a.jw a.jx rY (hZ ⟨K,cl⟩ 1 gg):=by
 refine fJ T T.vG uV fun hF hr hu T=>?_;exact af (au (np:=1) aI)
theorem v8:aT rY rY (ak d0):=cI rfl rfl rfl rfl (by decide +kernel)
theorem wa(T:Tx K mg a cl):bP Pr w K mg base hV 1 a.kG a.kH rY (hZ ⟨K,cl⟩ 1 gS):=by
 refine fJ T T.yJ v8 fun hF hr hu T=>?_;exact af (au (np:=1) aI)
theorem uX:aT rY rY (ak dE):=cI rfl rfl rfl rfl (by decide +kernel)
theorem uY(T:Tx K mg a cl):bP Pr w K mg base hV 1 a.jy a.jz rY (hZ ⟨K,cl⟩ 1 gh):=by
 refine fJ T T.vI uX fun hF hr hu T=>?_;exact af (au (np:=1) aI)
theorem wb:aT rY rY (ak d4):=cI rfl rfl rfl rfl (by decide +kernel)
theorem wc(T:Tx K mg a cl):bP Pr w K mg base hV 1 a.kI a.kJ rY (hZ ⟨K,cl⟩ 1 gT):=by
 refine fJ T T.yL wb fun hF hr hu T=>?_;exact af (au (np:=1) aI)
theorem we:aT rY rY (ak d5):=cI rfl rfl rfl rfl (by decide +kernel)
theorem wg(T:Tx K mg a cl):bP Pr w K mg base hV 1 a.kK a.kL rY (hZ ⟨K,cl⟩ 1 gU):=by
 refine fJ T T.yN we fun hF hr hu T=>?_;exact af (au (np:=1) aI)
theorem Gj{X:Cx}{cl:Nat->Addr}(T:Tx X.K X.mg a cl)(hr:dr 1 X.A):∀n np cf,vk [(1,1,gg),(2,1,gS),(3,1,gh),(4,1,gT),(5,1,gU)] n=some (np,cf)->j8 X cl "called" n np cf :=
 (di ⟨_,_,_,_,T.uM,T.uN,uW T,hr.mono (by decide),T.vH⟩ (di ⟨_,_,_,_,T.yT,T.vO,wa T,hr.mono (by decide),T.yK⟩ (di ⟨_,_,_,_,T.uP,T.uQ,uY T,hr.mono (by decide),T.vJ⟩ (di ⟨_,_,_,_,T.yZ,T.vR,wc T,hr.mono (by decide),T.yM⟩ (di ⟨_,_,_,_,T.y4,T.vT,wg T,hr.mono (by decide),T.yO⟩ CP)))))
theorem Dq:aT ["word"] ["word"] (ak gH):=cI rfl rfl rfl rfl (by decide +kernel)
theorem Dr(T:Tx K mg a cl):bP Pr w K mg base hV 2 a.qP a.qQ ["word"] (hZ ⟨K,cl⟩ 1 iR):=by
 refine fJ T T.xr Dq fun hF hr hu T=>?_;exact ae (aP (ay (aJ hu) (sv 0) aI (az _)) (af (au (np:=1) (gN T.Jm (hr.mono (by decide)) (by rfl) T.yP))) aC)
  (ae (aP (ay (aJ hu) (sv 0) aI (az _)) (af (au (np:=1) (gN T.Oa (hr.mono (by decide)) (by rfl) T.C9))) aC)
  (ae (aP (ay (aJ hu) (sv 0) aI (az _)) (af (au (np:=1) (gN T.Jn (hr.mono (by decide)) (by rfl) T.yV))) aC)
  (ae (aP (ay (aJ hu) (sv 0) aI (az _)) (af (au (np:=1) (gN T.Ob (hr.mono (by decide)) (by rfl) T.Dg))) aC)
  (af (au (np:=1) (gN T.Oc (hr.mono (by decide)) (by rfl) T.Dl))))))
theorem y8:aT TL TL (ak dO):=cI rfl rfl rfl rfl (by decide +kernel)
theorem y9(T:Tx K mg a cl):bP Pr w K mg base hV 1 a.md a.mj TL (hZ ⟨K,cl⟩ 2 gk):=by
 refine fJ T T.rE y8 fun hF hr hu T=>?_;exact af (au (np:=2) (tP (N':=RN) (cap:=[none]) rfl (eI (cC (sv 0) cF (cn (sv 1)))) (An (sc:=ak dO) rfl rfl (by decide +kernel) (by decide +kernel) (by decide +kernel)) (⟨trivial,trivial⟩) (fun cs C s2 H2 fp P2 za Mo=>by cases P2;cases za;exact⟨jP (show(RN:List Str).Nodup by decide +kernel) rfl (Or.inl rfl) (Mo 0 rfl),nE,ar cu (sv 0) (ar sy aq aq)⟩)))
theorem eh:aT ["_law_cell", "_law_many", "_law_number_here", "_law_found", "_law_k", "_law_more"] Vc (ak d7):=cI rfl rfl rfl rfl (by decide +kernel)
theorem jD(T:Tx K mg a cl):bP Pr w K mg base hV 1 a.kM a.kN Vc (hZ ⟨K,cl⟩ 2 bp):=by
 refine fJ T T.ix eh fun hF hr hu T=>?_;exact ae (bX eh.nd hF (ar cu (sv 0) aq))
  (ae (bX eh.nd hF (bV aD))
  (ae (eJ PassesOwn.never rfl (qF (by rfl) T.y7 (av (ar aZ (sv 1) aq) aH)) (cN eh.nd hF) (ae (bX eh.nd hF (ar aZ (ar aZ (ar g6 (sv 2) aq) (ar g6 aq (sv 4))) aq))
  (ae (bX eh.nd hF (ar cu (ar aZ (ar g6 (ar g6 (sv 2) (sv 2)) aq) (sv 5)) aq))
  (af (gF (pv 3) (ar i7 (sv 2) aq))))))
  (af (au (np:=2) (cC (sv 3) (cn aq) cF)))))
theorem zb:aT TM TM (ak fe):=cI rfl rfl rfl rfl (by decide +kernel)
theorem zc(T:Tx K mg a cl):bP Pr w K mg base hV 1 a.mn a.mq TM (hZ ⟨K,cl⟩ 1 ko):=by
 refine fJ T T.rF zb fun hF hr hu T=>?_;exact af (au (np:=1) (snd_and (pT Ls (by rfl) T.bY (by decide +kernel) (by rfl) T.TX (by decide +kernel) (sv 0)) (pP (La (pT Au (by rfl) T.bY (by decide +kernel) (by rfl) T.Jo (by decide +kernel) (sv 0))))))
theorem wj:aT GG GG (ak d8):=cI rfl rfl rfl rfl (by decide +kernel)
theorem ox(T:Tx K mg a cl):bP Pr w K mg base hV 1 a.kO a.kP GG (hZ ⟨K,cl⟩ 1 bS):=by
 refine fJ T T.kS wj fun hF hr hu T=>?_;exact ae (aP (ay (aJ hu) (ar cu (sv 0) aq) aq (az _)) (af (au (np:=1) (ar cu (ar i7 (sv 0) aq) aq))) aC)
  (ae (aP (ay (aJ hu) (ar cu (sv 0) aq) aq (az _)) (af (au (np:=1) (ar DZ aq (ar cu (ar i7 (sv 0) aq) aq)))) aC)
  (af (au (np:=1) (ar cu (ar g6 (sv 0) aq) aq))))
theorem gm:aT ["_law_word", "_law_xs", "_law_numbers", "_law_pairs", "_law_key", "_law_x"] Mc (ak dP):=cI rfl rfl rfl rfl (by decide +kernel)
theorem qc(T:Tx K mg a cl):bP Pr w K mg base hV 2 a.mw a.mx Mc (hZ ⟨K,cl⟩ 2 fc):=by
 refine fJ T T.mJ gm fun hF hr hu T=>?_;exact ae (Ar (N':=GG) (cap:=[none]) gm.nd rfl (Or.inl rfl) (hF 2 (by decide)) rfl (eI (tY (sv 1) (cn aq) cF (cn aq))) (An (sc:=ak dP) rfl rfl (by decide +kernel) (by decide +kernel) (by decide +kernel)) (⟨trivial,trivial⟩) (fun cs C s2 H2 fp P2 za Mo=>by cases P2;cases za;exact⟨jP (show(GG:List Str).Nodup by decide +kernel) rfl (Or.inl rfl) (Mo 0 rfl),nE,cG hr (ox T) T.p9 T.kS.kp T.qa (ag (sv 0) aD)⟩))
  (ae (aP ((fk (ay (aJ hu) (sv 0) aI (az _)) (eZ (ay (aJ hu) (sv 0) aI (az _)))).t) (af (au (np:=2) (cC (sv 2) cF (cn aq)))) aC)
  (ae (aP (ay (aJ hu) (sv 0) aI (az _)) (af (au (np:=2) (sv 2))) aC)
  (ae (aP (ay (aJ hu) (sv 0) aI (az _)) (af (au (np:=2) (lV rfl (by rfl) T.fx (by rfl) T.Ey (av (sv 2) aH)))) aC)
  (ae (bX gm.nd hF Ir)
  (ae (eJ PassesOwn.never rfl (LF (by rfl) T.TY (ag (sv 2) (ag (tY (sv 1) (cn aq) cF (cn aq)) aD))) (j5 rfl (cq (cN gm.nd hF) (cq (cN gm.nd hF) iN))) (af (AA (NJ hr) (pv 3) (sv 4) (cG hr (ox T) T.p9 T.kS.kp T.qa (ag (sv 5) aD)))))
  (af (au (np:=2) (jm rfl (by rfl) T.fx (sv 3)))))))))
theorem BD:aT GG GG (ak fO):=cI rfl rfl rfl rfl (by decide +kernel)
theorem rN(T:Tx K mg a cl):bP Pr w K mg base hV 1 a.oF a.oG GG (hZ ⟨K,cl⟩ 1 bM):=by
 refine fJ T T.oQ BD fun hF hr hu T=>?_;exact ae (aP (ay (aJ hu) (ar cu (sv 0) aq) aq (az _)) (af (au (np:=1) (ar aZ aq (ar cu (ar i7 (sv 0) aq) aq)))) aC)
  (af (au (np:=1) (ar cu (ar i7 (sv 0) aq) aq)))
theorem je:aT ["_law_word", "_law_state_here", "_law_fresh", "_law_pairs", "_law_key", "_law_number_here"] Md (ak fP):=cI rfl rfl rfl rfl (by decide +kernel)
theorem BE(T:Tx K mg a cl):bP Pr w K mg base hV 1 a.oH a.oI Md (hZ ⟨K,cl⟩ 3 eR):=by
 refine fJ T T.uD je fun hF hr hu T=>?_;exact ae (aP (ay (aJ hu) (sv 0) aI (az _)) (af (au (np:=3) (cC (bL uy (by rfl) T.fx (by decide +kernel) (av (ar aZ (sv 1) (sv 2)) aH)) (cn (sA aq)) cF))) aC)
  (ae (aP (ay (aJ hu) (sv 0) aI (az _)) (af (au (np:=3) (lV rfl (by rfl) T.fx (by rfl) T.Ey (av (ar aZ (sv 1) (sv 2)) aH)))) aC)
  (ae (aP (ay (aJ hu) (sv 0) aI (az _)) (af (au (np:=3) (cC (ar aZ (sv 1) (sv 2)) cF (cn aq)))) aC)
  (ae (aP (ay (aJ hu) (sv 0) aI (az _)) (af (au (np:=3) (ar aZ (sv 1) (sv 2)))) aC)
  (ae (bX je.nd hF (cX (A0 rfl) (by rfl) T.Jp (by decide +kernel) (av (sv 2) aH)))
  (ae (eJ PassesOwn.never rfl (eI (sv 1)) (j5 rfl (cq (cN je.nd hF) (cq (cN je.nd hF) iN))) (af (AA (NJ hr) (pv 3) (sv 4) (sv 5))))
  (af (au (np:=3) (jm rfl (by rfl) T.fx (sv 3)))))))))
theorem gn:aT ["_law_word", "_law_state_here", "_law_at", "_law_x", "_law_key", "_law_number_here"] Me (ak dF):=cI rfl rfl rfl rfl (by decide +kernel)
theorem uZ(T:Tx K mg a cl):bP Pr w K mg base hV 1 a.jA a.jB Me (hZ ⟨K,cl⟩ 4 dw):=by
 refine fJ T T.ou gn fun hF hr hu T=>?_;exact ae (aP (ay (aJ hu) (sv 0) aI (az _)) (ae (x8 (cZ (sv 1) (sv 2)) (j5 rfl (cq (cN gn.nd hF) (cq (cN gn.nd hF) iN))))
  (af (au (np:=4) (ar aZ (ar aZ (cC (sv 1) cF (cn (sv 2))) (bV (ag (i6 (ag (sv 4) (ag (ar cu (ar aZ (ar aZ (sv 5) aq) (ar cu (sv 3) aq)) (ar sy aq aq)) aD))) aD))) (cC (sv 1) (cn (ar aZ (sv 2) aq)) cF))))) aC)
  (ae (aP (ay (aJ hu) (sv 0) aI (az _)) (af (au (np:=4) (lV rfl (by rfl) T.fx (by rfl) T.Ey (av (ar aZ (ar aZ (cC (sv 1) cF (cn (sv 2))) (cC (sv 1) (cn (ar aZ (sv 2) aq)) cF)) (bV (ag (ar cu (ar g6 (sv 3) aq) (ar sy aq aq)) aD))) aH)))) aC)
  (ae (bX gn.nd hF (ar cu (ar aZ (ar aZ (cZ (sv 1) (sv 2)) aq) (ar cu (sv 3) aq)) (ar sy aq aq)))
  (af (au (np:=4) (ar aZ (ar aZ (cC (sv 1) cF (cn (sv 2))) (bV (ag (sv 5) aD))) (cC (sv 1) (cn (ar aZ (sv 2) aq)) cF))))))
theorem iy:aT ["_law_word", "_law_state_here", "_law_x", "_law_xs", "_law_fresh", "_law_way", "_law_at"] Mf (ak ff):=cI rfl rfl rfl rfl (by decide +kernel)
theorem zd(T:Tx K mg a cl):bP Pr w K mg base hV 3 a.mz a.mB Mf (hZ ⟨K,cl⟩ 4 cw):=by
 refine fJ T T.rJ iy fun hF hr hu T=>?_;exact ae (bX iy.nd hF (cG hr (qc T) T.rG T.mJ.kp T.rH (ag (sv 0) (ag (sv 3) aD))))
  (ae (bX iy.nd hF (ar cu (sv 2) aq))
  (ae (bX iy.nd hF (ar cu (ar i7 (sv 2) aq) (ar aZ (bL iP (by rfl) T.mN (by decide +kernel) (av (sv 1) aH)) aq)))
  (ae (aP ((fk (ay (aJ hu) (sv 5) aq (az _)) (eZ (ay (aJ hu) (sv 1) (bV aD) (az _)))).t) (af (au (np:=4) (sv 4))) aC)
  (ae (aP (ay (aJ hu) (sv 5) aq (az _)) (af (au (np:=4) (cC (sv 1) cF (cn (sv 6))))) aC)
  (ae (aP (ay (aJ hu) (sv 5) aq (az _)) (af (au (np:=4) (cG hr (BE T) T.C3 T.uD.kp T.C4 (ag (sv 0) (ag (sv 1) (ag (sv 4) aD)))))) aC)
  (ae (aP (ay (aJ hu) (sv 5) aq (az _)) (af (au (np:=4) (cG hr (uZ T) T.vK T.ou.kp T.vL (ag (sv 0) (ag (sv 1) (ag (ar cu (sv 6) (bL iP (by rfl) T.mN (by decide +kernel) (av (sv 1) aH))) (ag (ar i7 (sv 2) aq) aD))))))) aC)
  (af (au (np:=4) (cX i9 (by rfl) T.kT (by decide +kernel) (av (sv 1) aH))))))))))
theorem fT:aT ["_law_cell", "_law_word", "_law_heads", "_law_one", "_law_xs", "_law_other_here"] RN (ak fQ):=cI rfl rfl rfl rfl (by decide +kernel)
theorem BF(T:Tx K mg a cl):bP Pr w K mg base hV 4 a.oJ a.oK RN (hZ ⟨K,cl⟩ 1 hE):=by
 refine fJ T T.uE fT fun hF hr hu T=>?_;exact ae (bX fT.nd hF (cZ (bV (ag aI (ag aI (ag aI (ag aI (ag aI aD)))))) (ar cu (sv 0) aq)))
  (ae (bX fT.nd hF (cG hr (jD T) T.kQ T.ix.kp T.kR (ag (ar i7 (sv 0) aq) (ag aq aD))))
  (ae (bX fT.nd hF (cG hr (qc T) T.rG T.mJ.kp T.rH (ag (sv 1) (ag (cG hr (jD T) T.kQ T.ix.kp T.kR (ag (cZ (sv 2) aq) (ag (ar g6 aq (cG hr (rN T) T.uB T.oQ.kp T.uC (ag (cZ (sv 2) aq) aD))) aD))) aD))))
  (ae (bX fT.nd hF (cG hr (jD T) T.kQ T.ix.kp T.kR (ag (cZ (sv 2) aq) (ag (ar g6 aq (cG hr (rN T) T.uB T.oQ.kp T.uC (ag (cZ (sv 2) aq) aD))) aD))))
  (ae (bX fT.nd hF (cG hr (zd T) T.Bj T.rJ.kp T.Bk (ag (sv 1) (ag (sv 3) (ag (cZ (sv 2) aq) (ag (sv 4) aD))))))
  (ae (aP (ay (aJ hu) (ar cu (cZ (sv 2) aq) aq) aq (az _)) (af (au (np:=1) (i6 (ag (sv 1) (ag (sv 5) (ag (sv 3) aD)))))) aC)
  (af (au (np:=1) (i6 (ag (sv 1) (ag (sv 3) (ag (sv 5) aD)))))))))))
theorem cH:aT ["_law_word", "_law_one", "_law_other_here", "_law_found", "_law_number_here", "_law_key", "_law_there", "_law_second", "_law_short", "_law_long", "_law_k"] Mg (ak eV):=cI rfl rfl rfl rfl (by decide +kernel)
theorem rO(T:Tx K mg a cl):bP Pr w K mg base hV 1 a.oM a.oN Mg (hZ ⟨K,cl⟩ 3 cx):=by
 refine fJ T T.oR cH fun hF hr hu T=>?_;exact ae (aP (ay (aJ hu) (sv 0) aI (az _)) (af (au (np:=3) (tL (ay (fX hu) (ar aZ (sv 1) (sv 2)) (bV aD) (az _)) (bV (ag (bL (Er rfl) (by rfl) T.Od (by decide +kernel) (av (ar aZ (sv 1) (sv 2)) aH)) aD)) (bV aD)))) aC)
  (ae (aP (ay (aJ hu) (sv 0) aI (az _)) (ae (bX cH.nd hF (bV aD))
  (ae (eJ PassesOwn.never rfl (eI (bL uy (by rfl) T.fx (by decide +kernel) (av (ar aZ (sv 1) (sv 2)) aH))) (cN cH.nd hF) (af (aP ((fk (ay (aJ hu) (sv 3) (bV aD) (az _)) (eZ (ay (fX hu) (cZ (sv 3) (sA aq)) (sv 4) (az _)))).t) (af (gF (pv 3) (sv 4))) aC)))
  (af (au (np:=3) (sv 3))))) aC)
  (ae (aP (ay (aJ hu) (sv 0) aI (az _)) (ae (eJ PassesOwn.never rfl (eI (sv 1)) (j5 rfl (cq (cN cH.nd hF) (cq (cN cH.nd hF) iN))) (af (eJ PassesOwn.never rfl (eI (sv 2)) (j5 rfl (cq (cN cH.nd hF) (cq (cN cH.nd hF) iN))) (af (aP ((sx (ay (aJ hu) (sv 6) (sv 5) (az _)) (pN (ay (fX hu) (sv 7) (sv 4) (az _)))).t) (af (au (np:=3) j2)) aC)))))
  (af (au (np:=3) (bL uy (by rfl) T.fx (by decide +kernel) (av (ar aZ (sv 1) (tP (N':=["_law_pair_here", "_law_one"]) (cap:=[none,some 1]) rfl (eI (sv 2)) (An (sc:=ak eV) rfl rfl (by decide +kernel) (by decide +kernel) (by decide +kernel)) (⟨trivial,⟨⟨rfl,.inl rfl,.inl rfl⟩,trivial⟩⟩) (fun cs C s2 H2 fp P2 za Mo=>by cases P2;cases za;exact⟨jP (show(["_law_pair_here", "_law_one"]:List Str).Nodup by decide +kernel) rfl (Or.inl rfl) (Mo 0 rfl),Fv (ay (FX hu) (sv 0) (sv 1) (by rfl)),sv 0⟩))) aH))))) aC)
  (ae (x8 (tL (ay yc (bL iP (by rfl) T.mN (by decide +kernel) (av (sv 1) aH)) (bL iP (by rfl) T.mN (by decide +kernel) (av (sv 2) aH)) (az _)) (i6 (ag (sv 1) (ag (sv 2) aD))) (i6 (ag (sv 2) (ag (sv 1) aD)))) (j5 rfl (cq (cN cH.nd hF) (cq (cN cH.nd hF) iN))))
  (ae (eJ PassesOwn.never rfl (qF (by rfl) T.y7 (av (bL iP (by rfl) T.mN (by decide +kernel) (av (sv 8) aH)) aH)) (cN cH.nd hF) (af (aP (ay (fX hu) (cZ (sv 8) (sv 10)) (cZ (sv 9) (sv 10)) (az _)) (af (au (np:=3) j2)) aC)))
  (af (au (np:=3) (cX i9 (by rfl) T.kT (by decide +kernel) (av (sv 9) aH))))))))
theorem cQ:aT ["_law_word", "_law_thing", "_law_keys", "_law_one", "_law_parts", "_law_part"] Mh (ak cD):=cI rfl rfl rfl rfl (by decide +kernel)
theorem rZ(T:Tx K mg a cl):bP Pr w K mg base hV 2 a.iU a.iV Mh (hZ ⟨K,cl⟩ 2 cP):=by
 refine fJ T T.mK cQ fun hF hr hu T=>?_;exact ae (aP (ir (iq (pT Ij (by rfl) T.bY (by decide +kernel) (by rfl) T.kT (by decide +kernel) (sv 1)))) (af (au (np:=2) iL)) aC)
  (ae (DW cQ.nd rfl (Or.inr rfl) (hF 2 (by decide)) (bV aD))
  (ae (eJ PassesOwn.never rfl (eI (sv 1)) (cN cQ.nd hF) (ae (bX cQ.nd hF (i6 (ag (sv 3) aD)))
  (ae (aP (ay (aJ hu) (sv 0) aI (az _)) (ae (aP ((fk (ir (iq (pT kit_tuple (by rfl) T.bY (by decide +kernel) (by rfl) T.Mn (by decide +kernel) (sv 3)))) (eZ (ay (fX hu) (bL iP (by rfl) T.mN (by decide +kernel) (av (sv 3) aH)) aq (az _)))).t) (af (au (np:=2) iL)) aC)
  (af (bX cQ.nd hF (sv 3)))) aC)
  (ae (eJ PassesOwn.never rfl (Lz (sv 4)) (cN cQ.nd hF) (af (aP ((fk (ir (iq (cG hr (zc T) T.Bg T.rF.kp T.Bh (ag (sv 5) aD)))) (fk (ay yc (sv 5) aq (az _)) (eZ (ay Cu (sv 5) aq (az _))))).t) (af (au (np:=2) iL)) aC)))
  (af (gF (pv 2) (cZ (sv 4) aq)))))))
  (ae (aP ((fk (ay (aJ hu) (sv 0) aI (az _)) (eZ (ay (aJ hu) (sv 0) aI (az _)))).t) (af (au (np:=2) (fW yc (bL iP (by rfl) T.mN (by decide +kernel) (av (sv 2) aH)) aq (az _)))) aC)
  (af (au (np:=2) (PU (fW (aJ hu) (sv 0) aI (az _)) (pP (bL (P8 rfl) (by rfl) T.TV (by decide +kernel) (av (tP (N':=["_law_k", "_law_keys"]) (cap:=[none,some 2]) rfl (qF (by rfl) T.y7 (av (ar DZ (bL iP (by rfl) T.mN (by decide +kernel) (av (sv 2) aH)) aq) aH)) (An (sc:=ak cD) rfl rfl (by decide +kernel) (by decide +kernel) (by decide +kernel)) (⟨trivial,⟨⟨rfl,.inl rfl,.inl rfl⟩,trivial⟩⟩) (fun cs C s2 H2 fp P2 za Mo=>by cases P2;cases za;exact⟨jP (show(["_law_k", "_law_keys"]:List Str).Nodup by decide +kernel) rfl (Or.inl rfl) (Mo 0 rfl),nE,fW yc (cZ (sv 1) (sv 0)) (cZ (sv 1) (ar aZ (sv 0) aq)) (az _)⟩)) aH)))))))))
theorem ze:aT TN TN (ak fg):=cI rfl rfl rfl rfl (by decide +kernel)
theorem iz(T:Tx K mg a cl):bP Pr w K mg base hV 1 a.mD a.mE TN (hZ ⟨K,cl⟩ 2 dM):=by
 refine fJ T T.hG ze fun hF hr hu T=>?_;exact af (au (np:=2) (snd_and (pT Au (by rfl) T.bY (by decide +kernel) (by rfl) T.Jo (by decide +kernel) (sv 0)) (pP (fW (aJ hu) (sv 0) (sv 1) (az _)))))
theorem Ds:aT TQ TQ (ak gJ):=cI rfl rfl rfl rfl (by decide +kernel)
theorem Dt(T:Tx K mg a cl):bP Pr w K mg base hV 2 a.qR a.qS TQ (hZ ⟨K,cl⟩ 1 iT):=by
 refine fJ T T.xt Ds fun hF hr hu T=>?_;exact ae (aP (ay (aJ hu) (sv 0) aI (az _)) (af (au (np:=1) (gN T.Jm (hr.mono (by decide)) (by rfl) T.yP))) aC)
  (ae (aP (ay (aJ hu) (sv 0) aI (az _)) (af (au (np:=1) (gN T.Oa (hr.mono (by decide)) (by rfl) T.C9))) aC)
  (ae (aP (ay (aJ hu) (sv 0) aI (az _)) (af (au (np:=1) (gN T.Jn (hr.mono (by decide)) (by rfl) T.yV))) aC)
  (ae (aP (ay (aJ hu) (sv 0) aI (az _)) (af (au (np:=1) (gN T.Ob (hr.mono (by decide)) (by rfl) T.Dg))) aC)
  (af (au (np:=1) (gN T.Oc (hr.mono (by decide)) (by rfl) T.Dl))))))
theorem ig:aT ["_law_kind", "_law_word", "_law_some", "_law_due"] Mi (ak cE):=cI rfl rfl rfl rfl (by decide +kernel)
theorem r6(T:Tx K mg a cl):bP Pr w K mg base hV 1 a.iW a.iX Mi (hZ ⟨K,cl⟩ 2 dS):=by
 refine fJ T T.mL ig fun hF hr hu T=>?_;exact ae (bX ig.nd hF (bV (ag (nM (aW ⟨T.nO,T.yR⟩ (aW ⟨T.qT,T.Br⟩ (aW ⟨T.nP,T.yX⟩ (aW ⟨T.qU,T.By⟩ (aW ⟨T.qV,T.BB⟩ nN))))) (by rfl) T.bY (by rfl) T.yP (sv 0)) (ag (nM (aW ⟨T.nO,T.Bp⟩ (aW ⟨T.qT,T.Df⟩ (aW ⟨T.nP,T.Bw⟩ (aW ⟨T.qU,T.Dk⟩ (aW ⟨T.qV,T.Dp⟩ nN))))) (by rfl) T.bY (by rfl) T.C9 (sv 0)) (ag (nM (aW ⟨T.nO,T.yS⟩ (aW ⟨T.qT,T.Bt⟩ (aW ⟨T.nP,T.yY⟩ (aW ⟨T.qU,T.Bz⟩ (aW ⟨T.qV,T.BC⟩ nN))))) (by rfl) T.bY (by rfl) T.yV (sv 0)) (ag (nM (aW ⟨T.nO,T.Bo⟩ (aW ⟨T.qT,T.De⟩ (aW ⟨T.nP,T.Bv⟩ (aW ⟨T.qU,T.Dj⟩ (aW ⟨T.qV,T.Dn⟩ nN))))) (by rfl) T.bY (by rfl) T.Dg (sv 0)) aD))))))
  (ae (Ar (N':=["_law_other_here", "_law_word"]) (cap:=[none,some 1]) ig.nd rfl (Or.inl rfl) (hF 3 (by decide)) rfl (eI (bV (ag aI (ag aI (ag aI (ag aI (ag aI aD))))))) (An (sc:=ak cE) rfl rfl (by decide +kernel) (by decide +kernel) (by decide +kernel)) (⟨trivial,⟨⟨rfl,.inl rfl,.inl rfl⟩,trivial⟩⟩) (fun cs C s2 H2 fp P2 za Mo=>by cases P2;cases za;exact⟨jP (show(["_law_other_here", "_law_word"]:List Str).Nodup by decide +kernel) rfl (Or.inl rfl) (Mo 0 rfl),nE,fW (aJ hu) (sv 1) (sv 0) (az _)⟩))
  (af (au (np:=2) (snd_and (nM (aW ⟨T.nO,T.yQ⟩ (aW ⟨T.qT,T.Bq⟩ (aW ⟨T.nP,T.yW⟩ (aW ⟨T.qU,T.Bx⟩ (aW ⟨T.qV,T.BA⟩ nN))))) (by rfl) T.bY (by rfl) T.Mm (sv 0)) (pP (fW (aJ hu) (ar aZ (sv 2) (bV (ag (nM (aW ⟨T.nO,T.Bn⟩ (aW ⟨T.qT,T.Dc⟩ (aW ⟨T.nP,T.Bu⟩ (aW ⟨T.qU,T.Dh⟩ (aW ⟨T.qV,T.Dm⟩ nN))))) (by rfl) T.bY (by rfl) T.Dl (sv 0)) aD))) (sv 3) (az _)))))))
theorem jf:aT ["_law_word", "_law_state_here", "_law_top"] Mj (ak fR):=cI rfl rfl rfl rfl (by decide +kernel)
theorem BH(T:Tx K mg a cl):bP Pr w K mg base hV 1 a.oO a.oP Mj (hZ ⟨K,cl⟩ 2 cy):=by
 refine fJ T T.uL jf fun hF hr hu T=>?_;exact ae (bX jf.nd hF aq)
  (ae (aP ((sx (ay (fX hu) (sv 1) (bV aD) (az _)) (pN (ay (aJ hu) (sv 0) aI (az _)))).t) (af (bX jf.nd hF (ar aZ (cZ (sv 1) (sA aq)) aq))) aC)
  (ae (aP ((sx (ay (fX hu) (sv 1) (bV aD) (az _)) (pN (ay (aJ hu) (sv 0) aI (az _)))).t) (af (bX jf.nd hF (ar aZ (cZ (cZ (sv 1) (sA aq)) aq) aq))) aC)
  (ae (aP ((fk (ay Cu (sv 2) aq (az _)) (eZ ((sx (ay (fX hu) (sv 1) (bV aD) (az _)) (pN ((fk (ay (aJ hu) (sv 0) aI (az _)) (eZ (ay (aJ hu) (sv 0) aI (az _)))).t))).t))).t) (af HS) aC)
  (af (aP (ay (aJ hu) (sv 0) aI (az _)) (af (gF (pv 1) (i6 (ag (sv 2) (ag aq aD))))) (af (gF (pv 1) (sv 2))))))))
theorem qe:aT ["_law_kind", "_law_word", "_law_first", "_law_second", "_law_due"] Mk (ak fh):=cI rfl rfl rfl rfl (by decide +kernel)
theorem zf(T:Tx K mg a cl):bP Pr w K mg base hV 3 a.mF a.mG Mk (hZ ⟨K,cl⟩ 4 iw):=by
 refine fJ T T.rK qe fun hF hr hu T=>?_;exact ae (Jb (BH T) (hr.mono (by decide)) (by rfl) T.C7 T.uL.kp T.C8 (jS (sv 1) (jS (sv 2) Eo)))
  (ae (bX qe.nd hF (qO (rO T) (hr.mono (by decide)) (by rfl) T.uF T.oR.kp T.uG (av (sv 1) (av (sv 2) (av (sv 3) aH)))))
  (ae (aP (ay (fX hu) (fN (nQ T (hr.mono (by decide))) (sv 0) (av (sv 2) (av (sv 3) aH))) (sv 4) (az _)) (af (au (np:=4) iL)) aC)
  (af (au (np:=4) (snd_and (cG hr (iz T) T.jc T.hG.kp T.jd (ag (fN (qb T (hr.mono (by decide))) (sv 0) (av (sv 2) (av (sv 3) aH))) (ag (fW (aJ hu) (sv 4) (sv 3) (az _)) aD))) (pP (cG hr (iz T) T.jc T.hG.kp T.jd (ag (fN (qb T (hr.mono (by decide))) (sv 0) (av (sv 3) (av (sv 2) aH))) (ag (fW (aJ hu) (sv 4) (sv 2) (az _)) aD)))))))))
theorem gq:aT ["_law_kind", "_law_word", "_law_one", "_law_other_here", "_law_due", "_law_first", "_law_second", "_law_found"] Ml (ak fi):=cI rfl rfl rfl rfl (by decide +kernel)
theorem qf(T:Tx K mg a cl):bP Pr w K mg base hV 4 a.mH a.mI Ml (hZ ⟨K,cl⟩ 4 dN):=by
 refine fJ T T.mM gq fun hF hr hu T=>?_;refine ae (bX gq.nd hF (qO (rO T) (hr.mono (by decide)) (by rfl) T.uF T.oR.kp T.uG (av (sv 1) (av (sv 2) (av (sv 3) aH))))) ?_;refine ae (bX gq.nd hF (cX i9 (by rfl) T.kT (by decide +kernel) (av (sv 2) aH))) ?_;refine ae (bX gq.nd hF (cX i9 (by rfl) T.kT (by decide +kernel) (av (sv 3) aH))) ?_;refine ae (bX gq.nd hF (fN (nQ T (hr.mono (by decide))) (sv 0) (av (sv 5) (av (sv 6) aH)))) ?_;refine ae (aP ?_ ?_ ?_) ?_
 ·exact(ay Lg (sv 4) j2 (az _))
 ·exact(af (aP (ay HY (sv 7) j2 (az _)) (af (au (np:=4) iL)) aC))
 ·exact(ae (aP ((fk (ir (iq (qO (rZ T) (hr.mono (by decide)) (by rfl) T.uH T.mK.kp T.uI (av (sv 1) (av (sv 7) aH))))) (eZ (ay (fX hu) (sv 7) (sv 4) (az _)))).t) (af (au (np:=4) iL)) aC)
  (ae (gF (pv 7) (i6 (ag aq (ag aq aD))))
  (af (aP (ay (fX hu) (fN (nQ T (hr.mono (by decide))) (sv 0) (av (sv 5) (av (sv 6) aH))) (sv 4) (az _)) (af (au (np:=4) iL)) aC))))
 refine ae (aP ?_ ?_ ?_) ?_
 ·exact((fk (ir (iq (cG hr (iz T) T.jc T.hG.kp T.jd (ag (fN (qb T (hr.mono (by decide))) (sv 0) (av (sv 5) (av (sv 6) aH))) (ag (fW (aJ hu) (sv 4) (sv 3) (az _)) aD))))) (eZ (ir (iq (cG hr (iz T) T.jc T.hG.kp T.jd (ag (fN (qb T (hr.mono (by decide))) (sv 0) (av (sv 6) (av (sv 5) aH))) (ag (fW (aJ hu) (sv 4) (sv 2) (az _)) aD))))))).t)
 ·exact(af (au (np:=4) iL))
 ·exact(aC)
 refine ae (aP ?_ ?_ ?_) ?_
 ·exact((fk (ay (fX hu) (sv 5) (sv 2) (az _)) (fk (ay (fX hu) (sv 6) (sv 3) (az _)) (fk (ay (fX hu) (FZ (Gj T (hr.mono (by decide))) (sv 0)) (sv 1) (az _)) (eZ (ir (iq (cG hr (r6 T) T.uJ T.mL.kp T.uK (ag (sv 0) (ag (sv 1) aD))))))))).t)
 ·exact(af (au (np:=4) iL))
 ·exact(aC)
 exact af (Jh (zf T) (hr.mono (by decide)) (by rfl) T.Bl T.rK.kp T.Bm (jS (sv 0) (jS (sv 1) (jS (sv 5) (jS (sv 6) Eo)))))
theorem u0:aT ["_law_script", "_law_cell", "_law_word", "_law_one", "_law_other_here"] TR (ak ku):=cI rfl rfl rfl rfl (by decide +kernel)
theorem Qn(T:Tx K mg a cl):bP Pr w K mg base hV 5 a.Jj a.Jk TR (hZ ⟨K,cl⟩ 1 yB):=by
 refine fJ T T.TU u0 fun hF hr hu T=>?_;exact ae (eJ PassesOwn.never rfl (eI (cG hr (y9 T) T.Be T.rE.kp T.Bf (ag (ar aZ (bV (ag aq (ag aq (ag aq (ag aq (ag aq aD)))))) (sv 0)) (ag aq aD)))) (cN u0.nd hF) (ae (x8 (cG hr (BF T) T.C5 T.uE.kp T.C6 (ag (sv 1) aD)) (j5 rfl (cq (cN u0.nd hF) (cq (cN u0.nd hF) (cq (cN u0.nd hF) iN)))))
  (af (aP ((fk (ir (iq (cG hr (qf T) T.rL T.mM.kp T.rM (ag (cG hr (Dr T) T.Ge T.xr.kp T.Gf (ag (sv 2) aD)) (ag (sv 2) (ag (sv 3) (ag (sv 4) aD))))))) (eZ (ir (iq (cG hr (qf T) T.rL T.mM.kp T.rM (ag (cG hr (Dt T) T.Gh T.xt.kp T.Gi (ag (sv 2) aD)) (ag (sv 2) (ag (sv 3) (ag (sv 4) aD))))))))).t) (af (au (np:=1) iL)) aC))))
  (af (au (np:=1) iL))
theorem all_mk{l:PySem.W.OpenLaw}{h:Heap}{fa:Addr}(X:K.In h)(G:h.Ns mainGlobals mg)(hfa:mg "law" = some (.ref fa))
  {f0 f1 f2 f3 f4 f5 f6 f7 f8 f9 RO Vd Ve Vf Vg Vh Vi Vj Vk Vl Vm Vn Vo Vp Vq Vr Vs Vt Vu Vv Xz fq cb df cc dg dh:Addr} {od0 an0 od1 an1 od2 an2 od3 an3 od4 an4 od5 an5 od6 an6 od7 an7 od8 an8 od9 an9 XA XB XC XD XE XF XG XH XI XJ XM XN XO XQ XR XS XT XU XW XX XY XZ X0 X1 X2 X3 X4 X5 X6 X7 X8 X9 Ya Yb Yc Yd Ye Yf Yg Yh Yi TZ:Option Addr} {sl0 sl1 sl2 sl3 sl4 sl5 sl6 sl7 sl8 sl9 Yj Yk Yl Ym Yn Yo Yp Yq Yr Ys Yt Yu Yv Yw Yx Yy Yz YA YB YC YD:Array (Option Value)} {oc0 kV0 dc0 pm0 cd0 ct0 oc1 kV1 dc1 pm1 cd1 ct1 oc2 kV2 dc2 pm2 cd2 ct2 oc3 kV3 dc3 pm3 cd3 ct3 oc4 kV4 dc4 pm4 cd4 ct4 oc5 kV5 dc5 pm5 cd5 ct5 oc6 kV6 dc6 pm6 cd6 ct6 oc7 kV7 dc7 pm7 cd7 ct7 oc8 kV8 dc8 pm8 cd8 ct8 oc9 kV9 dc9 pm9 cd9 ct9 YE YF YG YH T2 YI YJ YK YL YM T3 YN YO YQ YR YS T4 YT YU YV YW YX T5 YY YZ Y0 Y1 Y2 T6 Y3 Y4 Y5 Y6 Y7 T7 Y8 Y9 Za Zb Zc T8 Zd Ze Zf Zg Zh T9 Zi Zj Zk Zl Zm Ua Zn Zo Zp Zq Zr Ub Zs Zt Zu Zv Zw Uc Zx Zy Zz ZA ZC Ud ZD ZE ZF ZG ZH Ue ZI ZJ ZK ZL ZM Ug ZN ZO ZP ZQ ZR Uh ZS ZT ZU ZV ZW Ui ZX ZY ZZ Z0 Z1 Uj Z2 Z3 Z4 Z5 Z6 Uk Z7 Z8 Z9 aa0 aa1 Ul aa2 aa3 aa4 aa5 aa6 Um aa7 aa8 Uo Up Uq Qo Ur:Value}
  (Mp:PySem.W.nsIn K mainGlobals "Kind" = some (some (.ref fq)))
  (Mq:PySem.W.nsIn K mainGlobals "Most" = some (some (.ref cb)))
  (Qp:PySem.W.nsIn K mainGlobals "Set" = some (some (.ref df)))
  (Mr:PySem.W.nsIn K mainGlobals "Once" = some (some (.ref cc)))
  (Qq:PySem.W.nsIn K mainGlobals "Row" = some (some (.ref dg)))
  (Qr:PySem.W.nsIn K mainGlobals "Map" = some (some (.ref dh)))
  (a0:findIn K (.ref dh) "joined" = some (some (.ref f0)))
  (l0:K.lookup f0=some ⟨oc0,od0,.func (PySem.W.fnOf "joined" "Map.joined" (aX dW) (aO dW) (ak dW) .none kV0 dc0 pm0 an0 cd0 ct0),sl0⟩)
  (c0:PySem.W.codeIn K cd0 "Map.joined" = true) (k0:keepIn K (.ref f0)=true)
  (a1:findIn K (.ref cb) "joined" = some (some (.ref f1)))
  (l1:K.lookup f1=some ⟨oc1,od1,.func (PySem.W.fnOf "joined" "Most.joined" (aX dy) (aO dy) (ak dy) .none kV1 dc1 pm1 an1 cd1 ct1),sl1⟩)
  (c1:PySem.W.codeIn K cd1 "Most.joined" = true) (k1:keepIn K (.ref f1)=true)
  (a2:findIn K (.ref cc) "joined" = some (some (.ref f2)))
  (l2:K.lookup f2=some ⟨oc2,od2,.func (PySem.W.fnOf "joined" "Once.joined" (aX dC) (aO dC) (ak dC) .none kV2 dc2 pm2 an2 cd2 ct2),sl2⟩)
  (c2:PySem.W.codeIn K cd2 "Once.joined" = true) (k2:keepIn K (.ref f2)=true)
  (a3:findIn K (.ref dg) "joined" = some (some (.ref f3)))
  (l3:K.lookup f3=some ⟨oc3,od3,.func (PySem.W.fnOf "joined" "Row.joined" (aX dX) (aO dX) (ak dX) .none kV3 dc3 pm3 an3 cd3 ct3),sl3⟩)
  (c3:PySem.W.codeIn K cd3 "Row.joined" = true) (k3:keepIn K (.ref f3)=true)
  (a4:findIn K (.ref df) "joined" = some (some (.ref f4)))
  (l4:K.lookup f4=some ⟨oc4,od4,.func (PySem.W.fnOf "joined" "Set.joined" (aX dY) (aO dY) (ak dY) .none kV4 dc4 pm4 an4 cd4 ct4),sl4⟩)
  (c4:PySem.W.codeIn K cd4 "Set.joined" = true) (k4:keepIn K (.ref f4)=true)
  (a5:findIn K (.ref fq) "under" = some (some (.ref f5)))
  (l5:K.lookup f5=some ⟨oc5,od5,.func (PySem.W.fnOf "under" "Kind.under" (aX dZ) (aO dZ) (ak dZ) .none kV5 dc5 pm5 an5 cd5 ct5),sl5⟩)
  (c5:PySem.W.codeIn K cd5 "Kind.under" = true) (k5:keepIn K (.ref f5)=true)
  (a6:findIn K (.ref cb) "called" = some (some (.ref f6)))
  (l6:K.lookup f6=some ⟨oc6,od6,.func (PySem.W.fnOf "called" "Most.called" (aX dD) (aO dD) (ak dD) .none kV6 dc6 pm6 an6 cd6 ct6),sl6⟩)
  (c6:PySem.W.codeIn K cd6 "Most.called" = true) (k6:keepIn K (.ref f6)=true)
  (a7:findIn K (.ref df) "called" = some (some (.ref f7)))
  (l7:K.lookup f7=some ⟨oc7,od7,.func (PySem.W.fnOf "called" "Set.called" (aX d0) (aO d0) (ak d0) .none kV7 dc7 pm7 an7 cd7 ct7),sl7⟩)
  (c7:PySem.W.codeIn K cd7 "Set.called" = true) (k7:keepIn K (.ref f7)=true)
  (a8:findIn K (.ref cc) "called" = some (some (.ref f8)))
  (l8:K.lookup f8=some ⟨oc8,od8,.func (PySem.W.fnOf "called" "Once.called" (aX dE) (aO dE) (ak dE) .none kV8 dc8 pm8 an8 cd8 ct8),sl8⟩)
  (c8:PySem.W.codeIn K cd8 "Once.called" = true) (k8:keepIn K (.ref f8)=true)
  (a9:findIn K (.ref dg) "called" = some (some (.ref f9)))
  (l9:K.lookup f9=some ⟨oc9,od9,.func (PySem.W.fnOf "called" "Row.called" (aX d4) (aO d4) (ak d4) .none kV9 dc9 pm9 an9 cd9 ct9),sl9⟩)
  (c9:PySem.W.codeIn K cd9 "Row.called" = true) (k9:keepIn K (.ref f9)=true)
  (a10:findIn K (.ref dh) "called" = some (some (.ref RO)))
  (l10:K.lookup RO=some ⟨YE,XA,.func (PySem.W.fnOf "called" "Map.called" (aX d5) (aO d5) (ak d5) .none YF YG YH XB T2 YI),Yj⟩)
  (c10:PySem.W.codeIn K T2 "Map.called" = true) (k10:keepIn K (.ref RO)=true)
  (a11:PySem.W.nsIn K mainGlobals "kind_of" = some (some (.ref Vd)))
  (l11:K.lookup Vd=some ⟨YJ,XC,.func (PySem.W.fnOf "kind_of" "kind_of" (aX gH) (aO gH) (ak gH) .none YK YL YM XD T3 YN),Yk⟩)
  (c11:PySem.W.codeIn K T3 "kind_of" = true) (k11:keepIn K (.ref Vd)=true)
  (a12:PySem.W.nsIn K mainGlobals "_law_cells" = some (some (.ref Ve)))
  (l12:K.lookup Ve=some ⟨YO,XE,.func (PySem.W.fnOf "_law_cells" "_law_cells" (aX dO) (aO dO) (ak dO) .none YQ YR YS XF T4 YT),Yl⟩)
  (c12:PySem.W.codeIn K T4 "_law_cells" = true) (k12:keepIn K (.ref Ve)=true)
  (a13:PySem.W.nsIn K mainGlobals "_law_spread" = some (some (.ref Vf)))
  (l13:K.lookup Vf=some ⟨YU,XG,.func (PySem.W.fnOf "_law_spread" "_law_spread" (aX d7) (aO d7) (ak d7) .none YV YW YX XH T5 YY),Ym⟩)
  (c13:PySem.W.codeIn K T5 "_law_spread" = true) (k13:keepIn K (.ref Vf)=true)
  (a14:PySem.W.nsIn K mainGlobals "_law_whole" = some (some (.ref Vg)))
  (l14:K.lookup Vg=some ⟨YZ,XI,.func (PySem.W.fnOf "_law_whole" "_law_whole" (aX fe) (aO fe) (ak fe) .none Y0 Y1 Y2 XJ T6 Y3),Yn⟩)
  (c14:PySem.W.codeIn K T6 "_law_whole" = true) (k14:keepIn K (.ref Vg)=true)
  (a15:PySem.W.nsIn K mainGlobals "_law_number" = some (some (.ref Vh)))
  (l15:K.lookup Vh=some ⟨Y4,XM,.func (PySem.W.fnOf "_law_number" "_law_number" (aX d8) (aO d8) (ak d8) .none Y5 Y6 Y7 XN T7 Y8),Yo⟩)
  (c15:PySem.W.codeIn K T7 "_law_number" = true) (k15:keepIn K (.ref Vh)=true)
  (a16:PySem.W.nsIn K mainGlobals "_law_state" = some (some (.ref Vi)))
  (l16:K.lookup Vi=some ⟨Y9,XO,.func (PySem.W.fnOf "_law_state" "_law_state" (aX dP) (aO dP) (ak dP) .none Za Zb Zc XQ T8 Zd),Yp⟩)
  (c16:PySem.W.codeIn K T8 "_law_state" = true) (k16:keepIn K (.ref Vi)=true)
  (a17:PySem.W.nsIn K mainGlobals "_law_size" = some (some (.ref Vj)))
  (l17:K.lookup Vj=some ⟨Ze,XR,.func (PySem.W.fnOf "_law_size" "_law_size" (aX fO) (aO fO) (ak fO) .none Zf Zg Zh XS T9 Zi),Yq⟩)
  (c17:PySem.W.codeIn K T9 "_law_size" = true) (k17:keepIn K (.ref Vj)=true)
  (a18:PySem.W.nsIn K mainGlobals "_law_over" = some (some (.ref Vk)))
  (l18:K.lookup Vk=some ⟨Zj,XT,.func (PySem.W.fnOf "_law_over" "_law_over" (aX fP) (aO fP) (ak fP) .none Zk Zl Zm XU Ua Zn),Yr⟩)
  (c18:PySem.W.codeIn K Ua "_law_over" = true) (k18:keepIn K (.ref Vk)=true)
  (a19:PySem.W.nsIn K mainGlobals "_law_changed" = some (some (.ref Vl)))
  (l19:K.lookup Vl=some ⟨Zo,XW,.func (PySem.W.fnOf "_law_changed" "_law_changed" (aX dF) (aO dF) (ak dF) .none Zp Zq Zr XX Ub Zs),Ys⟩)
  (c19:PySem.W.codeIn K Ub "_law_changed" = true) (k19:keepIn K (.ref Vl)=true)
  (a20:PySem.W.nsIn K mainGlobals "_law_other" = some (some (.ref Vm)))
  (l20:K.lookup Vm=some ⟨Zt,XY,.func (PySem.W.fnOf "_law_other" "_law_other" (aX ff) (aO ff) (ak ff) .none Zu Zv Zw XZ Uc Zx),Yt⟩)
  (c20:PySem.W.codeIn K Uc "_law_other" = true) (k20:keepIn K (.ref Vm)=true)
  (a21:PySem.W.nsIn K mainGlobals "_law_pair" = some (some (.ref Vn)))
  (l21:K.lookup Vn=some ⟨Zy,X0,.func (PySem.W.fnOf "_law_pair" "_law_pair" (aX fQ) (aO fQ) (ak fQ) .none Zz ZA ZC X1 Ud ZD),Yu⟩)
  (c21:PySem.W.codeIn K Ud "_law_pair" = true) (k21:keepIn K (.ref Vn)=true)
  (a22:PySem.W.nsIn K mainGlobals "_law_join" = some (some (.ref Vo)))
  (l22:K.lookup Vo=some ⟨ZE,X2,.func (PySem.W.fnOf "_law_join" "_law_join" (aX eV) (aO eV) (ak eV) .none ZF ZG ZH X3 Ue ZI),Yv⟩)
  (c22:PySem.W.codeIn K Ue "_law_join" = true) (k22:keepIn K (.ref Vo)=true)
  (a23:PySem.W.nsIn K mainGlobals "_law_is_state" = some (some (.ref Vp)))
  (l23:K.lookup Vp=some ⟨ZJ,X4,.func (PySem.W.fnOf "_law_is_state" "_law_is_state" (aX cD) (aO cD) (ak cD) .none ZK ZL ZM X5 Ug ZN),Yw⟩)
  (c23:PySem.W.codeIn K Ug "_law_is_state" = true) (k23:keepIn K (.ref Vp)=true)
  (a24:PySem.W.nsIn K mainGlobals "_law_truth" = some (some (.ref Vq)))
  (l24:K.lookup Vq=some ⟨ZO,X6,.func (PySem.W.fnOf "_law_truth" "_law_truth" (aX fg) (aO fg) (ak fg) .none ZP ZQ ZR X7 Uh ZS),Yx⟩)
  (c24:PySem.W.codeIn K Uh "_law_truth" = true) (k24:keepIn K (.ref Vq)=true)
  (a25:PySem.W.nsIn K mainGlobals "_law_own" = some (some (.ref Vr)))
  (l25:K.lookup Vr=some ⟨ZT,X8,.func (PySem.W.fnOf "_law_own" "_law_own" (aX gJ) (aO gJ) (ak gJ) .none ZU ZV ZW X9 Ui ZX),Yy⟩)
  (c25:PySem.W.codeIn K Ui "_law_own" = true) (k25:keepIn K (.ref Vr)=true)
  (a26:PySem.W.nsIn K mainGlobals "_law_of_class" = some (some (.ref Vs)))
  (l26:K.lookup Vs=some ⟨ZY,Ya,.func (PySem.W.fnOf "_law_of_class" "_law_of_class" (aX cE) (aO cE) (ak cE) .none ZZ Z0 Z1 Yb Uj Z2),Yz⟩)
  (c26:PySem.W.codeIn K Uj "_law_of_class" = true) (k26:keepIn K (.ref Vs)=true)
  (a27:PySem.W.nsIn K mainGlobals "_law_grow" = some (some (.ref Vt)))
  (l27:K.lookup Vt=some ⟨Z3,Yc,.func (PySem.W.fnOf "_law_grow" "_law_grow" (aX fR) (aO fR) (ak fR) .none Z4 Z5 Z6 Yd Uk Z7),YA⟩)
  (c27:PySem.W.codeIn K Uk "_law_grow" = true) (k27:keepIn K (.ref Vt)=true)
  (a28:PySem.W.nsIn K mainGlobals "_law_grown" = some (some (.ref Vu)))
  (l28:K.lookup Vu=some ⟨Z8,Ye,.func (PySem.W.fnOf "_law_grown" "_law_grown" (aX fh) (aO fh) (ak fh) .none Z9 aa0 aa1 Yf Ul aa2),YB⟩)
  (c28:PySem.W.codeIn K Ul "_law_grown" = true) (k28:keepIn K (.ref Vu)=true)
  (a29:PySem.W.nsIn K mainGlobals "_law_right" = some (some (.ref Vv)))
  (l29:K.lookup Vv=some ⟨aa3,Yg,.func (PySem.W.fnOf "_law_right" "_law_right" (aX fi) (aO fi) (ak fi) .none aa4 aa5 aa6 Yh Um aa7),YC⟩)
  (c29:PySem.W.codeIn K Um "_law_right" = true) (k29:keepIn K (.ref Vv)=true)
  (a30:PySem.W.nsIn K mainGlobals "law" = some (some (.ref Xz)))
  (l30:K.lookup Xz=some ⟨aa8,Yi,.func (PySem.W.fnOf "law" "law" (aX ku) (aO ku) (ak ku) .none Uo Up Uq TZ Qo Ur),YD⟩)
  (c30:PySem.W.codeIn K Qo "law" = true) (k30:keepIn K (.ref Xz)=true)
  (Ms:makesIn K fq=true) (Mt:findIn K (.ref fq) "__init__" = some (some (.builtin "object.__init__"))) (Mu:keepIn K (.ref fq)=true)
  (Mv:plainGet K fq Str.empty=true) (Mw:hasDictIn K fq=true) (Mx:plainOver K fq=true) (Mz:findIn K (.ref fq) "__setattr__" = some (some (.builtin "object.__setattr__")))
  (ki:findIn K (.ref fq) "under" = some (some (.ref f5))) (zg:isFn K (.ref f5)=true)
  (MB:makesIn K cb=true) (MC:findIn K (.ref cb) "__init__" = some (some (.builtin "object.__init__"))) (MD:keepIn K (.ref cb)=true)
  (ME:plainGet K cb Str.empty=true) (Ez:hasDictIn K cb=true) (MF:plainOver K cb=true) (MH:findIn K (.ref cb) "__setattr__" = some (some (.builtin "object.__setattr__")))
  (MJ:plainGet K cb "__class__" = true) (MK:findIn K (.ref cb) "__class__" = some (some (.builtin "object.__class__"))) (MM:mroIn K cb (.type "object")=some true)
  (kU:kitOne K (.ref cb) (.ref fq)=some true)
  (mP:kitOne K (.ref cb) (.ref dh)=some false)
  (kW:kitOne K (.ref cb) (.ref cb)=some true)
  (kX:kitOne K (.ref cb) (.ref cc)=some false)
  (mQ:kitOne K (.ref cb) (.ref dg)=some false)
  (mR:kitOne K (.ref cb) (.ref df)=some false)
  (jq:findIn K (.ref cb) "called" = some (some (.ref f6))) (wm:isFn K (.ref f6)=true)
  (gQ:findIn K (.ref cb) "joined" = some (some (.ref f1))) (wo:isFn K (.ref f1)=true)
  (zh:findIn K (.ref cb) "under" = some (some (.ref f5))) (zk:isFn K (.ref f5)=true)
  (Qs:makesIn K df=true) (Qt:findIn K (.ref df) "__init__" = some (some (.builtin "object.__init__"))) (Qu:keepIn K (.ref df)=true)
  (Qv:plainGet K df Str.empty=true) (Jq:hasDictIn K df=true) (Qw:plainOver K df=true) (Qx:findIn K (.ref df) "__setattr__" = some (some (.builtin "object.__setattr__")))
  (Qy:plainGet K df "__class__" = true) (Qz:findIn K (.ref df) "__class__" = some (some (.builtin "object.__class__"))) (QA:mroIn K df (.type "object")=some true)
  (mS:kitOne K (.ref df) (.ref fq)=some true)
  (oS:kitOne K (.ref df) (.ref dh)=some false)
  (mT:kitOne K (.ref df) (.ref cb)=some false)
  (mU:kitOne K (.ref df) (.ref cc)=some false)
  (oU:kitOne K (.ref df) (.ref dg)=some false)
  (oV:kitOne K (.ref df) (.ref df)=some true)
  (kj:findIn K (.ref df) "called" = some (some (.ref f7))) (zl:isFn K (.ref f7)=true)
  (kh:findIn K (.ref df) "joined" = some (some (.ref f4))) (zm:isFn K (.ref f4)=true)
  (BI:findIn K (.ref df) "under" = some (some (.ref f5))) (BJ:isFn K (.ref f5)=true)
  (MN:makesIn K cc=true) (MP:findIn K (.ref cc) "__init__" = some (some (.builtin "object.__init__"))) (MQ:keepIn K (.ref cc)=true)
  (MR:plainGet K cc Str.empty=true) (EA:hasDictIn K cc=true) (MU:plainOver K cc=true) (MV:findIn K (.ref cc) "__setattr__" = some (some (.builtin "object.__setattr__")))
  (MW:plainGet K cc "__class__" = true) (MY:findIn K (.ref cc) "__class__" = some (some (.builtin "object.__class__"))) (MZ:mroIn K cc (.type "object")=some true)
  (kY:kitOne K (.ref cc) (.ref fq)=some true)
  (mW:kitOne K (.ref cc) (.ref dh)=some false)
  (kZ:kitOne K (.ref cc) (.ref cb)=some false)
  (lh:kitOne K (.ref cc) (.ref cc)=some true)
  (mX:kitOne K (.ref cc) (.ref dg)=some false)
  (mY:kitOne K (.ref cc) (.ref df)=some false)
  (jr:findIn K (.ref cc) "called" = some (some (.ref f8))) (wq:isFn K (.ref f8)=true)
  (dc:findIn K (.ref cc) "joined" = some (some (.ref f2))) (wu:isFn K (.ref f2)=true)
  (zo:findIn K (.ref cc) "under" = some (some (.ref f5))) (zp:isFn K (.ref f5)=true)
  (QB:makesIn K dg=true) (QC:findIn K (.ref dg) "__init__" = some (some (.builtin "object.__init__"))) (QD:keepIn K (.ref dg)=true)
  (QE:plainGet K dg Str.empty=true) (Jr:hasDictIn K dg=true) (QF:plainOver K dg=true) (QG:findIn K (.ref dg) "__setattr__" = some (some (.builtin "object.__setattr__")))
  (QH:plainGet K dg "__class__" = true) (QI:findIn K (.ref dg) "__class__" = some (some (.builtin "object.__class__"))) (QJ:mroIn K dg (.type "object")=some true)
  (mZ:kitOne K (.ref dg) (.ref fq)=some true)
  (oW:kitOne K (.ref dg) (.ref dh)=some false)
  (m5:kitOne K (.ref dg) (.ref cb)=some false)
  (m6:kitOne K (.ref dg) (.ref cc)=some false)
  (oX:kitOne K (.ref dg) (.ref dg)=some true)
  (oY:kitOne K (.ref dg) (.ref df)=some false)
  (kl:findIn K (.ref dg) "called" = some (some (.ref f9))) (zq:isFn K (.ref f9)=true)
  (fb:findIn K (.ref dg) "joined" = some (some (.ref f3))) (zr:isFn K (.ref f3)=true)
  (BK:findIn K (.ref dg) "under" = some (some (.ref f5))) (BL:isFn K (.ref f5)=true)
  (QK:makesIn K dh=true) (QL:findIn K (.ref dh) "__init__" = some (some (.builtin "object.__init__"))) (QM:keepIn K (.ref dh)=true)
  (QN:plainGet K dh Str.empty=true) (Js:hasDictIn K dh=true) (QO:plainOver K dh=true) (QP:findIn K (.ref dh) "__setattr__" = some (some (.builtin "object.__setattr__")))
  (QQ:plainGet K dh "__class__" = true) (QR:findIn K (.ref dh) "__class__" = some (some (.builtin "object.__class__"))) (QS:mroIn K dh (.type "object")=some true)
  (m8:kitOne K (.ref dh) (.ref fq)=some true)
  (oZ:kitOne K (.ref dh) (.ref dh)=some true)
  (nc:kitOne K (.ref dh) (.ref cb)=some false)
  (nh:kitOne K (.ref dh) (.ref cc)=some false)
  (o4:kitOne K (.ref dh) (.ref dg)=some false)
  (o5:kitOne K (.ref dh) (.ref df)=some false)
  (km:findIn K (.ref dh) "called" = some (some (.ref RO))) (zt:isFn K (.ref RO)=true)
  (kg:findIn K (.ref dh) "joined" = some (some (.ref f0))) (zu:isFn K (.ref f0)=true)
  (BM:findIn K (.ref dh) "under" = some (some (.ref f5))) (BN:isFn K (.ref f5)=true)
  (QT:specialIn K (.builtin "object.__class__") "__get__" = some (some (.builtin "getset_descriptor.__get__"))) (QU:takesIn K (.builtin "object.__class__")=some true)
  (Us:PySem.W.nsIn K mainGlobals "all" = some none)
  (QV:PySem.W.nsIn K mainGlobals "bool" = some none)
  (QW:PySem.W.nsIn K mainGlobals "dict" = some none)
  (Ut:PySem.W.nsIn K mainGlobals "int" = some none)
  (zv:PySem.W.nsIn K mainGlobals "isinstance" = some none)
  (Uu:PySem.W.nsIn K mainGlobals "len" = some none)
  (QX:PySem.W.nsIn K mainGlobals "list" = some none)
  (Uv:PySem.W.nsIn K mainGlobals "max" = some none)
  (M1:PySem.W.nsIn K mainGlobals "range" = some none)
  (Uw:PySem.W.nsIn K mainGlobals "set" = some none)
  (Jt:PySem.W.nsIn K mainGlobals "sorted" = some none)
  (M3:PySem.W.nsIn K mainGlobals "tuple" = some none)
  (Ux:PySem.W.nsIn K mainGlobals "zip" = some none)
  : ∃fd:FuncData,(∀(s:Shared)(v:Value),BindsTo s fd ⟨[v],[]⟩ [("_law_script", v)])/\∀base:Heap,K.In base->base.Ns mainGlobals mg->bP l.prog w K mg base hV 5 fa fd TR (TC K yB):=by
 have e:=hfa.symm.trans (mg_of X G a30)
 cases e
 have F0:=bI (st:=dW) l0 c0 k0;have b0:=F0.binds (ps:=qo) fun _ _ _ _ _ _=>yx fun _ _ _=>rfl;have F1:=bI (st:=dy) l1 c1 k1;have b1:=F1.binds (ps:=qo) fun _ _ _ _ _ _=>yx fun _ _ _=>rfl;have F2:=bI (st:=dC) l2 c2 k2;have b2:=F2.binds (ps:=qo) fun _ _ _ _ _ _=>yx fun _ _ _=>rfl;have F3:=bI (st:=dX) l3 c3 k3;have b3:=F3.binds (ps:=qo) fun _ _ _ _ _ _=>yx fun _ _ _=>rfl;have F4:=bI (st:=dY) l4 c4 k4;have b4:=F4.binds (ps:=qo) fun _ _ _ _ _ _=>yx fun _ _ _=>rfl;have F5:=bI (st:=dZ) l5 c5 k5;have b5:=F5.binds (ps:=qo) fun _ _ _ _ _ _=>yx fun _ _ _=>rfl;have F6:=bI (st:=dD) l6 c6 k6;have b6:=F6.binds (ps:=rY) fun _ _ _ _ _ _=>all1 fun _=>rfl;have F7:=bI (st:=d0) l7 c7 k7;have b7:=F7.binds (ps:=rY) fun _ _ _ _ _ _=>all1 fun _=>rfl;have F8:=bI (st:=dE) l8 c8 k8;have b8:=F8.binds (ps:=rY) fun _ _ _ _ _ _=>all1 fun _=>rfl;have F9:=bI (st:=d4) l9 c9 k9;have b9:=F9.binds (ps:=rY) fun _ _ _ _ _ _=>all1 fun _=>rfl;have F10:=bI (st:=d5) l10 c10 k10;have b10:=F10.binds (ps:=rY) fun _ _ _ _ _ _=>all1 fun _=>rfl;have F11:=bI (st:=gH) l11 c11 k11;have b11:=F11.binds (ps:=["word"]) fun _ _ _ _ _ _=>all1 fun _=>rfl;have F12:=bI (st:=dO) l12 c12 k12;have b12:=F12.binds (ps:=TL) fun _ _ _ _ _ _=>all2 fun _ _=>rfl;have F13:=bI (st:=d7) l13 c13 k13;have b13:=F13.binds (ps:=Vc) fun _ _ _ _ _ _=>all2 fun _ _=>rfl;have F14:=bI (st:=fe) l14 c14 k14;have b14:=F14.binds (ps:=TM) fun _ _ _ _ _ _=>all1 fun _=>rfl;have F15:=bI (st:=d8) l15 c15 k15;have b15:=F15.binds (ps:=GG) fun _ _ _ _ _ _=>all1 fun _=>rfl;have F16:=bI (st:=dP) l16 c16 k16;have b16:=F16.binds (ps:=Mc) fun _ _ _ _ _ _=>all2 fun _ _=>rfl;have F17:=bI (st:=fO) l17 c17 k17;have b17:=F17.binds (ps:=GG) fun _ _ _ _ _ _=>all1 fun _=>rfl;have F18:=bI (st:=fP) l18 c18 k18;have b18:=F18.binds (ps:=Md) fun _ _ _ _ _ _=>yx fun _ _ _=>rfl;have F19:=bI (st:=dF) l19 c19 k19;have b19:=F19.binds (ps:=Me) fun _ _ _ _ _ _=>L5 fun _ _ _ _=>rfl;have F20:=bI (st:=ff) l20 c20 k20;have b20:=F20.binds (ps:=Mf) fun _ _ _ _ _ _=>L5 fun _ _ _ _=>rfl;have F21:=bI (st:=fQ) l21 c21 k21;have b21:=F21.binds (ps:=RN) fun _ _ _ _ _ _=>all1 fun _=>rfl;have F22:=bI (st:=eV) l22 c22 k22;have b22:=F22.binds (ps:=Mg) fun _ _ _ _ _ _=>yx fun _ _ _=>rfl;have F23:=bI (st:=cD) l23 c23 k23;have b23:=F23.binds (ps:=Mh) fun _ _ _ _ _ _=>all2 fun _ _=>rfl;have F24:=bI (st:=fg) l24 c24 k24;have b24:=F24.binds (ps:=TN) fun _ _ _ _ _ _=>all2 fun _ _=>rfl;have F25:=bI (st:=gJ) l25 c25 k25;have b25:=F25.binds (ps:=TQ) fun _ _ _ _ _ _=>all1 fun _=>rfl;have F26:=bI (st:=cE) l26 c26 k26;have b26:=F26.binds (ps:=Mi) fun _ _ _ _ _ _=>all2 fun _ _=>rfl;have F27:=bI (st:=fR) l27 c27 k27;have b27:=F27.binds (ps:=Mj) fun _ _ _ _ _ _=>all2 fun _ _=>rfl;have F28:=bI (st:=fh) l28 c28 k28;have b28:=F28.binds (ps:=Mk) fun _ _ _ _ _ _=>L5 fun _ _ _ _=>rfl;have F29:=bI (st:=fi) l29 c29 k29;have b29:=F29.binds (ps:=Ml) fun _ _ _ _ _ _=>L5 fun _ _ _ _=>rfl;have F30:=bI (st:=ku) l30 c30 k30;have b30:=F30.binds (ps:=TR) fun _ _ _ _ _ _=>all1 fun _=>rfl;have T:Tx K mg ⟨f0,_,f1,_,f2,_,f3,_,f4,_,f5,_,f6,_,f7,_,f8,_,f9,_,RO,_,Vd,_,Ve,_,Vf,_,Vg,_,Vh,_,Vi,_,Vj,_,Vk,_,Vl,_,Vm,_,Vn,_,Vo,_,Vp,_,Vq,_,Vr,_,Vs,_,Vt,_,Vu,_,Vv,_,fa,_⟩ (fun n=>if n=0 then fq else if n=1 then cb else if n=2 then df else if n=3 then cc else if n=4 then dg else if n=5 then dh else 0):=⟨F0,b0,F1,b1,F2,b2,F3,b3,F4,b4,F5,b5,F6,b6,F7,b7,F8,b8,F9,b9,F10,b10,mg_of X G a11,F11,b11,mg_of X G a12,F12,b12,mg_of X G a13,F13,b13,mg_of X G a14,F14,b14,mg_of X G a15,F15,b15,mg_of X G a16,F16,b16,mg_of X G a17,F17,b17,mg_of X G a18,F18,b18,mg_of X G a19,F19,b19,mg_of X G a20,F20,b20,mg_of X G a21,F21,b21,mg_of X G a22,F22,b22,mg_of X G a23,F23,b23,mg_of X G a24,F24,b24,mg_of X G a25,F25,b25,mg_of X G a26,F26,b26,mg_of X G a27,F27,b27,mg_of X G a28,F28,b28,mg_of X G a29,F29,b29,mg_of X G a30,F30,b30,mg_of X G Mp,⟨Ms,Mt,Mu⟩,⟨Mv,Mw,Mx,Mz⟩,⟨ki,zg,k5⟩,mg_of X G Mq,⟨MB,MC,MD⟩,⟨ME,Ez,MF,MH⟩,⟨MJ,Ez,MK,QT,QU,MM⟩,kU,mP,kW,kX,mQ,mR,⟨jq,wm,k6⟩,⟨gQ,wo,k1⟩,⟨zh,zk,k5⟩,mg_of X G Qp,⟨Qs,Qt,Qu⟩,⟨Qv,Jq,Qw,Qx⟩,⟨Qy,Jq,Qz,QT,QU,QA⟩,mS,oS,mT,mU,oU,oV,⟨kj,zl,k7⟩,⟨kh,zm,k4⟩,⟨BI,BJ,k5⟩,mg_of X G Mr,⟨MN,MP,MQ⟩,⟨MR,EA,MU,MV⟩,⟨MW,EA,MY,QT,QU,MZ⟩,kY,mW,kZ,lh,mX,mY,⟨jr,wq,k8⟩,⟨dc,wu,k2⟩,⟨zo,zp,k5⟩,mg_of X G Qq,⟨QB,QC,QD⟩,⟨QE,Jr,QF,QG⟩,⟨QH,Jr,QI,QT,QU,QJ⟩,mZ,oW,m5,m6,oX,oY,⟨kl,zq,k9⟩,⟨fb,zr,k3⟩,⟨BK,BL,k5⟩,mg_of X G Qr,⟨QK,QL,QM⟩,⟨QN,Js,QO,QP⟩,⟨QQ,Js,QR,QT,QU,QS⟩,m8,oZ,nc,nh,o4,o5,⟨km,zt,k10⟩,⟨kg,zu,k0⟩,⟨BM,BN,k5⟩,mg_none_of X G Us,mg_none_of X G QV,mg_none_of X G QW,mg_none_of X G Ut,mg_none_of X G zv,mg_none_of X G Uu,mg_none_of X G QX,mg_none_of X G Uv,mg_none_of X G M1,mg_none_of X G Uw,mg_none_of X G Jt,mg_none_of X G M3,mg_none_of X G Ux⟩;exact⟨PySem.W.fnOf "law" "law" (aX ku) (aO ku) (ak ku) .none Uo Up Uq TZ Qo Ur,fun s v=>.of_eq rfl,fun base _ _=>Qh (Qn T)⟩
end LW
namespace M
open PySem PySem.Spec PyProof.Rows L2
section
variable {Γ:G}{t:T}{i np n:Nat}{m m' m'':MX}{c c':MT}{a:MA}{st aK:MS}{g g':T->T->Option R}{b:BG}{d:Lb}{mi:MI}{lo hi sp:MO}{cf:CF}
@[simp] theorem s_C:mC t Γ=some (.sh t,Γ):=rfl
@[simp] theorem s_V:mV i Γ=match Γ[i]? with|some (.sh t)=>some (.sh t,Γ)|some (.own t)=>some (.bor i t,Γ)|_=>none:=rfl
@[simp] theorem ao3:ah g m m' Γ=(m Γ).bind fun p=>(m' p.2).bind fun q=>(g p.1.tree q.1.tree).map fun r=>(r,q.2):=rfl
@[simp] theorem aa9:ax m Γ=(m Γ).bind fun p=>match p.1 with | .sh (.bl k)=>some (k,p.2)|_=>none:=rfl
@[simp] theorem ab0:fu c Γ=(c Γ).map fun p=>(!p.1,p.2):=rfl
@[simp] theorem ab1:jO c c' Γ=(c Γ).bind fun p=>if p.1=true then c' p.2 else some (false,p.2):=rfl
@[simp] theorem ao4:fw c c' Γ=(c Γ).bind fun p=>if p.1=true then some (true,p.2)else c' p.2:=rfl
@[simp] theorem ab2:oe m m' Γ=(m Γ).bind fun p=>match p.1 with | .sh (.bl true)=>m' p.2 | .sh (.bl false)=>some (.sh (.bl false),p.2)|_=>none:=rfl
@[simp] theorem ao5:Fp m m' Γ=(m Γ).bind fun p=>match p.1 with | .sh (.bl false)=>m' p.2 | .sh (.bl true)=>some (.sh (.bl true),p.2)|_=>none:=rfl
@[simp] theorem ab3:DU m Γ=(ax m Γ).map fun p=>(.sh (.bl (!p.1)),p.2):=rfl
@[simp] theorem ao6:xW c m m' Γ=(c Γ).bind fun p=>if p.1=true then m p.2 else m' p.2:=rfl
@[simp] theorem aT9:aU Γ=some ([],Γ):=rfl
@[simp] theorem aU0:ck m a Γ=(m Γ).bind fun p=>(a p.2).map fun q=>(p.1.tree::q.1,q.2):=rfl
@[simp] theorem aU1:aQ m a Γ=(m Γ).bind fun p=>(a (dH p.1 p.2).2).map fun q=>((dH p.1 p.2).1::q.1,q.2):=rfl
@[simp] theorem ab4:dH (.sh t) Γ=(t,Γ):=rfl
@[simp] theorem ab5:dH (.own t) Γ=(t,Γ):=rfl
@[simp] theorem ab6:dH (.bor i t) Γ=(t,Γ.set i (.sh t)):=rfl
@[simp] theorem ao7:R.tree (.sh t)=t:=rfl
@[simp] theorem ao8:R.tree (.own t)=t:=rfl
@[simp] theorem ao9:R.tree (.bor i t)=t:=rfl
@[simp] theorem ap0:eA a Γ=(a Γ).bind fun p=>if p.1.length<=1000 then some (.own (.lst p.1),p.2)else none:=rfl
@[simp] theorem ap1:lH a Γ=(a Γ).bind fun p=>if p.1.length<=1000 then some (.sh (.tup p.1),p.2)else none:=rfl
@[simp] theorem ab7{f:List T->Option R}:ba f a Γ=(a Γ).bind fun p=>(f p.1).map fun r=>(r,p.2):=rfl
@[simp] theorem Vw:aE np cf a Γ=(a Γ).bind fun p=>if p.1.length=np then match cf (p.1.map Slot.sh)with|some (.sh t,_)=>some (.sh t,p.2)|some (.own t,_)=>some (.own t,p.2)|_=>none else none:=rfl
@[simp] theorem ab8:aN Γ=some (.nx Γ):=rfl
@[simp] theorem ap2:aL st aK Γ=(st Γ).bind fun r=>match r with | .nx Γ1=>aK Γ1|r=>some r:=rfl
@[simp] theorem ap3:bJ i m Γ=(m Γ).map fun p=>match p.1 with | .sh t=>.nx (p.2.set i (.sh t)) | .own t=>.nx (p.2.set i (.own t)) | .bor j t=>.nx ((p.2.set j (.sh t)).set i (.sh t)):=rfl
@[simp] theorem ap4:aS np m Γ=(m Γ).map fun p=>match p.1 with | .bor j t=>if j<np then .rt (.sh t) (p.2.set j (.sh t))else .rt (.own t) (p.2.set j .no)|r=>.rt r p.2:=rfl
@[simp] theorem ab9:SY m Γ=(m Γ).map fun p=>.nx p.2:=rfl
@[simp] theorem aU2:eE c st aK Γ=(c Γ).bind fun p=>if p.1=true then st p.2 else aK p.2:=rfl
@[simp] theorem Vx:aM i t Γ=some (Γ.set i (.sh t)):=rfl
@[simp] theorem ac0:j3 [] Γ=some Γ:=rfl
@[simp] theorem Vy{r:List T}:bW b d (t::r) Γ=(b t Γ).bind fun Γ1=>d r Γ1:=rfl
@[simp] theorem ac1{ts:List T}:j4 n d (.tup ts) Γ=if ts.length=n then d ts Γ else none:=rfl
@[simp] theorem ap5:xZ b m Γ=(m Γ).bind fun p=>(b (dH p.1 p.2).1 (dH p.1 p.2).2).map .nx:=rfl
@[simp] theorem ac2:gy mi b st Γ=(mi Γ).bind fun p=>dt b st p.1 p.2:=rfl
@[simp] theorem aU3:rq m Γ=(m Γ).bind fun p=>match (dH p.1 p.2).1 with | .lst ts=>some (ts,(dH p.1 p.2).2)|_=>none:=rfl
@[simp] theorem aU4:RB m Γ=(m Γ).bind fun p=>match (dH p.1 p.2).1 with | .tup ts=>some (ts,(dH p.1 p.2).2)|_=>none:=rfl
@[simp] theorem aU5:RD a Γ=(a Γ).bind fun p=>match p.1 with | [.lst ts,.lst us]=>some (vz ts us,p.2)|_=>none:=rfl
@[simp] theorem aU6:tQ Γ=some (none,Γ):=rfl
@[simp] theorem ap6{x:String}:tR x m Γ=(m Γ).bind fun p=>if qH p.1.tree=true then none else some (.sh (.bl (Kc (P6 p.1.tree) x)),p.2):=rfl
@[simp] theorem ap7:rX n Γ=some (.sh (.obj n),Γ):=rfl
@[simp] theorem ac3:Iq Γ=some (.own (.eX [] []),Γ):=rfl
@[simp] theorem aU7{as:G}:du n st as=match st (as++List.replicate (n-as.length) Slot.no)with|some (.nx Γ)=>some (.sh .cg,Γ)|some (.rt (.sh t) Γ)=>some (.sh t,Γ)|some (.rt (.own t) Γ)=>some (.own t,Γ)|_=>none:=rfl
@[simp] theorem aU8{f:Int->Int->Int}{i j:Int}:gI f (.int i) (.int j)=some (.sh (.int (f i j))):=rfl
@[simp] theorem aU9{f:Int->Int->Bool}{i j:Int}:gB f (.int i) (.int j)=some (.sh (.bl (f i j))):=rfl
@[simp] theorem ap8{i j:Int}:cz (.int i) (.int j)=some (.sh (.int (i+j))):=rfl
@[simp] theorem ap9{i j:Int}:M.Ca (.int i) (.int j)=some (.sh (.int (i-j))):=rfl
@[simp] theorem Oe{i j:Int}(h:0<j):gu (.int i) (.int j)=some (.sh (.int (i % j))):=by
 show(if decide (0<j)=true then _ else _)=_;rw [decide_eq_true h];rfl
@[simp] theorem aq0{i j:Int}(h:0<j)(h':j<1073741824):rV (.int i) (.int j)=some (.sh (.int (i / j))):=by
 show(if(decide (0<j)&&decide (j<1073741824))=true then _ else _)=_;rw [decide_eq_true h,decide_eq_true h'];rfl
@[simp] theorem aV0{i j:Int}:DY (.int i) (.int j)=some (.sh (.bl (decide (i<j)))):=rfl
@[simp] theorem aV1{i j:Int}:gLe (.int i) (.int j)=some (.sh (.bl (decide (i<=j)))):=rfl
@[simp] theorem aV2{i j:Int}:P4 (.int i) (.int j)=some (.sh (.bl (decide (j<i)))):=rfl
@[simp] theorem aV3{i j:Int}:gGe (.int i) (.int j)=some (.sh (.bl (decide (j<=i)))):=rfl
@[simp] theorem aq1{i j:Int}:cO (.int i) (.int j)=some (.sh (.bl (decide (i=j)))):=by
 show some (R.sh (.bl (xor false (i==j))))=_;rw [false_xor,Bool.beq_eq_decide_eq]
@[simp] theorem aq2{i j:Int}:jV (.int i) (.int j)=some (.sh (.bl (!decide (i=j)))):=by
 show some (R.sh (.bl (xor true (i==j))))=_;rw [true_xor,Bool.beq_eq_decide_eq]
@[simp] theorem aq3{x y:Str}:cO (.str x) (.str y)=some (.sh (.bl (decide (x=y)))):=by
 show some (R.sh (.bl (xor false (decide (x=y)))))=_;rw [false_xor]
@[simp] theorem aq4{x y:Str}:jV (.str x) (.str y)=some (.sh (.bl (!decide (x=y)))):=by
 show some (R.sh (.bl (xor true (decide (x=y)))))=_;rw [true_xor]
@[simp] theorem aq5{x y:Bool}:cO (.bl x) (.bl y)=some (.sh (.bl (decide (x=y)))):=by
 cases x<;>cases y<;>rfl
@[simp] theorem QY{i j:Int}(h:eB i=true):fL (.int i) (.int j)=some (.sh (.int (i*j))):=by
 show(if(eB i||eB j)=true then some (R.sh (.int (i*j)))else none)=_;rw [h,Bool.true_or,if_pos rfl]
@[simp] theorem ac4{i j:Int}(h:eB j=true):fL (.int i) (.int j)=some (.sh (.int (i*j))):=by
 show(if(eB i||eB j)=true then some (R.sh (.int (i*j)))else none)=_;rw [h,Bool.or_true,if_pos rfl]
end
end M
namespace LW
open PySem PySem.Spec PyProof.Rows L2 M
theorem nD{p q:Prop}(h:¬p:=by decide):p->q:=fun e=>absurd e h
theorem Ju{a:Int}(h0:0<=a)(h1:a<=100000000000):eB a=true:=by
 unfold eB;rw [decide_eq_true (by omega:-(2 ^ 64)<a),decide_eq_true (by omega:a<2 ^ 64)];rfl
def num(x:Int):Int:=if x % 3=0 then x / 3 % 7 else if x % 3=1 then 999999999-x / 3 % 5 else x*7919 % 1000000000
theorem Jv(x:Int):0<=num x/\num x<=999999999:=by
 unfold num;split
 ·omega
 ·split
  ·omega
  ·omega
theorem xu(x:Int):bS [.sh (.int x)]=some (.sh (.int (num x)),[.sh (.int x)]):=by
 unfold num;by_cases h:x % 3=0
 ·simp [bS,iu,h]
 ·by_cases h2:x % 3=1
  ·simp [bS,iu,h,h2]
  ·have e:eB 7919=true:=rfl;simp [bS,iu,h,h2,e]
theorem size_eq(x:Int):∃k:Nat,k<=41/\bM [.sh (.int x)]=some (.sh (.int k),[.sh (.int x)]):=by
 by_cases h:x % 8=1
 ·refine⟨(12+x / 8 % 30).toNat,by omega,?_⟩;have e:((12+x / 8 % 30).toNat:Int)=12+x / 8 % 30:=by omega
  simp [bM,oE,h,e]
 ·refine⟨(x / 8 % 6).toNat,by omega,?_⟩;have e:((x / 8 % 6).toNat:Int)=x / 8 % 6:=by omega
  simp [bM,oE,h,e]
theorem Jw{α β:Type}(f:α->β)(xs:List α):∀is:List Nat,(is.filterMap fun i=>(xs.map f)[i]?)=(is.filterMap fun i=>xs[i]?).map f
 |[]=>rfl
 |i::is=>by
  rw [filterMap_cons,filterMap_cons,Jw f xs is,getElem?_map]
  cases xs[i]?<;>rfl
theorem xw{α β:Type}(f:α->β)(xs:List α)(lo hi st:Option Int):eN (xs.map f) lo hi st=(eN xs lo hi st).map f:=by
 unfold eN;rw [length_map];exact Jw f xs _
theorem Of{α:Type}(xs:List α):(eN xs (some 0) none (some 2)).length<=(xs.length+1) / 2:=by
 unfold eN;refine Nat.le_trans (List.length_filterMap_le ..) ?_;simp [sliceRange,sliceBounds];split<;>omega
theorem u5{α:Type}(xs:List α)(k:Nat):cut xs (some (k:Int)) none=xs.drop k:=by
 unfold cut;rw [HT.DJ,HT.zO];by_cases h:k<=xs.length
 ·rw [min_eq_left h];apply take_of_length_le;rw [length_drop];omega
 ·rw [Nat.min_eq_right (by omega)];rw [drop_eq_nil_of_le (by omega:xs.length<=k),drop_eq_nil_of_le (le_refl _)];simp
theorem lj{α:Type}(xs:List α)(k:Nat):cut xs none (some (k:Int))=xs.take k:=by
 unfold cut;rw [HT.DJ,HT.zO];by_cases h:k<=xs.length
 ·rw [min_eq_left h];simp
 ·rw [Nat.min_eq_right (by omega),take_of_length_le (by omega:xs.length<=k)];simp
theorem sL{α β:Type}(f:α->β)(xs:List α)(lo hi:Option Int):cut (xs.map f) lo hi=(cut xs lo hi).map f:=by
 unfold cut;rw [length_map,<-map_drop,<-map_take]
theorem EB{α:Type}{xs:List α}{lo hi:Option Int}{x:α}(h:x∈cut xs lo hi):x∈xs:=by
 unfold cut at h;exact mem_of_mem_drop (mem_of_mem_take h)
theorem nR{α:Type}(xs:List α)(lo hi:Option Int):(cut xs lo hi).length<=xs.length:=by
 unfold cut;rw [length_take,length_drop];omega
theorem Jx{lo:Int}{n:Nat}{t:T}(h:t∈M.upTo lo n):∃i:Int,t=.int i:=by
 unfold M.upTo at h;obtain⟨i,_,rfl⟩:=mem_map.mp h;exact⟨_,rfl⟩
theorem u6{Γ Γ1:G}{n:MA}{j:Int}{k:Nat}(h:n Γ=some ([.int j],Γ1))(h0:-1000000<=j)(h1:j<=1000000)(hk:j.toNat=k):GC n Γ=some (M.upTo 0 k,Γ1):=by
 have c:-(2 ^ 62)<=j/\j<2 ^ 62:=⟨by omega,by omega⟩;unfold GC;rw [h];dsimp only [Option.bind];rw [if_pos c,hk]
theorem lu{b:BG}{m:MS}(Pv:Nat->G->Prop):∀(ts:List T)(k:Nat)(Γ:G),Pv k Γ->(∀(i:Nat)(t:T)(Γ:G),ts[i]?=some t->Pv (k+i) Γ->∃Γ1 Γ2,b t Γ=some Γ1/\m Γ1=some (.nx Γ2)/\Pv (k+i+1) Γ2)->∃Γ',dt b m ts Γ=some (.nx Γ')/\Pv (k+ts.length) Γ'
 |[],k,Γ,h,_=>⟨Γ,rfl,h⟩
 |t::ts,k,Γ,h,hs=>by
  obtain⟨Γ1,Γ2,h1,h2,h3⟩:=hs 0 t Γ rfl h;obtain⟨Γ',h4,h5⟩:=lu Pv ts (k+1) Γ2 h3 fun i u Γ' hu hp=>by
   have e:k+(i+1)=k+1+i:=by omega
   have:=hs (i+1) u Γ' (by simpa using hu) (by rw [e];exact hp);rw [e]at this;exact this
  refine⟨Γ',sC h1 h2 h4,?_⟩;have e:k+(t::ts).length=k+1+ts.length:=by rw [length_cons];omega
  rw [e];exact h5
theorem EC{i:Nat}{m:MX}{Γ:G}:cU i m Γ=match Γ[i]? with
 |some (.own (.lst _))=>(m Γ).bind fun p=>match (dH p.1 p.2).2[i]? with
  |some (.own (.lst ts))=>if ts.length<sizeLine then some (.nx ((dH p.1 p.2).2.set i (.own (.lst (ts++[(dH p.1 p.2).1])))))else none
  |_=>none
 |_=>none:=rfl
theorem qW(c:Int)(n:Nat)(hn:n<=900):∃(xs:List Int) (Γ:G),xs.length=n/\(∀x∈xs,0<=x/\x<=1000000007)/\bp [.sh (.int c),.sh (.int n)]=some (.own (.lst (xs.map T.int)),Γ):=by
 have c0:=emod_nonneg c (by decide:(1000000007:Int)≠0);have c1:=emod_lt_of_pos c (by decide:(0:Int)<1000000007);obtain⟨Γ',h1,h2⟩:=lu (b:=aM 4) (m:=aL (bJ 5 (ah cz (ah cz (ah fL (mV 2) (mC (.int 11))) (ah fL (mC (.int 3)) (mV 4))) (mC (.int 17)))) (aL (bJ 2 (ah gu (ah cz (ah fL (ah fL (mV 2) (mV 2)) (mC (.int 5))) (mV 5)) (mC (.int 1000000007)))) (cU 3 (ah rV (mV 2) (mC (.int 11))))))
  (fun i Γ=>∃(k:Int) (fs:List Int) (s4 s5:Slot),Γ=[.sh (.int c),.sh (.int n),.sh (.int k),.own (.lst (fs.map T.int)),s4,s5]/\0<=k/\k<1000000007/\fs.length=i/\∀x∈fs,0<=x/\x<=1000000007)
  (M.upTo 0 (n+2)) 0 [.sh (.int c),.sh (.int n),.sh (.int (c % 1000000007)),.own (.lst []),.no,.no] ⟨_,[],_,_,rfl,c0,c1,rfl,by simp⟩ (by
   rintro i t Γ ht ⟨k,fs,s4,s5,rfl,k0,k1,hl,hf⟩;obtain⟨j,rfl⟩:=Jx (mem_of_getElem? ht);have hi:i<n+2:=by
    have:=(List.getElem?_eq_some_iff.mp ht).1;rw [g7]at this;exact this
   have sk:eB k=true:=Ju k0 (by omega);have s3:eB 3=true:=rfl;have Og:eB 5=true:=rfl;have hsz:(fs.map T.int).length<sizeLine:=by rw [length_map];exact aG (by omega)
   have q0:=emod_nonneg (k*k*5+(k*11+3*j+17)) (by decide:(1000000007:Int)≠0);have q1:=emod_lt_of_pos (k*k*5+(k*11+3*j+17)) (by decide:(0:Int)<1000000007);refine⟨[.sh (.int c),.sh (.int n),.sh (.int k),.own (.lst (fs.map T.int)),.sh (.int j),s5],[.sh (.int c),.sh (.int n),.sh (.int ((k*k*5+(k*11+3*j+17)) % 1000000007)),.own (.lst ((fs++[(k*k*5+(k*11+3*j+17)) % 1000000007 / 11]).map T.int)),.sh (.int j),.sh (.int (k*11+3*j+17))],rfl,?_,_,fs++[(k*k*5+(k*11+3*j+17)) % 1000000007 / 11],_,_,rfl,q0,q1,?_,?_⟩
   ·rw [length_map]at hsz;simp [EC,sk,s3,Og,hsz]
   ·rw [length_append,hl];rfl
   ·intro x hx;rcases mem_append.mp hx with hx|hx
    ·exact hf x hx
    ·rw [mem_singleton.mp hx];omega)
 obtain⟨k,fs,s4,s5,rfl,k0,k1,hl,hf⟩:=h2;rw [g7]at hl;have hr:GC (ck (ah cz (mV 1) (mC (.int 2))) aU) [.sh (.int c),.sh (.int n),.sh (.int (c % 1000000007)),.own (.lst []),.no,.no]=some (M.upTo 0 (n+2),[.sh (.int c),.sh (.int n),.sh (.int (c % 1000000007)),.own (.lst []),.no,.no]) :=
  u6 (j:=(n:Int)+2) (by simp) (by omega) (by omega) (by omega)
 have last:yg (mV 3) (pS (mC (.int 2))) tQ [.sh (.int c),.sh (.int n),.sh (.int k),.own (.lst (fs.map T.int)),s4,s5]=some (.own (.lst ((fs.drop 2).map T.int)),[.sh (.int c),.sh (.int n),.sh (.int k),.own (.lst (fs.map T.int)),s4,s5]):=by
  show some (R.own (.lst (cut (fs.map T.int) (some ((2:Nat):Int)) none)),_)=_;rw [u5,map_drop]
 refine⟨fs.drop 2,[.sh (.int c),.sh (.int n),.sh (.int k),.own (.lst (fs.map T.int)),s4,s5],?_,fun x hx=>hf x (mem_of_mem_drop hx),gc (aB (tS (t:=.int (c % 1000000007)) rfl) (aB (ja rfl) (aB (fm hr h1) (fY last))))⟩;rw [length_drop];omega
def kk(p:Int×Int):Key:=.inl p.1
def vv(p:Int×Int):T:=.int p.2
def lL(ps:List (Int×Int))(k v:Int):List (Int×Int):=if ps.any (fun p=>decide (p.1=k))=true then ps.map (fun p=>if p.1=k then(p.1,v)else p)else ps++[(k,v)]
theorem ED(ps:List (Int×Int))(k:Int):yi (ps.map kk) (.inl k)=ps.any (fun p=>decide (p.1=k)):=by
 unfold yi;rw [any_map];congr 1;funext p;simp [kk]
theorem Du(ps:List (Int×Int))(k v:Int):Io (ps.map kk) (.inl k)=(lL ps k v).map kk:=by
 unfold Io lL;rw [ED];split
 ·rw [map_map];refine map_congr_left fun p _=>?_;simp only [kk,Function.comp];split<;>rfl
 ·rw [map_append];rfl
theorem Dv(ps:List (Int×Int))(k v:Int):Eb (ps.map kk) (ps.map vv) (.inl k) (.int v)=(lL ps k v).map vv:=by
 unfold Eb lL;rw [ED];split
 ·rename_i h;clear h
  induction ps with
  |nil=>rfl
  |cons p ps ih =>
   rw [map_cons,map_cons,List.zipWith_cons_cons,map_cons,map_cons,ih];congr 1;by_cases e:p.1=k
   ·rw [if_pos e,if_pos (by simp [kk,e])];rfl
   ·rw [if_neg e,if_neg (by simpa [kk]using e)]
 ·rw [map_append];rfl
theorem u9(ps:List (Int×Int))(k v:Int):(lL ps k v).length<=ps.length+1:=by
 unfold lL;split<;>simp
theorem zw{Q:Int->Prop}{ps:List (Int×Int)}{k v:Int}(h:∀p∈ps,Q p.1/\Q p.2)(hk:Q k)(hv:Q v):∀p∈lL ps k v,Q p.1/\Q p.2:=by
 intro p hp;unfold lL at hp;split at hp
 ·obtain⟨q,hq,rfl⟩:=mem_map.mp hp;split
  ·exact⟨(h q hq).1,hv⟩
  ·exact h q hq
 ·rcases mem_append.mp hp with hp|hp
  ·exact h p hp
  ·rw [mem_singleton.mp hp];exact⟨hk,hv⟩
theorem Gk(ps:List (Int×Int)):kf (ps.map kk) (ps.map vv)=some ps:=by
 induction ps with
 |nil=>rfl
 |cons p ps ih =>
  show(kf (ps.map kk) (ps.map vv)).map (fun q=>(p.1,p.2)::q)=_;rw [ih];rfl
theorem Jy{i:Nat}{mk mv:MX}{Γ:G}:ua i mk mv Γ=(mv Γ).bind fun p=>match (dH p.1 p.2).2[i]? with
 |some (.own _)=>(mk (dH p.1 p.2).2).bind fun q=>match keyOf q.1.tree,q.2[i]? with
  |some k,some (.own (.eX ks ts))=>if ks.length<sizeLine then some (.nx (q.2.set i (.own (.eX (Io ks k) (Eb ks ts k (dH p.1 p.2).1)))))else none
  |_,_=>none
 |_=>none:=rfl
def Rg(n:Int):Prop:=0<=n/\n<=999999999
theorem qg{b:BG}{me:MX}{Γ0 Γ1:G}{mi:MI}{ts:List T}{f:T->T}{cap:List (Option Nat)}(h:mi Γ0=some (ts,Γ1))(hf:∀t∈ts,∃Γ2 r Γ3,b t (pR cap (bH cap Γ1))=some Γ2/\me Γ2=some (r,Γ3)/\(dH r Γ3).1=f t)(hl:ts.length<=1000):gz cap mi b lE me Γ0=some (.own (.lst (ts.map f)),bH cap Γ1) :=
 D9 h (by
  have z:=Av (Γ:=pR cap (bH cap Γ1)) (b:=b) (me:=me) (f:=f) ts [] hf (by show 0+ts.length<=_;have:=aG hl;omega);simpa using z)
def jE(ts:List T):Prop:=∃ns:List Int,ts=ns.map T.int/\∀n∈ns,Rg n
def gX(ts:List T):Prop:=∃ps:List (Int×Int),ts=ps.map aw/\∀p∈ps,Rg p.1/\Rg p.2
theorem M4(xs:List Int):((xs.map T.int).map fun t=>match t with | .int x=>T.int (num x)|t=>t)=(xs.map num).map T.int:=by
 rw [map_map,map_map];rfl
theorem M5(w:T)(xs:List Int)(s2 s3 s4 s5:Slot)(hl:xs.length<=900):bJ 2 (gz [none] (rq (CC (mV 1) (pS (mC (.int 0))) tQ (pS (mC (.int 2))))) (aM 0) lE (aE 1 bS (aQ (mV 0) aU))) [.sh w,.sh (.lst (xs.map T.int)),s2,s3,s4,s5] =
  some (.nx [.sh w,.sh (.lst (xs.map T.int)),.own (.lst (((eN xs (some 0) none (some 2)).map num).map T.int)),s3,s4,s5]):=by
 have hp:=Of xs;have e1:rq (CC (mV 1) (pS (mC (.int 0))) tQ (pS (mC (.int 2)))) [.sh w,.sh (.lst (xs.map T.int)),s2,s3,s4,s5]=some ((eN xs (some 0) none (some 2)).map T.int,[.sh w,.sh (.lst (xs.map T.int)),s2,s3,s4,s5]):=by
  rw [<-xw];rfl
 have z:=qg (cap:=[none]) (b:=aM 0) (me:=aE 1 bS (aQ (mV 0) aU)) (f:=fun t=>match t with | .int x=>T.int (num x)|t=>t) e1 (fun t ht=>by
  obtain⟨x,hx,rfl⟩:=mem_map.mp ht;exact⟨[.sh (.int x)],.sh (.int (num x)),[.sh (.int x)],rfl,jb rfl rfl (xu x),rfl⟩) (by rw [length_map];omega)
 rw [M4]at z;exact ja z
def cK(B:Nat)(w:Str)(ts:List T):Prop:=ts.length<=B/\(w = "map" -> gX ts)/\(w ≠ "map" -> jE ts)/\(w = "most" \/ w = "once" -> ts.length<=1)
def fU(w:Str):Prop:=w = "most" \/ w = "set" \/ w = "once" \/ w = "row" \/ w = "map"
theorem cK.mono{B B':Nat}{w:Str}{ts:List T}(h:cK B w ts)(hb:B<=B'):cK B' w ts:=⟨Nat.le_trans h.1 hb,h.2⟩
theorem Gm{ns:List Int}{n:Int}(h:n∈aY ns):n∈ns:=by
 have key:∀(l acc:List Int)(n:Int),n∈l.foldl step_dedup acc->n∈acc\/n∈l:=by
  intro l
  induction l with
  |nil=>intro acc n h;exact .inl h
  |cons a l ih =>
   intro acc n h;rcases ih _ n h with h|h
   ·unfold step_dedup at h;split at h
    ·exact .inl h
    ·rcases mem_append.mp h with h|h
     ·exact .inl h
     ·exact .inr (by rw [mem_singleton.mp h];exact mem_cons_self)
   ·exact .inr (mem_cons_of_mem _ h)
 rcases key ns [] n h with h|h
 ·cases h
 ·exact h
theorem o6{ns:List Int}(h:ns.length<600):g9 [.lst (ns.map T.int)]=some (.own (.lst ((bh (aY ns)).map T.int))):=by
 simp only [g9,fE];exact if_pos h
theorem lz{ns:List Int}(h:∀n∈ns,Rg n):∀n∈bh (aY ns),Rg n:=fun n hn=>h n (Gm ((bx _).mem_iff.mp hn))
theorem jg(ns:List Int):(bh (aY ns)).length<=ns.length:=by
 rw [(bx _).length_eq];exact iE ns
theorem lA{ps:List (Int×Int)}{Γ:G}{i:Nat}(h:Γ[i]?=some (.own (.eX (ps.map kk) (ps.map vv))))(hl:ps.length<600):eQ (mV i) Γ=some (.own (.lst ((bZ ps).map aw)),Γ):=by
 have e:mV i Γ=some (.bor i (.eX (ps.map kk) (ps.map vv)),Γ):=by
  unfold mV;rw [h]
 unfold eQ;rw [e];show(match kf (ps.map kk) (ps.map vv)with|some ps=>if ps.length<600 then some (R.own (.lst ((bZ ps).map aw)),Γ)else none|none=>none)=_;rw [Gk];exact if_pos hl
theorem nS{ps:List (Int×Int)}(h:∀p∈ps,Rg p.1/\Rg p.2):gX ((bZ ps).map aw):=⟨_,rfl,fun p hp=>h p ((mergeSort_perm ps GF).mem_iff.mp hp)⟩
theorem lB(ps:List (Int×Int)):((bZ ps).map aw).length=ps.length:=by
 rw [length_map];exact(mergeSort_perm ps GF).length_eq
@[simp] theorem Oh:¬(("most" : Str)=("set" : Str)):=by decide
@[simp] theorem M6:¬(("most" : Str)=("once" : Str)):=by decide
@[simp] theorem Oi:¬(("most" : Str)=("row" : Str)):=by decide
@[simp] theorem Oj:¬(("most" : Str)=("map" : Str)):=by decide
@[simp] theorem Ol:¬(("set" : Str)=("most" : Str)):=by decide
@[simp] theorem Om:¬(("set" : Str)=("once" : Str)):=by decide
@[simp] theorem QZ:¬(("set" : Str)=("row" : Str)):=by decide
@[simp] theorem Q1:¬(("set" : Str)=("map" : Str)):=by decide
@[simp] theorem M7:¬(("once" : Str)=("most" : Str)):=by decide
@[simp] theorem Oo:¬(("once" : Str)=("set" : Str)):=by decide
@[simp] theorem Oq:¬(("once" : Str)=("row" : Str)):=by decide
@[simp] theorem Ot:¬(("once" : Str)=("map" : Str)):=by decide
@[simp] theorem Ou:¬(("row" : Str)=("most" : Str)):=by decide
@[simp] theorem Q2:¬(("row" : Str)=("set" : Str)):=by decide
@[simp] theorem Ow:¬(("row" : Str)=("once" : Str)):=by decide
@[simp] theorem Q3:¬(("row" : Str)=("map" : Str)):=by decide
@[simp] theorem Ox:¬(("map" : Str)=("most" : Str)):=by decide
@[simp] theorem Q4:¬(("map" : Str)=("set" : Str)):=by decide
@[simp] theorem Oy:¬(("map" : Str)=("once" : Str)):=by decide
@[simp] theorem Q5:¬(("map" : Str)=("row" : Str)):=by decide
theorem zx{m:MX}{lo hi:MO}{Γ:G}:yg m lo hi Γ=(m Γ).bind fun p=>(lo p.2).bind fun q=>(hi q.2).bind fun z=>match p.1.tree with
 |.lst ts=>some (.own (.lst (cut ts q.1 z.1)),z.2)
 |_=>none:=rfl
theorem zy{m:MX}{Γ:G}:pS m Γ=(m Γ).bind fun p=>match p.1 with
 |.sh (.int i)=>some (some i,p.2)
 |_=>none:=rfl
theorem BO{m:MX}{Γ:G}:yh m Γ=(m Γ).bind fun p=>match p.1 with
 |.sh (.int i)=>some (.sh (.int (-i)),p.2)
 |_=>none:=rfl
theorem iY{ts us:List T}(h:ts.length+us.length<=1000):cz (.lst ts) (.lst us)=some (.own (.lst (ts++us))):=by
 show(match (if ts.length+us.length<=sizeLine then some (R.own (.lst (ts++us)))else none)with
  |some r=>some r
  |none=>D1 (.lst ts) (.lst us))=_
 rw [if_pos (le_of_lt (aG h))]
theorem jX{α:Type}{xs:List α}{k:Nat}(h:k<xs.length):jU xs (k:Int)=xs[k]?:=by
 unfold jU Gz;rw [if_pos (by omega),if_pos (by omega)];simp
theorem Jz{α:Type}{xs:List α}{i:Int}(h0:0<=i)(h1:i<xs.length):∃x∈xs,jU xs i=some x:=by
 have e:i=((i.toNat:Nat):Int):=by omega
 have hl:i.toNat<xs.length:=by omega
 refine⟨xs[i.toNat],getElem_mem hl,?_⟩;have z:=jX hl;rw [<-e]at z;rw [z];exact getElem?_eq_getElem hl
theorem JA{α:Type}(xs:List α):(cut xs (some (-1)) none).length<=1:=by
 unfold cut;rw [length_take,length_drop];have e:HT.vn xs.length 0 (some (-1))=xs.length-1:=by
  show(if(-1:Int)<0 then((-1:Int)+(xs.length:Int)).toNat else min (-1:Int).toNat xs.length)=_;rw [if_pos (by decide)];omega
 rw [e];omega
theorem jE.app{ts us:List T}(h:jE ts)(h':jE us):jE (ts++us):=by
 obtain⟨ns,rfl,h1⟩:=h;obtain⟨ms,rfl,h2⟩:=h';refine⟨ns++ms,by rw [map_append],fun n hn=>?_⟩;rcases mem_append.mp hn with hn|hn
 ·exact h1 n hn
 ·exact h2 n hn
theorem gX.app{ts us:List T}(h:gX ts)(h':gX us):gX (ts++us):=by
 obtain⟨ns,rfl,h1⟩:=h;obtain⟨ms,rfl,h2⟩:=h';refine⟨ns++ms,by rw [map_append],fun n hn=>?_⟩;rcases mem_append.mp hn with hn|hn
 ·exact h1 n hn
 ·exact h2 n hn
theorem jE.cut{ts:List T}(h:jE ts)(lo hi:Option Int):jE (M.cut ts lo hi):=by
 obtain⟨ns,rfl,h1⟩:=h;exact⟨M.cut ns lo hi,sL ..,fun n hn=>h1 n (EB hn)⟩
theorem gX.cut{ts:List T}(h:gX ts)(lo hi:Option Int):gX (M.cut ts lo hi):=by
 obtain⟨ns,rfl,h1⟩:=h;exact⟨M.cut ns lo hi,sL ..,fun n hn=>h1 n (EB hn)⟩
theorem cK.cut{B:Nat}{w:Str}{ts:List T}(h:cK B w ts)(lo hi:Option Int):cK B w (M.cut ts lo hi) :=
 ⟨Nat.le_trans (nR ..) h.1,fun e=>(h.2.1 e).cut lo hi,fun e=>(h.2.2.1 e).cut lo hi,fun e=>Nat.le_trans (nR ..) (h.2.2.2 e)⟩
theorem BP{Q:Int->Prop}:∀(ps qs:List (Int×Int)),(∀p∈ps,Q p.1/\Q p.2)->(∀p∈qs,Q p.1/\Q p.2)->∀p∈ps.foldl (fun acc p=>iQ acc p.1 p.2) qs,Q p.1/\Q p.2
 |[],qs,_,h=>h
 |p::ps,qs,h1,h2=>BP ps (iQ qs p.1 p.2) (fun q hq=>h1 q (mem_cons_of_mem _ hq)) (zw h2 (h1 p mem_cons_self).1 (h1 p mem_cons_self).2)
theorem Q6{n:Int}(h:Rg n):jE [.int n]:=⟨[n],rfl,fun m hm=>by rw [mem_singleton.mp hm];exact h⟩
theorem Uy{a b:Int}(h:Rg a)(h':Rg b):gX [.tup [.int a,.int b]]:=⟨[(a,b)],rfl,fun m hm=>by rw [mem_singleton.mp hm];exact⟨h,h'⟩⟩
def vc(ts:List T):Prop:=pQ ts=true/\PyData.depthAll (cL ts)<=1
theorem lC:∀ns:List Int,vc (ns.map T.int)
 |[]=>⟨rfl,zero_le _⟩
 |n::ns=>by
  obtain⟨h1,h2⟩:=lC ns;refine⟨h1,?_⟩;show max 0 (PyData.depthAll (cL (ns.map T.int)))<=1;omega
theorem nk:∀ps:List (Int×Int),vc (ps.map aw)
 |[]=>⟨rfl,zero_le _⟩
 |p::ps=>by
  obtain⟨h1,h2⟩:=nk ps;refine⟨h1,?_⟩;show max 1 (PyData.depthAll (cL (ps.map aw)))<=1;omega
theorem cK.flat{B:Nat}{w:Str}{ts:List T}(h:cK B w ts):vc ts:=by
 by_cases hm:w = "map"
 ·obtain⟨ps,rfl,_⟩:=h.2.1 hm;exact nk ps
 ·obtain⟨ns,rfl,_⟩:=h.2.2.1 hm;exact lC ns
theorem iZ{n:Bool}{ts us:List T}(h:vc ts)(h':vc us):HZ n (.lst ts) (.lst us)=some (.sh (.bl (xor n (eqT (.lst ts) (.lst us))))):=by
 have d1:(toD (.lst ts)).depth<=60:=by
  show PyData.depthAll (cL ts)+1<=60;have:=h.2;omega
 have d2:(toD (.lst us)).depth<=60:=by
  show PyData.depthAll (cL us)+1<=60;have:=h'.2;omega
 show(if(pQ ts&&pQ us&&decide ((toD (.lst ts)).depth<=60)&&decide ((toD (.lst us)).depth<=60))=true then _ else _)=_;rw [h.1,h'.1,decide_eq_true d1,decide_eq_true d2];rfl
theorem zA(ts:List T):eqT (.lst ts) (.lst [])=decide (ts=[]):=by
 cases ts with
 |nil=>rfl
 |cons t ts=>rfl
theorem nil_eq{B:Nat}{w:Str}{ts:List T}(h:cK B w ts):cO (.lst ts) (.lst [])=some (.sh (.bl (decide (ts=[])))):=by
 have z:=iZ (n:=false) h.flat (us:=[]) ⟨rfl,zero_le _⟩;rw [zA,false_xor]at z;exact z
theorem Q7{B:Nat}{w:Str}{ts:List T}(h:cK B w ts):jV (.lst ts) (.lst [])=some (.sh (.bl (!decide (ts=[])))):=by
 have z:=iZ (n:=true) h.flat (us:=[]) ⟨rfl,zero_le _⟩;rw [zA,true_xor]at z;exact z
theorem same_ints:∀ns:List Int,PyData.eqvAll (cL (ns.map T.int)) (cL (ns.map T.int))=true
 |[]=>rfl
 |n::ns=>by
  show((n==n)&&PyData.eqvAll (cL (ns.map T.int)) (cL (ns.map T.int)))=true;rw [same_ints ns,beq_self_eq_true];rfl
theorem vd:∀ps:List (Int×Int),PyData.eqvAll (cL (ps.map aw)) (cL (ps.map aw))=true
 |[]=>rfl
 |p::ps=>by
  show(((p.1==p.1)&&((p.2==p.2)&&true))&&PyData.eqvAll (cL (ps.map aw)) (cL (ps.map aw)))=true;rw [vd ps,beq_self_eq_true,beq_self_eq_true];rfl
theorem cK.same{B:Nat}{w:Str}{ts:List T}(h:cK B w ts):PyData.eqvAll (cL ts) (cL ts)=true:=by
 by_cases hm:w = "map"
 ·obtain⟨ps,rfl,_⟩:=h.2.1 hm;exact vd ps
 ·obtain⟨ns,rfl,_⟩:=h.2.2.1 hm;exact same_ints ns
theorem eq_self{B:Nat}{w:Str}{ts:List T}(h:cK B w ts):cO (.lst ts) (.lst ts)=some (.sh (.bl true)):=by
 have z:=iZ (n:=false) h.flat h.flat;rw [show eqT (.lst ts) (.lst ts)=true from h.same,false_xor]at z;exact z
def zB(ps:List (Int×Int))(n:Int):Option Int:=(ps.find? fun p=>decide (p.1=n)).map (·.2)
theorem Gn{ns:List Int}(h:ns.Pairwise (·<=·))(n:ns.Nodup):ns.Pairwise (·<·):=by
 refine(List.Pairwise.and h n).imp fun{a b} ⟨h1,h2⟩=>?_;have h2:a≠b:=h2;omega
theorem qh{ns:List Int}(h:ns.Pairwise (·<·)):ns.Nodup:=h.imp fun{a b} h=>by
 show a≠b;omega
theorem BQ(ns:List Int):(aY ns).Nodup/\∀k,k∈aY ns↔k∈ns:=by
 obtain⟨h1,h2,_⟩:=Xi ns [];exact⟨h2 nodup_nil,fun k=>by have:=h1 k;simpa [aY]using this⟩
theorem eW(ns:List Int):(bh (aY ns)).Pairwise (·<·):=Gn (dJ _) ((bx _).nodup_iff.mpr (BQ ns).1)
theorem hU(ns:List Int)(k:Int):k∈bh (aY ns)↔k∈ns:=(bx _).mem_iff.trans ((BQ ns).2 k)
theorem BR{ns ms:List Int}(h:ns.Pairwise (·<·))(h':ms.Pairwise (·<·))(e:∀n,n∈ns↔n∈ms):ns=ms :=
 ksm_same ((List.perm_ext_iff_of_nodup (qh h) (qh h')).mpr e) (h.imp fun{a b} h=>by omega) (h'.imp fun{a b} h=>by omega)
def KN(ps:List (Int×Int)):Prop:=(ps.map (·.1)).Nodup
def KS(ps:List (Int×Int)):Prop:=ps.Pairwise fun a b=>a.1<b.1
theorem KS.kn{ps:List (Int×Int)}(h:KS ps):KN ps:=pairwise_map.mpr (h.imp fun{a b} h=>by
 show a.1≠b.1;omega)
theorem KN.nd{ps:List (Int×Int)}(h:KN ps):ps.Nodup:=(pairwise_map.mp h).imp fun{a b} h e=>h (by rw [e])
theorem KS.le{ps:List (Int×Int)}(h:KS ps):ps.Pairwise fun a b=>GF a b=true:=h.imp fun{a b} h=>Em.mpr (.inl h)
theorem KN.perm{ps qs:List (Int×Int)}(h:KN ps)(p:qs.Perm ps):KN qs:=(p.map _).nodup_iff.mpr h
theorem nU{ps:List (Int×Int)}(h:KN ps):KS (bZ ps):=by
 have n:(bZ ps).Pairwise fun a b=>a.1≠b.1:=pairwise_map.mp (h.perm (cV ps));refine(List.Pairwise.and (ot ps) n).imp fun{a b} ⟨h1,h2⟩=>?_;rcases Em.mp h1 with h|h
 ·exact h
 ·exact absurd h.1 h2
theorem xx{rs qs:List (Int×Int)}(hr:KN rs)(hq:KS qs)(e:∀p,p∈rs↔p∈qs):bZ rs=qs :=
 (rC ((List.perm_ext_iff_of_nodup hq.kn.nd hr.nd).mpr fun p=>(e p).symm) hq.le).symm
theorem qi{ps:List (Int×Int)}(h:KN ps)(k v:Int):KN (iQ ps k v):=by
 unfold KN iQ at *;split
 ·have e:(ps.map fun p=>if p.1=k then(p.1,v)else p).map (·.1)=ps.map (·.1):=by
   rw [map_map];refine map_congr_left fun p _=>?_;show(if p.1=k then(p.1,v)else p).1=p.1;split<;>rfl
  rw [e];exact h
 ·rename_i hn;rw [map_append,nodup_append];refine⟨h,by simp,fun x hx y hy e=>?_⟩;have hy:y=k:=by simpa using hy
  subst hy;subst e;obtain⟨p,hp,rfl⟩:=mem_map.mp hx;exact hn (any_eq_true.mpr ⟨p,hp,by simp⟩)
theorem JB(ps:List (Int×Int))(k v:Int):(k,v)∈iQ ps k v:=by
 unfold iQ;split
 ·rename_i h;obtain⟨p,hp,e⟩:=any_eq_true.mp h;have e:p.1=k:=by simpa using e
  refine mem_map.mpr ⟨p,hp,?_⟩;rw [if_pos e,e]
 ·exact mem_append_right _ (mem_singleton.mpr rfl)
theorem JC{ps:List (Int×Int)}{p:Int×Int}(hp:p∈ps){k:Int}(v:Int)(ne:p.1≠k):p∈iQ ps k v:=by
 unfold iQ;split
 ·exact mem_map.mpr ⟨p,hp,by rw [if_neg ne]⟩
 ·exact mem_append_left _ hp
theorem o7{ps:List (Int×Int)}{k:Int}(v:Int)(h:∀p∈ps,p.1≠k):iQ ps k v=ps++[(k,v)]:=by
 unfold iQ;rw [if_neg];intro z;obtain⟨p,hp,e⟩:=any_eq_true.mp z;exact h p hp (by simpa using e)
theorem BS:∀(ps acc:List (Int×Int)),KN (acc++ps)->ps.foldl (fun acc p=>iQ acc p.1 p.2) acc=acc++ps
 |[],acc,_=>by simp
 |p::ps,acc,h=>by
  have h1:∀q∈acc,q.1≠p.1:=fun q hq=>by
   have:=pairwise_map.mp h;rw [pairwise_append]at this;exact this.2.2 q hq p mem_cons_self
  rw [foldl_cons,o7 p.2 h1,BS ps _ (by rw [append_assoc];exact h),append_assoc];rfl
theorem JD{ps:List (Int×Int)}(h:KN ps):foldZ ps=ps:=BS ps [] h
theorem EE:∀(ps acc:List (Int×Int)),KN acc->KN (ps.foldl (fun acc p=>iQ acc p.1 p.2) acc)
 |[],_,h=>h
 |p::ps,acc,h=>EE ps _ (qi h p.1 p.2)
theorem gK{ps:List (Int×Int)}(h:KN ps){n v:Int}:zB ps n=some v↔(n,v)∈ps:=by
 unfold zB
 induction ps with
 |nil=>simp
 |cons p ps ih =>
  have h2:=nodup_cons.mp (show(p.1::ps.map (·.1)).Nodup from h);by_cases e:p.1=n
  ·rw [List.find?_cons_of_pos (by simpa using e)];constructor
   ·intro z;have z:p.2=v:=by simpa using z
    rw [<-e,<-z];exact mem_cons_self
   ·intro z;rcases mem_cons.mp z with z|z
    ·rw [<-z];rfl
    ·refine absurd ?_ h2.1;rw [e];exact mem_map.mpr ⟨_,z,rfl⟩
  ·rw [List.find?_cons_of_neg (by simpa using e),ih h2.2,mem_cons];refine⟨.inr,fun z=>z.elim (fun z=>?_) id⟩;rw [<-z]at e;exact absurd rfl e
def Sd(w:Str)(ts:List T):Prop:=(w = "set" -> ∃ns:List Int,ts=ns.map T.int/\ns.Pairwise (·<·))/\(w = "map" -> ∃ps:List (Int×Int),ts=ps.map aw/\KS ps)
theorem B6{w:Str}{ts:List T}(h1:¬w = "set")(h2:¬w = "map"):Sd w ts:=⟨fun e=>absurd e h1,fun e=>absurd e h2⟩
def Ov(w:Str)(ts us:List T):Prop :=
 (w = "most" -> ts=[]\/∃a b:Int,ts=[.int a]/\us=[.int b]/\a<=b) /\
 (w = "set" -> ∃ns ms:List Int,ts=ns.map T.int/\us=ms.map T.int/\∀n∈ns,n∈ms) /\
 (w = "once" -> ts=[]\/us=ts)/\(w = "row" -> ∃vs,us=ts++vs) /\
 (w = "map" -> ∃ps qs:List (Int×Int),ts=ps.map aw/\us=qs.map aw/\∀p∈ps,p∈qs)
theorem bC{ps qs:List (Int×Int)}(h:ps.map aw=qs.map aw):ps=qs:=by
 induction ps generalizing qs with
 |nil=>cases qs with
  |nil=>rfl
  |cons q qs=>cases h
 |cons p ps ih=>cases qs with
  |nil=>cases h
  |cons q qs =>
   rw [map_cons,map_cons]at h;obtain⟨h1,h2⟩:=List.cons.inj h;have e:p=q:=by
    obtain⟨a,b⟩:=p;obtain⟨a',b'⟩:=q;simpa [aw]using h1
   rw [e,ih h2]
theorem fD{ns ms:List Int}(h:ns.map T.int=ms.map T.int):ns=ms:=by
 induction ns generalizing ms with
 |nil=>cases ms with
  |nil=>rfl
  |cons q qs=>cases h
 |cons p ps ih=>cases ms with
  |nil=>cases h
  |cons q qs =>
   rw [map_cons,map_cons]at h;obtain⟨h1,h2⟩:=List.cons.inj h
   cases h1
   rw [ih h2]
theorem o9{ns ms:List Int}(h:∀n∈ns,n∈ms):Ov "set" (ns.map T.int) (ms.map T.int):=⟨nD,fun _=>⟨ns,ms,rfl,rfl,h⟩,nD,nD,nD⟩
theorem dj{ts us:List T}(h:ts=[]\/us=ts):Ov "once" ts us:=⟨nD,nD,fun _=>h,nD,nD⟩
theorem jF{ts us:List T}(h:∃vs,us=ts++vs):Ov "row" ts us:=⟨nD,nD,nD,fun _=>h,nD⟩
theorem jG{ps qs:List (Int×Int)}(h:∀p∈ps,p∈qs):Ov "map" (ps.map aw) (qs.map aw):=⟨nD,nD,nD,nD,fun _=>⟨ps,qs,rfl,rfl,h⟩⟩
theorem BU{α:Type}(xs:List α):M.cut xs (some (-1)) none=xs.drop (xs.length-1):=by
 unfold M.cut;have e:HT.vn xs.length 0 (some (-1))=xs.length-1:=by
  show(if(-1:Int)<0 then((-1:Int)+(xs.length:Int)).toNat else min (-1:Int).toNat xs.length)=_;rw [if_pos (by decide)];omega
 have e2:HT.vn xs.length xs.length none=xs.length:=rfl;rw [e,e2,take_of_length_le (by rw [length_drop];exact le_refl _)]
theorem M8{ts us:List T}{ns:List Int}(e:ts++us=ns.map T.int)(h1:ts.length<=1):Ov "most" ts (M.cut ((bh ns).map T.int) (some (-1)) none):=by
 refine⟨fun _=>?_,nD,nD,nD,nD⟩
 match ts,h1,e with
 |[],_,_=>exact .inl rfl
 |[t],_,e =>
  cases ns with
  |nil=>cases e
  |cons a ns =>
   obtain⟨rfl,_⟩:=List.cons.inj e;have ne:bh (a::ns)≠[]:=fun z=>by
    have:=(bx (a::ns)).length_eq;rw [z]at this
    cases this
   obtain⟨l,b,el⟩:∃l b,bh (a::ns)=l++[b]:=⟨_,_,(List.dropLast_concat_getLast ne).symm⟩;refine .inr ⟨a,b,rfl,?_,?_⟩
   ·rw [sL,BU,el];simp
   ·have hm:a∈bh (a::ns):=(bx _).mem_iff.mpr mem_cons_self;have hs:=dJ (a::ns);rw [el]at hm hs;rcases mem_append.mp hm with z|z
    ·exact(pairwise_append.mp hs).2.2 a z _ (mem_singleton.mpr rfl)
    ·rw [mem_singleton.mp z];exact Int.le_refl _
theorem BV(w:Str)(hw:fU w)(xs:List Int)(hx:xs.length<=82):∃(ts:List T) (Γ:G),cK ((xs.length+1) / 2) w ts/\Sd w ts/\fc [.sh (.str w),.sh (.lst (xs.map T.int))]=some (.own (.lst ts),Γ):=by
 have hn:=M5 (.str w) xs .no .no .no .no (by omega);have hp:=Of xs;have Py:∀n∈(eN xs (some 0) none (some 2)).map num,Rg n:=fun n h=>by
  obtain⟨x,_,rfl⟩:=mem_map.mp h;exact Jv x
 have hlen:((eN xs (some 0) none (some 2)).map num).length<=(xs.length+1) / 2:=by rw [length_map];omega
 generalize (eN xs (some 0) none (some 2)).map num=ns at hn Py hlen;have c1:cut (ns.map T.int) none (some 1)=(ns.take 1).map T.int:=by
  rw [sL];exact congrArg _ (lj ns 1)
 have one:∀w:Str,w ≠ "map" -> cK ((xs.length+1) / 2) w ((ns.take 1).map T.int):=fun w hw=>⟨by rw [length_map,length_take];omega,fun e=>absurd e hw,fun _=>⟨_,rfl,fun n h=>Py n (mem_of_mem_take h)⟩,fun _=>by rw [length_map,length_take];omega⟩;rcases hw with rfl|rfl|rfl|rfl|rfl
 ·refine⟨(ns.take 1).map T.int,[.sh (.str "most"),.sh (.lst (xs.map T.int)),.own (.lst (ns.map T.int)),.no,.no,.no],one _ (by decide),B6 (by decide) (by decide),?_⟩;rw [<-c1];exact gc (aB hn (fC (fZ (Γ1:=[.sh (.str "most"),.sh (.lst (xs.map T.int)),.own (.lst (ns.map T.int)),.no,.no,.no]) rfl (fY rfl))))
 ·refine⟨(bh (aY ns)).map T.int,_,⟨?_,nD,fun _=>⟨_,rfl,lz Py⟩,nD⟩,⟨fun _=>⟨_,rfl,eW ns⟩,nD⟩,gc (aB hn (aB (bA rfl rfl) (aB (bA rfl rfl) (fC (fZ rfl (fY (Γ1:=[.sh (.str "set"),.sh (.lst (xs.map T.int)),.own (.lst (ns.map T.int)),.no,.no,.no]) (Il (ts:=[.lst (ns.map T.int)]) rfl (o6 (by omega)))))))))⟩;have:=jg ns;rw [length_map];omega
 ·refine⟨(ns.take 1).map T.int,[.sh (.str "once"),.sh (.lst (xs.map T.int)),.own (.lst (ns.map T.int)),.no,.no,.no],one _ (by decide),B6 (by decide) (by decide),?_⟩;rw [<-c1];exact gc (aB hn (fC (fZ (Γ1:=[.sh (.str "once"),.sh (.lst (xs.map T.int)),.own (.lst (ns.map T.int)),.no,.no,.no]) rfl (fY rfl))))
 ·exact⟨ns.map T.int,_,⟨by rw [length_map];exact hlen,nD,fun _=>⟨_,rfl,Py⟩,nD⟩,B6 (by decide) (by decide),gc (aB hn (aB (bA rfl rfl) (fC (fZ rfl (D6 rfl (by decide))))))⟩
 ·have ez:RD (aQ (mV 2) (aQ (CC (mV 1) (pS (mC (.int 1))) tQ (pS (mC (.int 2)))) aU)) [.sh (.str "map"),.sh (.lst (xs.map T.int)),.own (.lst (ns.map T.int)),.own (.eX [] []),.no,.no] =
    some (vz (ns.map T.int) ((eN xs (some 1) none (some 2)).map T.int),[.sh (.str "map"),.sh (.lst (xs.map T.int)),.sh (.lst (ns.map T.int)),.own (.eX [] []),.no,.no]):=by
   rw [<-xw];rfl
  generalize eN xs (some 1) none (some 2)=ys at ez;obtain⟨Γ',h1,h2⟩:=lu (b:=j4 2 (bW (aM 4) (bW (aM 5) j3))) (m:=ua 3 (mV 4) (aE 1 bS (aQ (mV 5) aU)))
   (fun i Γ=>∃(ps:List (Int×Int)) (s4 s5:Slot),Γ=[.sh (.str "map"),.sh (.lst (xs.map T.int)),.sh (.lst (ns.map T.int)),.own (.eX (ps.map kk) (ps.map vv)),s4,s5]/\ps.length<=i/\(∀p∈ps,Rg p.1/\Rg p.2)/\KN ps)
   (vz (ns.map T.int) (ys.map T.int)) 0 [.sh (.str "map"),.sh (.lst (xs.map T.int)),.sh (.lst (ns.map T.int)),.own (.eX [] []),.no,.no] ⟨[],_,_,rfl,le_refl _,by simp,nodup_nil⟩ (by
    rintro i t Γ ht ⟨ps,s4,s5,rfl,hl,B7,J8⟩;have hi:i<(vz (ns.map T.int) (ys.map T.int)).length:=(List.getElem?_eq_some_iff.mp ht).1;rw [lT,length_map]at hi;obtain⟨a,b,h1,h2,rfl⟩:=AD ht;obtain⟨k,hk,rfl⟩:=mem_map.mp (mem_of_getElem? h1);obtain⟨y,hy,rfl⟩:=mem_map.mp (mem_of_getElem? h2);refine⟨[.sh (.str "map"),.sh (.lst (xs.map T.int)),.sh (.lst (ns.map T.int)),.own (.eX (ps.map kk) (ps.map vv)),.sh (.int k),.sh (.int y)],[.sh (.str "map"),.sh (.lst (xs.map T.int)),.sh (.lst (ns.map T.int)),.own (.eX ((lL ps k (num y)).map kk) ((lL ps k (num y)).map vv)),.sh (.int k),.sh (.int y)],rfl,?_,lL ps k (num y),_,_,rfl,?_,zw B7 (Py k hk) (Jv y),qi J8 k (num y)⟩
    ·have hsz:ps.length<sizeLine:=aG (by omega);rw [<-Du ps k (num y),<-Dv];simp [Jy,xu,keyOf,hsz]
    ·have:=u9 ps k (num y);omega)
  obtain⟨ps,s4,s5,rfl,hl,B7,J8⟩:=h2;have Ea:ps.length<=(xs.length+1) / 2:=by
   rw [lT,length_map]at hl;omega
  exact⟨(bZ ps).map aw,_,⟨by rw [lB];exact Ea,fun _=>nS B7,fun e=>absurd rfl e,nD⟩,⟨nD,fun _=>⟨_,rfl,nU J8⟩⟩,gc (aB hn (aB (bA rfl rfl) (aB (bA rfl rfl) (aB (bA rfl rfl) (aB (ja rfl) (aB (fm ez h1) (fY (lA rfl (by omega)))))))))⟩
theorem M9{w:Str}(hw:fU w){B C:Nat}{ts us:List T}(h:cK B w ts)(h':cK C w us)(d:Sd w ts)(hb:B+C<300):∃(vs:List T) (Γ:G),cK (B+C) w vs/\Sd w vs/\Ov w ts vs/\eR [.sh (.str w),.sh (.lst ts),.sh (.lst us)]=some (.own (.lst vs),Γ):=by
 have hl:=h.1;have U7:=h'.1;have c:=iY (ts:=ts) (us:=us) (by omega);have hlen:(ts++us).length<=B+C:=by rw [length_append];omega
 rcases hw with rfl|rfl|rfl|rfl|rfl
 ·obtain⟨ns,e,vp⟩:=(h.2.2.1 (by decide)).app (h'.2.2.1 (by decide));rw [e]at c hlen;rw [length_map]at hlen;have es:fI [.lst (ns.map T.int)]=some (.own (.lst ((bh ns).map T.int))):=by
   simp only [fI,fE];have z:=congrArg List.length e;have z1:=h.2.2.2 (.inl rfl);have z2:=h'.2.2.2 (.inl rfl);rw [length_append,length_map]at z;exact if_pos (by omega)
  refine⟨M.cut ((bh ns).map T.int) (some (-1)) none,[.sh (.str "most"),.sh (.lst ts),.sh (.lst us),.no,.no,.no],⟨?_,nD,fun _=>jE.cut ⟨_,rfl,fun n hn=>vp n ((bx _).mem_iff.mp hn)⟩ _ _,fun _=>JA _⟩,B6 (by decide) (by decide),?_,?_⟩
  ·refine Nat.le_trans (nR ..) ?_;rw [length_map,(bx _).length_eq];exact hlen
  ·exact M8 e (h.2.2.2 (.inl rfl))
  ·simp [eR,iS,c,es,zx,zy,BO]
 ·obtain⟨ns,e,vp⟩:=(h.2.2.1 (by decide)).app (h'.2.2.1 (by decide));rw [e]at c hlen;rw [length_map]at hlen;have es:=o6 (ns:=ns) (by omega);refine⟨(bh (aY ns)).map T.int,[.sh (.str "set"),.sh (.lst ts),.sh (.lst us),.no,.no,.no],⟨?_,nD,fun _=>⟨_,rfl,lz vp⟩,nD⟩,⟨fun _=>⟨_,rfl,eW ns⟩,nD⟩,?_,?_⟩
  ·rw [length_map];exact Nat.le_trans (jg ns) hlen
  ·obtain⟨ks,rfl,_⟩:=h.2.2.1 (by decide);refine o9 (ns:=ks) (ms:=bh (aY ns)) fun n hn=>(hU ns n).mpr ?_;have:T.int n∈ns.map T.int:=by
    rw [<-e];exact mem_append_left _ (List.mem_map_of_mem hn)
   obtain⟨m,hm,em⟩:=mem_map.mp this
   cases em
   exact hm
  ·simp [eR,iS,c,es]
 ·refine⟨M.cut (ts++us) none (some 1),[.sh (.str "once"),.sh (.lst ts),.sh (.lst us),.no,.no,.no],⟨Nat.le_trans (nR ..) hlen,nD,fun _=>((h.2.2.1 (by decide)).app (h'.2.2.1 (by decide))).cut _ _,fun _=>?_⟩,B6 (by decide) (by decide),?_,?_⟩
  ·have z:=lj (ts++us) 1;rw [show((1:Nat):Int)=1 from rfl]at z;rw [z,length_take];omega
  ·have z:=lj (ts++us) 1;rw [show((1:Nat):Int)=1 from rfl]at z;rw [z];refine dj ?_;have h1:=h.2.2.2 (.inr rfl)
   match ts,h1 with
   |[],_=>exact .inl rfl
   |[t],_=>exact .inr rfl
  ·simp [eR,iS,c,zx,zy]
 ·refine⟨ts++us,[.sh (.str "row"),.sh (.lst ts),.sh (.lst us),.no,.no,.no],⟨hlen,nD,fun _=>(h.2.2.1 (by decide)).app (h'.2.2.1 (by decide)),nD⟩,B6 (by decide) (by decide),jF ⟨us,rfl⟩,?_⟩;simp [eR,iS,c]
 ·obtain⟨ps,rfl,B7⟩:=h.2.1 rfl;obtain⟨zG,ep,dks⟩:=d.2 rfl;have ep:=bC ep;subst ep;have pkn:=pairwise_map.mp dks.kn;obtain⟨qs,rfl,Uz⟩:=h'.2.1 rfl;rw [length_map]at hl U7;have ed:ic [.lst (qs.map aw)]=some (.own (.eX ((foldZ qs).map kk) ((foldZ qs).map vv))):=by
   simp only [ic,oD];exact if_pos (by omega)
  have f0:=xk qs;obtain⟨Γ',h1,h2⟩:=lu (b:=j4 2 (bW (aM 4) (bW (aM 5) j3))) (m:=ua 3 (mV 4) (mV 5))
   (fun i Γ=>∃(rs:List (Int×Int)) (s4 s5:Slot),Γ=[.sh (.str "map"),.sh (.lst (ps.map aw)),.sh (.lst (qs.map aw)),.own (.eX (rs.map kk) (rs.map vv)),s4,s5]/\rs.length<=qs.length+i/\(∀p∈rs,Rg p.1/\Rg p.2)/\KN rs/\∀j p,j<i->ps[j]?=some p->p∈rs)
   (ps.map aw) 0 [.sh (.str "map"),.sh (.lst (ps.map aw)),.sh (.lst (qs.map aw)),.own (.eX ((foldZ qs).map kk) ((foldZ qs).map vv)),.no,.no] ⟨foldZ qs,_,_,rfl,by omega,BP qs [] Uz (by simp),EE qs [] nodup_nil,fun j p hj=>absurd hj (not_lt_zero _)⟩ (by
    rintro i t Γ ht ⟨rs,s4,s5,rfl,Ea,RP,J8,hold⟩;have hi:i<(ps.map aw).length:=(List.getElem?_eq_some_iff.mp ht).1;rw [length_map]at hi;obtain⟨p,hp,rfl⟩:=mem_map.mp (mem_of_getElem? ht);refine⟨[.sh (.str "map"),.sh (.lst (ps.map aw)),.sh (.lst (qs.map aw)),.own (.eX (rs.map kk) (rs.map vv)),.sh (.int p.1),.sh (.int p.2)],[.sh (.str "map"),.sh (.lst (ps.map aw)),.sh (.lst (qs.map aw)),.own (.eX ((lL rs p.1 p.2).map kk) ((lL rs p.1 p.2).map vv)),.sh (.int p.1),.sh (.int p.2)],rfl,?_,lL rs p.1 p.2,_,_,rfl,?_,zw RP (B7 p hp).1 (B7 p hp).2,qi J8 p.1 p.2,fun j q hj hq=>?_⟩
    ·have hsz:rs.length<sizeLine:=aG (by omega);rw [<-Du rs p.1 p.2,<-Dv];simp [Jy,keyOf,hsz]
    ·have:=u9 rs p.1 p.2;omega
    ·have ht':ps[i]?=some p:=by
      rw [getElem?_map]at ht
      cases hz:ps[i]? with
      |none=>rw [hz]at ht;cases ht
      |some p' =>
       rw [hz]at ht;have ht:aw p'=aw p:=by simpa using ht
       rw [show p'=p from by obtain⟨a,b⟩:=p;obtain⟨a',b'⟩:=p';simpa [aw]using ht]
     by_cases z:j=i
     ·subst z;rw [ht']at hq
      cases hq
      exact JB rs p.1 p.2
     ·refine JC (hold j q (by omega) hq) p.2 ?_;have hji:j<i:=by omega
      obtain⟨WO,ej⟩:=List.getElem?_eq_some_iff.mp hq;obtain⟨hi1,ei⟩:=List.getElem?_eq_some_iff.mp ht';have:=pairwise_iff_getElem.mp pkn j i WO hi1 hji;rw [ej,ei]at this;exact this)
  obtain⟨rs,s4,s5,rfl,Ea,RP,J8,hold⟩:=h2;rw [length_map]at Ea;have i3:bJ 3 (ba ic (ck (mV 2) aU)) [.sh (.str "map"),.sh (.lst (ps.map aw)),.sh (.lst (qs.map aw)),.no,.no,.no]=some (.nx [.sh (.str "map"),.sh (.lst (ps.map aw)),.sh (.lst (qs.map aw)),.own (.eX ((foldZ qs).map kk) ((foldZ qs).map vv)),.no,.no]):=by
   simp [ed]
  exact⟨(bZ rs).map aw,_,⟨by rw [lB];omega,fun _=>nS RP,fun e=>absurd rfl e,nD⟩,⟨nD,fun _=>⟨_,rfl,nU J8⟩⟩,jG fun p hp=>(cV rs).mem_iff.mpr (by
   obtain⟨j,hj,ej⟩:=mem_iff_getElem.mp hp;exact hold j p (by rw [length_map];omega) (by rw [getElem?_eq_getElem hj,ej])),gc (aB (bA rfl rfl) (aB (bA rfl rfl) (aB (bA rfl rfl) (aB (bA rfl rfl) (aB i3 (aB (fm rfl h1) (fY (lA rfl (by omega)))))))))⟩
theorem Q8:Ct (.int 10) (.int 9)=some (.sh (.int 1000000000)):=rfl
theorem m9(a:Int):Rg (a % 1000000000):=⟨by omega,by omega⟩
theorem KS.change{ps:List (Int×Int)}(h:KS ps){k:Nat}(hk:k<ps.length)(v:Int):KS (ps.take k++[(ps[k].1,v)]++ps.drop (k+1)):=by
 have e:ps.take k++ps[k]::ps.drop (k+1)=ps:=by rw [<-drop_eq_getElem_cons hk,take_append_drop]
 have h:KS (ps.take k++ps[k]::ps.drop (k+1)):=by rw [e];exact h
 obtain⟨a,b,c⟩:=pairwise_append.mp h;obtain⟨b1,b2⟩:=pairwise_cons.mp b;rw [append_assoc];refine pairwise_append.mpr ⟨a,pairwise_cons.mpr ⟨b1,b2⟩,fun x hx y hy=>?_⟩;rcases mem_cons.mp hy with rfl|hy
 ·exact c x hx ps[k] mem_cons_self
 ·exact c x hx y (mem_cons_of_mem _ hy)
theorem Sd.cut{w:Str}{ts:List T}(h:Sd w ts)(n:Nat):Sd w (ts.take n):=by
 constructor
 ·intro e;obtain⟨ns,rfl,hs⟩:=h.1 e;exact⟨ns.take n,by rw [map_take],List.Pairwise.sublist (take_sublist _ _) hs⟩
 ·intro e;obtain⟨ps,rfl,hs⟩:=h.2 e;exact⟨ps.take n,by rw [map_take],List.Pairwise.sublist (take_sublist _ _) hs⟩
theorem Dw{w:Str}(hw:fU w){B:Nat}{ts:List T}(h:cK B w ts)(d:Sd w ts)(hb:B<=150){at_ x:Int}(h0:0<=at_)(h1:at_<ts.length):∃(vs:List T) (Γ:G),cK (B+B+1) w vs/\Sd w vs/\dw [.sh (.str w),.sh (.lst ts),.sh (.int at_),.sh (.int x)]=some (.own (.lst vs),Γ):=by
 have hl:=h.1;have l1:=nR ts none (some at_);have l2:=nR ts (some (at_+1)) none;have s9:eB 7919=true:=rfl;obtain⟨u,hu,e⟩:=Jz h0 h1;by_cases hm:w = "map"
 ·subst hm;obtain⟨ps,rfl,B7⟩:=h.2.1 rfl;obtain⟨p,hp,rfl⟩:=mem_map.mp hu;have c1:=iY (ts:=M.cut (ps.map aw) none (some at_)) (us:=[.tup [.int p.1,.int ((p.2+1+x % 9) % 1000000000)]]) (by simp only [length_cons,length_nil];omega);have c2:=iY (ts:=M.cut (ps.map aw) none (some at_)++[.tup [.int p.1,.int ((p.2+1+x % 9) % 1000000000)]]) (us:=M.cut (ps.map aw) (some (at_+1)) none) (by rw [length_append];simp only [length_cons,length_nil];omega);refine⟨M.cut (ps.map aw) none (some at_)++[.tup [.int p.1,.int ((p.2+1+x % 9) % 1000000000)]]++M.cut (ps.map aw) (some (at_+1)) none,[.sh (.str "map"),.sh (.lst (ps.map aw)),.sh (.int at_),.sh (.int x),.sh (.int p.1),.sh (.int p.2)],⟨?_,fun _=>(((h.2.1 rfl).cut _ _).app (Uy (B7 p hp).1 (m9 _))).app ((h.2.1 rfl).cut _ _),fun e=>absurd rfl e,nD⟩,⟨nD,fun _=>?_⟩,?_⟩
  ·rw [length_append,length_append];simp only [length_cons,length_nil];omega
  ·obtain⟨zG,e',dk⟩:=d.2 rfl;have e':=bC e';subst e';obtain⟨k,rfl⟩:∃k:Nat,at_=(k:Int):=⟨at_.toNat,by omega⟩;have hk:k<ps.length:=by
    rw [length_map]at h1;omega
   rw [jX (by rw [length_map];exact hk),getElem?_map,getElem?_eq_getElem hk]at e;have ep:p=ps[k]:=by
    have e:aw ps[k]=aw p:=by simpa using e
    generalize ps[k]=q at e;obtain⟨a,b⟩:=p;obtain⟨a',b'⟩:=q;simp only [aw]at e;simp at e;rw [e.1,e.2]
   refine⟨_,?_,dk.change hk ((p.2+1+x % 9) % 1000000000)⟩;have z:=u5 (ps.map aw) (k+1);rw [show((k+1:Nat):Int)=(k:Int)+1 from rfl]at z;rw [lj,z,ep,map_append,map_append,map_take,map_drop];rfl
  ·simp [dw,gW,eF,e,aw,zx,zy,Q8,c1,c2]
 ·have hI:=h.2.2.1 hm;obtain⟨ns,rfl,vp⟩:=id hI;obtain⟨n,hn,rfl⟩:=mem_map.mp hu;by_cases hs:w = "set"
  ·subst hs;have c0:=iY (ts:=M.cut (ns.map T.int) none (some at_)) (us:=M.cut (ns.map T.int) (some (at_+1)) none) (by omega);have c1:=iY (ts:=M.cut (ns.map T.int) none (some at_)++M.cut (ns.map T.int) (some (at_+1)) none) (us:=[.int (x*7919 % 1000000000)]) (by rw [length_append];simp only [length_cons,length_nil];omega);obtain⟨ms,em,Q9⟩:=((hI.cut none (some at_)).app (hI.cut (some (at_+1)) none)).app (Q6 (m9 (x*7919)));have lm:ms.length<=B+B+1:=by
    have:=congrArg List.length em;rw [length_append,length_append,length_map]at this;simp only [length_cons,length_nil]at this;omega
   rw [em]at c1;have es:=o6 (ns:=ms) (by omega);refine⟨(bh (aY ms)).map T.int,[.sh (.str "set"),.sh (.lst (ns.map T.int)),.sh (.int at_),.sh (.int x),.no,.no],⟨?_,nD,fun _=>⟨_,rfl,lz Q9⟩,nD⟩,⟨fun _=>⟨_,rfl,eW ms⟩,nD⟩,?_⟩
   ·rw [length_map];exact Nat.le_trans (jg ms) lm
   ·simp [dw,gW,zx,zy,Q8,s9,c0,c1,es]
  ·have c1:=iY (ts:=M.cut (ns.map T.int) none (some at_)) (us:=[.int ((n+1+x % 9) % 1000000000)]) (by simp only [length_cons,length_nil];omega);have c2:=iY (ts:=M.cut (ns.map T.int) none (some at_)++[.int ((n+1+x % 9) % 1000000000)]) (us:=M.cut (ns.map T.int) (some (at_+1)) none) (by rw [length_append];simp only [length_cons,length_nil];omega);refine⟨M.cut (ns.map T.int) none (some at_)++[.int ((n+1+x % 9) % 1000000000)]++M.cut (ns.map T.int) (some (at_+1)) none,[.sh (.str w),.sh (.lst (ns.map T.int)),.sh (.int at_),.sh (.int x),.no,.sh (.int ((n+1+x % 9) % 1000000000))],⟨?_,fun e=>absurd e hm,fun _=>((hI.cut _ _).app (Q6 (m9 _))).app (hI.cut _ _),fun e=>?_⟩,B6 hs hm,?_⟩
   ·rw [length_append,length_append];simp only [length_cons,length_nil];omega
   ·have IU:=h.2.2.2 e;have ea:at_=((0:Nat):Int):=by omega
    have eb:at_+1=((1:Nat):Int):=by omega
    rw [eb,ea,lj,u5,length_append,length_append,length_take,length_drop];simp only [length_cons,length_nil];omega
   ·simp [dw,gW,hm,hs,eF,e,zx,zy,Q8,c1,c2]
theorem JE{w:Str}(hw:fU w){B:Nat}{ts:List T}(h:cK B w ts)(d:Sd w ts)(hb:B<=83)(h41:41<=B)(x:Int)(xs:List Int)(hx:xs.length<=82):∃(vs:List T) (Γ:G),cK (B+B+1) w vs/\Sd w vs/\cw [.sh (.str w),.sh (.lst ts),.sh (.int x),.sh (.lst (xs.map T.int))]=some (.own (.lst vs),Γ):=by
 obtain⟨us,Γu,Na,RQ,eu⟩:=BV w hw xs (by omega);have Na:=Na.mono (B':=41) (by omega);have ne:=nil_eq h;have JF:(0:Int)<(ts.length:Int)+1:=by omega
 by_cases hz:x % 5=0\/ts=[]
 ·refine⟨us,[.sh (.str w),.sh (.lst ts),.sh (.int x),.sh (.lst (xs.map T.int)),.no,.sh (.int (x % 5)),.sh (.int (x / 5 % ((ts.length:Int)+1)))],Na.mono (by omega),RQ,?_⟩;by_cases h5:x % 5=0
  ·simp [cw,eS,eu,eL,JF,h5]
  ·have hn:ts=[]:=by
    rcases hz with hz|hz
    ·exact absurd hz h5
    ·exact hz
   subst hn;simp [cw,eS,eu,eL,h5,ne]
 ·have h5:¬x % 5=0:=fun z=>hz (.inl z);have hn:¬ts=[]:=fun z=>hz (.inr z);have hlen:0<ts.length:=List.length_pos_iff.mpr hn;have Oz:(0:Int)<(ts.length:Int):=by omega
  have w5:x % 5=1\/x % 5=2\/x % 5=3\/x % 5=4:=by omega
  generalize hA:x / 5 % ((ts.length:Int)+1)=A;rcases w5 with w5|w5|w5|w5
  ·refine⟨M.cut ts none (some A),[.sh (.str w),.sh (.lst ts),.sh (.int x),.sh (.lst (xs.map T.int)),.own (.lst us),.sh (.int 1),.sh (.int A)],(h.cut _ _).mono (by omega),?_,?_⟩
   ·obtain⟨k,rfl⟩:∃k:Nat,A=(k:Int):=⟨A.toNat,by
     have:=emod_nonneg (x / 5) (show(ts.length:Int)+1≠0 by omega);omega⟩
    rw [lj];exact d.cut k
   simp [cw,eS,eu,eL,JF,hA,w5,ne,hn,zx,zy]
  ·obtain⟨vs,Γv,hvs,dvs,_,ev⟩:=M9 hw h Na d (by omega);refine⟨vs,[.sh (.str w),.sh (.lst ts),.sh (.int x),.sh (.lst (xs.map T.int)),.sh (.lst us),.sh (.int 2),.sh (.int A)],hvs.mono (by omega),dvs,?_⟩;simp [cw,eS,eu,eL,JF,hA,w5,ne,hn,ev]
  ·obtain⟨vs,Γv,hvs,dvs,ev⟩:=Dw hw h d (by omega) (at_:=A % (ts.length:Int)) (x:=x / 7) (emod_nonneg _ (by omega)) (emod_lt_of_pos _ Oz);refine⟨vs,[.sh (.str w),.sh (.lst ts),.sh (.int x),.sh (.lst (xs.map T.int)),.own (.lst us),.sh (.int 3),.sh (.int A)],hvs.mono (by omega),dvs,?_⟩;have em:gu (.int A) (.int (ts.length:Int))=some (.sh (.int (A % (ts.length:Int)))):=Oe Oz;simp [cw,eS,eu,eL,JF,em,hA,w5,ne,hn,ev]
  ·refine⟨ts,[.sh (.str w),.sh (.lst ts),.sh (.int x),.sh (.lst (xs.map T.int)),.own (.lst us),.sh (.int 4),.sh (.int A)],h.mono (by omega),d,?_⟩;simp [cw,eS,eu,eL,JF,hA,w5,ne,hn,fM]
theorem Rc{tb:Nat->Option (Nat×CF)}{mo:MX}{ma:MA}{Γ:G}:Aw tb mo ma Γ=(mo Γ).bind fun p=>match p.1 with
 |.sh (.obj n)=>match tb n with
  |some (np,cf)=>(ma p.2).bind fun q=>if q.1.length+1=np then match cf (.sh (.obj n)::q.1.map Slot.sh)with
   |some (.sh t,_)=>some (.sh t,q.2)
   |some (.own t,_)=>some (.own t,q.2)
   |_=>none else none
  |none=>none
 |_=>none:=rfl
def cJ(w:Str):Nat:=if w = "most" then 1 else if w = "set" then 2 else if w = "once" then 3 else if w = "row" then 4 else 5
theorem BW:∀ns ms:List Int,PyData.eqvAll (cL (ns.map T.int)) (cL (ms.map T.int))=decide (ns=ms)
 |[],[]=>rfl
 |[],m::ms=>by rw [decide_eq_false (by simp)];rfl
 |n::ns,[]=>by rw [decide_eq_false (by simp)];rfl
 |n::ns,m::ms=>by
  show((n==m)&&PyData.eqvAll (cL (ns.map T.int)) (cL (ms.map T.int)))=_;rw [BW ns ms];by_cases e:n=m
  ·subst e;simp
  ·simp [e]
theorem xy:∀ps qs:List (Int×Int),PyData.eqvAll (cL (ps.map aw)) (cL (qs.map aw))=decide (ps=qs)
 |[],[]=>rfl
 |[],m::ms=>by rw [decide_eq_false (by simp)];rfl
 |n::ns,[]=>by rw [decide_eq_false (by simp)];rfl
 |(a,b)::ps,(a',b')::qs=>by
  show(((a==a')&&((b==b')&&true))&&PyData.eqvAll (cL (ps.map aw)) (cL (qs.map aw)))=_;rw [xy ps qs];by_cases e:a=a'
  ·subst e;by_cases e':b=b'
   ·subst e';simp
   ·simp [e']
  ·simp [e]
theorem EF{B C:Nat}{w:Str}{ts us:List T}(h:cK B w ts)(h':cK C w us):eqT (.lst ts) (.lst us)=true↔ts=us:=by
 show PyData.eqvAll (cL ts) (cL us)=true↔_;by_cases hm:w = "map"
 ·obtain⟨ps,rfl,_⟩:=h.2.1 hm;obtain⟨qs,rfl,_⟩:=h'.2.1 hm;rw [xy,decide_eq_true_eq];exact⟨fun e=>by rw [e],bC⟩
 ·obtain⟨ps,rfl,_⟩:=h.2.2.1 hm;obtain⟨qs,rfl,_⟩:=h'.2.2.1 hm;rw [BW,decide_eq_true_eq];exact⟨fun e=>by rw [e],fD⟩
theorem EG{B C:Nat}{w:Str}{ts us:List T}(h:cK B w ts)(h':cK C w us)(ne:¬ts=us):cO (.lst ts) (.lst us)=some (.sh (.bl false)):=by
 have z:=iZ (n:=false) h.flat h'.flat
 cases e:eqT (.lst ts) (.lst us)with
 |true=>exact absurd ((EF h h').mp e) ne
 |false =>
  rw [e]at z;exact z
theorem vf{B:Nat}{w:Str}{ts:List T}(h:cK B w ts):jV (.lst ts) (.lst ts)=some (.sh (.bl false)):=by
 have z:=iZ (n:=true) h.flat h.flat;rw [(EF h h).mpr rfl]at z;exact z
def iA:Option (List T)->R
 |some vs=>.own (.lst vs)
 |none=>.sh .cg
structure jh(w:Str)(B:Nat)(ts us:List T)(r:Option (List T)):Prop where
 ok:∀vs,r=some vs->cK B w vs/\Sd w vs/\Ov w ts vs/\Ov w us vs
 least:∀vs,r=some vs->∀zs D,cK D w zs->Sd w zs->Ov w ts zs->Ov w us zs->Ov w vs zs
 no:r=none->∀zs D,cK D w zs->Sd w zs->Ov w ts zs->Ov w us zs->False
theorem jh.yes{w:Str}{B:Nat}{ts us vs:List T}(h:cK B w vs)(d:Sd w vs)(o:Ov w ts vs)(o':Ov w us vs)(l:∀zs D,cK D w zs->Sd w zs->Ov w ts zs->Ov w us zs->Ov w vs zs):jh w B ts us (some vs) :=
 ⟨fun _ e=>by cases e;exact⟨h,d,o,o'⟩,fun _ e=>by cases e;exact l,fun e=>by cases e⟩
theorem jh.cg{w:Str}{B:Nat}{ts us:List T}(l:∀zs D,cK D w zs->Sd w zs->Ov w ts zs->Ov w us zs->False):jh w B ts us none :=
 ⟨fun _ e=>(by cases e),fun _ e=>(by cases e),fun _=>l⟩
theorem dU{a b:Int}(h:a<=b):Ov "most" [.int a] [.int b]:=⟨fun _=>.inr ⟨a,b,rfl,rfl,h⟩,nD,nD,nD,nD⟩
theorem fy(us:List T):Ov "most" [] us:=⟨fun _=>.inl rfl,nD,nD,nD,nD⟩
theorem Nb{B C:Nat}{ts us:List T}(h:cK B "most" ts)(h':cK C "most" us):∃r Γ,bG [.sh (.obj 1),.sh (.lst ts),.sh (.lst us)]=some (iA r,Γ)/\jh "most" (B+C) ts us r:=by
 obtain⟨ns,rfl,vp⟩:=h.2.2.1 (by decide);obtain⟨ms,rfl,Q9⟩:=h'.2.2.1 (by decide);have l:=h.2.2.2 (.inl rfl);have l':=h'.2.2.2 (.inl rfl);rw [length_map]at l l';have sd:∀vs,Sd "most" vs:=fun vs=>B6 (by decide) (by decide)
 match ns,l,ms,l',h,h' with
 |[],_,[],_,h,h'=>exact⟨some [],_,rfl,.yes (h.mono (by omega)) (sd _) (fy _) (fy _) fun zs _ _ _ _ _=>fy _⟩
 |[],_,[b],_,h,h'=>exact⟨some [.int b],_,rfl,.yes (h'.mono (by omega)) (sd _) (fy _) (dU (Int.le_refl _)) fun zs _ _ _ _ o=>o⟩
 |[a],_,[],_,h,h'=>exact⟨some [.int a],_,rfl,.yes (h.mono (by omega)) (sd _) (dU (Int.le_refl _)) (fy _) fun zs _ _ _ o _=>o⟩
 |[a],_,[b],_,h,h' =>
  refine⟨some [.int (qN a [b])],[.sh (.obj 1),.sh (.lst [.int a]),.sh (.lst [.int b]),.own (.lst [.int a,.int b])],?_,?_⟩
  ·have g:xl [.lst [.int a,.int b]]=some (.sh (.int (qN a [b]))):=rfl;have c:cz (.lst [.int a]) (.lst [.int b])=some (.own (.lst [.int a,.int b])):=rfl;simp [bG,gQ,c,eL,g,iA]
  ·show jh "most" _ _ _ (some [.int (if a<b then b else a)]);by_cases z:a<b
   ·rw [if_pos z];exact .yes (h'.mono (by omega)) (sd _) (dU (by omega)) (dU (Int.le_refl _)) fun zs _ _ _ _ o=>o
   ·rw [if_neg z];exact .yes (h.mono (by omega)) (sd _) (dU (Int.le_refl _)) (dU (by omega)) fun zs _ _ _ o _=>o
theorem JG{B C:Nat}{ts us:List T}(h:cK B "set" ts)(h':cK C "set" us)(hb:B+C<500):∃r Γ,bR [.sh (.obj 2),.sh (.lst ts),.sh (.lst us)]=some (iA r,Γ)/\jh "set" (B+C) ts us r:=by
 obtain⟨ns,rfl,vp⟩:=h.2.2.1 (by decide);obtain⟨ms,rfl,Q9⟩:=h'.2.2.1 (by decide);have l1:=h.1;have l2:=h'.1;rw [length_map]at l1 l2;refine⟨some ((bh (aY (ns++ms))).map T.int),[.sh (.obj 2),.sh (.lst (ns.map T.int)),.sh (.lst (ms.map T.int))],gc (fY ?_),.yes ⟨?_,nD,fun _=>⟨_,rfl,lz fun n hn=>?_⟩,nD⟩ ⟨fun _=>⟨_,rfl,eW _⟩,nD⟩ (o9 fun n hn=>(hU _ n).mpr (mem_append_left _ hn)) (o9 fun n hn=>(hU _ n).mpr (mem_append_right _ hn)) fun zs _ _ _ o o'=>?_⟩
 ·show(match intsOf (ns.map T.int),intsOf (ms.map T.int)with
   |some xs,some ys=>if xs.length+ys.length<500 then some (R.own (.lst ((bh (aY (xs++ys))).map T.int)),_)else none
   |_,_=>none)=_
  rw [fE,fE];exact if_pos (by omega)
 ·have:=jg (ns++ms);rw [length_append]at this;rw [length_map];omega
 ·rcases mem_append.mp hn with z|z
  ·exact vp n z
  ·exact Q9 n z
 ·obtain⟨GB,B5,e,rfl,hs⟩:=o.2.1 rfl;have e:=fD e;subst e;obtain⟨Vz,Nc,e,e',qY⟩:=o'.2.1 rfl;have e:=fD e;subst e;have e':=fD e';subst e';refine o9 fun n hn=>?_;rcases mem_append.mp ((hU _ n).mp hn)with z|z
  ·exact hs n z
  ·exact qY n z
theorem Nd{B C:Nat}{ts us:List T}(h:cK B "once" ts)(h':cK C "once" us):∃r Γ,bf [.sh (.obj 3),.sh (.lst ts),.sh (.lst us)]=some (iA r,Γ)/\jh "once" (B+C) ts us r:=by
 have n1:=nil_eq h;have n2:=nil_eq h';have sd:∀vs,Sd "once" vs:=fun vs=>B6 (by decide) (by decide);by_cases z1:ts=[]
 ·subst z1;rw [decide_eq_true rfl]at n1;exact⟨some us,[.sh (.obj 3),.sh (.lst []),.sh (.lst us)],by simp [bf,dc,n1,fM,iA],.yes (h'.mono (by omega)) (sd _) (dj (.inl rfl)) (dj (.inr rfl)) fun zs _ _ _ _ o=>o⟩
 ·rw [decide_eq_false z1]at n1;by_cases z2:ts=us
  ·subst z2;have e:=eq_self h;exact⟨some ts,[.sh (.obj 3),.sh (.lst ts),.sh (.lst ts)],by simp [bf,dc,n1,e,fM,iA],.yes (h.mono (by omega)) (sd _) (dj (.inr rfl)) (dj (.inr rfl)) fun zs _ _ _ o _=>o⟩
  ·have e:=EG h h' z2;by_cases z3:us=[]
   ·subst z3;rw [decide_eq_true rfl]at n2;exact⟨some ts,[.sh (.obj 3),.sh (.lst ts),.sh (.lst [])],by simp [bf,dc,n1,n2,fM,iA],.yes (h.mono (by omega)) (sd _) (dj (.inr rfl)) (dj (.inl rfl)) fun zs _ _ _ o _=>o⟩
   ·rw [decide_eq_false z3]at n2;refine⟨none,[.sh (.obj 3),.sh (.lst ts),.sh (.lst us)],by simp [bf,dc,n1,n2,e,fM,iA],.cg fun zs _ _ _ o o'=>?_⟩;rcases o.2.2.1 rfl with q|q
    ·exact z1 q
    ·rcases o'.2.2.1 rfl with q'|q'
     ·exact z3 q'
     ·exact z2 (q.symm.trans q')
theorem Rf{B C:Nat}{ts us:List T}(h:cK B "row" ts)(h':cK C "row" us):∃r Γ,bz [.sh (.obj 4),.sh (.lst ts),.sh (.lst us)]=some (iA r,Γ)/\jh "row" (B+C) ts us r:=by
 have sd:∀vs,Sd "row" vs:=fun vs=>B6 (by decide) (by decide);have c1:=lj us ts.length;have c2:=lj ts us.length;by_cases z1:ts=us.take ts.length
 ·have e:cO (.lst ts) (.lst (us.take ts.length))=some (.sh (.bl true)):=by
   rw [<-z1];exact eq_self h
  exact⟨some us,[.sh (.obj 4),.sh (.lst ts),.sh (.lst us)],by simp [bz,fb,eL,zx,zy,c1,e,fM,iA],.yes (h'.mono (by omega)) (sd _) (jF ⟨us.drop ts.length,by conv=>lhs;rw [<-take_append_drop ts.length us,<-z1]⟩) (jF ⟨[],(append_nil _).symm⟩) fun zs _ _ _ _ o=>o⟩
 ·have e:cO (.lst ts) (.lst (us.take ts.length))=some (.sh (.bl false)):=by
   have w:=h'.cut none (some (ts.length:Int));rw [c1]at w;exact EG h w z1
  by_cases z2:us=ts.take us.length
  ·have e2:cO (.lst us) (.lst (ts.take us.length))=some (.sh (.bl true)):=by
    rw [<-z2];exact eq_self h'
   exact⟨some ts,[.sh (.obj 4),.sh (.lst ts),.sh (.lst us)],by simp [bz,fb,eL,zx,zy,c1,c2,e,e2,fM,iA],.yes (h.mono (by omega)) (sd _) (jF ⟨[],(append_nil _).symm⟩) (jF ⟨ts.drop us.length,by conv=>lhs;rw [<-take_append_drop us.length ts,<-z2]⟩) fun zs _ _ _ o _=>o⟩
  ·have e2:cO (.lst us) (.lst (ts.take us.length))=some (.sh (.bl false)):=by
    have w:=h.cut none (some (us.length:Int));rw [c2]at w;exact EG h' w z2
   refine⟨none,[.sh (.obj 4),.sh (.lst ts),.sh (.lst us)],by simp [bz,fb,eL,zx,zy,c1,c2,e,e2,fM,iA],.cg fun zs _ _ _ o o'=>?_⟩;obtain⟨x,rfl⟩:=o.2.2.2.1 rfl;obtain⟨y,q⟩:=o'.2.2.2.1 rfl;rcases List.append_eq_append_iff.mp q with⟨k,e1,e2⟩|⟨k,e1,e2⟩
   ·exact z1 (by rw [e1];simp)
   ·exact z2 (by rw [e1];simp)
theorem JI(k:Int):∀rs:List (Int×Int),Es (rs.map kk) (rs.map vv) (.inl k)=(zB rs k).map T.int
 |[]=>rfl
 |p::rs=>by
  have ih:=JI k rs;unfold zB at ih ⊢;show(if(Sum.inl p.1:Key)=Sum.inl k then some (T.int p.2)else Es (rs.map kk) (rs.map vv) (.inl k))=_;by_cases e:p.1=k
  ·rw [if_pos (by rw [e]),List.find?_cons_of_pos (by simpa using e)];rfl
  ·rw [if_neg (fun z=>e (by injection z)),List.find?_cons_of_neg (by simpa using e),ih]
abbrev UA:MS:=xm 3 (ah eF (mV 4) (mC (.int 0))) (ah eF (mV 4) (mC (.int 1))) (ah eF (mV 4) (mC (.int 1))) (aS 3 (mC .cg)) (aN)
def qj(rs:List (Int×Int)):List (Int×Int)->Option (List (Int×Int))
 |[]=>some rs
 |q::qs=>match zB rs q.1 with
  |some v=>if v=q.2 then qj rs qs else none
  |none=>qj (lL rs q.1 q.2) qs
theorem join_loop{s0 s1 s2:Slot}:∀(qs rs:List (Int×Int))(s4:Slot),rs.length+qs.length<900->∃Γ B8,(∃x y,Γ=[s0,s1,s2,x,y])/\dt (aM 4) UA (qs.map aw) [s0,s1,s2,.own (.eX (rs.map kk) (rs.map vv)),s4]=match qj rs qs with
  |some FN=>some (.nx [s0,s1,s2,.own (.eX (FN.map kk) (FN.map vv)),B8])
  |none=>some (.rt (.sh .cg) Γ)
 |[],rs,s4,_=>⟨[s0,s1,s2,s4,s4],s4,⟨_,_,rfl⟩,rfl⟩
 |q::qs,rs,s4,hl=>by
  have hsz:rs.length<sizeLine:=aG (by omega);rw [length_cons]at hl;have e0:jU [T.int q.1,.int q.2] 0=some (.int q.1):=rfl;have e1:jU [T.int q.1,.int q.2] 1=some (.int q.2):=rfl;have hk:=JI q.1 rs;unfold qj
  cases hz:zB rs q.1 with
  |some v =>
   rw [hz]at hk;by_cases ev:v=q.2
   ·subst ev;obtain⟨Γ,B8,hΓ,ih⟩:=join_loop (s0:=s0) (s1:=s1) (s2:=s2) qs rs (.sh (aw q)) (by omega);refine⟨Γ,B8,hΓ,?_⟩;dsimp only;rw [if_pos rfl,<-ih];have st:UA [s0,s1,s2,.own (.eX (rs.map kk) (rs.map vv)),.sh (aw q)]=some (.nx [s0,s1,s2,.own (.eX (rs.map kk) (rs.map vv)),.sh (aw q)]):=by
     simp [xm,uv,A2,uu,keyOf,aw,eF,e0,e1,RM,hk,hsz]
    show(UA [s0,s1,s2,.own (.eX (rs.map kk) (rs.map vv)),.sh (aw q)]).bind _=_;rw [st];rfl
   ·refine⟨[s0,s1,s2,.own (.eX (rs.map kk) (rs.map vv)),.sh (aw q)],.no,⟨_,_,rfl⟩,?_⟩;dsimp only;rw [if_neg ev];refine pU rfl ?_;simp [xm,uv,A2,uu,keyOf,aw,eF,e0,e1,RM,hk,hsz,ev]
  |none =>
   rw [hz]at hk;have p1:=Du rs q.1 q.2;have p2:=Dv rs q.1 q.2;have pl:=u9 rs q.1 q.2;obtain⟨Γ,B8,hΓ,ih⟩:=join_loop (s0:=s0) (s1:=s1) (s2:=s2) qs (lL rs q.1 q.2) (.sh (aw q)) (by omega);refine⟨Γ,B8,hΓ,?_⟩;dsimp only;rw [<-ih];have st:UA [s0,s1,s2,.own (.eX (rs.map kk) (rs.map vv)),.sh (aw q)]=some (.nx [s0,s1,s2,.own (.eX ((lL rs q.1 q.2).map kk) ((lL rs q.1 q.2).map vv)),.sh (aw q)]):=by
    simp [xm,uv,A2,uu,keyOf,aw,eF,e0,e1,RM,hk,hsz,p1,p2]
   show(UA [s0,s1,s2,.own (.eX (rs.map kk) (rs.map vv)),.sh (aw q)]).bind _=_;rw [st];rfl
theorem xA{rs:List (Int×Int)}{k:Int}(hz:zB rs k=none)(J8:KN rs):∀p∈rs,p.1≠k:=fun p hp e=>by
 have:=(gK (n:=k) (v:=p.2) J8).mpr (by rw [<-e];exact hp);rw [hz]at this
 cases this
theorem pb:∀(qs rs FN:List (Int×Int)),KN rs->qj rs qs=some FN->KN FN/\FN.length<=rs.length+qs.length/\∀p,p∈FN↔p∈rs\/p∈qs
 |[],rs,FN,k,h=>by
  cases h
  exact⟨k,le_refl _,fun p=>by simp⟩
 |q::qs,rs,FN,k,h=>by
  unfold qj at h
  cases hz:zB rs q.1 with
  |some v =>
   rw [hz]at h;dsimp only at h;split at h
   ·rename_i ev;subst ev;obtain⟨a,b,c⟩:=pb qs rs FN k h;have hq:q∈rs:=(gK k).mp hz;refine⟨a,by rw [length_cons];omega,fun p=>?_⟩;rw [c,mem_cons];constructor
    ·exact fun z=>z.imp id .inr
    ·rintro(z|rfl|z)
     ·exact .inl z
     ·exact .inl hq
     ·exact .inr z
   ·cases h
  |none =>
   rw [hz]at h;obtain⟨a,b,c⟩:=pb qs _ FN (qi k q.1 q.2) h;have e:iQ rs q.1 q.2=rs++[(q.1,q.2)]:=o7 q.2 (xA hz k);rw [e,length_append]at b;refine⟨a,by rw [length_cons];simp at b;omega,fun p=>?_⟩;have c:=c p;rw [e,mem_append,mem_singleton]at c;rw [c,mem_cons,or_assoc]
theorem pe:∀(qs rs zs:List (Int×Int)),KN rs->qj rs qs=none->KN zs->(∀p∈rs,p∈zs)->(∀p∈qs,p∈zs)->False
 |[],rs,zs,k,h,_,_,_=>by cases h
 |q::qs,rs,zs,k,h,kz,h1,h2=>by
  unfold qj at h;have hq:=h2 q mem_cons_self
  cases hz:zB rs q.1 with
  |some v =>
   rw [hz]at h;dsimp only at h;split at h
   ·exact pe qs rs zs k h kz h1 fun p hp=>h2 p (mem_cons_of_mem _ hp)
   ·rename_i ev;have m1:=(gK kz).mpr (h1 _ ((gK k).mp hz));have m2:=(gK (n:=q.1) (v:=q.2) kz).mpr hq;rw [m1]at m2
    cases m2
    exact ev rfl
  |none =>
   rw [hz]at h;refine pe qs _ zs (qi k q.1 q.2) h kz (fun p hp=>?_) fun p hp=>h2 p (mem_cons_of_mem _ hp);have hp:p∈iQ rs q.1 q.2:=hp;rw [o7 q.2 (xA hz k)]at hp;rcases mem_append.mp hp with z|z
   ·exact h1 p z
   ·rw [mem_singleton.mp z];exact hq
theorem Rh{B C:Nat}{ts us:List T}(h:cK B "map" ts)(h':cK C "map" us)(d:Sd "map" ts)(d':Sd "map" us)(hb:B+C<500):∃r Γ,cv [.sh (.obj 5),.sh (.lst ts),.sh (.lst us)]=some (iA r,Γ)/\jh "map" (B+C) ts us r:=by
 obtain⟨ps,rfl,B7⟩:=h.2.1 rfl;obtain⟨zG,e,dp⟩:=d.2 rfl;have e:=bC e;subst e;obtain⟨qs,rfl,Uz⟩:=h'.2.1 rfl;obtain⟨qs',e,dq⟩:=d'.2 rfl;have e:=bC e;subst e;have l1:=h.1;have l2:=h'.1;rw [length_map]at l1 l2;have ed:ic [.lst (ps.map aw)]=some (.own (.eX (ps.map kk) (ps.map vv))):=by
  have z:ic [.lst (ps.map aw)]=some (.own (.eX ((foldZ ps).map kk) ((foldZ ps).map vv))):=by
   simp only [ic,oD];exact if_pos (by omega)
  rw [JD dp.kn]at z;exact z
 have i3:bJ 3 (ba ic (ck (mV 1) aU)) [.sh (.obj 5),.sh (.lst (ps.map aw)),.sh (.lst (qs.map aw)),.no,.no]=some (.nx [.sh (.obj 5),.sh (.lst (ps.map aw)),.sh (.lst (qs.map aw)),.own (.eX (ps.map kk) (ps.map vv)),.no]):=by
  simp [ed]
 obtain⟨Γ,B8,⟨x,y,rfl⟩,lp⟩:=join_loop (s0:=.sh (.obj 5)) (s1:=.sh (.lst (ps.map aw))) (s2:=.sh (.lst (qs.map aw))) qs ps .no (by omega);have sub:∀{rs:List (Int×Int)}{zs:List T},Ov "map" (rs.map aw) zs->Sd "map" zs->∃B5,zs=B5.map aw/\KS B5/\∀p∈rs,p∈B5:=fun{rs zs} o dz=>by
  obtain⟨a,b,e,e',hs⟩:=o.2.2.2.2 rfl;have e:=bC e;subst e;obtain⟨B5,e2,kz⟩:=dz.2 rfl;rw [e']at e2;have e2:=bC e2;subst e2;exact⟨b,e',kz,hs⟩
 cases ej:qj ps qs with
 |some rs =>
  rw [ej]at lp;obtain⟨kr,lr,mr⟩:=pb qs ps rs dp.kn ej;have fin:=lA (Γ:=[.sh (.obj 5),.sh (.lst (ps.map aw)),.sh (.lst (qs.map aw)),.own (.eX (rs.map kk) (rs.map vv)),B8]) (i:=3) (ps:=rs) rfl (by omega);refine⟨some ((bZ rs).map aw),_,gc (aB i3 (aB (fm rfl lp) (fY fin))),.yes ⟨?_,fun _=>nS fun p hp=>?_,fun e=>absurd rfl e,nD⟩ ⟨nD,fun _=>⟨_,rfl,nU kr⟩⟩ (jG fun p hp=>(cV rs).mem_iff.mpr ((mr p).mpr (.inl hp))) (jG fun p hp=>(cV rs).mem_iff.mpr ((mr p).mpr (.inr hp))) fun zs _ _ dz o o'=>?_⟩
  ·rw [lB];omega
  ·rcases(mr p).mp hp with z|z
   ·exact B7 p z
   ·exact Uz p z
  ·obtain⟨B5,rfl,kz,hs⟩:=sub o dz;obtain⟨Nc,e,_,qY⟩:=sub o' dz;have e:=bC e;subst e;refine jG fun p hp=>?_;rcases(mr p).mp ((cV rs).mem_iff.mp hp)with z|z
   ·exact hs p z
   ·exact qY p z
 |none =>
  rw [ej]at lp;refine⟨none,_,om (aB i3 (fC (fm rfl lp))),.cg fun zs _ _ dz o o'=>?_⟩;obtain⟨B5,rfl,kz,hs⟩:=sub o dz;obtain⟨Nc,e,_,qY⟩:=sub o' dz;have e:=bC e;subst e;exact pe qs ps B5 dp.kn ej kz.kn hs qY
abbrev tbJ:Nat->Option (Nat×CF):=vk [(1,3,bG),(2,3,bR),(3,3,bf),(4,3,bz),(5,3,cv)]
theorem Gp{w:Str}(hw:fU w){B C:Nat}{ts us:List T}(h:cK B w ts)(h':cK C w us)(d:Sd w ts)(d':Sd w us)(hb:B+C<500):∃r cf Γ,tbJ (cJ w)=some (3,cf)/\cf [.sh (.obj (cJ w)),.sh (.lst ts),.sh (.lst us)]=some (iA r,Γ)/\jh w (B+C) ts us r:=by
 rcases hw with rfl|rfl|rfl|rfl|rfl
 ·obtain⟨r,Γ,e,j⟩:=Nb h h';exact⟨r,_,Γ,rfl,e,j⟩
 ·obtain⟨r,Γ,e,j⟩:=JG h h' hb;exact⟨r,_,Γ,rfl,e,j⟩
 ·obtain⟨r,Γ,e,j⟩:=Nd h h';exact⟨r,_,Γ,rfl,e,j⟩
 ·obtain⟨r,Γ,e,j⟩:=Rf h h';exact⟨r,_,Γ,rfl,e,j⟩
 ·obtain⟨r,Γ,e,j⟩:=Rh h h' d d' hb;exact⟨r,_,Γ,rfl,e,j⟩
theorem Ov.trans{w:Str}(hw:fU w){ts us vs:List T}(h:Ov w ts us)(h':Ov w us vs):Ov w ts vs:=by
 rcases hw with rfl|rfl|rfl|rfl|rfl
 ·refine⟨fun _=>?_,nD,nD,nD,nD⟩;rcases h.1 rfl with e|⟨a,b,e1,e2,RE⟩
  ·exact .inl e
  ·rcases h'.1 rfl with e|⟨a',b',e3,e4,aW0⟩
   ·rw [e2]at e
    cases e
   ·rw [e2]at e3
    cases e3
    exact .inr ⟨a,b',e1,e4,by omega⟩
 ·obtain⟨ns,ms,rfl,e,hs⟩:=h.2.1 rfl;obtain⟨Vz,ls,e',rfl,qY⟩:=h'.2.1 rfl;have:=fD (e.symm.trans e');subst this;exact o9 fun n hn=>qY n (hs n hn)
 ·rcases h.2.2.1 rfl with e|e
  ·exact dj (.inl e)
  ·rcases h'.2.2.1 rfl with e'|e'
   ·exact dj (.inl (e.symm.trans e'))
   ·exact dj (.inr (e'.trans e))
 ·obtain⟨x,e⟩:=h.2.2.2.1 rfl;obtain⟨y,e'⟩:=h'.2.2.2.1 rfl;exact jF ⟨x++y,by rw [e',e,append_assoc]⟩
 ·obtain⟨ns,ms,rfl,e,hs⟩:=h.2.2.2.2 rfl;obtain⟨Vz,ls,e',rfl,qY⟩:=h'.2.2.2.2 rfl;have:=bC (e.symm.trans e');subst this;exact jG fun n hn=>qY n (hs n hn)
theorem Ov.refl{w:Str}(hw:fU w){B:Nat}{ts:List T}(h:cK B w ts):Ov w ts ts:=by
 rcases hw with rfl|rfl|rfl|rfl|rfl
 ·refine⟨fun _=>?_,nD,nD,nD,nD⟩;obtain⟨ns,rfl,_⟩:=h.2.2.1 (by decide);have l:=h.2.2.2 (.inl rfl);rw [length_map]at l
  match ns,l with
  |[],_=>exact .inl rfl
  |[a],_=>exact .inr ⟨a,a,rfl,rfl,Int.le_refl _⟩
 ·obtain⟨ns,rfl,_⟩:=h.2.2.1 (by decide);exact o9 fun n hn=>hn
 ·exact dj (.inr rfl)
 ·exact jF ⟨[],by simp⟩
 ·obtain⟨ps,rfl,_⟩:=h.2.1 rfl;exact jG fun n hn=>hn
theorem Ov.nil{w:Str}(hw:fU w){B:Nat}{ts:List T}(h:cK B w ts):Ov w [] ts:=by
 rcases hw with rfl|rfl|rfl|rfl|rfl
 ·exact⟨fun _=>.inl rfl,nD,nD,nD,nD⟩
 ·obtain⟨ns,rfl,_⟩:=h.2.2.1 (by decide);exact o9 (ns:=[]) fun n hn=>by cases hn
 ·exact dj (.inl rfl)
 ·exact jF ⟨ts,rfl⟩
 ·obtain⟨ps,rfl,_⟩:=h.2.1 rfl;exact jG (ps:=[]) fun n hn=>by cases hn
theorem cK.nil(w:Str):cK 0 w []:=⟨le_refl _,fun _=>⟨[],rfl,fun p hp=>by cases hp⟩,fun _=>⟨[],rfl,fun p hp=>by cases hp⟩,fun _=>zero_le _⟩
theorem Sd.nil(w:Str):Sd w []:=⟨fun _=>⟨[],rfl,.nil⟩,fun _=>⟨[],rfl,.nil⟩⟩
theorem Ov.ac6{w:Str}(hw:fU w){ts us:List T}(h:Ov w ts us)(h':Ov w us ts)(d:Sd w ts)(d':Sd w us):ts=us:=by
 rcases hw with rfl|rfl|rfl|rfl|rfl
 ·rcases h.1 rfl with rfl|⟨a,b,rfl,rfl,l⟩
  ·rcases h'.1 rfl with rfl|⟨a,b,rfl,e,_⟩
   ·rfl
   ·cases e
  ·rcases h'.1 rfl with e|⟨a',b',e1,e2,l'⟩
   ·cases e
   ·cases e1
    cases e2
    rw [show a=b by omega]
 ·obtain⟨ns,ms,rfl,rfl,hs⟩:=h.2.1 rfl;obtain⟨Vz,GB,e,e',qY⟩:=h'.2.1 rfl;have e:=fD e;subst e;have e':=fD e';subst e';obtain⟨x,e,s1⟩:=d.1 rfl;have e:=fD e;subst e;obtain⟨x,e,s2⟩:=d'.1 rfl;have e:=fD e;subst e;rw [BR s1 s2 fun n=>⟨hs n,qY n⟩]
 ·rcases h.2.2.1 rfl with rfl|e
  ·rcases h'.2.2.1 rfl with e|e
   ·exact e.symm
   ·exact e
  ·exact e.symm
 ·obtain⟨x,rfl⟩:=h.2.2.2.1 rfl;obtain⟨y,e⟩:=h'.2.2.2.1 rfl;have:=congrArg List.length e;rw [length_append,length_append]at this;have:x=[]:=List.eq_nil_of_length_eq_zero (by omega);rw [this,append_nil]
 ·obtain⟨ns,ms,rfl,rfl,hs⟩:=h.2.2.2.2 rfl;obtain⟨Vz,GB,e,e',qY⟩:=h'.2.2.2.2 rfl;have e:=bC e;subst e;have e':=bC e';subst e';obtain⟨x,e,s1⟩:=d.2 rfl;have e:=bC e;subst e;obtain⟨x,e,s2⟩:=d'.2 rfl;have e:=bC e;subst e;have z:bZ ns=ms:=xx s1.kn s2 fun p=>⟨hs p,qY p⟩;have z':bZ ns=ns:=xx s1.kn s1 fun p=>Iff.rfl;rw [<-z,z']
structure zC(w:Str)(B:Nat)(a b c:List T)(r:Option (List T)):Prop where
 ok:∀vs,r=some vs->cK B w vs/\Sd w vs/\Ov w a vs/\Ov w b vs/\Ov w c vs
 least:∀vs,r=some vs->∀zs D,cK D w zs->Sd w zs->Ov w a zs->Ov w b zs->Ov w c zs->Ov w vs zs
 no:r=none->∀zs D,cK D w zs->Sd w zs->Ov w a zs->Ov w b zs->Ov w c zs->False
theorem zC.turn{w:Str}{B:Nat}{a b c:List T}{r:Option (List T)}(h:zC w B a b c r):zC w B b c a r :=
 ⟨fun vs e=>by obtain⟨h1,h2,h3,h4,h5⟩:=h.ok vs e;exact⟨h1,h2,h4,h5,h3⟩,fun vs e zs D hz dz o1 o2 o3=>h.least vs e zs D hz dz o3 o1 o2,fun e zs D hz dz o1 o2 o3=>h.no e zs D hz dz o3 o1 o2⟩
theorem zC.uniq{w:Str}(hw:fU w){B B':Nat}{a b c:List T}{r r':Option (List T)}(h:zC w B a b c r)(h':zC w B' a b c r'):r=r':=by
 cases r with
 |none=>cases r' with
  |none=>rfl
  |some vs =>
   obtain⟨h1,h2,h3,h4,h5⟩:=h'.ok vs rfl;exact absurd (h.no rfl vs _ h1 h2 h3 h4 h5) id
 |some vs =>
  obtain⟨g1,g2,g3,g4,g5⟩:=h.ok vs rfl
  cases r' with
  |none=>exact absurd (h'.no rfl vs _ g1 g2 g3 g4 g5) id
  |some us =>
   obtain⟨h1,h2,h3,h4,h5⟩:=h'.ok us rfl;rw [Ov.ac6 hw (h.least vs rfl us _ h1 h2 h3 h4 h5) (h'.least us rfl vs _ g1 g2 g3 g4 g5) g2 h2]
theorem jh.three{w:Str}{B:Nat}{a b:List T}{r:Option (List T)}(h:jh w B a b r):zC w B a b b r :=
 ⟨fun vs e=>by obtain⟨h1,h2,h3,h4⟩:=h.ok vs e;exact⟨h1,h2,h3,h4,h4⟩,fun vs e zs D hz dz o1 o2 _=>h.least vs e zs D hz dz o1 o2,fun e zs D hz dz o1 o2 _=>h.no e zs D hz dz o1 o2⟩
theorem jh.swap{w:Str}{B:Nat}{a b:List T}{r:Option (List T)}(h:jh w B a b r):jh w B b a r :=
 ⟨fun vs e=>by obtain⟨h1,h2,h3,h4⟩:=h.ok vs e;exact⟨h1,h2,h4,h3⟩,fun vs e zs D hz dz o1 o2=>h.least vs e zs D hz dz o2 o1,fun e zs D hz dz o1 o2=>h.no e zs D hz dz o2 o1⟩
theorem jh.uniq{w:Str}(hw:fU w){B B':Nat}{a b:List T}{r r':Option (List T)}(h:jh w B a b r)(h':jh w B' a b r'):r=r':=h.three.uniq hw h'.three
theorem jh.nil{w:Str}(hw:fU w){B C:Nat}{a:List T}{r:Option (List T)}(h:jh w B [] a r)(ha:cK C w a)(d:Sd w a):r=some a :=
 h.uniq hw (.yes ha d (Ov.nil hw ha) (Ov.refl hw ha) fun _ _ _ _ _ o=>o)
theorem jh.then{w:Str}(hw:fU w){B C:Nat}{a b c d:List T}{r:Option (List T)}(h:jh w B a b (some d))(h':jh w C d c r):zC w C a b c r:=by
 obtain⟨k1,k2,k3,k4⟩:=h.ok d rfl;exact⟨fun vs e=>by obtain⟨h1,h2,h3,h4⟩:=h'.ok vs e;exact⟨h1,h2,k3.trans hw h3,k4.trans hw h3,h4⟩,fun vs e zs D hz dz o1 o2 o3=>h'.least vs e zs D hz dz (h.least d rfl zs D hz dz o1 o2) o3,fun e zs D hz dz o1 o2 o3=>h'.no e zs D hz dz (h.least d rfl zs D hz dz o1 o2) o3⟩
theorem jh.never{w:Str}{B C:Nat}{a b c:List T}(h:jh w B a b none):zC w C a b c none :=
 ⟨fun _ e=>(by cases e),fun _ e=>(by cases e),fun _ zs D hz dz o1 o2 _=>h.no rfl zs D hz dz o1 o2⟩
theorem Dx{B C:Nat}{ts us:List T}(h:cK B "most" ts)(h':cK C "most" us):∃r Γ,cx [.sh (.str "most"),.sh (.lst ts),.sh (.lst us)]=some (iA r,Γ)/\jh "most" (B+C) ts us r:=by
 obtain⟨ns,rfl,vp⟩:=h.2.2.1 (by decide);obtain⟨ms,rfl,Q9⟩:=h'.2.2.1 (by decide);have l:=h.2.2.2 (.inl rfl);have l':=h'.2.2.2 (.inl rfl);rw [length_map]at l l';have sd:∀vs,Sd "most" vs:=fun vs=>B6 (by decide) (by decide)
 match ns,l,ms,l',h,h' with
 |[],_,[],_,h,h'=>exact⟨some [],_,rfl,.yes (h.mono (by omega)) (sd _) (fy _) (fy _) fun zs _ _ _ _ _=>fy _⟩
 |[],_,[b],_,h,h'=>exact⟨some [.int b],_,rfl,.yes (h'.mono (by omega)) (sd _) (fy _) (dU (Int.le_refl _)) fun zs _ _ _ _ o=>o⟩
 |[a],_,[],_,h,h'=>exact⟨some [.int a],_,rfl,.yes (h.mono (by omega)) (sd _) (dU (Int.le_refl _)) (fy _) fun zs _ _ _ o _=>o⟩
 |[a],_,[b],_,h,h' =>
  refine⟨some [.int (qN a [b])],_,rfl,?_⟩;show jh "most" _ _ _ (some [.int (if a<b then b else a)]);by_cases z:a<b
  ·rw [if_pos z];exact .yes (h'.mono (by omega)) (sd _) (dU (by omega)) (dU (Int.le_refl _)) fun zs _ _ _ _ o=>o
  ·rw [if_neg z];exact .yes (h.mono (by omega)) (sd _) (dU (Int.le_refl _)) (dU (by omega)) fun zs _ _ _ o _=>o
def ddM:MS:=eE (fw (ax (ah cO (mV 3) (eA aU))) (ax (ah jV (ah eF (mV 3) (yh (mC (.int 1)))) (mV 4)))) (cU 3 (mV 4)) (aN)
theorem Ng(ns:List Int):cO (.lst (ns.map T.int)) (.lst [])=some (.sh (.bl (decide (ns=[])))):=by
 have z:=iZ (n:=false) (lC ns) (lC []);rw [map_nil,zA,false_xor]at z;have e:decide (ns.map T.int=[])=decide (ns=[]):=by
  cases ns<;>simp
 rw [e]at z;exact z
theorem Nh(ns:List Int)(y:Int):eF (.lst ((ns++[y]).map T.int)) (.int (-1))=some (.sh (.int y)):=by
 show(jU ((ns++[y]).map T.int) (-1)).map R.sh=_;have e:jU ((ns++[y]).map T.int) (-1)=some (.int y):=by
  unfold jU;have z:Gz ((ns++[y]).map T.int).length (-1)=some ns.length:=by
   rw [length_map,length_append];unfold Gz;simp;omega
  rw [z];simp
 rw [e];rfl
theorem Ni{s0 s1 s2 s5 s6 s7 s8 s9 s10:Slot}(acc:List Int)(x:Int)(hl:acc.length<=900):ddM [s0,s1,s2,.own (.lst (acc.map T.int)),.sh (.int x),s5,s6,s7,s8,s9,s10]=some (.nx [s0,s1,s2,.own (.lst ((if acc.getLast?=some x then acc else acc++[x]).map T.int)),.sh (.int x),s5,s6,s7,s8,s9,s10]):=by
 have n1:=Ng acc;have hs:acc.length<sizeLine:=aG (by omega);rcases eq_nil_or_concat acc with rfl|⟨a,y,rfl⟩
 ·have g:cO (.lst []) (.lst [])=some (.sh (.bl true)):=rfl;rw [if_neg (by simp)];exact fZ (Γ1:=[s0,s1,s2,.own (.lst []),.sh (.int x),s5,s6,s7,s8,s9,s10]) (P9 (bO (br (r1:=.bor 3 (.lst [])) (r2:=.own (.lst [])) rfl rfl g))) (tV (i:=3) (m:=mV 4) (us:=[]) (ts:=[]) rfl (r:=.sh (.int x)) (Γ1:=[s0,s1,s2,.own (.lst []),.sh (.int x),s5,s6,s7,s8,s9,s10]) rfl rfl hs)
 ·have n2:=Nh a y;rw [concat_eq_append]at n1 hs ⊢;rw [decide_eq_false (by simp)]at n1;have c1:=bO (b:=false) (br (g:=cO) (ma:=mV 3) (mb:=eA aU) (Γ:=[s0,s1,s2,.own (.lst ((a++[y]).map T.int)),.sh (.int x),s5,s6,s7,s8,s9,s10]) (r1:=.bor 3 (.lst ((a++[y]).map T.int))) (r2:=.own (.lst [])) rfl rfl n1);have c2:=br (g:=eF) (ma:=mV 3) (mb:=yh (mC (.int 1))) (Γ:=[s0,s1,s2,.own (.lst ((a++[y]).map T.int)),.sh (.int x),s5,s6,s7,s8,s9,s10]) (r1:=.bor 3 (.lst ((a++[y]).map T.int))) (r2:=.sh (.int (-1))) rfl rfl n2;by_cases e:y=x
  ·subst e;have g:jV (.int y) (.int y)=some (.sh (.bl false)):=by
    show some (R.sh (.bl (xor true (y==y))))=_;simp
   rw [if_pos (by simp)];exact bA (jl c1 (bO (br c2 (r2:=.sh (.int y)) rfl g))) rfl
  ·have g:jV (.int y) (.int x)=some (.sh (.bl true)):=by
    show some (R.sh (.bl (xor true (y==x))))=_;simp [e]
   rw [if_neg (by simp [e])];have:=fZ (n:=aN) (jl c1 (bO (br c2 (mb:=mV 4) (r2:=.sh (.int x)) rfl g))) (tV (i:=3) (m:=mV 4) (us:=(a++[y]).map T.int) (ts:=(a++[y]).map T.int) rfl (r:=.sh (.int x)) rfl rfl (by rw [length_map];exact hs));rw [map_append (l₁:=a++[y])];exact this
theorem Gq{B C:Nat}{ts us:List T}(h:cK B "set" ts)(h':cK C "set" us)(hb:B+C<500):∃r Γ,cx [.sh (.str "set"),.sh (.lst ts),.sh (.lst us)]=some (iA r,Γ)/\jh "set" (B+C) ts us r:=by
 obtain⟨r,Γ0,e0,j⟩:=JG h h' hb;obtain⟨ns,rfl,vp⟩:=h.2.2.1 (by decide);obtain⟨ms,rfl,Q9⟩:=h'.2.2.1 (by decide);have l1:=h.1;have l2:=h'.1;rw [length_map]at l1 l2;have c:cz (.lst (ns.map T.int)) (.lst (ms.map T.int))=some (.own (.lst ((ns++ms).map T.int))):=by
  rw [map_append];exact iY (by rw [length_map,length_map];omega)
 have so:fI [.lst ((ns++ms).map T.int)]=some (.own (.lst ((bh (ns++ms)).map T.int))):=by
  simp only [fI,fE];exact if_pos (by rw [length_append];omega)
 have ln:(bh (ns++ms)).length=ns.length+ms.length:=by rw [(bx _).length_eq,length_append]
 have KU:=dJ (ns++ms);have mem:∀n,n∈bh (ns++ms)↔n∈ns++ms:=fun n=>(bx _).mem_iff;obtain⟨Γ',q,acc,s4,rfl,q1,q2,q3⟩:=lu (b:=aM 4) (m:=ddM) (fun i Γ=>∃(acc:List Int) (s4:Slot),Γ=[.sh (.str "set"),.sh (.lst (ns.map T.int)),.sh (.lst (ms.map T.int)),.own (.lst (acc.map T.int)),s4,.no,.no,.no,.no,.no,.no]/\acc.length<=i/\acc.Pairwise (·<·)/\∀n,n∈acc↔n∈(bh (ns++ms)).take i)
  ((bh (ns++ms)).map T.int) 0 [.sh (.str "set"),.sh (.lst (ns.map T.int)),.sh (.lst (ms.map T.int)),.own (.lst []),.no,.no,.no,.no,.no,.no,.no] ⟨[],_,rfl,le_refl _,.nil,fun n=>by simp⟩ (by
   rintro i t Γ ht ⟨acc,s4,rfl,a1,a2,a3⟩;rw [zero_add]at a1 a3 ⊢;have hi:i<(bh (ns++ms)).length:=by
    have:=(List.getElem?_eq_some_iff.mp ht).1;simpa using this
   have et:t=.int (bh (ns++ms))[i]:=by
    rw [getElem?_map,getElem?_eq_getElem hi]at ht;exact(Option.some.inj ht).symm
   subst et;refine⟨_,_,rfl,Ni acc _ (by omega),_,_,rfl,?_,?_,?_⟩
   ·split
    ·omega
    ·rw [length_append];simp;omega
   ·split
    ·exact a2
    ·rename_i ne;refine pairwise_append.mpr ⟨a2,pairwise_singleton _ _,fun a ha b hb=>?_⟩;rw [mem_singleton.mp hb];obtain⟨k,hk,ek⟩:=mem_iff_getElem.mp ((a3 a).mp ha);rw [length_take]at hk;rw [getElem_take]at ek;have le:=pairwise_iff_getElem.mp KU k i (by omega) hi (by omega);rw [ek]at le;refine Int.lt_iff_le_and_ne.mpr ⟨le,fun z=>ne ?_⟩
     -- a is GX last of acc,for it is GX UB
     have nn:acc≠[]:=List.ne_nil_of_mem ha;have gl:=List.getLast_mem nn;obtain⟨k',UU,ek'⟩:=mem_iff_getElem.mp ((a3 _).mp gl);rw [length_take]at UU;rw [getElem_take]at ek';have le':=pairwise_iff_getElem.mp KU k' i (by omega) hi (by omega);rw [ek']at le';have ge:a<=acc.getLast nn:=by
      have d:=List.dropLast_concat_getLast nn;rw [<-d]at ha a2;rcases mem_append.mp ha with y|y
      ·exact Int.le_of_lt ((pairwise_append.mp a2).2.2 a y _ (mem_singleton.mpr rfl))
      ·rw [mem_singleton.mp y];exact Int.le_refl _
     rw [List.getLast?_eq_some_getLast nn];exact congrArg some (Int.le_antisymm le' (z▸ge))
   ·intro n;rw [take_succ_eq_append_getElem hi,mem_append,mem_singleton];split
    ·rename_i y;have m:=List.mem_of_getLast? y;rw [a3 n];exact⟨.inl,fun z=>z.elim id fun z=>by rw [z];exact(a3 _).mp m⟩
    ·rw [mem_append,mem_singleton,a3 n])
 rw [length_map,zero_add]at q1 q3;have ea:acc=bh (aY (ns++ms)):=BR q2 (eW _) fun n=>by
  rw [q3,take_length,mem,hU]
 have er:r=some (acc.map T.int):=by
  have e1:bR [.sh (.obj 2),.sh (.lst (ns.map T.int)),.sh (.lst (ms.map T.int))]=some (.own (.lst ((bh (aY (ns++ms))).map T.int)),[.sh (.obj 2),.sh (.lst (ns.map T.int)),.sh (.lst (ms.map T.int))]):=by
   refine gc (fY ?_);show(match intsOf (ns.map T.int),intsOf (ms.map T.int)with
    |some xs,some ys=>if xs.length+ys.length<500 then some (R.own (.lst ((bh (aY (xs++ys))).map T.int)),_)else none
    |_,_=>none)=_
   rw [fE,fE];exact if_pos (by omega)
  rw [e0]at e1;have e2:=congrArg Prod.fst (Option.some.inj e1)
  cases r with
  |none=>cases e2
  |some vs =>
   have e2:R.own (.lst vs)=R.own (.lst ((bh (aY (ns++ms))).map T.int)):=e2
   cases e2
   rw [ea]
 subst er;have i0:rq (ba fI (ck (ah cz (mV 1) (mV 2)) aU)) [.sh (.str "set"),.sh (.lst (ns.map T.int)),.sh (.lst (ms.map T.int)),.own (.lst []),.no,.no,.no,.no,.no,.no,.no]=some ((bh (ns++ms)).map T.int,[.sh (.str "set"),.sh (.lst (ns.map T.int)),.sh (.lst (ms.map T.int)),.own (.lst []),.no,.no,.no,.no,.no,.no,.no]):=by
  simp [c,so,-map_append]
 exact⟨some (acc.map T.int),_,gc (aB (bA rfl rfl) (fC (fZ rfl (aB (ja (t:=.lst []) rfl) (aB (fm i0 q) (D6 rfl (by decide))))))),j⟩
def Ri:MS:=eE (ax (ah jV (ah eF (mV 8) (mV 10)) (ah eF (mV 9) (mV 10)))) (aS 3 (mC .cg)) (aN)
theorem BX{s0 s1 s2 s3 s4 s5 s6 s7:Slot}(xs ys:List Int)(hl:xs.length<=ys.length):∀(k i:Nat)(s10:Slot),i+k=xs.length->∃JJ,dt (aM 10) Ri (M.upTo i k) [s0,s1,s2,s3,s4,s5,s6,s7,.sh (.lst (xs.map T.int)),.sh (.lst (ys.map T.int)),s10]=(if xs.drop i=(ys.drop i).take k then some (.nx [s0,s1,s2,s3,s4,s5,s6,s7,.sh (.lst (xs.map T.int)),.sh (.lst (ys.map T.int)),JJ])else some (.rt (.sh .cg) [s0,s1,s2,s3,s4,s5,s6,s7,.sh (.lst (xs.map T.int)),.sh (.lst (ys.map T.int)),JJ]))
 |0,i,s10,h=>by
  refine⟨s10,?_⟩;rw [if_pos (by rw [drop_eq_nil_of_le (by omega)];simp)];rfl
 |k+1,i,s10,h=>by
  have hx:i<xs.length:=by omega
  have hy:i<ys.length:=by omega
  have e1:eF (.lst (xs.map T.int)) (.int (i:Int))=some (.sh (.int xs[i])):=by
   show(jU (xs.map T.int) (i:Int)).map R.sh=_;rw [jX (by rw [length_map];exact hx),getElem?_map,getElem?_eq_getElem hx];rfl
  have e2:eF (.lst (ys.map T.int)) (.int (i:Int))=some (.sh (.int ys[i])):=by
   show(jU (ys.map T.int) (i:Int)).map R.sh=_;rw [jX (by rw [length_map];exact hy),getElem?_map,getElem?_eq_getElem hy];rfl
  have g:jV (.int xs[i]) (.int ys[i])=some (.sh (.bl (!decide (xs[i]=ys[i])))):=by
   show some (R.sh (.bl (xor true (xs[i]==ys[i]))))=_;by_cases z:xs[i]=ys[i]<;>simp [z]
  have b:=bO (br (g:=jV) (br (g:=eF) (ma:=mV 8) (mb:=mV 10) (Γ:=[s0,s1,s2,s3,s4,s5,s6,s7,.sh (.lst (xs.map T.int)),.sh (.lst (ys.map T.int)),.sh (.int (i:Int))]) (r1:=.sh (.lst (xs.map T.int))) (r2:=.sh (.int (i:Int))) rfl rfl e1) (br (g:=eF) (ma:=mV 9) (mb:=mV 10) (r1:=.sh (.lst (ys.map T.int))) (r2:=.sh (.int (i:Int))) rfl rfl e2) g);have up:M.upTo (i:Int) (k+1)=.int (i:Int)::M.upTo ((i+1:Nat):Int) k:=by
   unfold M.upTo;rw [range_succ_eq_map,map_cons,map_map];refine congr (congrArg _ (by simp)) (map_congr_left fun j _=>?_);show T.int ((i:Int)+((j+1:Nat):Int))=T.int (((i+1:Nat):Int)+(j:Int));congr 1;omega
  rw [up,drop_eq_getElem_cons hx,drop_eq_getElem_cons hy,List.take_succ_cons];by_cases z:xs[i]=ys[i]
  ·rw [decide_eq_true z]at b;obtain⟨JJ,ih⟩:=BX xs ys hl k (i+1) (.sh (.int (i:Int))) (by omega);refine⟨JJ,?_⟩;have st:Ri [s0,s1,s2,s3,s4,s5,s6,s7,.sh (.lst (xs.map T.int)),.sh (.lst (ys.map T.int)),.sh (.int (i:Int))]=some (.nx [s0,s1,s2,s3,s4,s5,s6,s7,.sh (.lst (xs.map T.int)),.sh (.lst (ys.map T.int)),.sh (.int (i:Int))]):=bA b rfl;have ih:=ih;rw [z];simp only [List.cons.injEq,true_and];rw [<-ih];show(Ri [s0,s1,s2,s3,s4,s5,s6,s7,.sh (.lst (xs.map T.int)),.sh (.lst (ys.map T.int)),.sh (.int (i:Int))]).bind _=_;rw [st];rfl
  ·rw [decide_eq_false z]at b;refine⟨.sh (.int (i:Int)),?_⟩;rw [if_neg (fun q=>z (List.cons.inj q).1)];exact pU rfl (fZ b rfl)
def Nj(xs ys:List Int):Option (List T):=if xs=ys.take xs.length then some (ys.map T.int)else none
theorem EH{w:Str}(hw:w = "once" \/ w = "row"){B C:Nat}{xs ys:List Int}(h:cK B w (xs.map T.int))(h':cK C w (ys.map T.int))(hl:xs.length<=ys.length):jh w (B+C) (xs.map T.int) (ys.map T.int) (Nj xs ys):=by
 have sd:∀vs,Sd w vs:=fun vs=>B6 (by rcases hw with rfl|rfl<;>decide) (by rcases hw with rfl|rfl<;>decide);unfold Nj;rcases hw with rfl|rfl
 ·have l:=h'.2.2.2 (.inr rfl);rw [length_map]at l
  match xs,ys,hl,l,h,h' with
  |a::b::l,ys,hl,l2,h,h' =>
   rw [length_cons,length_cons]at hl;omega
  |[],ys,_,_,h,h' =>
   rw [if_pos (by simp)];exact .yes (h'.mono (by omega)) (sd _) (dj (.inl rfl)) (dj (.inr rfl)) fun zs _ _ _ _ o=>o
  |[a],[b],_,_,h,h' =>
   by_cases e:a=b
   ·subst e;rw [if_pos (by simp)];exact .yes (h'.mono (by omega)) (sd _) (dj (.inr rfl)) (dj (.inr rfl)) fun zs _ _ _ _ o=>o
   ·rw [if_neg (by simp [e])];refine .cg fun zs _ _ _ o o'=>?_;rcases o.2.2.1 rfl with q|q
    ·cases q
    ·rcases o'.2.2.1 rfl with q'|q'
     ·cases q'
     ·have z:[T.int a]=[T.int b]:=q.symm.trans q';simp at z;exact e z
 ·by_cases z:xs=ys.take xs.length
  ·rw [if_pos z];refine .yes (h'.mono (by omega)) (sd _) (jF ⟨(ys.drop xs.length).map T.int,?_⟩) (jF ⟨[],(append_nil _).symm⟩) fun zs _ _ _ _ o=>o;rw [<-map_append]
   conv=>lhs;rw [<-take_append_drop xs.length ys,<-z]
  ·rw [if_neg z];refine .cg fun zs _ _ _ o o'=>z ?_;obtain⟨x,e1⟩:=o.2.2.2.1 rfl;obtain⟨y,e2⟩:=o'.2.2.2.1 rfl;have q:=e1.symm.trans e2;have t:=congrArg (List.take xs.length) q;rw [List.take_append_of_le_length (by rw [length_map];exact le_refl _),List.take_append_of_le_length (by rw [length_map];exact hl),<-map_take,<-map_take,take_length]at t;exact fD t
theorem xB{w:Str}(hw:w = "once" \/ w = "row"){B C:Nat}{ts us:List T}(h:cK B w ts)(h':cK C w us)(hb:B+C<500):∃r Γ,cx [.sh (.str w),.sh (.lst ts),.sh (.lst us)]=some (iA r,Γ)/\jh w (B+C) ts us r:=by
 have nm:¬w = "map" := by rcases hw with rfl|rfl<;>decide
 obtain⟨ns,rfl,vp⟩:=h.2.2.1 nm;obtain⟨ms,rfl,Q9⟩:=h'.2.2.1 nm;have l1:=h.1;have l2:=h'.1;rw [length_map]at l1 l2;have fin:∀(xs ys:List Int),xs.length<=ys.length->ys.length<=900->xZ (j4 2 (bW (aM 8) (bW (aM 9) j3))) (xW (ax (ah DY (ba eL (ck (mV 1) aU)) (ba eL (ck (mV 2) aU)))) (lH (aQ (mV 1) (aQ (mV 2) aU))) (lH (aQ (mV 2) (aQ (mV 1) aU)))) [.sh (.str w),.sh (.lst (ns.map T.int)),.sh (.lst (ms.map T.int)),.no,.no,.no,.no,.no,.no,.no,.no]=some (.nx [.sh (.str w),.sh (.lst (ns.map T.int)),.sh (.lst (ms.map T.int)),.no,.no,.no,.no,.no,.sh (.lst (xs.map T.int)),.sh (.lst (ys.map T.int)),.no])->∃Γ,cx [.sh (.str w),.sh (.lst (ns.map T.int)),.sh (.lst (ms.map T.int))]=some (iA (Nj xs ys),Γ):=fun xs ys hl h9 st=>by
  obtain⟨JJ,lp⟩:=BX (s0:=.sh (.str w)) (s1:=.sh (.lst (ns.map T.int))) (s2:=.sh (.lst (ms.map T.int))) (s3:=.no) (s4:=.no) (s5:=.no) (s6:=.no) (s7:=.no) xs ys hl xs.length 0 .no (by omega);rw [List.drop_zero,List.drop_zero]at lp;have i0:GC (ck (ba eL (ck (mV 8) aU)) aU) [.sh (.str w),.sh (.lst (ns.map T.int)),.sh (.lst (ms.map T.int)),.no,.no,.no,.no,.no,.sh (.lst (xs.map T.int)),.sh (.lst (ys.map T.int)),.no]=some (M.upTo ((0:Nat):Int) xs.length,[.sh (.str w),.sh (.lst (ns.map T.int)),.sh (.lst (ms.map T.int)),.no,.no,.no,.no,.no,.sh (.lst (xs.map T.int)),.sh (.lst (ys.map T.int)),.no]):=by
   refine u6 (j:=(xs.length:Int)) ?_ (by omega) (by omega) (by omega);simp [eL]
  have c1:∀x:Str,¬w=x->ax (ah cO (mV 0) (mC (.str x))) [.sh (.str w),.sh (.lst (ns.map T.int)),.sh (.lst (ms.map T.int)),.no,.no,.no,.no,.no,.no,.no,.no]=some (false,[.sh (.str w),.sh (.lst (ns.map T.int)),.sh (.lst (ms.map T.int)),.no,.no,.no,.no,.no,.no,.no,.no]):=fun x hx=>by
   simp [hx]
  have w1:¬w = "most" := by rcases hw with rfl|rfl<;>decide
  have w2:¬w = "set" := by rcases hw with rfl|rfl<;>decide
  unfold Nj;by_cases z:xs=ys.take xs.length
  ·rw [if_pos z]at lp ⊢;exact⟨_,gc (aB (bA (c1 _ w1) rfl) (aB (bA (c1 _ w2) rfl) (aB (bA (c1 _ nm) rfl) (aB st (aB (fm i0 lp) (fY rfl))))))⟩
  ·rw [if_neg z]at lp ⊢;exact⟨_,om (aB (bA (c1 _ w1) rfl) (aB (bA (c1 _ w2) rfl) (aB (bA (c1 _ nm) rfl) (aB st (fC (fm i0 lp))))))⟩
 by_cases z:ns.length<ms.length
 ·obtain⟨Γ,e⟩:=fin ns ms (by omega) (by omega) (by simp [eL,z]);exact⟨_,Γ,e,EH hw h h' (by omega)⟩
 ·obtain⟨Γ,e⟩:=fin ms ns (by omega) (by omega) (by simp [eL,z]);exact⟨_,Γ,e,by rw [Nat.add_comm];exact(EH hw h' h (by omega)).swap⟩
def VA:MS:=eE (jO (ax (ah cO (mV 6) (mV 5))) (ax (ah jV (mV 7) (mV 4)))) (aS 3 (mC .cg)) (aN)
def oy(p q:Int×Int):Bool:=decide (q.1=p.1)&&!decide (q.2=p.2)
theorem eqZ(a b:Int):cO (.int a) (.int b)=some (.sh (.bl (decide (a=b)))):=by
 show some (R.sh (.bl (xor false (a==b))))=_;by_cases z:a=b<;>simp [z]
theorem neZ(a b:Int):jV (.int a) (.int b)=some (.sh (.bl (!decide (a=b)))):=by
 show some (R.sh (.bl (xor true (a==b))))=_;by_cases z:a=b<;>simp [z]
theorem EI{s0 s1 s2 s3 s8 s9 s10:Slot}(p:Int×Int):∀(qs:List (Int×Int))(s6 s7:Slot),∃JK JL,dt (j4 2 (bW (aM 6) (bW (aM 7) j3))) VA (qs.map aw) [s0,s1,s2,s3,.sh (.int p.2),.sh (.int p.1),s6,s7,s8,s9,s10]=(if qs.any (oy p)=true then some (.rt (.sh .cg) [s0,s1,s2,s3,.sh (.int p.2),.sh (.int p.1),JK,JL,s8,s9,s10])else some (.nx [s0,s1,s2,s3,.sh (.int p.2),.sh (.int p.1),JK,JL,s8,s9,s10]))
 |[],s6,s7=>⟨s6,s7,rfl⟩
 |q::qs,s6,s7=>by
  have c1:=bO (br (g:=cO) (ma:=mV 6) (mb:=mV 5) (Γ:=[s0,s1,s2,s3,.sh (.int p.2),.sh (.int p.1),.sh (.int q.1),.sh (.int q.2),s8,s9,s10]) (r1:=.sh (.int q.1)) (r2:=.sh (.int p.1)) rfl rfl (eqZ q.1 p.1));have c2:=bO (br (g:=jV) (ma:=mV 7) (mb:=mV 4) (Γ:=[s0,s1,s2,s3,.sh (.int p.2),.sh (.int p.1),.sh (.int q.1),.sh (.int q.2),s8,s9,s10]) (r1:=.sh (.int q.2)) (r2:=.sh (.int p.2)) rfl rfl (neZ q.2 p.2));have bt:j4 2 (bW (aM 6) (bW (aM 7) j3)) (aw q) [s0,s1,s2,s3,.sh (.int p.2),.sh (.int p.1),s6,s7,s8,s9,s10]=some [s0,s1,s2,s3,.sh (.int p.2),.sh (.int p.1),.sh (.int q.1),.sh (.int q.2),s8,s9,s10]:=rfl;have step:∀b:Bool,oy p q=b->VA [s0,s1,s2,s3,.sh (.int p.2),.sh (.int p.1),.sh (.int q.1),.sh (.int q.2),s8,s9,s10]=(if b=true then some (.rt (.sh .cg) [s0,s1,s2,s3,.sh (.int p.2),.sh (.int p.1),.sh (.int q.1),.sh (.int q.2),s8,s9,s10])else some (.nx [s0,s1,s2,s3,.sh (.int p.2),.sh (.int p.1),.sh (.int q.1),.sh (.int q.2),s8,s9,s10])):=fun b hb=>by
   unfold oy at hb;by_cases z:q.1=p.1
   ·rw [decide_eq_true z]at c1 hb;by_cases y:q.2=p.2
    ·rw [decide_eq_true y]at c2 hb;subst hb;exact bA (D7 c1 c2) rfl
    ·rw [decide_eq_false y]at c2 hb;subst hb;exact fZ (D7 c1 c2) rfl
   ·rw [decide_eq_false z]at c1 hb;subst hb;exact bA (Lw c1) rfl
  rw [map_cons,any_cons]
  cases hb:oy p q with
  |true =>
   refine⟨.sh (.int q.1),.sh (.int q.2),?_⟩;rw [Bool.true_or,if_pos rfl];exact pU bt (step true hb)
  |false =>
   obtain⟨JK,JL,ih⟩:=EI (s0:=s0) (s1:=s1) (s2:=s2) (s3:=s3) (s8:=s8) (s9:=s9) (s10:=s10) p qs (.sh (.int q.1)) (.sh (.int q.2));refine⟨JK,JL,?_⟩;rw [Bool.false_or,<-ih];show(VA [s0,s1,s2,s3,.sh (.int p.2),.sh (.int p.1),.sh (.int q.1),.sh (.int q.2),s8,s9,s10]).bind _=_;rw [step false hb];rfl
def Rj:MS:=gy (rq (mV 2)) (j4 2 (bW (aM 6) (bW (aM 7) j3))) VA
theorem BY{s0 s1 s3 s8 s9 s10:Slot}(qs:List (Int×Int)):∀(ps:List (Int×Int))(s4 s5 s6 s7:Slot),∃B8 Og JK JL,dt (j4 2 (bW (aM 5) (bW (aM 4) j3))) Rj (ps.map aw) [s0,s1,.sh (.lst (qs.map aw)),s3,s4,s5,s6,s7,s8,s9,s10]=(if ps.any (fun p=>qs.any (oy p))=true then some (.rt (.sh .cg) [s0,s1,.sh (.lst (qs.map aw)),s3,B8,Og,JK,JL,s8,s9,s10])else some (.nx [s0,s1,.sh (.lst (qs.map aw)),s3,B8,Og,JK,JL,s8,s9,s10]))
 |[],s4,s5,s6,s7=>⟨s4,s5,s6,s7,rfl⟩
 |p::ps,s4,s5,s6,s7=>by
  obtain⟨JK,JL,lp⟩:=EI (s0:=s0) (s1:=s1) (s2:=.sh (.lst (qs.map aw))) (s3:=s3) (s8:=s8) (s9:=s9) (s10:=s10) p qs s6 s7;have bt:j4 2 (bW (aM 5) (bW (aM 4) j3)) (aw p) [s0,s1,.sh (.lst (qs.map aw)),s3,s4,s5,s6,s7,s8,s9,s10]=some [s0,s1,.sh (.lst (qs.map aw)),s3,.sh (.int p.2),.sh (.int p.1),s6,s7,s8,s9,s10]:=rfl;rw [map_cons,any_cons]
  cases hb:qs.any (oy p)with
  |true =>
   rw [hb,if_pos rfl]at lp;refine⟨.sh (.int p.2),.sh (.int p.1),JK,JL,?_⟩;rw [Bool.true_or,if_pos rfl];exact pU bt (fm rfl lp)
  |false =>
   rw [hb,if_neg Bool.false_ne_true]at lp;obtain⟨a4,a5,a6,a7,ih⟩:=BY (s0:=s0) (s1:=s1) (s3:=s3) (s8:=s8) (s9:=s9) (s10:=s10) qs ps (.sh (.int p.2)) (.sh (.int p.1)) JK JL;refine⟨a4,a5,a6,a7,?_⟩;rw [Bool.false_or,<-ih];have st:Rj [s0,s1,.sh (.lst (qs.map aw)),s3,.sh (.int p.2),.sh (.int p.1),s6,s7,s8,s9,s10]=some (.nx [s0,s1,.sh (.lst (qs.map aw)),s3,.sh (.int p.2),.sh (.int p.1),JK,JL,s8,s9,s10]):=fm rfl lp;show(Rj [s0,s1,.sh (.lst (qs.map aw)),s3,.sh (.int p.2),.sh (.int p.1),s6,s7,s8,s9,s10]).bind _=_;rw [st];rfl
theorem vg{b:BG}{mt:MT}{me:MX}{Γ:G}{f:T->Bool}:∀(ts acc:List T),(∀t∈ts,∃Γ1 Γ2 r Γ3,b t Γ=some Γ1/\mt Γ1=some (f t,Γ2)/\me Γ2=some (r,Γ3)/\(dH r Γ3).1=t)->acc.length+ts.length<=sizeLine->cY b mt me Γ ts acc=some (acc++ts.filter f)
 |[],acc,_,_=>by
  show some acc=_;rw [List.filter_nil,append_nil]
 |t::ts,acc,h,hl=>by
  obtain⟨Γ1,Γ2,r,Γ3,h1,h2,h3,h4⟩:=h t mem_cons_self;rw [length_cons]at hl;show(b t Γ).bind _=_;rw [h1];show(mt Γ1).bind _=_;rw [h2]
  cases hf:f t with
  |false =>
   show cY b mt me Γ ts acc=_;rw [vg ts acc (fun u hu=>h u (mem_cons_of_mem _ hu)) (by omega),List.filter_cons_of_neg (by rw [hf];exact Bool.false_ne_true)]
  |true =>
   show(me Γ2).bind _=_;rw [h3];show(if acc.length<sizeLine then cY b mt me Γ ts (acc++[(dH r Γ3).1])else none)=_;rw [if_pos (by omega),h4,vg ts _ (fun u hu=>h u (mem_cons_of_mem _ hu)) (by rw [length_append];simp;omega),List.filter_cons_of_pos hf,append_assoc];rfl
theorem JM(p q:Int×Int):eqT (aw p) (aw q)=decide (p=q):=by
 show((p.1==q.1)&&((p.2==q.2)&&true))=_;obtain⟨a,b⟩:=p;obtain⟨a',b'⟩:=q;by_cases e:a=a'
 ·by_cases e':b=b'
  ·simp [e,e']
  ·simp [e,e']
 ·simp [e]
theorem JN(q:Int×Int)(ps:List (Int×Int)):((ps.map aw).any fun y=>eqT y (aw q))=decide (q∈ps):=by
 rw [any_map]
 induction ps with
 |nil=>rfl
 |cons p ps ih =>
  rw [any_cons,ih];show(eqT (aw p) (aw q)||decide (q∈ps))=_;rw [JM];by_cases e:p=q
  ·simp [e]
  ·have e':¬q=p:=fun z=>e z.symm;simp [e,e']
theorem Dy(q:Int×Int)(ps:List (Int×Int)):lZ (aw q) (.lst (ps.map aw))=some (.sh (.bl (!decide (q∈ps)))):=by
 have f:=nk ps;show(if Ft (aw q)=true/\pQ (ps.map aw)=true/\(toD (aw q)).depth<=60/\PyData.depthAll (cL (ps.map aw))<=60 then some (R.sh (.bl (!(ps.map aw).any fun y=>eqT y (aw q))))else none)=_;rw [if_pos ⟨rfl,f.1,by show(1:Nat)<=60;decide,Nat.le_trans f.2 (by decide)⟩,JN]
theorem Gr{B C:Nat}{ts us:List T}(h:cK B "map" ts)(h':cK C "map" us)(d:Sd "map" ts)(d':Sd "map" us)(hb:B+C<500):∃r Γ,cx [.sh (.str "map"),.sh (.lst ts),.sh (.lst us)]=some (iA r,Γ)/\jh "map" (B+C) ts us r:=by
 obtain⟨ps,rfl,B7⟩:=h.2.1 rfl;obtain⟨zG,e,dp⟩:=d.2 rfl;have e:=bC e;subst e;obtain⟨qs,rfl,Uz⟩:=h'.2.1 rfl;obtain⟨qs',e,dq⟩:=d'.2 rfl;have e:=bC e;subst e;have l1:=h.1;have l2:=h'.1;rw [length_map]at l1 l2;have sub:∀{rs:List (Int×Int)}{zs:List T},Ov "map" (rs.map aw) zs->Sd "map" zs->∃B5,zs=B5.map aw/\KS B5/\∀p∈rs,p∈B5:=fun{rs zs} o dz=>by
  obtain⟨a,b,e,e',hs⟩:=o.2.2.2.2 rfl;have e:=bC e;subst e;obtain⟨B5,e2,kz⟩:=dz.2 rfl;rw [e']at e2;have e2:=bC e2;subst e2;exact⟨b,e',kz,hs⟩
 obtain⟨s4,s5,s6,s7,lp⟩:=BY (s0:=.sh (.str "map")) (s1:=.sh (.lst (ps.map aw))) (s3:=.no) (s8:=.no) (s9:=.no) (s10:=.no) qs ps .no .no .no .no
 cases hc:ps.any fun p=>qs.any (oy p)with
 |true =>
  rw [hc,if_pos rfl]at lp;refine⟨none,_,om (aB (bA rfl rfl) (aB (bA rfl rfl) (fC (fZ rfl (fC (fm rfl lp)))))),.cg fun zs _ _ dz o o'=>?_⟩;obtain⟨B5,rfl,kz,hs⟩:=sub o dz;obtain⟨Nc,e,_,qY⟩:=sub o' dz;have e:=bC e;subst e;obtain⟨p,hp,hq⟩:=any_eq_true.mp hc;obtain⟨q,hq,cl⟩:=any_eq_true.mp hq;unfold oy at cl;simp at cl;have m1:=(gK (n:=p.1) (v:=p.2) kz.kn).mpr (hs p hp);have m2:=(gK (n:=p.1) (v:=q.2) kz.kn).mpr (by rw [<-cl.1];exact qY q hq);rw [m1]at m2;exact cl.2 (Option.some.inj m2).symm
 |false =>
  rw [hc,if_neg Bool.false_ne_true]at lp;have noc:∀p∈ps,∀q∈qs,q.1=p.1->q=p:=fun p hp q hq e=>by
   have z:¬(ps.any fun p=>qs.any (oy p))=true:=by rw [hc];exact Bool.false_ne_true
   refine Prod.ext e ?_
   cases y:decide (q.2=p.2)with
   |true=>exact of_decide_eq_true y
   |false=>exact absurd (any_eq_true.mpr ⟨p,hp,any_eq_true.mpr ⟨q,hq,by unfold oy;rw [decide_eq_true e,y];rfl⟩⟩) z
  have cm:gz [none,some 1] (rq (mV 2)) (aM 0) (ax (ah lZ (mV 0) (mV 1))) (mV 0) [.sh (.str "map"),.sh (.lst (ps.map aw)),.sh (.lst (qs.map aw)),.no,s4,s5,s6,s7,.no,.no,.no]=some (.own (.lst ((qs.filter fun q=>!decide (q∈ps)).map aw)),[.sh (.str "map"),.sh (.lst (ps.map aw)),.sh (.lst (qs.map aw)),.no,s4,s5,s6,s7,.no,.no,.no]):=by
   have fl:(qs.map aw).filter (fun t=>match jo [t]with|some [q]=>!decide (q∈ps)|_=>false)=(qs.filter fun q=>!decide (q∈ps)).map aw:=by
    rw [List.filter_map];rfl
   rw [<-fl];refine D9 (Γ1:=[.sh (.str "map"),.sh (.lst (ps.map aw)),.sh (.lst (qs.map aw)),.no,s4,s5,s6,s7,.no,.no,.no]) rfl ?_;have z:=vg (b:=aM 0) (mt:=ax (ah lZ (mV 0) (mV 1))) (me:=mV 0) (Γ:=[.no,.sh (.lst (ps.map aw))]) (f:=fun t=>match jo [t]with|some [q]=>!decide (q∈ps)|_=>false) (qs.map aw) [] (fun t ht=>by
    obtain⟨q,hq,rfl⟩:=mem_map.mp ht;exact⟨[.sh (aw q),.sh (.lst (ps.map aw))],[.sh (aw q),.sh (.lst (ps.map aw))],.sh (aw q),[.sh (aw q),.sh (.lst (ps.map aw))],rfl,bO (br (r1:=.sh (aw q)) (r2:=.sh (.lst (ps.map aw))) rfl rfl (Dy q ps)),rfl,rfl⟩) (by rw [length_map];exact le_of_lt (aG (by show 0+qs.length<=1000;omega)))
   rw [List.nil_append]at z;exact z
  have lf:(qs.filter fun q=>!decide (q∈ps)).length<=qs.length:=List.length_filter_le _ _;have kr:KN (ps++qs.filter fun q=>!decide (q∈ps)):=by
   unfold KN;rw [map_append];refine nodup_append.mpr ⟨dp.kn,?_,fun a ha b hb e=>?_⟩
   ·exact List.Pairwise.sublist ((List.filter_sublist ..).map _) dq.kn
   ·obtain⟨p,hp,rfl⟩:=mem_map.mp ha;obtain⟨q,hq,rfl⟩:=mem_map.mp hb;obtain⟨hq1,hq2⟩:=mem_filter.mp hq;have:=noc p hp q hq1 e.symm;rw [this]at hq2;simp [hp]at hq2
  have mr:∀x,x∈(ps++qs.filter fun q=>!decide (q∈ps))↔x∈ps\/x∈qs:=fun x=>by
   rw [mem_append,mem_filter];by_cases hx:x∈ps
   ·simp [hx]
   ·simp [hx]
  generalize RP:(ps++qs.filter fun q=>!decide (q∈ps))=rs at kr mr;have lr:rs.length<=ps.length+qs.length:=by
   rw [<-RP,length_append];omega
  have c:cz (.lst (ps.map aw)) (.lst ((qs.filter fun q=>!decide (q∈ps)).map aw))=some (.own (.lst (rs.map aw))):=by
   rw [<-RP,map_append];exact iY (by rw [length_map,length_map];omega)
  have so:fI [.lst (rs.map aw)]=some (.own (.lst ((bZ rs).map aw))):=by
   cases rs with
   |nil=>simp [fI,intsOf,bh,bZ]
   |cons p rs =>
    have e1:intsOf ((p::rs).map aw)=none:=rfl;simp only [fI,e1,oD];exact if_pos (by omega)
  have fin:aS 3 (ba fI (ck (ah cz (mV 1) (gz [none,some 1] (rq (mV 2)) (aM 0) (ax (ah lZ (mV 0) (mV 1))) (mV 0))) aU)) [.sh (.str "map"),.sh (.lst (ps.map aw)),.sh (.lst (qs.map aw)),.no,s4,s5,s6,s7,.no,.no,.no]=some (.rt (.own (.lst ((bZ rs).map aw))) [.sh (.str "map"),.sh (.lst (ps.map aw)),.sh (.lst (qs.map aw)),.no,s4,s5,s6,s7,.no,.no,.no]):=by
   simp [cm,c,so,-map_append]
  refine⟨some ((bZ rs).map aw),_,gc (aB (bA rfl rfl) (aB (bA rfl rfl) (fC (fZ rfl (aB (fm rfl lp) fin))))),.yes ⟨?_,fun _=>nS fun p hp=>?_,fun e=>absurd rfl e,nD⟩ ⟨nD,fun _=>⟨_,rfl,nU kr⟩⟩ (jG fun p hp=>(cV rs).mem_iff.mpr ((mr p).mpr (.inl hp))) (jG fun p hp=>(cV rs).mem_iff.mpr ((mr p).mpr (.inr hp))) fun zs _ _ dz o o'=>?_⟩
  ·rw [lB];omega
  ·rcases(mr p).mp hp with z|z
   ·exact B7 p z
   ·exact Uz p z
  ·obtain⟨B5,rfl,kz,hs⟩:=sub o dz;obtain⟨Nc,e,_,qY⟩:=sub o' dz;have e:=bC e;subst e;refine jG fun p hp=>?_;rcases(mr p).mp ((cV rs).mem_iff.mp hp)with z|z
   ·exact hs p z
   ·exact qY p z
theorem BZ{w:Str}(hw:fU w){B C:Nat}{ts us:List T}(h:cK B w ts)(h':cK C w us)(d:Sd w ts)(d':Sd w us)(hb:B+C<500):∃r Γ,cx [.sh (.str w),.sh (.lst ts),.sh (.lst us)]=some (iA r,Γ)/\jh w (B+C) ts us r:=by
 rcases hw with rfl|rfl|rfl|rfl|rfl
 ·exact Dx h h'
 ·exact Gq h h' hb
 ·exact xB (.inl rfl) h h' hb
 ·exact xB (.inr rfl) h h' hb
 ·exact Gr h h' d d' hb
theorem vh{np:Nat}{cf:CF}{n:MA}{ts:List T}{r:R}{Γ Γ1 Γ2:G}(h:n Γ=some (ts,Γ1))(hl:ts.length=np)(hc:cf (ts.map Slot.sh)=some (r,Γ2))(hb:uw r=true):ie np cf n Γ=some (r,Γ1):=by
 unfold ie;rw [h];dsimp only [Option.bind];rw [if_pos hl,hc];exact if_pos hb
theorem B0{tb:Nat->Option (Nat×CF)}{mo:MX}{ma:MA}{k np:Nat}{cf:CF}{ts:List T}{r:R}{Γ Γ1 Γ2 Γ3:G}(ho:mo Γ=some (.sh (.obj k),Γ1))(ht:tb k=some (np,cf))(ha:ma Γ1=some (ts,Γ2))(hl:ts.length+1=np)(hc:cf (.sh (.obj k)::ts.map Slot.sh)=some (r,Γ3))(hb:uw r=true):fG tb mo ma Γ=some (r,Γ2):=by
 unfold fG;rw [ho];dsimp only [Option.bind];rw [ht];dsimp only;rw [ha];dsimp only [Option.bind];rw [if_pos hl,hc];exact if_pos hb
theorem Gs(ns:List Int):uw (.own (.lst (ns.map T.int)))=true:=by
 show(ns.map T.int).all Et=true;rw [all_map];exact all_eq_true.mpr fun _ _=>rfl
theorem Dz(ps:List (Int×Int)):uw (.own (.lst (ps.map aw)))=true:=by
 show(ps.map aw).all Et=true;rw [all_map];exact all_eq_true.mpr fun _ _=>rfl
theorem cK.bor{B:Nat}{w:Str}{ts:List T}(h:cK B w ts):uw (.own (.lst ts))=true:=by
 by_cases hw:w = "map"
 ·obtain⟨ps,rfl,_⟩:=h.2.1 hw;exact Dz ps
 ·obtain⟨ns,rfl,_⟩:=h.2.2.1 hw;exact Gs ns
theorem jh.bor{w:Str}{B:Nat}{x y:List T}{r:Option (List T)}(j:jh w B x y r):uw (iA r)=true:=by
 cases r with
 |none=>rfl
 |some vs=>exact(j.ok vs rfl).1.bor
abbrev tJ(mo:MX)(ma:MA):MX:=fG (vk [(1,3,bG),(2,3,bR),(3,3,bf),(4,3,bz),(5,3,cv)]) mo ma
abbrev tU(mo:MX)(ma:MA):MX:=fG (vk [(0,3,ao),(1,3,ao),(2,3,ao),(3,3,ao),(4,3,ao),(5,3,ao)]) mo ma
theorem qk{w:Str}(hw:fU w){B C D:Nat}{x y:List T}{r:Option (List T)}(h:cK B w x)(h':cK C w y)(d:Sd w x)(d':Sd w y)(hb:B+C<500)(j:jh w D x y r){mo:MX}{ma:MA}{Γ Γ1 Γ2:G}(a1:mo Γ=some (.sh (.obj (cJ w)),Γ1))(a2:ma Γ1=some ([.lst x,.lst y],Γ2)):tJ mo ma Γ=some (iA r,Γ2):=by
 obtain⟨r',cf,Γ0,e1,e2,j'⟩:=Gp hw h h' d d' hb;have e:=j'.uniq hw j;subst e;exact B0 a1 e1 a2 rfl e2 j.bor
theorem Rk{w:Str}(hw:fU w):vk [(0,3,ao),(1,3,ao),(2,3,ao),(3,3,ao),(4,3,ao),(5,3,ao)] (cJ w)=some (3,ao):=by
 rcases hw with rfl|rfl|rfl|rfl|rfl<;>rfl
theorem Rl{us:List T}(h':vc us):cO .cg (.lst us)=some (.sh (.bl false)):=by
 have d2:(toD (.lst us)).depth<=60:=by
  show PyData.depthAll (cL us)+1<=60;have:=h'.2;omega
 show(if(true&&pQ us&&decide ((toD .cg).depth<=60)&&decide ((toD (.lst us)).depth<=60))=true then _ else _)=_;rw [h'.1,decide_eq_true d2];rfl
def resT:Option (List T)->T
 |some vs=>.lst vs
 |none=>.cg
theorem B1(r:Option (List T)):(iA r).tree=resT r:=by
 cases r<;>rfl
theorem Rm{w:Str}{B C:Nat}{x y z:List T}{r:Option (List T)}(j:jh w B x y r)(h':cK C w z):∃b:Bool,cO (resT r) (.lst z)=some (.sh (.bl b)):=by
 cases r with
 |none=>exact⟨false,Rl h'.flat⟩
 |some vs =>
  obtain⟨k1,k2,k3,k4⟩:=j.ok vs rfl;by_cases e:vs=z
  ·subst e;exact⟨true,eq_self h'⟩
  ·exact⟨false,EG k1 h' e⟩
theorem Gu{w:Str}(hw:fU w){B C D:Nat}{x y:List T}{r:Option (List T)}{b:Bool}(h:cK B w x)(h':cK C w y)(d:Sd w x)(d':Sd w y)(hb:B+C<500)(j:jh w D x y r)(g:cO (resT r) (.lst y)=some (.sh (.bl b))){mo:MX}{ma:MA}{Γ Γ1 Γ2:G}(a1:mo Γ=some (.sh (.obj (cJ w)),Γ1))(a2:ma Γ1=some ([.lst x,.lst y],Γ2)):tU mo ma Γ=some (.sh (.bl b),Γ2):=by
 have m1:=qk hw h h' d d' hb j (mo:=mV 0) (ma:=ck (mV 1) (ck (mV 2) aU)) (Γ:=[.sh (.obj (cJ w)),.sh (.lst x),.sh (.lst y)]) (Γ1:=[.sh (.obj (cJ w)),.sh (.lst x),.sh (.lst y)]) (Γ2:=[.sh (.obj (cJ w)),.sh (.lst x),.sh (.lst y)]) rfl rfl;rw [<-B1]at g;have e2:ao [.sh (.obj (cJ w)),.sh (.lst x),.sh (.lst y)]=some (.sh (.bl b),[.sh (.obj (cJ w)),.sh (.lst x),.sh (.lst y)]):=om (j6 (br (g:=cO) (mb:=mV 2) (r2:=.sh (.lst y)) m1 rfl g));exact B0 a1 (Rk hw) a2 rfl e2 rfl
theorem JO(b:Bool):dM [.sh (.bl b),.sh (.bl b)]=some (.sh (.bl true),[.sh (.bl b),.sh (.bl b)]):=by
 cases b<;>rfl
theorem zD{w:Str}(hw:fU w){B C D:Nat}{x y:List T}{r:Option (List T)}(h:cK B w x)(h':cK C w y)(d:Sd w x)(d':Sd w y)(hb:B+C<500)(j:jh w D x y r){mo me:MX}{ma:MA}{Γ:G}(a1:mo Γ=some (.sh (.obj (cJ w)),Γ))(a2:ma Γ=some ([.lst x,.lst y],Γ))(a3:∀{b:Bool},cO (resT r) (.lst y)=some (.sh (.bl b))->me Γ=some (.sh (.bl b),Γ)):aE 2 dM (aQ (tU mo ma) (aQ me aU)) Γ=some (.sh (.bl true),Γ):=by
 obtain⟨b,g⟩:=Rm j h';exact jb (np:=2) (ts:=[.bl b,.bl b]) (oh (r:=.sh (.bl b)) (Gu hw h h' d d' hb j g a1 a2) (oh (r:=.sh (.bl b)) (a3 g) rfl)) rfl (JO b)
theorem nq:∀bs:List Bool,vc (bs.map T.bl)
 |[]=>⟨rfl,zero_le _⟩
 |b::bs=>by
  obtain⟨h1,h2⟩:=nq bs;refine⟨h1,?_⟩;show max 0 (PyData.depthAll (cL (bs.map T.bl)))<=1;omega
theorem ph:∀bs:List Bool,PyData.eqvAll (cL (bs.map T.bl)) (cL (bs.map T.bl))=true
 |[]=>rfl
 |true::bs=>by
  show(true&&PyData.eqvAll (cL (bs.map T.bl)) (cL (bs.map T.bl)))=true;rw [ph bs];rfl
 |false::bs=>by
  show(true&&PyData.eqvAll (cL (bs.map T.bl)) (cL (bs.map T.bl)))=true;rw [ph bs];rfl
theorem JP(bs:List Bool):cO (.lst (bs.map T.bl)) (.lst (bs.map T.bl))=some (.sh (.bl true)):=by
 have z:=iZ (n:=false) (nq bs) (nq bs);rw [show eqT (.lst (bs.map T.bl)) (.lst (bs.map T.bl))=true from ph bs,false_xor]at z;exact z
theorem nr{w:Str}{k:Nat}{bs:List Bool}{b:Bool}(hl:bs.length=4)
  (i1:bJ 2 (eA (aQ (p8 (xq [(1,true),(2,false),(3,false),(4,false),(5,false)]) (mV 0)) (aQ (p8 (xq [(1,false),(2,true),(3,false),(4,false),(5,false)]) (mV 0)) (aQ (p8 (xq [(1,false),(2,false),(3,true),(4,false),(5,false)]) (mV 0)) (aQ (p8 (xq [(1,false),(2,false),(3,false),(4,true),(5,false)]) (mV 0)) aU))))) [.sh (.obj k),.sh (.str w),.no,.no]=some (.nx [.sh (.obj k),.sh (.str w),.own (.lst (bs.map T.bl)),.no]))
  (i3:xq [(1,true),(2,true),(3,true),(4,true),(5,true)] k=some true) (i4:xq [(1,false),(2,false),(3,false),(4,false),(5,true)] k=some b)
  (e:(["most", "set", "once", "row", "map"]:List Str).map (fun v=>decide (w=v))=bs++[b]):∃Γ,dS [.sh (.obj k),.sh (.str w)]=some (.sh (.bl true),Γ):=by
 have c:=qg (cap:=[none,some 1]) (mi:=rq (eA (aQ (mC (.str "most")) (aQ (mC (.str "set")) (aQ (mC (.str "once")) (aQ (mC (.str "row")) (aQ (mC (.str "map")) aU))))))) (b:=aM 0) (me:=ah cO (mV 1) (mV 0)) (Γ0:=[.sh (.obj k),.sh (.str w),.own (.lst (bs.map T.bl)),.no]) (Γ1:=[.sh (.obj k),.sh (.str w),.own (.lst (bs.map T.bl)),.no]) (ts:=(["most", "set", "once", "row", "map"]:List Str).map T.str) (f:=fun t=>match t with | .str v=>T.bl (decide (w=v))|t=>t) rfl (fun t ht=>by
  obtain⟨v,_,rfl⟩:=mem_map.mp ht;exact⟨[.sh (.str v),.sh (.str w)],.sh (.bl (decide (w=v))),[.sh (.str v),.sh (.str w)],rfl,br (r1:=.sh (.str w)) (r2:=.sh (.str v)) rfl rfl (by
   show some (R.sh (.bl (xor false (decide (w=v)))))=_;rw [false_xor]),rfl⟩) (by decide)
 have e2:(((["most", "set", "once", "row", "map"]:List Str).map T.str).map fun t=>match t with | .str v=>T.bl (decide (w=v))|t=>t)=(bs++[b]).map T.bl:=by
  rw [<-e,map_map,map_map];rfl
 rw [e2]at c;have c2:=ja (i:=3) c;have q3:p8 (xq [(1,true),(2,true),(3,true),(4,true),(5,true)]) (mV 0) [.sh (.obj k),.sh (.str w),.own (.lst (bs.map T.bl)),.own (.lst ((bs++[b]).map T.bl))]=some (.sh (.bl true),[.sh (.obj k),.sh (.str w),.own (.lst (bs.map T.bl)),.own (.lst ((bs++[b]).map T.bl))]):=by
  show(xq _ k).map _=_;rw [i3];rfl
 have q4:p8 (xq [(1,false),(2,false),(3,false),(4,false),(5,true)]) (mV 0) [.sh (.obj k),.sh (.str w),.own (.lst (bs.map T.bl)),.own (.lst ((bs++[b]).map T.bl))]=some (.sh (.bl b),[.sh (.obj k),.sh (.str w),.own (.lst (bs.map T.bl)),.own (.lst ((bs++[b]).map T.bl))]):=by
  show(xq _ k).map _=_;rw [i4];rfl
 have ct:cz (.lst (bs.map T.bl)) (.lst [.bl b])=some (.own (.lst ((bs++[b]).map T.bl))):=by
  rw [map_append];exact iY (by rw [length_map,hl];show 4+1<=1000;decide)
 exact⟨_,om (aB i1 (aB c2 (j6 (D8 q3 (br (br (r1:=.bor 2 (.lst (bs.map T.bl))) rfl (r2:=.own (.lst [.bl b])) (Qa (oh (r:=.sh (.bl b)) q4 rfl) (by show 1<=1000;decide)) ct) (r2:=.bor 3 (.lst ((bs++[b]).map T.bl))) rfl (JP _))))))⟩
theorem JQ{w:Str}(hw:fU w):∃Γ,dS [.sh (.obj (cJ w)),.sh (.str w)]=some (.sh (.bl true),Γ):=by
 rcases hw with rfl|rfl|rfl|rfl|rfl
 ·exact nr (k:=1) (bs:=[true,false,false,false]) (b:=false) rfl rfl rfl rfl (by decide)
 ·exact nr (k:=2) (bs:=[false,true,false,false]) (b:=false) rfl rfl rfl rfl (by decide)
 ·exact nr (k:=3) (bs:=[false,false,true,false]) (b:=false) rfl rfl rfl rfl (by decide)
 ·exact nr (k:=4) (bs:=[false,false,false,true]) (b:=false) rfl rfl rfl rfl (by decide)
 ·exact nr (k:=5) (bs:=[false,false,false,false]) (b:=true) rfl rfl rfl rfl (by decide)
theorem Gv{w:Str}(hw:fU w){mo:MX}{Γ:G}(a1:mo Γ=some (.sh (.obj (cJ w)),Γ)):Aw (vk [(1,1,gg),(2,1,gS),(3,1,gh),(4,1,gT),(5,1,gU)]) mo aU Γ=some (.sh (.str w),Γ):=by
 rw [Rc,a1];rcases hw with rfl|rfl|rfl|rfl|rfl<;>rfl
theorem JR{w:Str}(hw:fU w):iR [.sh (.str w)]=some (.sh (.obj (cJ w)),[.sh (.str w)]):=by
 rcases hw with rfl|rfl|rfl|rfl|rfl<;>rfl
theorem Nk{w:Str}(hw:fU w):iT [.sh (.str w)]=some (.sh (.obj (cJ w)),[.sh (.str w)]):=by
 rcases hw with rfl|rfl|rfl|rfl|rfl<;>rfl
def OA:MS:=eE (fw (fu (ax (aE 1 ko (aQ (mV 5) aU)))) (fw (ax (ah DY (mV 5) (mC (.int 0)))) (ax (ah P4 (mV 5) (mC (.int 999999999)))))) (aS 2 (mC (.bl false))) (aN)
def Gw:MS:=aL (bJ 4 (lH (aQ (mV 3) aU))) (aL (eE (ax (ah cO (mV 0) (mC (.str "map")))) (aL (eE (fw (fu (ax (tR "tuple" (mV 3)))) (ax (ah jV (ba eL (ck (mV 3) aU)) (mC (.int 2))))) (aS 2 (mC (.bl false))) aN) (bJ 4 (mV 3))) aN) (aL (gy (RB (mV 4)) (aM 5) OA) (cU 2 (ah eF (mV 4) (mC (.int 0))))))
theorem zE{n:Int}(h:Rg n)(s0 s1 s2 s3 s4:Slot):OA [s0,s1,s2,s3,s4,.sh (.int n)]=some (.nx [s0,s1,s2,s3,s4,.sh (.int n)]):=by
 have l:DY (.int n) (.int 0)=some (.sh (.bl false)):=by
  show some (R.sh (.bl (decide (n<0))))=_;rw [decide_eq_false (by have:=h.1;omega)]
 have g:P4 (.int n) (.int 999999999)=some (.sh (.bl false)):=by
  show some (R.sh (.bl (decide (999999999<n))))=_;rw [decide_eq_false (by have:=h.2;omega)]
 exact bA (jl (b:=false) (j7 (b:=true) (bO (jb (np:=1) (ts:=[.int n]) rfl rfl (Γ2:=[.sh (.int n)]) rfl))) (jl (bO (br (r1:=.sh (.int n)) (r2:=.sh (.int 0)) rfl rfl l)) (bO (br (r1:=.sh (.int n)) (r2:=.sh (.int 999999999)) rfl rfl g)))) rfl
theorem Nl{w:Str}(hw:fU w)(hm:¬w = "map"){n:Int}(h:Rg n){s1 s4 s5:Slot}(acc:List Int)(hl:acc.length<=900):Gw [.sh (.str w),s1,.own (.lst (acc.map T.int)),.sh (.int n),s4,s5]=some (.nx [.sh (.str w),s1,.own (.lst ((acc++[n]).map T.int)),.sh (.int n),.sh (.tup [.int n]),.sh (.int n)]):=by
 have i1:eE (ax (ah cO (mV 0) (mC (.str "map")))) (aL (eE (fw (fu (ax (tR "tuple" (mV 3)))) (ax (ah jV (ba eL (ck (mV 3) aU)) (mC (.int 2))))) (aS 2 (mC (.bl false))) aN) (bJ 4 (mV 3))) aN [.sh (.str w),s1,.own (.lst (acc.map T.int)),.sh (.int n),.sh (.tup [.int n]),s5]=some (.nx [.sh (.str w),s1,.own (.lst (acc.map T.int)),.sh (.int n),.sh (.tup [.int n]),s5]):=by
  rcases hw with rfl|rfl|rfl|rfl|rfl
  ·rfl
  ·rfl
  ·rfl
  ·rfl
  ·exact absurd rfl hm
 rw [map_append];exact aB (tS (t:=.tup [.int n]) rfl) (aB i1 (aB (fm rfl (sC rfl (zE h _ _ _ _ _) rfl)) (tV (i:=2) (us:=acc.map T.int) (ts:=acc.map T.int) rfl (r:=.sh (.int n)) (Γ1:=[.sh (.str w),s1,.own (.lst (acc.map T.int)),.sh (.int n),.sh (.tup [.int n]),.sh (.int n)]) rfl rfl (by rw [length_map];exact aG (by omega)))))
theorem JS{p:Int×Int}(h:Rg p.1/\Rg p.2){s1 s4 s5:Slot}(acc:List Int)(hl:acc.length<=900):Gw [.sh (.str "map"),s1,.own (.lst (acc.map T.int)),.sh (aw p),s4,s5]=some (.nx [.sh (.str "map"),s1,.own (.lst ((acc++[p.1]).map T.int)),.sh (aw p),.sh (aw p),.sh (.int p.2)]):=by
 rw [map_append];exact aB (tS (t:=.tup [aw p]) rfl) (aB (fZ rfl (aB (bA rfl rfl) (tS (t:=aw p) rfl))) (aB (fm (ts:=[.int p.1,.int p.2]) rfl (sC rfl (zE h.1 _ _ _ _ _) (sC rfl (zE h.2 _ _ _ _ _) rfl))) (tV (i:=2) (us:=acc.map T.int) (ts:=acc.map T.int) rfl (r:=.sh (.int p.1)) (Γ1:=[.sh (.str "map"),s1,.own (.lst (acc.map T.int)),.sh (aw p),.sh (aw p),.sh (.int p.2)]) rfl rfl (by rw [length_map];exact aG (by omega)))))
theorem EJ{w:Str}{s1:Slot}{α:Type}(f:α->T)(k:α->Int)(xs:List α)(hb:xs.length<=900)(step:∀x∈xs,∀(acc:List Int)(s4 s5:Slot),acc.length<=900->∃B8 Og,Gw [.sh (.str w),s1,.own (.lst (acc.map T.int)),.sh (f x),s4,s5]=some (.nx [.sh (.str w),s1,.own (.lst ((acc++[k x]).map T.int)),.sh (f x),B8,Og])):∃s3 s4 s5,dt (aM 3) Gw (xs.map f) [.sh (.str w),s1,.own (.lst []),.no,.no,.no]=some (.nx [.sh (.str w),s1,.own (.lst ((xs.map k).map T.int)),s3,s4,s5]):=by
 obtain⟨Γ',q,s3,s4,s5,rfl⟩:=lu (b:=aM 3) (m:=Gw) (fun i Γ=>∃s3 s4 s5,Γ=[.sh (.str w),s1,.own (.lst (((xs.take i).map k).map T.int)),s3,s4,s5]) (xs.map f) 0 [.sh (.str w),s1,.own (.lst []),.no,.no,.no] ⟨_,_,_,rfl⟩ (by
  rintro i t Γ ht ⟨s3,s4,s5,rfl⟩;rw [zero_add];have hi:i<xs.length:=by
   have:=(List.getElem?_eq_some_iff.mp ht).1;simpa using this
  have et:t=f xs[i]:=by
   rw [getElem?_map,getElem?_eq_getElem hi]at ht;exact(Option.some.inj ht).symm
  subst et;obtain⟨B8,Og,e⟩:=step xs[i] (getElem_mem hi) ((xs.take i).map k) s4 s5 (by rw [length_map,length_take];omega);refine⟨_,_,rfl,e,.sh (f xs[i]),B8,Og,?_⟩;rw [take_succ_eq_append_getElem hi,map_append (f:=k)];rfl)
 rw [length_map,zero_add,take_length]at q;exact⟨_,_,_,q⟩
theorem all_true:∀(k:Nat),CB [.lst (List.replicate k (.bl true))]=some (.sh (.bl true)):=fun k=>by
 have e:boolsOf (List.replicate k (T.bl true))=some (List.replicate k true):=by
  induction k with
  |zero=>rfl
  |succ k ih =>
   show(boolsOf (List.replicate k (T.bl true))).map (fun bs=>true::bs)=_;rw [ih];rfl
 show(boolsOf (List.replicate k (T.bl true))).map (fun bs=>R.sh (.bl (bs.all id)))=_;rw [e];show some (R.sh (.bl _))=_;congr 3;exact all_eq_true.mpr fun b hb=>(List.mem_replicate.mp hb).2
theorem B2{w t:T}{ns:List Int}{s3 s4 s5:Slot}(hs:ns.Pairwise (·<·))(hl:ns.length<=900):∃k,gz [none,some 2] (GC (ck (ah M.Ca (ba eL (ck (mV 2) aU)) (mC (.int 1))) aU)) (aM 0) lE (ah DY (ah eF (mV 1) (mV 0)) (ah eF (mV 1) (ah cz (mV 0) (mC (.int 1))))) [.sh w,.sh t,.own (.lst (ns.map T.int)),s3,s4,s5]=some (.own (.lst (List.replicate k (.bl true))),[.sh w,.sh t,.sh (.lst (ns.map T.int)),s3,s4,s5]):=by
 refine⟨(M.upTo 0 (ns.length-1)).length,?_⟩;rw [<-List.map_const' (l:=M.upTo 0 (ns.length-1)) (b:=T.bl true)];refine qg (Γ1:=[.sh w,.sh t,.own (.lst (ns.map T.int)),s3,s4,s5]) (u6 (j:=(ns.length:Int)-1) (by simp [eL]) (by omega) (by omega) (by omega)) (fun u hu=>?_) (by rw [g7];omega);unfold M.upTo at hu;obtain⟨k,hk,rfl⟩:=mem_map.mp hu;have hk:=mem_range.mp hk;have lt:ns[k]<ns[k+1]:=pairwise_iff_getElem.mp hs k (k+1) (by omega) (by omega) (by omega);have a1:eF (.lst (ns.map T.int)) (.int ((0:Int)+(k:Int)))=some (.sh (.int ns[k])):=by
  show(jU (ns.map T.int) ((0:Int)+(k:Int))).map R.sh=_;rw [show(0:Int)+(k:Int)=(k:Int) by omega,jX (by rw [length_map];omega),getElem?_map,getElem?_eq_getElem (by omega)];rfl
 have a2:eF (.lst (ns.map T.int)) (.int ((0:Int)+(k:Int)+1))=some (.sh (.int ns[k+1])):=by
  show(jU (ns.map T.int) ((0:Int)+(k:Int)+1)).map R.sh=_;rw [show(0:Int)+(k:Int)+1=((k+1:Nat):Int) by omega,jX (by rw [length_map];omega),getElem?_map,getElem?_eq_getElem (by omega)];rfl
 have l:DY (.int ns[k]) (.int ns[k+1])=some (.sh (.bl true)):=by
  show some (R.sh (.bl (decide (ns[k]<ns[k+1]))))=_;rw [decide_eq_true lt]
 exact⟨[.sh (.int (0+(k:Int))),.sh (.lst (ns.map T.int))],.sh (.bl true),[.sh (.int (0+(k:Int))),.sh (.lst (ns.map T.int))],rfl,br (r1:=.sh (.int ns[k])) (r2:=.sh (.int ns[k+1])) (br rfl rfl a1) (br (r1:=.sh (.lst (ns.map T.int))) (r2:=.sh (.int (0+(k:Int)+1))) rfl rfl a2) l,rfl⟩
theorem Gx{w:Str}(hw:fU w){B:Nat}{ts:List T}(h:cK B w ts)(d:Sd w ts)(hb:B<=900):∃Γ,cP [.sh (.str w),.sh (.lst ts)]=some (.sh (.bl true),Γ):=by
 have hl:=h.1;have i1:eE (fu (ax (tR "list" (mV 1)))) (aS 2 (mC (.bl false))) aN [.sh (.str w),.sh (.lst ts),.no,.no,.no,.no]=some (.nx [.sh (.str w),.sh (.lst ts),.no,.no,.no,.no]):=rfl;have i2:bJ 2 (eA aU) [.sh (.str w),.sh (.lst ts),.no,.no,.no,.no]=some (.nx [.sh (.str w),.sh (.lst ts),.own (.lst []),.no,.no,.no]):=rfl;have i3:rq (mV 1) [.sh (.str w),.sh (.lst ts),.own (.lst []),.no,.no,.no]=some (ts,[.sh (.str w),.sh (.lst ts),.own (.lst []),.no,.no,.no]):=rfl;have fin:∀{ks:List Int}{s3 s4 s5:Slot},dt (aM 3) Gw ts [.sh (.str w),.sh (.lst ts),.own (.lst []),.no,.no,.no]=some (.nx [.sh (.str w),.sh (.lst ts),.own (.lst (ks.map T.int)),s3,s4,s5])->∀{t:T}{Γ:G},aL (eE (fw (ax (ah cO (mV 0) (mC (.str "most")))) (ax (ah cO (mV 0) (mC (.str "once"))))) (aS 2 (ah DY (ba eL (ck (mV 2) aU)) (mC (.int 2)))) aN) (aS 2 (Fp (ah cO (mV 0) (mC (.str "row"))) (ba CB (ck (gz [none,some 2] (GC (ck (ah M.Ca (ba eL (ck (mV 2) aU)) (mC (.int 1))) aU)) (aM 0) lE (ah DY (ah eF (mV 1) (mV 0)) (ah eF (mV 1) (ah cz (mV 0) (mC (.int 1)))))) aU)))) [.sh (.str w),.sh (.lst ts),.own (.lst (ks.map T.int)),s3,s4,s5]=some (.rt (.sh t) Γ)->cP [.sh (.str w),.sh (.lst ts)]=some (.sh t,Γ):=fun{ks s3 s4 s5} l1 {t Γ} q=>om (aB i1 (aB i2 (aB (fm i3 l1) q)));have NI:∀{ns:List Int},ns.length<=1->DY (.int ((ns.map T.int).length:Int)) (.int 2)=some (.sh (.bl true)):=fun{ns} h1=>by
  show some (R.sh (.bl (decide (((ns.map T.int).length:Int)<2))))=_;rw [decide_eq_true (by rw [length_map];omega)]
 by_cases hm:w = "map"
 ·subst hm;obtain⟨ps,rfl,B7⟩:=h.2.1 rfl;obtain⟨zG,e,dp⟩:=d.2 rfl;have e:=bC e;subst e;rw [length_map]at hl;obtain⟨s3,s4,s5,lp⟩:=EJ (w := "map") (s1:=.sh (.lst (ps.map aw))) aw (·.1) ps (by omega) fun p hp acc s4 s5 ha=>⟨_,_,JS (B7 p hp) acc ha⟩;obtain⟨k,c⟩:=B2 (w:=.str "map") (t:=.lst (ps.map aw)) (s3:=s3) (s4:=s4) (s5:=s5) (pairwise_map.mpr dp) (by rw [length_map];omega);exact⟨_,fin lp (aB rfl (j6 (by
   show(ba CB (ck _ aU)) _=_;exact Il (NZ c rfl) (all_true k))))⟩
 ·obtain⟨ns,rfl,vp⟩:=h.2.2.1 hm;rw [length_map]at hl;obtain⟨s3,s4,s5,lp⟩:=EJ (w:=w) (s1:=.sh (.lst (ns.map T.int))) T.int id ns (by omega) fun n hn acc s4 s5 ha=>⟨_,_,Nl hw hm (vp n hn) acc ha⟩;rw [map_id]at lp;have h1:=h.2.2.2;rw [length_map]at h1;rcases hw with rfl|rfl|rfl|rfl|rfl
  ·exact⟨_,fin lp (fC (fZ (Γ1:=[.sh (.str "most"),.sh (.lst (ns.map T.int)),.own (.lst (ns.map T.int)),s3,s4,s5]) rfl (j6 (br (r1:=.sh (.int ((ns.map T.int).length:Int))) (r2:=.sh (.int 2)) rfl rfl (NI (h1 (.inl rfl)))))))⟩
  ·obtain⟨GB,e,dn⟩:=d.1 rfl;have e:=fD e;subst e;obtain⟨k,c⟩:=B2 (w:=.str "set") (t:=.lst (ns.map T.int)) (s3:=s3) (s4:=s4) (s5:=s5) dn (by omega);exact⟨_,fin lp (aB rfl (j6 (by
    show(ba CB (ck _ aU)) _=_;exact Il (NZ c rfl) (all_true k))))⟩
  ·exact⟨_,fin lp (fC (fZ (Γ1:=[.sh (.str "once"),.sh (.lst (ns.map T.int)),.own (.lst (ns.map T.int)),s3,s4,s5]) rfl (j6 (br (r1:=.sh (.int ((ns.map T.int).length:Int))) (r2:=.sh (.int 2)) rfl rfl (NI (h1 (.inr rfl)))))))⟩
  ·exact⟨[.sh (.str "row"),.sh (.lst (ns.map T.int)),.own (.lst (ns.map T.int)),s3,s4,s5],fin lp (aB rfl (j6 rfl))⟩
  ·exact absurd rfl hm
theorem last_eq{α:Type}(xs:List α)(y:α):jU (xs++[y]) (-1)=some y:=by
 unfold jU;have z:Gz (xs++[y]).length (-1)=some xs.length:=by
  rw [length_append];unfold Gz;simp;omega
 rw [z];simp
theorem cK.xC{B:Nat}{w:Str}{ts:List T}(h:cK B w ts)(hm:¬w = "map")(h1:¬(w = "most" \/ w = "once")\/ts=[]){n:Int}(hn:Rg n):cK (B+1) w (ts++[.int n]):=by
 refine⟨by rw [length_append];have:=h.1;simp only [length_cons,length_nil];omega,fun e=>absurd e hm,fun _=>(h.2.2.1 hm).app (Q6 hn),fun e=>?_⟩;rcases h1 with h1|rfl
 ·exact absurd e h1
 ·simp
theorem cK.OB{B:Nat}{ts:List T}(h:cK B "map" ts){a b:Int}(ha:Rg a)(hb:Rg b):cK (B+1) "map" (ts++[.tup [.int a,.int b]]) :=
 ⟨by rw [length_append];have:=h.1;simp only [length_cons,length_nil];omega,fun _=>(h.2.1 rfl).app (Uy ha hb),fun e=>absurd rfl e,nD⟩
theorem Nm{w:Str}(hw:fU w){B:Nat}{ts:List T}(h:cK B w ts)(d:Sd w ts)(hb:B<=600):∃(vs:List T) (s2:Slot),cK (B+1) w vs/\Sd w vs/\cy [.sh (.str w),.own (.lst ts)]=some (.sh .cg,[.sh (.str w),.own (.lst vs),s2]):=by
 have hl:=h.1;have hsz:ts.length<sizeLine:=aG (by omega);have nn:=Q7 h;have qq:cK (B+1) w ts:=h.mono (by omega);have n5:Rg 5:=⟨by decide,by decide⟩;have n7:Rg 7:=⟨by decide,by decide⟩;rcases eq_nil_or_concat ts with rfl|⟨xs,y,rfl⟩
 ·rcases hw with rfl|rfl|rfl|rfl|rfl
  ·exact⟨_,_,h.xC (by decide) (.inr rfl) n5,B6 (by decide) (by decide),rfl⟩
  ·exact⟨_,_,h.xC (by decide) (.inr rfl) n5,⟨fun _=>⟨[5],rfl,pairwise_singleton _ _⟩,nD⟩,rfl⟩
  ·exact⟨_,_,h.xC (by decide) (.inr rfl) n5,B6 (by decide) (by decide),rfl⟩
  ·exact⟨_,_,h.xC (by decide) (.inr rfl) n5,B6 (by decide) (by decide),rfl⟩
  ·exact⟨_,_,h.OB n5 n7,⟨nD,fun _=>⟨[(5,7)],rfl,pairwise_singleton _ _⟩⟩,rfl⟩
 ·rw [concat_eq_append]at *;have hz:¬xs++[y]=[]:=by simp
  have JT:xs.length+1<sizeLine:=by simpa using hsz
  have eu:=last_eq xs y;rcases hw with rfl|rfl|rfl|rfl|rfl
  ·refine⟨_,.sh (.int 5),qq,d,?_⟩;simp [cy,eU,nn]
  ·obtain⟨ns,e,vp⟩:=h.2.2.1 (by decide);obtain⟨GB,e',dn⟩:=d.1 rfl;have z:=fD (e.symm.trans e');subst z;rcases eq_nil_or_concat ns with rfl|⟨ms,n,rfl⟩
   ·exact absurd e hz
   ·rw [concat_eq_append]at *;rw [map_append]at e;have ey:y=.int n:=(List.append_inj' e rfl).2|>fun q=>(List.cons.inj q).1;subst ey;have hr:=vp n (by simp);have h0:=hr.1;by_cases hg:999999999<n+1
    ·refine⟨_,.sh (.int (n+1)),qq,d,?_⟩;simp [cy,eU,nn,eF,BO,eu,hg]
    ·refine⟨_,.sh (.int (n+1)),h.xC (by decide) (.inl (by decide)) (n:=n+1) ⟨by omega,by omega⟩,⟨fun _=>⟨ms++[n]++[n+1],?_,?_⟩,nD⟩,?_⟩
     ·rw [e,map_append,map_append];rfl
     ·refine pairwise_append.mpr ⟨dn,pairwise_singleton _ _,fun a ha b hb=>?_⟩;rw [mem_singleton.mp hb];rcases mem_append.mp ha with q|q
      ·have:=(pairwise_append.mp dn).2.2 a q n (mem_singleton.mpr rfl);omega
      ·rw [mem_singleton.mp q];omega
     ·simp [cy,eU,nn,eF,BO,eu,hg,EC,JT]
  ·refine⟨_,.sh (.int 5),qq,d,?_⟩;simp [cy,eU,nn]
  ·refine⟨_,.sh (.int 5),h.xC (by decide) (.inl (by decide)) n5,B6 (by decide) (by decide),?_⟩;simp [cy,eU,nn,EC,JT]
  ·obtain⟨ps,e,B7⟩:=h.2.1 rfl;obtain⟨zG,e',dp⟩:=d.2 rfl;have z:=bC (e.symm.trans e');subst z;rcases eq_nil_or_concat ps with rfl|⟨qs,p,rfl⟩
   ·exact absurd e hz
   ·rw [concat_eq_append]at *;rw [map_append]at e;have ey:y=aw p:=(List.append_inj' e rfl).2|>fun q=>(List.cons.inj q).1;subst ey;have hr:=(B7 p (by simp)).1;have h0:=hr.1;have e0:jU [T.int p.1,.int p.2] 0=some (.int p.1):=rfl;by_cases hg:999999999<p.1+1
    ·refine⟨_,.sh (.int (p.1+1)),qq,d,?_⟩;simp only [aw]at eu nn;simp [cy,eU,nn,eF,BO,eu,hg,aw,e0]
    ·refine⟨_,.sh (.int (p.1+1)),h.OB (a:=p.1+1) ⟨by omega,by omega⟩ n7,⟨nD,fun _=>⟨qs++[p]++[(p.1+1,7)],?_,?_⟩⟩,?_⟩
     ·rw [e,map_append,map_append];rfl
     ·refine pairwise_append.mpr ⟨dp,pairwise_singleton _ _,fun a ha b hb=>?_⟩;rw [mem_singleton.mp hb];show a.1<p.1+1;rcases mem_append.mp ha with q|q
      ·have:=(pairwise_append.mp dp).2.2 a q p (mem_singleton.mpr rfl);omega
      ·rw [mem_singleton.mp q];omega
     ·simp only [aw]at eu nn;simp [cy,eU,nn,eF,BO,eu,hg,aw,e0,EC,JT]
def lO:Option (List T)->Slot
 |some vs=>.own (.lst vs)
 |none=>.sh .cg
def rdR(i:Nat):Option (List T)->R
 |some vs=>.bor i (.lst vs)
 |none=>.sh .cg
theorem ql(i:Nat)(r:Option (List T)):(rdR i r).tree=resT r:=by
 cases r<;>rfl
theorem zF{i:Nat}{m:MX}{Γ Γ1:G}{r:Option (List T)}(h:m Γ=some (iA r,Γ1)):bJ i m Γ=some (.nx (Γ1.set i (lO r))):=by
 cases r with
 |none=>exact tS h
 |some vs=>exact ja h
theorem Rn{w:Str}{B:Nat}{x y:List T}{r:Option (List T)}(j:jh w B x y r):jV (resT r) (resT r)=some (.sh (.bl false)):=by
 cases r with
 |none=>rfl
 |some vs=>exact vf (j.ok vs rfl).1
theorem jh.sw{w:Str}{B:Nat}{x y:List T}{r:Option (List T)}(j:jh w B x y r):jh w B y x r:=j.swap
abbrev gR(w:Str)(x y:List T)(a b c d:Slot):G:=[.sh (.obj (cJ w)),.sh (.str w),.sh (.lst x),.sh (.lst y),a,b,c,d]
abbrev gG(w:Str)(x y:List T)(a:Slot):G:=[.sh (.obj (cJ w)),.sh (.str w),.own (.lst x),.own (.lst y),a]
theorem JU{w:Str}(hw:fU w){B C:Nat}{x y:List T}(h:cK B w x)(h':cK C w y)(d:Sd w x)(d':Sd w y)(hb:B+C<300):∃Γ,iw [.sh (.obj (cJ w)),.sh (.str w),.own (.lst x),.own (.lst y)]=some (.sh (.bl true),Γ):=by
 obtain⟨v,s2,hv,dv,eg⟩:=Nm hw h d (by omega);obtain⟨r,Γj,ej,j⟩:=BZ hw hv h' dv d' (by omega);have g1:AY 2 cy (yy (mV 1) (yy (mV 2) Qi)) [.sh (.obj (cJ w)),.sh (.str w),.own (.lst x),.own (.lst y),.no]=some (.nx [.sh (.obj (cJ w)),.sh (.str w),.own (.lst v),.own (.lst y),.no]):=by
  simp [AY,yy,Qi,L6,N6,lJ,lG,eg]
 have g2:bJ 4 (ie 3 cx (ck (mV 1) (ck (mV 2) (ck (mV 3) aU)))) (gG w v y .no)=some (.nx (gG w v y (lO r))) :=
  zF (vh (np:=3) (ts:=[.str w,.lst v,.lst y]) (Γ1:=(gG w v y .no)) rfl rfl ej j.bor)
 have v4:mV 4 (gG w v y (lO r))=some (rdR 4 r,(gG w v y (lO r))):=by
  cases r<;>rfl
 have m3:=qk hw hv h' dv d' (by omega) j (mo:=mV 0) (ma:=ck (mV 2) (ck (mV 3) aU)) (Γ:=(gG w v y (lO r))) (Γ1:=(gG w v y (lO r))) (Γ2:=(gG w v y (lO r))) rfl rfl;have n3:=bO (br (g:=jV) m3 v4 (by rw [B1,ql];exact Rn j));have t1:=zD hw hv h' dv d' (by omega) j (mo:=mV 0) (ma:=ck (mV 2) (ck (mV 3) aU)) (me:=ah cO (mV 4) (mV 3)) (Γ:=(gG w v y (lO r))) rfl rfl (fun{b} g=>br v4 (r2:=.bor 3 (.lst y)) rfl (by rw [ql];exact g));have t2:=zD hw h' hv d' dv (by omega) j.sw (mo:=mV 0) (ma:=ck (mV 3) (ck (mV 2) aU)) (me:=ah cO (mV 4) (mV 2)) (Γ:=(gG w v y (lO r))) rfl rfl (fun{b} g=>br v4 (r2:=.bor 2 (.lst v)) rfl (by rw [ql];exact g));exact⟨_,om (aB g1 (aB g2 (aB (bA n3 rfl) (j6 (D8 t1 t2)))))⟩
def ac8:MS:=eE (ax (ah Le (mV 4) (mC .cg))) (eE (ax (ah D0 (mV 7) (mC .cg))) (aS 4 (mC (.bl false))) aN) (aL (eE (fw (fu (ax (ie 2 cP (ck (mV 1) (ck (mV 7) aU))))) (ax (ah jV (mV 7) (mV 4)))) (aS 4 (mC (.bl false))) aN) (aL (cU 7 (lH (aQ (mC (.int 7)) (aQ (mC (.int 7)) aU)))) (eE (ax (ah jV (tJ (mV 0) (ck (mV 5) (ck (mV 6) aU))) (mV 4))) (aS 4 (mC (.bl false))) aN)))
theorem Ro{w:Str}(hw:fU w){B C D:Nat}{x y:List T}{r:Option (List T)}(h:cK B w x)(h':cK C w y)(d:Sd w x)(d':Sd w y)(hb:B+C<300)(hD:D<300)(j:jh w D x y r):∃s7,ac8 (gR w x y (lO r) (.own (.lst x)) (.own (.lst y)) (lO r))=some (.nx (gR w x y (lO r) (.own (.lst x)) (.own (.lst y)) s7)):=by
 cases r with
 |none=>exact⟨.sh .cg,rfl⟩
 |some vs =>
  obtain⟨k1,k2,k3,k4⟩:=j.ok vs rfl;obtain⟨Γs,es⟩:=Gx hw k1 k2 (by omega);have hl:=k1.1;have c1:ie 2 cP (ck (mV 1) (ck (mV 7) aU)) (gR w x y (.own (.lst vs)) (.own (.lst x)) (.own (.lst y)) (.own (.lst vs)))=some (.sh (.bl true),(gR w x y (.own (.lst vs)) (.own (.lst x)) (.own (.lst y)) (.own (.lst vs)))):=vh (np:=2) (ts:=[.str w,.lst vs]) rfl rfl es rfl;have c2:=bO (br (g:=jV) (ma:=mV 7) (mb:=mV 4) (Γ:=(gR w x y (.own (.lst vs)) (.own (.lst x)) (.own (.lst y)) (.own (.lst vs)))) (r1:=.bor 7 (.lst vs)) (r2:=.bor 4 (.lst vs)) rfl rfl (vf k1));have c3:cU 7 (lH (aQ (mC (.int 7)) (aQ (mC (.int 7)) aU))) (gR w x y (.own (.lst vs)) (.own (.lst x)) (.own (.lst y)) (.own (.lst vs)))=some (.nx (gR w x y (.own (.lst vs)) (.own (.lst x)) (.own (.lst y)) (.own (.lst (vs++[.tup [.int 7,.int 7]]))))):=tV (i:=7) (us:=vs) (ts:=vs) rfl (r:=.sh (.tup [.int 7,.int 7])) (Γ1:=(gR w x y (.own (.lst vs)) (.own (.lst x)) (.own (.lst y)) (.own (.lst vs)))) rfl rfl (aG (by omega));have c4:=qk hw h h' d d' (by omega) j (mo:=mV 0) (ma:=ck (mV 5) (ck (mV 6) aU)) (Γ:=(gR w x y (.own (.lst vs)) (.own (.lst x)) (.own (.lst y)) (.own (.lst (vs++[.tup [.int 7,.int 7]]))))) (Γ1:=(gR w x y (.own (.lst vs)) (.own (.lst x)) (.own (.lst y)) (.own (.lst (vs++[.tup [.int 7,.int 7]]))))) (Γ2:=(gR w x y (.own (.lst vs)) (.own (.lst x)) (.own (.lst y)) (.own (.lst (vs++[.tup [.int 7,.int 7]]))))) rfl rfl;have c5:=bO (br (g:=jV) (mb:=mV 4) c4 (r2:=.bor 4 (.lst vs)) rfl (vf k1));exact⟨_,bA (bO (b:=false) (Γ1:=(gR w x y (.own (.lst vs)) (.own (.lst x)) (.own (.lst y)) (.own (.lst vs)))) rfl) (aB (bA (jl (b:=false) (j7 (b:=true) (bO c1)) c2) rfl) (aB c3 (bA c5 rfl)))⟩
theorem JV{w:Str}(hw:fU w){x y:List T}(h:cK 83 w x)(h':cK 83 w y)(d:Sd w x)(d':Sd w y):∃Γ,dN [.sh (.obj (cJ w)),.sh (.str w),.sh (.lst x),.sh (.lst y)]=some (.sh (.bl true),Γ):=by
 obtain⟨r,Γj,ej,j⟩:=BZ hw h h' d d' (by decide);obtain⟨s7,g5⟩:=Ro hw h h' d d' (by decide) (by decide) j;obtain⟨Γg,eg⟩:=JU hw h h' d d' (by decide);obtain⟨Γc,ec⟩:=JQ hw;have g1:bJ 4 (ie 3 cx (ck (mV 1) (ck (mV 2) (ck (mV 3) aU)))) (gR w x y .no .no .no .no)=some (.nx (gR w x y (lO r) .no .no .no)) :=
  zF (vh (np:=3) (ts:=[.str w,.lst x,.lst y]) (Γ1:=(gR w x y .no .no .no .no)) rfl rfl ej j.bor)
 have g2:bJ 5 (ba fM (ck (mV 2) aU)) (gR w x y (lO r) .no .no .no)=some (.nx (gR w x y (lO r) (.own (.lst x)) .no .no)):=rfl;have g3:bJ 6 (ba fM (ck (mV 3) aU)) (gR w x y (lO r) (.own (.lst x)) .no .no)=some (.nx (gR w x y (lO r) (.own (.lst x)) (.own (.lst y)) .no)):=rfl;have g4:bJ 7 (tJ (mV 0) (ck (mV 5) (ck (mV 6) aU))) (gR w x y (lO r) (.own (.lst x)) (.own (.lst y)) .no)=some (.nx (gR w x y (lO r) (.own (.lst x)) (.own (.lst y)) (lO r))) :=
  zF (qk hw h h' d d' (by decide) j (Γ1:=(gR w x y (lO r) (.own (.lst x)) (.own (.lst y)) .no)) (Γ2:=(gR w x y (lO r) (.own (.lst x)) (.own (.lst y)) .no)) rfl rfl)
 have v4:mV 4 (gR w x y (lO r) (.own (.lst x)) (.own (.lst y)) s7)=some (rdR 4 r,(gR w x y (lO r) (.own (.lst x)) (.own (.lst y)) s7)):=by
  cases r<;>rfl
 have t1:=zD hw h h' d d' (by decide) j (mo:=mV 0) (ma:=ck (mV 5) (ck (mV 6) aU)) (me:=ah cO (mV 4) (mV 3)) (Γ:=(gR w x y (lO r) (.own (.lst x)) (.own (.lst y)) s7)) rfl rfl (fun{b} g=>br v4 (r2:=.sh (.lst y)) rfl (by rw [ql];exact g));have t2:=zD hw h' h d' d (by decide) j.sw (mo:=mV 0) (ma:=ck (mV 6) (ck (mV 5) aU)) (me:=ah cO (mV 4) (mV 2)) (Γ:=(gR w x y (lO r) (.own (.lst x)) (.own (.lst y)) s7)) rfl rfl (fun{b} g=>br v4 (r2:=.sh (.lst x)) rfl (by rw [ql];exact g));have n1:=bO (br (g:=jV) (ma:=mV 5) (mb:=mV 2) (Γ:=(gR w x y (lO r) (.own (.lst x)) (.own (.lst y)) s7)) (r1:=.bor 5 (.lst x)) (r2:=.sh (.lst x)) rfl rfl (vf h));have n2:=bO (br (g:=jV) (ma:=mV 6) (mb:=mV 3) (Γ:=(gR w x y (lO r) (.own (.lst x)) (.own (.lst y)) s7)) (r1:=.bor 6 (.lst y)) (r2:=.sh (.lst y)) rfl rfl (vf h'));have cl:=Gv hw (mo:=mV 0) (Γ:=(gR w x y (lO r) (.own (.lst x)) (.own (.lst y)) s7)) rfl;have nw:jV (.str w) (.str w)=some (.sh (.bl false)):=by
  rcases hw with rfl|rfl|rfl|rfl|rfl<;>rfl
 have n3:=bO (br (g:=jV) (mb:=mV 1) cl (r2:=.sh (.str w)) rfl nw);have n4:=bO (jb (np:=2) (cf:=dS) (n:=aQ (mV 0) (aQ (mV 1) aU)) (ts:=[.obj (cJ w),.str w]) (Γ:=(gR w x y (lO r) (.own (.lst x)) (.own (.lst y)) s7)) (Γ1:=(gR w x y (lO r) (.own (.lst x)) (.own (.lst y)) s7)) rfl rfl ec);have g8:∃Γ,A7 4 iw (yy (mV 0) (yy (mV 1) (yy (mV 5) (yy (mV 6) Qi)))) (gR w x y (lO r) (.own (.lst x)) (.own (.lst y)) s7)=some (.rt (.sh (.bl true)) Γ):=by
  refine⟨lG [.v (.obj (cJ w)),.v (.str w),.l 5,.l 6] (Γg.take 4) 0 (gR w x y (lO r) (.own (.lst x)) (.own (.lst y)) s7),?_⟩;have a:yy (mV 0) (yy (mV 1) (yy (mV 5) (yy (mV 6) Qi))) (gR w x y (lO r) (.own (.lst x)) (.own (.lst y)) s7)=some ([.v (.obj (cJ w)),.v (.str w),.l 5,.l 6],(gR w x y (lO r) (.own (.lst x)) (.own (.lst y)) s7)):=rfl;unfold A7;rw [a];dsimp only [Option.bind];rw [if_pos ⟨rfl,rfl⟩];have e:([.v (.obj (cJ w)),.v (.str w),.l 5,.l 6]:List Ag).map (L6 (gR w x y (lO r) (.own (.lst x)) (.own (.lst y)) s7))=[.sh (.obj (cJ w)),.sh (.str w),.own (.lst x),.own (.lst y)]:=rfl;rw [e,eg];rfl
 obtain⟨Γe,g8⟩:=g8;exact⟨_,om (aB g1 (aB g2 (aB g3 (aB g4 (aB g5 (aB (bA (jl (b:=false) (j7 (b:=true) (bO t1)) (j7 (b:=true) (bO t2))) rfl) (aB (bA (jl n1 (jl n2 (jl n3 (j7 (b:=true) n4)))) rfl) g8)))))))⟩
theorem JW(c:Int):∃w,fU w/\jU ([.str "most", .str "set", .str "once", .str "row", .str "map"]:List T) (c % 5)=some (.str w):=by
 obtain⟨wt,hwt,hw⟩:=Jz (xs:=([.str "most", .str "set", .str "once", .str "row", .str "map"]:List T)) (i:=c % 5) (by omega) (by show c % 5<5;omega);simp only [mem_cons,not_mem_nil,or_false]at hwt;rcases hwt with rfl|rfl|rfl|rfl|rfl
 ·exact⟨_,.inl rfl,hw⟩
 ·exact⟨_,.inr (.inl rfl),hw⟩
 ·exact⟨_,.inr (.inr (.inl rfl)),hw⟩
 ·exact⟨_,.inr (.inr (.inr (.inl rfl))),hw⟩
 ·exact⟨_,.inr (.inr (.inr (.inr rfl))),hw⟩
theorem Xm(x0 x1 x2 x3 x4 x5:Int):jU [T.int x0,.int x1,.int x2,.int x3,.int x4,.int x5] 0=some (.int x0)/\jU [T.int x0,.int x1,.int x2,.int x3,.int x4,.int x5] 1=some (.int x1)/\jU [T.int x0,.int x1,.int x2,.int x3,.int x4,.int x5] 2=some (.int x2)/\jU [T.int x0,.int x1,.int x2,.int x3,.int x4,.int x5] 3=some (.int x3)/\jU [T.int x0,.int x1,.int x2,.int x3,.int x4,.int x5] 4=some (.int x4)/\jU [T.int x0,.int x1,.int x2,.int x3,.int x4,.int x5] 5=some (.int x5):=⟨rfl,rfl,rfl,rfl,rfl,rfl⟩
theorem EK{q:Nat}{Γ:G}{l:List T}{i j:Int}{xi xj:Int}{k:Nat}{ys:List Int}{Γy:G}(hv:mV q Γ=some (.bor q (.lst l),Γ))(hi:jU l i=some (.int xi))(hj:jU l j=some (.int xj))(hsz:bM [.sh (.int xj)]=some (.sh (.int k),[.sh (.int xj)]))(hy:bp [.sh (.int xi),.sh (.int (2*(k:Int)))]=some (.own (.lst (ys.map T.int)),Γy)):
  aE 2 bp (aQ (ah eF (mV q) (mC (.int i))) (aQ (ah fL (mC (.int 2)) (aE 1 bM (aQ (ah eF (mV q) (mC (.int j))) aU))) aU)) Γ=some (.own (.lst (ys.map T.int)),Γ):=by
 have gi:eF (.lst l) (.int i)=some (.sh (.int xi)):=by
  show(jU l i).map R.sh=_;rw [hi];rfl
 have gj:eF (.lst l) (.int j)=some (.sh (.int xj)):=by
  show(jU l j).map R.sh=_;rw [hj];rfl
 have a1:aE 1 bM (aQ (ah eF (mV q) (mC (.int j))) aU) Γ=some (.sh (.int k),Γ):=jb (np:=1) (ts:=[.int xj]) (oh (r:=.sh (.int xj)) (br (r1:=.bor q (.lst l)) (r2:=.sh (.int j)) hv rfl gj) rfl) rfl hsz;have a2:aQ (ah eF (mV q) (mC (.int i))) (aQ (ah fL (mC (.int 2)) (aE 1 bM (aQ (ah eF (mV q) (mC (.int j))) aU))) aU) Γ=some ([.int xi,.int (2*(k:Int))],Γ) :=
  oh (r:=.sh (.int xi)) (br (r1:=.bor q (.lst l)) (r2:=.sh (.int i)) hv rfl gi) (oh (r:=.sh (.int (2*(k:Int)))) (br (r1:=.sh (.int 2)) (r2:=.sh (.int k)) rfl a1 (QY rfl)) rfl)
 exact tT (np:=2) (cf:=bp) (ts:=[.int xi,.int (2*(k:Int))]) a2 rfl hy
abbrev gP(c:Int)(w:Str)(p q r s t u:Int)(a b d:Slot):G:=[.sh (.int c),.sh (.str w),.own (.lst [.int p,.int q,.int r,.int s,.int t,.int u]),a,b,d]
theorem Nn(c:Int):∃(w:Str) (ts us:List T) (Γ:G),fU w/\cK 83 w ts/\cK 83 w us/\Sd w ts/\Sd w us/\hE [.sh (.int c)]=some (.sh (.tup [.str w,.lst ts,.lst us]),Γ):=by
 obtain⟨w,h5,hw⟩:=JW c;obtain⟨xs,Γx,hxl,hxr,hx⟩:=qW (c / 5) 6 (by decide)
 match xs,hxl,hx with
 |[x0,x1,x2,x3,x4,x5],_,hx =>
 obtain⟨k,hk,hsz⟩:=size_eq x1;obtain⟨k',UU,JT⟩:=size_eq x4;obtain⟨ys,Γy,hyl,hyr,hy⟩:=qW x0 (2*k) (by omega);obtain⟨zs,Γz,hzl,hzr,hz⟩:=qW x3 (2*k') (by omega);have e:((2*k:Nat):Int)=2*(k:Int):=by omega
 have e':((2*k':Nat):Int)=2*(k':Int):=by omega
 rw [e]at hy;rw [e']at hz;obtain⟨ts,Γt,RR,UC,et⟩:=BV w h5 ys (by omega);have RR:=RR.mono (B':=41) (by omega);obtain⟨us,Γu,Na,RQ,eu⟩:=JE h5 RR UC (by decide) (by decide) x2 zs (by omega);obtain⟨a0,a1,a2,a3,a4,a5⟩:=Xm x0 x1 x2 x3 x4 x5;have UD:=RR.mono (B':=83) (by decide);have g1:bJ 1 (ah eF (eA (aQ (mC (.str "most")) (aQ (mC (.str "set")) (aQ (mC (.str "once")) (aQ (mC (.str "row")) (aQ (mC (.str "map")) aU)))))) (ah gu (mV 0) (mC (.int 5)))) [.sh (.int c),.no,.no,.no,.no,.no]=some (.nx [.sh (.int c),.sh (.str w),.no,.no,.no,.no]):=by
  simp [eF,hw]
 have g2:bJ 2 (aE 2 bp (aQ (ah rV (mV 0) (mC (.int 5))) (aQ (mC (.int 6)) aU))) [.sh (.int c),.sh (.str w),.no,.no,.no,.no]=some (.nx (gP c w x0 x1 x2 x3 x4 x5 .no .no .no)):=by
  have hx:bp [.sh (.int (c / 5)),.sh (.int 6)]=some (.own (.lst [.int x0,.int x1,.int x2,.int x3,.int x4,.int x5]),Γx):=hx;simp [gP,hx]
 have m3:=EK (q:=2) (Γ:=(gP c w x0 x1 x2 x3 x4 x5 .no .no .no)) (i:=0) (j:=1) rfl a0 a1 hsz hy;have m3':aQ (mV 1) (aQ (aE 2 bp (aQ (ah eF (mV 2) (mC (.int 0))) (aQ (ah fL (mC (.int 2)) (aE 1 bM (aQ (ah eF (mV 2) (mC (.int 1))) aU))) aU))) aU) (gP c w x0 x1 x2 x3 x4 x5 .no .no .no)=some ([.str w,.lst (ys.map T.int)],(gP c w x0 x1 x2 x3 x4 x5 .no .no .no)):=oh (Γ:=(gP c w x0 x1 x2 x3 x4 x5 .no .no .no)) (r:=.sh (.str w)) (Γ1:=(gP c w x0 x1 x2 x3 x4 x5 .no .no .no)) rfl (oh m3 rfl);have g3:bJ 3 (aE 2 fc (aQ (mV 1) (aQ (aE 2 bp (aQ (ah eF (mV 2) (mC (.int 0))) (aQ (ah fL (mC (.int 2)) (aE 1 bM (aQ (ah eF (mV 2) (mC (.int 1))) aU))) aU))) aU))) (gP c w x0 x1 x2 x3 x4 x5 .no .no .no)=some (.nx (gP c w x0 x1 x2 x3 x4 x5 (.own (.lst ts)) .no .no)):=ja (tT (np:=2) (cf:=fc) (ts:=[.str w,.lst (ys.map T.int)]) m3' rfl et);have m4:=EK (q:=2) (Γ:=(gP c w x0 x1 x2 x3 x4 x5 (.own (.lst ts)) .no .no)) (i:=3) (j:=4) rfl a3 a4 JT hz;have g4:bJ 4 (aE 2 bp (aQ (ah eF (mV 2) (mC (.int 3))) (aQ (ah fL (mC (.int 2)) (aE 1 bM (aQ (ah eF (mV 2) (mC (.int 4))) aU))) aU))) (gP c w x0 x1 x2 x3 x4 x5 (.own (.lst ts)) .no .no)=some (.nx (gP c w x0 x1 x2 x3 x4 x5 (.own (.lst ts)) (.own (.lst (zs.map T.int))) .no)):=ja m4;have g5:bJ 5 (aE 4 cw (aQ (mV 1) (aQ (mV 3) (aQ (ah eF (mV 2) (mC (.int 2))) (aQ (mV 4) aU))))) (gP c w x0 x1 x2 x3 x4 x5 (.own (.lst ts)) (.own (.lst (zs.map T.int))) .no)=some (.nx (gP c w x0 x1 x2 x3 x4 x5 (.sh (.lst ts)) (.sh (.lst (zs.map T.int))) (.own (.lst us)))):=by
  simp [gP,eF,a2,eu]
 have ends:∀b:Bool,decide (x5 % 2=1)=b->∃(UE UG:List T) (Γ:G),cK 83 w UE/\cK 83 w UG/\Sd w UE/\Sd w UG/\aL (eE (ax (ah cO (ah gu (ah eF (mV 2) (mC (.int 5))) (mC (.int 2))) (mC (.int 1)))) (aS 1 (lH (aQ (mV 1) (aQ (mV 5) (aQ (mV 3) aU))))) aN) (aS 1 (lH (aQ (mV 1) (aQ (mV 3) (aQ (mV 5) aU))))) (gP c w x0 x1 x2 x3 x4 x5 (.sh (.lst ts)) (.sh (.lst (zs.map T.int))) (.own (.lst us)))=some (.rt (.sh (.tup [.str w,.lst UE,.lst UG])) Γ):=by
  intro b hb
  cases b with
  |true =>
   have h2:=of_decide_eq_true hb;refine⟨us,ts,(gP c w x0 x1 x2 x3 x4 x5 (.sh (.lst ts)) (.sh (.lst (zs.map T.int))) (.sh (.lst us))),Na,UD,RQ,UC,?_⟩;simp [gP,eF,a5,h2]
  |false =>
   have h2:=of_decide_eq_false hb;refine⟨ts,us,(gP c w x0 x1 x2 x3 x4 x5 (.sh (.lst ts)) (.sh (.lst (zs.map T.int))) (.sh (.lst us))),UD,Na,UC,RQ,?_⟩;simp [gP,eF,a5,h2]
 obtain⟨UE,UG,Γe,hA,hB,dA,dB,ee⟩:=ends _ rfl;exact⟨w,UE,UG,_,h5,hA,hB,dA,dB,om (aB g1 (aB g2 (aB g3 (aB g4 (aB g5 ee)))))⟩
theorem JX(ns:List Int)(hl:ns.length<=70):∃(cs:List Int) (Γ:G),gk [.sh (.lst (ns.map T.int)),.sh (.int 45)]=some (.own (.lst (cs.map T.int)),Γ):=by
 refine⟨(ns.take 45).map fun c=>c % 10 ^ 40,[.sh (.lst (ns.map T.int)),.sh (.int 45)],gc (fY (Γ1:=[.sh (.lst (ns.map T.int)),.sh (.int 45)]) ?_)⟩;have e1:rq (yg (mV 0) tQ (pS (mV 1))) [.sh (.lst (ns.map T.int)),.sh (.int 45)]=some ((ns.take 45).map T.int,[.sh (.lst (ns.map T.int)),.sh (.int 45)]):=by
  have z:=lj (ns.map T.int) 45;rw [<-map_take]at z;rw [<-z];rfl
 have z:=qg (cap:=[none]) (b:=aM 0) (me:=ah gu (mV 0) (ah Ct (mC (.int 10)) (mC (.int 40)))) (f:=fun t=>match t with | .int x=>T.int (x % 10 ^ 40)|t=>t) e1 (fun t ht=>by
  obtain⟨x,hx,rfl⟩:=mem_map.mp ht;exact⟨[.sh (.int x)],.sh (.int (x % 10 ^ 40)),[.sh (.int x)],rfl,br rfl (r2:=.sh (.int (10 ^ 40))) rfl (Oe (by decide)),rfl⟩) (by rw [length_map,length_take];omega)
 have e2:(((ns.take 45).map T.int).map fun t=>match t with | .int x=>T.int (x % 10 ^ 40)|t=>t)=((ns.take 45).map fun c=>c % 10 ^ 40).map T.int:=by
  rw [map_map,map_map];rfl
 rw [e2]at z;exact z
abbrev gC(s:Slot)(c:Int)(w:Str)(x y:List T):G:=[s,.sh (.int c),.sh (.str w),.sh (.lst x),.sh (.lst y)]
def OC:MS:=aL (xZ (j4 3 (bW (aM 2) (bW (aM 3) (bW (aM 4) j3)))) (aE 1 hE (aQ (mV 1) aU))) (eE (fw (fu (ax (aE 4 dN (aQ (aE 1 iR (aQ (mV 2) aU)) (aQ (mV 2) (aQ (mV 3) (aQ (mV 4) aU))))))) (fu (ax (aE 4 dN (aQ (aE 1 iT (aQ (mV 2) aU)) (aQ (mV 2) (aQ (mV 3) (aQ (mV 4) aU)))))))) (aS 1 (mC (.bl false))) aN)
theorem Np(c:Int)(s0 s2 s3 s4:Slot):∃s2' s3' B8,OC [s0,.sh (.int c),s2,s3,s4]=some (.nx [s0,.sh (.int c),s2',s3',B8]):=by
 obtain⟨w,ts,us,Γp,h5,RR,Na,UC,RQ,ep⟩:=Nn c;obtain⟨Γr,er⟩:=JV h5 RR Na UC RQ;have g1:xZ (j4 3 (bW (aM 2) (bW (aM 3) (bW (aM 4) j3)))) (aE 1 hE (aQ (mV 1) aU)) [s0,.sh (.int c),s2,s3,s4]=some (.nx (gC s0 c w ts us)):=by
  simp [ep]
 have k1:aE 1 iR (aQ (mV 2) aU) (gC s0 c w ts us)=some (.sh (.obj (cJ w)),(gC s0 c w ts us)):=jb (np:=1) (ts:=[.str w]) rfl rfl (JR h5);have k2:aE 1 iT (aQ (mV 2) aU) (gC s0 c w ts us)=some (.sh (.obj (cJ w)),(gC s0 c w ts us)):=jb (np:=1) (ts:=[.str w]) rfl rfl (Nk h5);have a:∀{m:MX},m (gC s0 c w ts us)=some (.sh (.obj (cJ w)),(gC s0 c w ts us))->aE 4 dN (aQ m (aQ (mV 2) (aQ (mV 3) (aQ (mV 4) aU)))) (gC s0 c w ts us)=some (.sh (.bl true),(gC s0 c w ts us)):=fun{m} k =>
  jb (np:=4) (ts:=[.obj (cJ w),.str w,.lst ts,.lst us]) (oh (r:=.sh (.obj (cJ w))) k rfl) rfl er
 exact⟨_,_,_,aB g1 (bA (jl (b:=false) (j7 (b:=true) (bO (a k1))) (j7 (b:=true) (bO (a k2)))) rfl)⟩
theorem JY(ns:List Int)(hl:ns.length<=63):∃Γ,yB [.sh (.lst (ns.map T.int))]=some (.sh (.bl true),Γ):=by
 obtain⟨cs,Γc,hc⟩:=JX ([0,1,2,3,4]++ns) (by rw [length_append];show 5+_<=_;omega);rw [map_append]at hc;have ct:cz (.lst [.int 0,.int 1,.int 2,.int 3,.int 4]) (.lst (ns.map T.int))=some (.own (.lst ([0,1,2,3,4].map T.int++ns.map T.int))):=iY (by rw [length_map];show 5+_<=_;omega);have h0:rq (aE 2 gk (aQ (ah cz (eA (aQ (mC (.int 0)) (aQ (mC (.int 1)) (aQ (mC (.int 2)) (aQ (mC (.int 3)) (aQ (mC (.int 4)) aU)))))) (mV 0)) (aQ (mC (.int 45)) aU))) [.sh (.lst (ns.map T.int)),.no,.no,.no,.no]=some (cs.map T.int,[.sh (.lst (ns.map T.int)),.no,.no,.no,.no]):=by
  have a:ah cz (eA (aQ (mC (.int 0)) (aQ (mC (.int 1)) (aQ (mC (.int 2)) (aQ (mC (.int 3)) (aQ (mC (.int 4)) aU)))))) (mV 0) [.sh (.lst (ns.map T.int)),.no,.no,.no,.no]=some (.own (.lst ([0,1,2,3,4].map T.int++ns.map T.int)),[.sh (.lst (ns.map T.int)),.no,.no,.no,.no]):=br rfl rfl ct;have b:=tT (np:=2) (cf:=gk) (n:=aQ (ah cz (eA (aQ (mC (.int 0)) (aQ (mC (.int 1)) (aQ (mC (.int 2)) (aQ (mC (.int 3)) (aQ (mC (.int 4)) aU)))))) (mV 0)) (aQ (mC (.int 45)) aU)) (oh a rfl) rfl hc;unfold rq;rw [b];rfl
 obtain⟨Γ',h1,s1,s2,s3,s4,rfl⟩:=lu (b:=aM 1) (m:=OC) (fun _ Γ=>∃s1 s2 s3 s4,Γ=[.sh (.lst (ns.map T.int)),s1,s2,s3,s4]) (cs.map T.int) 0 [.sh (.lst (ns.map T.int)),.no,.no,.no,.no] ⟨_,_,_,_,rfl⟩ (by
  rintro i t Γ ht ⟨s1,s2,s3,s4,rfl⟩;obtain⟨c,_,rfl⟩:=mem_map.mp (mem_of_getElem? ht);obtain⟨a2,a3,a4,e⟩:=Np c (.sh (.lst (ns.map T.int))) s2 s3 s4;exact⟨_,_,rfl,e,_,_,_,_,rfl⟩)
 exact⟨_,om (aB (fm h0 h1) (j6 rfl))⟩
end LW
noncomputable section
namespace HQ
open PySem PySem.W
variable (P:Params)
abbrev R(a:Addr):Value:=.ref a
abbrev S(x:Str)(n:Nat):Value:=.str x n
abbrev I(x:Int)(n:Nat):Value:=.int x n
abbrev N(o:Obj)(l r:BT):BT:=.node o l r
abbrev Z:BT:=.nil
abbrev Ty(x:String):Value:=.type x
abbrev Bi(x:String):Value:=.builtin x
abbrev E(x:Str)(n:Nat)(v:Value):DictEntry:=⟨PyData.keyHash P x,.str x n,v⟩
def stN:List Stmt->Nat->Stmt
 |x::_,0=>x
 |_::l,n+1=>stN l n
 |[],_=>.Pass ⟨0,0,0,0⟩
def fA:Stmt->Arguments
 |.FunctionDef _ a ..=>a
 |_=>⟨[],[],none,[],[],none,[]⟩
def fB:Stmt->List Stmt
 |.FunctionDef _ _ b ..=>b
 |_=>[]
def cB:Stmt->List Stmt
 |.ClassDef _ _ _ b ..=>b
 |_=>[]
def fS:Stmt->Scope
 |.FunctionDef _ _ _ _ _ _ s ..=>s
 |_=>default
abbrev Fn(x q:Str)(s:Stmt)(g:Addr)(m c:Value):Obj:={cls:=Ty "function",data:=Data.func {name:=x,qualname:=q,params:=fA s,body:=.stmts (fB s),scope:=fS s,globals:=g,closure:=[],defaults:=Value.none,kwdefaults:=Value.none,pyModule:=m,code:=c}}
abbrev Fz(x q:Str)(s:Stmt):Obj:={cls:=Value.none,data:=Data.func {name:=x,qualname:=q,params:=fA s,body:=.stmts (fB s),scope:=fS s,globals:=0,closure:=[],defaults:=Value.none,kwdefaults:=Value.none}}
abbrev Co(a:Str)(n:Nat)(b:Str)(n2 n3:Nat)(l c f:Int)(r:Nat)(k:Bool)(r2:Nat)(v1 v2 v3 v4:Value)(t:Int)(n4:Nat):Obj:={cls:=Ty "code",data:=Data.fields #[S a n,S b n2,S "/claim/cut.py" n3,I l 0,I c 0,I 0 0,I 0 0,I f 0,R r,Value.bool k,I 181 0,R r2,v1,v2,v3,v4,I t 0,I l 0,S "/claim/cut.py" n4]}
abbrev Di(l:List DictEntry)(n:Nat):Obj:={cls:=Ty "dict",data:=Data.dict (List.toArray l) n}
abbrev Lf(o:Obj):BT:=.node o .nil .nil
abbrev Tp(l:Array Value):Obj:={cls:=Ty "tuple",data:=Data.seq l}
abbrev Nf(l:Array Value):Obj:={cls:=Value.none,data:=Data.fields l}
abbrev ka:Value:=S "surejoin.kinds" 194
abbrev kb:Value:=S "law_surejoin_k02_joined" 519
abbrev kc:Value:=Bi "object.__new__"
abbrev kd:Value:=S "Kind" 204
abbrev ke:Value:=S "Kind" 196
def B:List Stmt:=PySem.Challenge.pw_surejoin_k02_joined.main.body
def s2_2:Stmt:=stN (cB (stN B 2)) 2
def s2_0:Stmt:=stN (cB (stN B 2)) 0
def s0:Stmt:=stN B 0
def s2_1:Stmt:=stN (cB (stN B 2)) 1
def s2_3:Stmt:=stN (cB (stN B 2)) 3
def s3_0:Stmt:=stN (cB (stN B 3)) 0
def s3_2:Stmt:=stN (cB (stN B 3)) 2
def s3_3:Stmt:=stN (cB (stN B 3)) 3
def s3_1:Stmt:=stN (cB (stN B 3)) 1
def s4_2:Stmt:=stN (cB (stN B 4)) 2
def s4_0:Stmt:=stN (cB (stN B 4)) 0
def s4_3:Stmt:=stN (cB (stN B 4)) 3
def s4_1:Stmt:=stN (cB (stN B 4)) 1
def s5_2:Stmt:=stN (cB (stN B 5)) 2
def s5_0:Stmt:=stN (cB (stN B 5)) 0
def s5_3:Stmt:=stN (cB (stN B 5)) 3
def s5_1:Stmt:=stN (cB (stN B 5)) 1
def s6_0:Stmt:=stN (cB (stN B 6)) 0
def s6_2:Stmt:=stN (cB (stN B 6)) 2
def s6_3:Stmt:=stN (cB (stN B 6)) 3
def s6_1:Stmt:=stN (cB (stN B 6)) 1
def s7_4:Stmt:=stN (cB (stN B 7)) 4
def s7_0:Stmt:=stN (cB (stN B 7)) 0
def s7_2:Stmt:=stN (cB (stN B 7)) 2
def s7_3:Stmt:=stN (cB (stN B 7)) 3
def s7_1:Stmt:=stN (cB (stN B 7)) 1
def s11:Stmt:=stN B 11
def s21:Stmt:=stN B 21
def s13:Stmt:=stN B 13
def s17:Stmt:=stN B 17
def s19:Stmt:=stN B 19
def s8:Stmt:=stN B 8
def s15:Stmt:=stN B 15
def s16:Stmt:=stN B 16
def s18:Stmt:=stN B 18
def s12:Stmt:=stN B 12
def s10:Stmt:=stN B 10
def s14:Stmt:=stN B 14
def s20:Stmt:=stN B 20
def s23:Stmt:=stN B 23
def s27:Stmt:=stN B 27
def s25:Stmt:=stN B 25
def s26:Stmt:=stN B 26
def s28:Stmt:=stN B 28
def s22:Stmt:=stN B 22
def s24:Stmt:=stN B 24
def q0:Obj:={cls:=Ty "builtin_function_or_method",data:=Data.fields #[Bi "object.__init_subclass__",R 59]}
def q1:Obj:=Tp #[S "self" 211,S "one" 212,S "other" 213]
def q2:Obj:=Fz "gives" "Kind.gives" s2_2
def q3:Obj:=Tp #[]
abbrev ya:BT:=Lf q3
def q4:Obj:=Co "seen" 237 "Kind.seen" 238 239 16 4 3 50 true 51 .none (R 52) (R 53) (R 54) 244 245
def q5:Obj:={cls:=Ty "builtin_function_or_method",data:=Data.fields #[Bi "type.__prepare__",Ty "type"]}
def q6:Obj:=Fn "under" "Kind.under" s2_0 3 ka (R 34)
def q7:Obj:=Nf #[]
abbrev yb:BT:=Lf q7
def q8:Obj:=Fz "_wall" "_wall" s0
def q9:Obj:={cls:=Ty "type",data:=Data.cls {name:="Kind",bases:=[Ty "object"],mro:=[R 59,Ty "object"],ns:=58,qualname:="Kind"},slots:=#[none,none,some ke,some kd,some kc,some (Value.bool true)]}
def q10:Obj:=Co "Kind" 198 "Kind" 199 200 5 0 0 25 false 26 .none .none .none .none 201 202
def e0 (l : List DictEntry) : List DictEntry := E P "__name__" 165 ka::E P "__doc__" 166 (Value.none)::E P "__package__" 167 (Value.none)::E P "__loader__" 168 (Bi "__main__.__loader__#opaque")::E P "__spec__" 169 (Value.none)::E P "__annotations__" 170 (R 6)::E P "__builtins__" 171 (R 4)::E P "__file__" 173 (S "/claim/cut.py" 172)::E P "__cached__" 174 (Value.none)::E P "_wall" 193 (R 21)::E P "Kind" 254 (R 59)::l
def q11:Obj:=Di (e0 P []) 11
def q12:Obj:=Fz "under" "Kind.under" s2_0
def q13:Obj:=Fn "gives" "Kind.gives" s2_2 3 ka (R 48)
def q14:Obj:=Tp #[S "k" 190]
def q15:Obj:=Co "passes" 217 "Kind.passes" 218 219 10 4 3 36 true 37 .none (R 38) (R 39) (R 40) 224 225
def q16:Obj:=Fn "_wall" "_wall" s0 3 (S "__main__" 164) (R 20)
def q17:Obj:=Tp #[S "self" 230,S "state" 231,S "word" 232,S "n" 233]
def q18:Obj:={cls:=Ty "getset_descriptor",data:=Data.fields #[S "__weakref__" 250,R 59,Bi "ExceptionGroup.__weakref__",Value.none]}
def q19:Obj:=Co "<module>" 182 "<module>" 183 184 1 0 0 11 false 12 .none .none .none .none 185 186
def q20:Obj:=Co "gives" 227 "Kind.gives" 228 229 13 4 3 43 true 44 .none (R 45) (R 46) (R 47) 234 235
def q21:Obj:=Fz "passes" "Kind.passes" s2_1
def q22:Obj:=Fn "seen" "Kind.seen" s2_3 3 ka (R 55)
def e1(l:List DictEntry):List DictEntry:=E P "__module__" 203 ka::E P "__qualname__" 205 kd::E P "__firstlineno__" 207 (I 5 206)::E P "under" 216 (R 35)::E P "passes" 226 (R 42)::E P "gives" 236 (R 49)::E P "seen" 246 (R 56)::E P "__static_attributes__" 247 (R 57)::l
def q23:Obj:=Di (e1 P []) 8
def q24:Obj:=Tp #[S "self" 240,S "state" 241,S "word" 242,S "n" 243]
def q25:Obj:=Co "_wall" 187 "_wall" 188 189 1 1 3 15 true 16 .none (R 17) (R 18) (R 19) 191 192
def q26:Obj:={cls:=Ty "getset_descriptor",data:=Data.fields #[S "__dict__" 248,R 59,Bi "function.__dict__",Bi "function.__dict__#set"]}
def q27:Obj:={cls:=Ty "frame",slots:=#[some (R 27),some (R 3),some (R 24),none,some ka,none,some (R 0)]}
def q28:Obj:=Nf #[I 1 0,I 0 0,R 20,I 5 0,I 0 0,R 27]
def q29:Obj:=Co "under" 208 "Kind.under" 209 210 7 3 3 29 true 30 .none (R 31) (R 32) (R 33) 214 215
def q30:Obj:=Fn "passes" "Kind.passes" s2_1 3 ka (R 41)
def e2(l:List DictEntry):List DictEntry:=E P "__module__" 203 ka::E P "__firstlineno__" 207 (I 5 206)::E P "under" 216 (R 35)::E P "passes" 226 (R 42)::E P "gives" 236 (R 49)::E P "seen" 246 (R 56)::E P "__static_attributes__" 247 (R 57)::E P "__dict__" 249 (R 60)::E P "__weakref__" 251 (R 61)::E P "__doc__" 252 (Value.none)::l
def q31:Obj:=Di (e2 P []) 4
def q32:Obj:=Nf #[I 7 0,I 4 0,R 34,I 10 0,I 4 0,R 41,I 13 0,I 4 0,R 48,I 16 0,I 4 0,R 55]
def q33:Obj:=Tp #[S "self" 220,S "state" 221,S "word" 222,S "n" 223]
def q34:Obj:=Fz "seen" "Kind.seen" s2_3
def q35:Obj:={cls:=Ty "super",data:=Data.fields #[R 59,R 59,R 59]}
def q36:Obj:={cls:=Ty "frame",slots:=#[some (R 13),some (R 3),some (R 3),none,some (S "__main__" 164),none,some (R 0)]}
def q37:Obj:={cls:=Ty "builtin_function_or_method",data:=Data.fields #[Bi "object.__init_subclass__",R 101]}
def q38:Obj:=Tp #[S "self" 285,S "one" 286,S "other" 287,S "numbers" 288]
def q39:Obj:=Co "is_state" 274 "Most.is_state" 275 276 23 2 3 78 true 79 .none (R 80) (R 81) (R 82) 279 280
def q40:Obj:=Fz "called" "Most.called" s3_0
def q41:Obj:=Fn "joined" "Most.joined" s3_2 3 ka (R 90)
def q42:Obj:={cls:=Ty "type",data:=Data.cls {name:="Kind",bases:=[Ty "object"],mro:=[R 59,Ty "object"],ns:=58,qualname:="Kind",subclasses:=[R 101]},slots:=#[none,none,some ke,some kd,some kc,some (Value.bool true)]}
def q43:Obj:=Di (e0 P [E P "Most" 304 (R 101)]) 12
def q44:Obj:=Co "found" 292 "Most.found" 293 294 30 3 3 92 true 93 .none (R 94) (R 95) (R 96) 298 299
def q45:Obj:=Tp #[S "self" 270]
def q46:Obj:=Fz "joined" "Most.joined" s3_2
def q47:Obj:=Co "Most" 257 "Most" 258 259 18 0 0 67 false 68 .none .none .none .none 260 261
def q48:Obj:={cls:=Ty "type",data:=Data.cls {name:="Most",bases:=[R 59],mro:=[R 101,R 59,Ty "object"],ns:=100,qualname:="Most"},slots:=#[some (R 64),none,some (S "Most" 255),some (S "Most" 263),some kc,some (Value.bool true)]}
def q49:Obj:=Fn "called" "Most.called" s3_0 3 ka (R 76)
def q50:Obj:=Tp #[R 59]
def q51:Obj:=Fz "found" "Most.found" s3_3
def q52:Obj:=Tp #[S "self" 277,S "thing" 278]
def q53:Obj:=Nf #[I 20 0,I 4 0,R 76,I 23 0,I 4 0,R 83,I 26 0,I 4 0,R 90,I 30 0,I 4 0,R 97]
def e3(l:List DictEntry):List DictEntry:=E P "__module__" 262 ka::E P "__firstlineno__" 266 (I 18 265)::E P "called" 273 (R 77)::E P "is_state" 281 (R 84)::E P "joined" 291 (R 91)::E P "found" 300 (R 98)::E P "__static_attributes__" 301 (R 99)::E P "__doc__" 302 (Value.none)::l
def q54:Obj:=Di (e3 P []) 2
def q55:Obj:=Fn "is_state" "Most.is_state" s3_1 3 ka (R 83)
def q56:Obj:=Co "called" 267 "Most.called" 268 269 20 1 3 71 true 72 .none (R 73) (R 74) (R 75) 271 272
def q57:Obj:=Nf #[I 1 0,I 0 0,R 20,I 5 0,I 0 0,R 27,I 18 0,I 0 0,R 69]
def e4(l:List DictEntry):List DictEntry:=E P "__module__" 262 ka::E P "__qualname__" 264 (S "Most" 263)::E P "__firstlineno__" 266 (I 18 265)::E P "called" 273 (R 77)::E P "is_state" 281 (R 84)::E P "joined" 291 (R 91)::E P "found" 300 (R 98)::E P "__static_attributes__" 301 (R 99)::l
def q58:Obj:=Di (e4 P []) 8
def q59:Obj:=Fn "found" "Most.found" s3_3 3 ka (R 97)
def q60:Obj:=Fz "is_state" "Most.is_state" s3_1
def q61:Obj:=Co "joined" 282 "Most.joined" 283 284 26 3 3 85 true 86 .none (R 87) (R 88) (R 89) 289 290
def q62:Obj:={cls:=Ty "frame",slots:=#[some (R 69),some (R 3),some (R 66),none,some ka,none,some (R 0)]}
def q63:Obj:={cls:=Ty "super",data:=Data.fields #[R 101,R 101,R 101]}
def q64:Obj:=Tp #[S "self" 295,S "state" 296,S "n" 297]
def q65:Obj:=Tp #[S "self" 335,S "one" 336,S "other" 337]
def q66:Obj:={cls:=Ty "builtin_function_or_method",data:=Data.fields #[Bi "object.__init_subclass__",R 141]}
def q67:Obj:=Fn "joined" "Set.joined" s4_2 3 ka (R 130)
def q68:Obj:=Fz "called" "Set.called" s4_0
def q69:Obj:=Co "is_state" 324 "Set.is_state" 325 326 37 2 3 118 true 119 .none (R 120) (R 121) (R 122) 329 330
def q70:Obj:={cls:=Ty "type",data:=Data.cls {name:="Kind",bases:=[Ty "object"],mro:=[R 59,Ty "object"],ns:=58,qualname:="Kind",subclasses:=[R 101,R 141]},slots:=#[none,none,some ke,some kd,some kc,some (Value.bool true)]}
def q71:Obj:=Di (e0 P [E P "Most" 304 (R 101),E P "Set" 353 (R 141)]) 13
def q72:Obj:=Fz "joined" "Set.joined" s4_2
def q73:Obj:=Tp #[S "self" 320]
def q74:Obj:=Co "contains" 341 "Set.contains" 342 343 43 3 3 132 true 133 .none (R 134) (R 135) (R 136) 347 348
def q75:Obj:=Fn "called" "Set.called" s4_0 3 ka (R 116)
def q76:Obj:={cls:=Ty "type",data:=Data.cls {name:="Set",bases:=[R 59],mro:=[R 141,R 59,Ty "object"],ns:=140,qualname:="Set"},slots:=#[some (R 104),none,some (S "Set" 305),some (S "Set" 313),some kc,some (Value.bool true)]}
def q77:Obj:=Co "Set" 307 "Set" 308 309 32 0 0 107 false 108 .none .none .none .none 310 311
def q78:Obj:=Fz "contains" "Set.contains" s4_3
def q79:Obj:=Tp #[S "self" 327,S "thing" 328]
def q80:Obj:=Co "called" 317 "Set.called" 318 319 34 1 3 111 true 112 .none (R 113) (R 114) (R 115) 321 322
def e5(l:List DictEntry):List DictEntry:=E P "__module__" 312 ka::E P "__firstlineno__" 316 (I 32 315)::E P "called" 323 (R 117)::E P "is_state" 331 (R 124)::E P "joined" 340 (R 131)::E P "contains" 349 (R 138)::E P "__static_attributes__" 350 (R 139)::E P "__doc__" 351 (Value.none)::l
def q81:Obj:=Di (e5 P []) 2
def q82:Obj:=Nf #[I 34 0,I 4 0,R 116,I 37 0,I 4 0,R 123,I 40 0,I 4 0,R 130,I 43 0,I 4 0,R 137]
def q83:Obj:=Fn "is_state" "Set.is_state" s4_1 3 ka (R 123)
def q84:Obj:=Nf #[I 1 0,I 0 0,R 20,I 5 0,I 0 0,R 27,I 18 0,I 0 0,R 69,I 32 0,I 0 0,R 109]
def q85:Obj:=Co "joined" 332 "Set.joined" 333 334 40 3 3 125 true 126 .none (R 127) (R 128) (R 129) 338 339
def q86:Obj:=Fn "contains" "Set.contains" s4_3 3 ka (R 137)
def e6(l:List DictEntry):List DictEntry:=E P "__module__" 312 ka::E P "__qualname__" 314 (S "Set" 313)::E P "__firstlineno__" 316 (I 32 315)::E P "called" 323 (R 117)::E P "is_state" 331 (R 124)::E P "joined" 340 (R 131)::E P "contains" 349 (R 138)::E P "__static_attributes__" 350 (R 139)::l
def q87:Obj:=Di (e6 P []) 8
def q88:Obj:=Fz "is_state" "Set.is_state" s4_1
def q89:Obj:=Tp #[S "self" 344,S "state" 345,S "n" 346]
def q90:Obj:={cls:=Ty "super",data:=Data.fields #[R 141,R 141,R 141]}
def q91:Obj:={cls:=Ty "frame",slots:=#[some (R 109),some (R 3),some (R 106),none,some ka,none,some (R 0)]}
def q92:Obj:=Tp #[S "self" 384,S "one" 385,S "other" 386]
def q93:Obj:={cls:=Ty "builtin_function_or_method",data:=Data.fields #[Bi "object.__init_subclass__",R 181]}
def q94:Obj:=Co "is_state" 373 "Once.is_state" 374 375 50 2 3 158 true 159 .none (R 160) (R 161) (R 162) 378 379
def q95:Obj:=Fn "joined" "Once.joined" s5_2 3 ka (R 170)
def q96:Obj:=Fz "called" "Once.called" s5_0
def q97:Obj:={cls:=Ty "type",data:=Data.cls {name:="Kind",bases:=[Ty "object"],mro:=[R 59,Ty "object"],ns:=58,qualname:="Kind",subclasses:=[R 101,R 141,R 181]},slots:=#[none,none,some ke,some kd,some kc,some (Value.bool true)]}
def e7(l:List DictEntry):List DictEntry:=e0 P (E P "Most" 304 (R 101)::E P "Set" 353 (R 141)::E P "Once" 402 (R 181)::l)
def q98:Obj:=Di (e7 P []) 14
def q99:Obj:=Co "found" 390 "Once.found" 391 392 58 3 3 172 true 173 .none (R 174) (R 175) (R 176) 396 397
def q100:Obj:=Fz "joined" "Once.joined" s5_2
def q101:Obj:=Tp #[S "self" 369]
def q102:Obj:=Co "Once" 356 "Once" 357 358 45 0 0 147 false 148 .none .none .none .none 359 360
def q103:Obj:={cls:=Ty "type",data:=Data.cls {name:="Once",bases:=[R 59],mro:=[R 181,R 59,Ty "object"],ns:=180,qualname:="Once"},slots:=#[some (R 144),none,some (S "Once" 354),some (S "Once" 362),some kc,some (Value.bool true)]}
def q104:Obj:=Fn "called" "Once.called" s5_0 3 ka (R 156)
def q105:Obj:=Tp #[S "self" 376,S "thing" 377]
def q106:Obj:=Fz "found" "Once.found" s5_3
def q107:Obj:=Fn "is_state" "Once.is_state" s5_1 3 ka (R 163)
def q108:Obj:=Nf #[I 47 0,I 4 0,R 156,I 50 0,I 4 0,R 163,I 53 0,I 4 0,R 170,I 58 0,I 4 0,R 177]
def e8(l:List DictEntry):List DictEntry:=E P "__module__" 361 ka::E P "__firstlineno__" 365 (I 45 364)::E P "called" 372 (R 157)::E P "is_state" 380 (R 164)::E P "joined" 389 (R 171)::E P "found" 398 (R 178)::E P "__static_attributes__" 399 (R 179)::E P "__doc__" 400 (Value.none)::l
def q109:Obj:=Di (e8 P []) 2
def q110:Obj:=Co "called" 366 "Once.called" 367 368 47 1 3 151 true 152 .none (R 153) (R 154) (R 155) 370 371
def q111:Obj:=Nf #[I 1 0,I 0 0,R 20,I 5 0,I 0 0,R 27,I 18 0,I 0 0,R 69,I 32 0,I 0 0,R 109,I 45 0,I 0 0,R 149]
def q112:Obj:=Fz "is_state" "Once.is_state" s5_1
def e9(l:List DictEntry):List DictEntry:=E P "__module__" 361 ka::E P "__qualname__" 363 (S "Once" 362)::E P "__firstlineno__" 365 (I 45 364)::E P "called" 372 (R 157)::E P "is_state" 380 (R 164)::E P "joined" 389 (R 171)::E P "found" 398 (R 178)::E P "__static_attributes__" 399 (R 179)::l
def q113:Obj:=Di (e9 P []) 8
def q114:Obj:=Fn "found" "Once.found" s5_3 3 ka (R 177)
def q115:Obj:=Co "joined" 381 "Once.joined" 382 383 53 3 3 165 true 166 .none (R 167) (R 168) (R 169) 387 388
def q116:Obj:={cls:=Ty "frame",slots:=#[some (R 149),some (R 3),some (R 146),none,some ka,none,some (R 0)]}
def q117:Obj:={cls:=Ty "super",data:=Data.fields #[R 181,R 181,R 181]}
def q118:Obj:=Tp #[S "self" 393,S "state" 394,S "n" 395]
def q119:Obj:={cls:=Ty "builtin_function_or_method",data:=Data.fields #[Bi "object.__init_subclass__",R 221]}
def q120:Obj:=Tp #[S "self" 433,S "one" 434,S "other" 435]
def q121:Obj:=Fz "called" "Row.called" s6_0
def q122:Obj:=Fn "joined" "Row.joined" s6_2 3 ka (R 210)
def q123:Obj:=Co "is_state" 422 "Row.is_state" 423 424 65 2 3 198 true 199 .none (R 200) (R 201) (R 202) 427 428
def q124:Obj:={cls:=Ty "type",data:=Data.cls {name:="Kind",bases:=[Ty "object"],mro:=[R 59,Ty "object"],ns:=58,qualname:="Kind",subclasses:=[R 101,R 141,R 181,R 221]},slots:=#[none,none,some ke,some kd,some kc,some (Value.bool true)]}
def q125:Obj:=Di (e7 P [E P "Row" 451 (R 221)]) 15
def q126:Obj:=Tp #[S "self" 418]
def q127:Obj:=Fz "joined" "Row.joined" s6_2
def q128:Obj:=Co "found" 439 "Row.found" 440 441 73 3 3 212 true 213 .none (R 214) (R 215) (R 216) 445 446
def q129:Obj:=Fn "called" "Row.called" s6_0 3 ka (R 196)
def q130:Obj:={cls:=Ty "type",data:=Data.cls {name:="Row",bases:=[R 59],mro:=[R 221,R 59,Ty "object"],ns:=220,qualname:="Row"},slots:=#[some (R 184),none,some (S "Row" 403),some (S "Row" 411),some kc,some (Value.bool true)]}
def q131:Obj:=Co "Row" 405 "Row" 406 407 60 0 0 187 false 188 .none .none .none .none 408 409
def q132:Obj:=Tp #[S "self" 425,S "thing" 426]
def q133:Obj:=Fz "found" "Row.found" s6_3
def q134:Obj:=Co "called" 415 "Row.called" 416 417 62 1 3 191 true 192 .none (R 193) (R 194) (R 195) 419 420
def q135:Obj:=Fn "is_state" "Row.is_state" s6_1 3 ka (R 203)
def e10(l:List DictEntry):List DictEntry:=E P "__module__" 410 ka::E P "__firstlineno__" 414 (I 60 413)::E P "called" 421 (R 197)::E P "is_state" 429 (R 204)::E P "joined" 438 (R 211)::E P "found" 447 (R 218)::E P "__static_attributes__" 448 (R 219)::E P "__doc__" 449 (Value.none)::l
def q136:Obj:=Di (e10 P []) 2
def q137:Obj:=Nf #[I 62 0,I 4 0,R 196,I 65 0,I 4 0,R 203,I 68 0,I 4 0,R 210,I 73 0,I 4 0,R 217]
def q138:Obj:=Nf #[I 1 0,I 0 0,R 20,I 5 0,I 0 0,R 27,I 18 0,I 0 0,R 69,I 32 0,I 0 0,R 109,I 45 0,I 0 0,R 149,I 60 0,I 0 0,R 189]
def q139:Obj:=Co "joined" 430 "Row.joined" 431 432 68 3 3 205 true 206 .none (R 207) (R 208) (R 209) 436 437
def q140:Obj:=Fz "is_state" "Row.is_state" s6_1
def q141:Obj:=Fn "found" "Row.found" s6_3 3 ka (R 217)
def e11(l:List DictEntry):List DictEntry:=E P "__module__" 410 ka::E P "__qualname__" 412 (S "Row" 411)::E P "__firstlineno__" 414 (I 60 413)::E P "called" 421 (R 197)::E P "is_state" 429 (R 204)::E P "joined" 438 (R 211)::E P "found" 447 (R 218)::E P "__static_attributes__" 448 (R 219)::l
def q142:Obj:=Di (e11 P []) 8
def q143:Obj:=Tp #[S "self" 442,S "state" 443,S "n" 444]
def q144:Obj:={cls:=Ty "super",data:=Data.fields #[R 221,R 221,R 221]}
def q145:Obj:={cls:=Ty "frame",slots:=#[some (R 189),some (R 3),some (R 186),none,some ka,none,some (R 0)]}
def q146:Obj:=Fz "found" "Map.found" s7_4
def q147:Obj:=Tp #[S "self" 482,S "one" 483,S "other" 484,S "numbers" 485,S "pair" 486]
def q148:Obj:=Co "is_state" 471 "Map.is_state" 472 473 80 2 3 238 true 239 .none (R 240) (R 241) (R 242) 476 477
def e12(l:List DictEntry):List DictEntry:=E P "__module__" 459 ka::E P "__firstlineno__" 463 (I 75 462)::E P "called" 470 (R 237)::E P "is_state" 478 (R 244)::E P "joined" 489 (R 251)::E P "contains" 498 (R 258)::E P "found" 507 (R 265)::E P "__static_attributes__" 508 (R 266)::E P "__doc__" 509 (Value.none)::l
def q149:Obj:=Di (e12 P []) 2
def q150:Obj:=Fz "called" "Map.called" s7_0
def q151:Obj:=Fn "joined" "Map.joined" s7_2 3 ka (R 250)
def q152:Obj:={cls:=Ty "type",data:=Data.cls {name:="Kind",bases:=[Ty "object"],mro:=[R 59,Ty "object"],ns:=58,qualname:="Kind",subclasses:=[R 101,R 141,R 181,R 221,R 268]},slots:=#[none,none,some ke,some kd,some kc,some (Value.bool true)]}
def q153:Obj:=Di (e7 P [E P "Row" 451 (R 221),E P "Map" 511 (R 268)]) 16
def q154:Obj:=Co "contains" 490 "Map.contains" 491 492 90 3 3 252 true 253 .none (R 254) (R 255) (R 256) 496 497
def q155:Obj:=Fn "found" "Map.found" s7_4 3 ka (R 264)
def q156:Obj:=Tp #[S "self" 467]
def q157:Obj:=Fz "joined" "Map.joined" s7_2
def q158:Obj:=Tp #[S "self" 502,S "state" 503,S "n" 504]
def q159:Obj:=Co "Map" 454 "Map" 455 456 75 0 0 227 false 228 .none .none .none .none 457 458
def q160:Obj:={cls:=Ty "super",data:=Data.fields #[R 268,R 268,R 268]}
def q161:Obj:=Fn "called" "Map.called" s7_0 3 ka (R 236)
def q162:Obj:=Fz "contains" "Map.contains" s7_3
def q163:Obj:=Tp #[S "self" 474,S "thing" 475]
def q164:Obj:=Co "found" 499 "Map.found" 500 501 93 3 3 259 true 260 .none (R 261) (R 262) (R 263) 505 506
def q165:Obj:=Nf #[I 77 0,I 4 0,R 236,I 80 0,I 4 0,R 243,I 83 0,I 4 0,R 250,I 90 0,I 4 0,R 257,I 93 0,I 4 0,R 264]
def q166:Obj:=Fn "is_state" "Map.is_state" s7_1 3 ka (R 243)
def q167:Obj:={cls:=Ty "type",data:=Data.cls {name:="Map",bases:=[R 59],mro:=[R 268,R 59,Ty "object"],ns:=267,qualname:="Map"},slots:=#[some (R 224),none,some (S "Map" 452),some (S "Map" 460),some kc,some (Value.bool true)]}
def q168:Obj:=Co "called" 464 "Map.called" 465 466 77 1 3 231 true 232 .none (R 233) (R 234) (R 235) 468 469
def q169:Obj:=Nf #[I 1 0,I 0 0,R 20,I 5 0,I 0 0,R 27,I 18 0,I 0 0,R 69,I 32 0,I 0 0,R 109,I 45 0,I 0 0,R 149,I 60 0,I 0 0,R 189,I 75 0,I 0 0,R 229]
def q170:Obj:=Fn "contains" "Map.contains" s7_3 3 ka (R 257)
def e13(l:List DictEntry):List DictEntry:=E P "__module__" 459 ka::E P "__qualname__" 461 (S "Map" 460)::E P "__firstlineno__" 463 (I 75 462)::E P "called" 470 (R 237)::E P "is_state" 478 (R 244)::E P "joined" 489 (R 251)::E P "contains" 498 (R 258)::E P "found" 507 (R 265)::E P "__static_attributes__" 508 (R 266)::l
def q171:Obj:=Di (e13 P []) 9
def q172:Obj:=Fz "is_state" "Map.is_state" s7_1
def q173:Obj:=Co "joined" 479 "Map.joined" 480 481 83 3 3 245 true 246 .none (R 247) (R 248) (R 249) 487 488
def q174:Obj:={cls:=Ty "frame",slots:=#[some (R 229),some (R 3),some (R 226),none,some ka,none,some (R 0)]}
def q175:Obj:={cls:=Ty "builtin_function_or_method",data:=Data.fields #[Bi "object.__init_subclass__",R 268]}
def q176:Obj:=Tp #[S "self" 493,S "state" 494,S "n" 495]
def q177:Obj:=Fz "_law_spread" "_law_spread" s11
def q178:Obj:=Fz "_law_is_state" "_law_is_state" s21
def q179:Obj:=Co "_law_other" 590 "_law_other" 591 592 161 4 3 330 true 331 .none (R 332) (R 333) (R 334) 600 601
def q180:Obj:=Fn "_law_number" "_law_number" s13 3 kb (R 302)
def q181:Obj:=Fz "_law_changed" "_law_changed" s17
def q182:Obj:=Co "_law_whole" 539 "_law_whole" 540 541 116 1 3 290 true 291 .none (R 292) (R 293) (R 294) 543 544
def q183:Obj:=Fn "_law_pair" "_law_pair" s19 3 kb (R 342)
def q184:Obj:=Tp #[S "_law_x" 562]
def q185:Obj:=Fz "kind_of" "kind_of" s8
def q186:Obj:=Tp #[S "_law_cell" 606,S "_law_word" 607,S "_law_heads" 608,S "_law_one" 609,S "_law_xs" 610,S "_law_other_here" 611]
def q187:Obj:=Co "_law_state" 553 "_law_state" 554 555 124 2 3 304 true 305 .none .none .none (R 306) 556 557
def q188:Obj:=Tp #[S "_law_x" 549]
def q189:Obj:=Co "_law_join" 615 "_law_join" 616 617 183 3 3 344 true 345 .none .none .none (R 346) 618 619
def q190:Obj:=Fn "_law_size" "_law_size" s15 3 kb (R 314)
def e14 (l : List DictEntry) : List DictEntry := E P "__name__" 165 kb::E P "__doc__" 166 (Value.none)::E P "__package__" 167 (Value.none)::E P "__loader__" 168 (Bi "__main__.__loader__#opaque")::E P "__spec__" 169 (Value.none)::E P "__annotations__" 170 (R 6)::E P "__builtins__" 171 (R 4)::E P "__file__" 173 (S "/claim/cut.py" 172)::E P "__cached__" 174 (Value.none)::E P "_wall" 193 (R 21)::E P "Kind" 254 (R 59)::E P "Most" 304 (R 101)::E P "Set" 353 (R 141)::E P "Once" 402 (R 181)::E P "Row" 451 (R 221)::E P "Map" 511 (R 268)::E P "kind_of" 518 (R 277)::E P "_law_cells" 526 (R 282)::E P "_law_spread" 538 (R 289)::E P "_law_whole" 545 (R 296)::E P "_law_number" 552 (R 303)::E P "_law_state" 558 (R 308)::E P "_law_size" 565 (R 315)::E P "_law_over" 577 (R 322)::E P "_law_changed" 589 (R 329)::E P "_law_other" 602 (R 336)::E P "_law_pair" 614 (R 343)::E P "_law_join" 620 (R 348)::E P "_law_is_state" 626 (R 353)::l
def q191:Obj:=Di (e14 P []) 29
def q192:Obj:=Co "_law_over" 566 "_law_over" 567 568 140 3 3 316 true 317 .none (R 318) (R 319) (R 320) 575 576
def q193:Obj:=Fn "_law_spread" "_law_spread" s11 3 kb (R 288)
def q194:Obj:=Fn "_law_is_state" "_law_is_state" s21 3 kb (R 352)
def q195:Obj:=Tp #[S "word" 515]
def q196:Obj:=Fn "_law_changed" "_law_changed" s17 3 kb (R 328)
def q197:Obj:=Co "_law_cells" 521 "_law_cells" 522 523 106 2 3 278 true 279 .none .none .none (R 280) 524 525
def q198:Obj:=Fz "_law_size" "_law_size" s15
def q199:Obj:=Tp #[S "_law_word" 581,S "_law_state_here" 582,S "_law_at" 583,S "_law_x" 584,S "_law_key" 585,S "_law_number_here" 586]
def q200:Obj:=Fn "kind_of" "kind_of" s8 3 ka (R 276)
def q201:Obj:=Fz "_law_pair" "_law_pair" s19
def q202:Obj:=Fz "_law_number" "_law_number" s13
def q203:Obj:=Tp #[S "_law_cell" 530,S "_law_many" 531,S "_law_number_here" 532,S "_law_found" 533,S "_law_k" 534,S "_law_more" 535]
def q204:Obj:=Fz "_law_over" "_law_over" s16
def q205:Obj:=Co "_law_spread" 527 "_law_spread" 528 529 108 2 3 283 true 284 .none (R 285) (R 286) (R 287) 536 537
def q206:Obj:=Co "_law_is_state" 621 "_law_is_state" 622 623 203 2 3 349 true 350 .none .none .none (R 351) 624 625
def q207:Obj:=Fn "_law_other" "_law_other" s18 3 kb (R 335)
def q208:Obj:=Co "_law_changed" 578 "_law_changed" 579 580 153 4 3 323 true 324 .none (R 325) (R 326) (R 327) 587 588
def q209:Obj:=Fn "_law_whole" "_law_whole" s12 3 kb (R 295)
def q210:Obj:=Fz "_law_cells" "_law_cells" s10
def q211:Obj:=Tp #[S "_law_found" 542]
def q212:Obj:=Co "kind_of" 512 "kind_of" 513 514 95 1 3 271 true 272 .none (R 273) (R 274) (R 275) 516 517
def q213:Obj:=Fn "_law_state" "_law_state" s14 3 kb (R 307)
def q214:Obj:=Tp #[S "_law_word" 593,S "_law_state_here" 594,S "_law_x" 595,S "_law_xs" 596,S "_law_fresh" 597,S "_law_way" 598,S "_law_at" 599]
def q215:Obj:=Fn "_law_join" "_law_join" s20 3 kb (R 347)
def q216:Obj:=Nf #[I 1 0,I 0 0,R 20,I 5 0,I 0 0,R 27,I 18 0,I 0 0,R 69,I 32 0,I 0 0,R 109,I 45 0,I 0 0,R 149,I 60 0,I 0 0,R 189,I 75 0,I 0 0,R 229,I 95 0,I 0 0,R 276,I 106 0,I 0 0,R 281,I 108 0,I 0 0,R 288,I 116 0,I 0 0,R 295,I 118 0,I 0 0,R 302,I 124 0,I 0 0,R 307,I 136 0,I 0 0,R 314,I 140 0,I 0 0,R 321,I 153 0,I 0 0,R 328,I 161 0,I 0 0,R 335,I 174 0,I 0 0,R 342,I 183 0,I 0 0,R 347,I 203 0,I 0 0,R 352]
def q217:Obj:=Fn "_law_over" "_law_over" s16 3 kb (R 321)
def q218:Obj:=Fz "_law_state" "_law_state" s14
def q219:Obj:=Fn "_law_cells" "_law_cells" s10 3 kb (R 281)
def q220:Obj:=Fz "_law_join" "_law_join" s20
def q221:Obj:=Co "_law_size" 559 "_law_size" 560 561 136 1 3 309 true 310 .none (R 311) (R 312) (R 313) 563 564
def q222:Obj:=Fz "_law_whole" "_law_whole" s12
def q223:Obj:=Co "_law_pair" 603 "_law_pair" 604 605 174 1 3 337 true 338 .none (R 339) (R 340) (R 341) 612 613
def q224:Obj:=Fz "_law_other" "_law_other" s18
def q225:Obj:=Co "_law_number" 546 "_law_number" 547 548 118 1 3 297 true 298 .none (R 299) (R 300) (R 301) 550 551
def q226:Obj:=Tp #[S "_law_word" 569,S "_law_state_here" 570,S "_law_fresh" 571,S "_law_pairs" 572,S "_law_key" 573,S "_law_number_here" 574]
def q227:Obj:=Co "law" 682 "law" 683 684 273 1 3 394 true 395 .none (R 396) (R 397) (R 398) 690 691
def q228:Obj:=Fn "_law_own" "_law_own" s23 3 kb (R 366)
def q229:Obj:=Fz "_law_right" "_law_right" s27
def q230:Obj:=Co "_law_truth" 627 "_law_truth" 628 629 220 2 3 354 true 355 .none (R 356) (R 357) (R 358) 632 633
def q231:Obj:=Tp #[S "_law_word" 651,S "_law_state_here" 652,S "_law_top" 653]
def q232:Obj:=Co "_law_of_class" 642 "_law_of_class" 643 644 232 2 3 368 true 369 .none .none .none (R 370) 645 646
def q233:Obj:=Tp #[S "_law_word" 638]
def q234:Obj:=Fn "_law_grow" "_law_grow" s25 3 kb (R 378)
def e15(l:List DictEntry):List DictEntry:=e14 P (E P "_law_truth" 634 (R 360)::E P "_law_own" 641 (R 367)::E P "_law_of_class" 647 (R 372)::E P "_law_grow" 656 (R 379)::E P "_law_grown" 667 (R 386)::E P "_law_right" 681 (R 393)::E P "law" 692 (R 400)::l)
def q235:Obj:=Di (e15 P []) 36
def q236:Obj:=Co "_law_grown" 657 "_law_grown" 658 659 248 4 3 380 true 381 .none (R 382) (R 383) (R 384) 665 666
def q237:Obj:=Fn "_law_right" "_law_right" s27 3 kb (R 392)
def q238:Obj:=Fz "_law_grow" "_law_grow" s25
def q239:Obj:=Tp #[S "_law_kind" 671,S "_law_word" 672,S "_law_one" 673,S "_law_other_here" 674,S "_law_due" 675,S "_law_first" 676,S "_law_second" 677,S "_law_found" 678]
def q240:Obj:=Fz "_law_own" "_law_own" s23
def q241:Obj:=Fz "_law_grown" "_law_grown" s26
def q242:Obj:=Fn "law" "law" s28 3 kb (R 399)
def q243:Obj:=Co "_law_right" 668 "_law_right" 669 670 254 4 3 387 true 388 .none (R 389) (R 390) (R 391) 679 680
def q244:Obj:=Fn "_law_truth" "_law_truth" s22 3 kb (R 359)
def q245:Obj:=Tp #[S "_law_found" 630,S "_law_due" 631]
def q246:Obj:=Fn "_law_of_class" "_law_of_class" s24 3 kb (R 371)
def q247:Obj:=Tp #[S "_law_script" 685,S "_law_cell" 686,S "_law_word" 687,S "_law_one" 688,S "_law_other_here" 689]
def q248:Obj:=Nf #[I 1 0,I 0 0,R 20,I 5 0,I 0 0,R 27,I 18 0,I 0 0,R 69,I 32 0,I 0 0,R 109,I 45 0,I 0 0,R 149,I 60 0,I 0 0,R 189,I 75 0,I 0 0,R 229,I 95 0,I 0 0,R 276,I 106 0,I 0 0,R 281,I 108 0,I 0 0,R 288,I 116 0,I 0 0,R 295,I 118 0,I 0 0,R 302,I 124 0,I 0 0,R 307,I 136 0,I 0 0,R 314,I 140 0,I 0 0,R 321,I 153 0,I 0 0,R 328,I 161 0,I 0 0,R 335,I 174 0,I 0 0,R 342,I 183 0,I 0 0,R 347,I 203 0,I 0 0,R 352,I 220 0,I 0 0,R 359,I 222 0,I 0 0,R 366,I 232 0,I 0 0,R 371,I 236 0,I 0 0,R 378,I 248 0,I 0 0,R 385,I 254 0,I 0 0,R 392,I 273 0,I 0 0,R 399]
def q249:Obj:=Fn "_law_grown" "_law_grown" s26 3 kb (R 385)
def q250:Obj:=Fz "_law_of_class" "_law_of_class" s24
def q251:Obj:=Co "_law_grow" 648 "_law_grow" 649 650 236 2 3 373 true 374 .none (R 375) (R 376) (R 377) 654 655
def q252:Obj:=Fz "_law_truth" "_law_truth" s22
def q253:Obj:=Fz "law" "law" s28
def q254:Obj:=Co "_law_own" 635 "_law_own" 636 637 222 1 3 361 true 362 .none (R 363) (R 364) (R 365) 639 640
def q255:Obj:=Tp #[S "_law_kind" 660,S "_law_word" 661,S "_law_first" 662,S "_law_second" 663,S "_law_due" 664]
def t0:BT:=N q0 Z Z
def t1:BT:=N (boot_o_7 P) (N q3 (N q1 t0 Z) (Lf q2)) (N q5 ya (Lf q4))
def t2:BT:=N q3 (N q8 (Lf q6) yb) (N q10 ya (Lf q9))
def t3:BT:=N (boot_o_9 P) (N q14 (Lf q12) (Lf q13)) (N q3 (Lf q15) ya)
def t4:BT:=N q19 (N q16 yb ya) (N q3 (Lf q17) (Lf q18))
def t5:BT:=N (boot_o_8 P) (N q7 ya (Lf q20)) (N (q23 P) (Lf q21) (Lf q22))
def t6:BT:=N q28 (N q25 ya (Lf q24)) (N q27 yb (Lf q26))
def t7:BT:=N (boot_o_10 P) (N q3 (Lf q29) ya) (N q32 (Lf q30) (Lf (q31 P)))
def t8:BT:=N q36 (N q3 (Lf q33) (Lf q34)) (N q7 ya (Lf q35))
def t9:BT:=N (boot_o_0 P) (N (boot_o_1 P) (N (q11 P) (t1 P) t2) (N (boot_o_5 P) (t3 P) t4)) (N (boot_o_2 P) (N (boot_o_4 P) (t5 P) t6) (N (boot_o_6 P) (t7 P) t8))
def t10:BT:=N q3 Z Z
def t11:BT:=N q7 Z Z
def t12:BT:=N q37 Z Z
def t13:BT:=N q38 Z Z
def t14:BT:=N (boot_o_7 P) (N q3 (N q1 t0 t10) (N q2 t11 Z)) (N q5 (N q3 t10 t12) (N q4 t13 Z))
def t15:BT:=N q39 Z Z
def t16:BT:=N q40 Z Z
def t17:BT:=N q41 Z Z
def t18:BT:=N q3 (N q8 (N q6 t10 t10) (N q7 t15 Z)) (N q10 (N q3 t16 Z) (N q42 t17 Z))
def t19:BT:=N q5 Z Z
def t20:BT:=N q44 Z Z
def t21:BT:=N q45 Z Z
def t22:BT:=N q46 Z Z
def t23:BT:=N (boot_o_9 P) (N q14 (N q12 t19 t20) (N q13 t10 Z)) (N q3 (N q15 t21 Z) (N q3 t22 Z))
def t24:BT:=N q47 Z Z
def t25:BT:=N q48 Z Z
def t26:BT:=N q49 Z Z
def t27:BT:=N q19 (N q16 (N q7 t24 t25) (N q3 t10 Z)) (N q3 (N q17 t26 Z) (N q18 t11 Z))
def t28:BT:=N q50 Z Z
def t29:BT:=N q51 Z Z
def t30:BT:=N q52 Z Z
def t31:BT:=N (boot_o_8 P) (N q7 (N q3 t28 t29) (N q20 t30 Z)) (N (q23 P) (N q21 t11 Z) (N q22 t10 Z))
def t32:BT:=N q53 Z Z
def t33:BT:=N (q54 P) Z Z
def t34:BT:=N q55 Z Z
def t35:BT:=N q56 Z Z
def t36:BT:=N q57 (N q25 (N q3 t32 (t33 P)) (N q24 t34 Z)) (N q27 (N q7 t35 Z) (N q26 t10 Z))
def t37:BT:=N (q58 P) Z Z
def t38:BT:=N q59 Z Z
def t39:BT:=N q60 Z Z
def t40:BT:=N q61 Z Z
def t41:BT:=N (boot_o_10 P) (N q3 (N q29 (t37 P) t38) (N q3 t39 Z)) (N q32 (N q30 t10 Z) (N (q31 P) t40 Z))
def t42:BT:=N q62 Z Z
def t43:BT:=N q63 Z Z
def t44:BT:=N q64 Z Z
def t45:BT:=N q36 (N q3 (N q33 t42 t43) (N q34 t11 Z)) (N q7 (N q3 t10 Z) (N q35 t44 Z))
def t46:BT:=N (boot_o_0 P) (N (boot_o_1 P) (N (q43 P) (t14 P) t18) (N (boot_o_5 P) (t23 P) t27)) (N (boot_o_2 P) (N (boot_o_4 P) (t31 P) (t36 P)) (N (boot_o_6 P) (t41 P) t45))
def t47:BT:=N q0 (Lf q65) Z
def t48:BT:=N q7 (Lf q66) Z
def t49:BT:=N q3 ya Z
def t50:BT:=N (boot_o_7 P) (N q3 (N q1 t47 t10) (N q2 t48 t10)) (N q5 (N q3 t49 t12) (N q4 t13 t11))
def t51:BT:=N q3 (Lf q67) Z
def t52:BT:=N q68 Z Z
def t53:BT:=N q40 ya Z
def t54:BT:=N q69 Z Z
def t55:BT:=N q3 (N q8 (N q6 t51 t10) (N q7 t15 t52)) (N q10 (N q3 t53 t10) (N q70 t17 t54))
def t56:BT:=N q5 (Lf q72) Z
def t57:BT:=N q73 Z Z
def t58:BT:=N q45 (Lf q74) Z
def t59:BT:=N (boot_o_9 P) (N q14 (N q12 t56 t20) (N q13 t10 t57)) (N q3 (N q15 t58 t19) (N q3 t22 t10))
def t60:BT:=N q47 yb Z
def t61:BT:=N q75 Z Z
def t62:BT:=N q49 (Lf q76) Z
def t63:BT:=N q77 Z Z
def t64:BT:=N q19 (N q16 (N q7 t60 t25) (N q3 t10 t61)) (N q3 (N q17 t62 t63) (N q18 t11 t10))
def t65:BT:=N q50 ya Z
def t66:BT:=N q7 (Lf q78) Z
def t67:BT:=N q79 Z Z
def t68:BT:=N (boot_o_8 P) (N q7 (N q3 t65 t29) (N q20 t30 t11)) (N (q23 P) (N q21 t66 t28) (N q22 t10 t67))
def t69:BT:=N q53 ya Z
def t70:BT:=N q80 Z Z
def t71:BT:=N q56 (Lf (q81 P)) Z
def t72:BT:=N q82 Z Z
def t73:BT:=N q83 Z Z
def t74:BT:=N q84 (N q25 (N q3 t69 (t33 P)) (N q24 t34 t70)) (N q27 (N q7 (t71 P) t72) (N q26 t10 t73))
def t75:BT:=N (q58 P) (Lf q85) Z
def t76:BT:=N q3 (Lf q86) Z
def t77:BT:=N (q87 P) Z Z
def t78:BT:=N q88 Z Z
def t79:BT:=N (boot_o_10 P) (N q3 (N q29 (t75 P) t38) (N q3 t39 t10)) (N q32 (N q30 t76 (t77 P)) (N (q31 P) t40 t78))
def t80:BT:=N q62 (Lf q89) Z
def t81:BT:=N q3 (Lf q90) Z
def t82:BT:=N q91 Z Z
def t83:BT:=N q36 (N q3 (N q33 t80 t43) (N q34 t11 t10)) (N q7 (N q3 t81 t82) (N q35 t44 t11))
def t84:BT:=N (boot_o_0 P) (N (boot_o_1 P) (N (q71 P) (t50 P) t55) (N (boot_o_5 P) (t59 P) t64)) (N (boot_o_2 P) (N (boot_o_4 P) (t68 P) (t74 P)) (N (boot_o_6 P) (t79 P) t83))
def t85:BT:=N q3 yb Z
def t86:BT:=N q37 (Lf q92) Z
def t87:BT:=N q38 ya Z
def t88:BT:=N q7 (Lf q93) Z
def t89:BT:=N (boot_o_7 P) (N q3 (N q1 t47 t85) (N q2 t48 t49)) (N q5 (N q3 t49 t86) (N q4 t87 t88))
def t90:BT:=N q3 (Lf q94) Z
def t91:BT:=N q39 ya Z
def t92:BT:=N q68 ya Z
def t93:BT:=N q3 (Lf q95) Z
def t94:BT:=N q41 (Lf q96) Z
def t95:BT:=N q3 (N q8 (N q6 t51 t90) (N q7 t91 t92)) (N q10 (N q3 t53 t93) (N q97 t94 t54))
def t96:BT:=N q44 ya Z
def t97:BT:=N q3 (Lf q5) Z
def t98:BT:=N q73 (Lf q99) Z
def t99:BT:=N q5 (Lf q100) Z
def t100:BT:=N q46 (Lf q101) Z
def t101:BT:=N (boot_o_9 P) (N q14 (N q12 t56 t96) (N q13 t97 t98)) (N q3 (N q15 t58 t99) (N q3 t100 t10))
def t102:BT:=N q48 ya Z
def t103:BT:=N q3 (Lf q102) Z
def t104:BT:=N q75 (Lf q103) Z
def t105:BT:=N q77 yb Z
def t106:BT:=N q7 (Lf q104) Z
def t107:BT:=N q19 (N q16 (N q7 t60 t102) (N q3 t103 t104)) (N q3 (N q17 t62 t105) (N q18 t106 t10))
def t108:BT:=N q51 (Lf q105) Z
def t109:BT:=N q52 (Lf q50) Z
def t110:BT:=N q7 (Lf q106) Z
def t111:BT:=N (boot_o_8 P) (N q7 (N q3 t65 t108) (N q20 t109 t110)) (N (q23 P) (N q21 t66 t65) (N q22 t85 t67))
def t112:BT:=N (q54 P) (Lf q107) Z
def t113:BT:=N q55 (Lf q108) Z
def t114:BT:=N q80 (Lf (q109 P)) Z
def t115:BT:=N q82 ya Z
def t116:BT:=N q3 (Lf q110) Z
def t117:BT:=N q111 (N q25 (N q3 t69 (t112 P)) (N q24 t113 (t114 P))) (N q27 (N q7 (t71 P) t115) (N q26 t116 t73))
def t118:BT:=N q59 (Lf q112) Z
def t119:BT:=N q60 (Lf (q113 P)) Z
def t120:BT:=N q3 (Lf q114) Z
def t121:BT:=N (q87 P) (Lf q115) Z
def t122:BT:=N q61 ya Z
def t123:BT:=N (boot_o_10 P) (N q3 (N q29 (t75 P) t118) (N q3 (t119 P) t120)) (N q32 (N q30 t76 (t121 P)) (N (q31 P) t122 t78))
def t124:BT:=N q63 yb Z
def t125:BT:=N q7 (Lf q116) Z
def t126:BT:=N q3 (Lf q117) Z
def t127:BT:=N q91 (Lf q118) Z
def t128:BT:=N q64 ya Z
def t129:BT:=N q36 (N q3 (N q33 t80 t124) (N q34 t125 t126)) (N q7 (N q3 t81 t127) (N q35 t128 t11))
def t130:BT:=N (boot_o_0 P) (N (boot_o_1 P) (N (q98 P) (t89 P) t95) (N (boot_o_5 P) (t101 P) t107)) (N (boot_o_2 P) (N (boot_o_4 P) (t111 P) (t117 P)) (N (boot_o_6 P) (t123 P) t129))
def t131:BT:=N q0 (Lf q65) ya
def t132:BT:=N q3 yb (Lf q119)
def t133:BT:=N q7 (Lf q66) (Lf q120)
def t134:BT:=N q3 ya yb
def t135:BT:=N q38 ya ya
def t136:BT:=N (boot_o_7 P) (N q3 (N q1 t131 t132) (N q2 t133 t49)) (N q5 (N q3 t134 t86) (N q4 t135 t88))
def t137:BT:=N q3 (Lf q67) (Lf q121)
def t138:BT:=N q39 ya (Lf q122)
def t139:BT:=N q40 ya (Lf q123)
def t140:BT:=N q41 (Lf q96) ya
def t141:BT:=N q69 ya Z
def t142:BT:=N q3 (N q8 (N q6 t137 t90) (N q7 t138 t92)) (N q10 (N q3 t139 t93) (N q124 t140 t141))
def t143:BT:=N q5 (Lf q72) (Lf q126)
def t144:BT:=N q3 (Lf q5) (Lf q127)
def t145:BT:=N q45 (Lf q74) ya
def t146:BT:=N q46 (Lf q101) (Lf q128)
def t147:BT:=N (boot_o_9 P) (N q14 (N q12 t143 t96) (N q13 t144 t98)) (N q3 (N q15 t145 t99) (N q3 t146 t97))
def t148:BT:=N q47 yb (Lf q129)
def t149:BT:=N q3 (Lf q102) yb
def t150:BT:=N q49 (Lf q76) ya
def t151:BT:=N q7 (Lf q104) (Lf q130)
def t152:BT:=N q3 (Lf q131) Z
def t153:BT:=N q19 (N q16 (N q7 t148 t102) (N q3 t149 t104)) (N q3 (N q17 t150 t105) (N q18 t151 t152))
def t154:BT:=N q50 ya yb
def t155:BT:=N q52 (Lf q50) ya
def t156:BT:=N q7 (Lf q78) (Lf q132)
def t157:BT:=N q3 yb (Lf q133)
def t158:BT:=N q79 (Lf q50) Z
def t159:BT:=N (boot_o_8 P) (N q7 (N q3 t154 t108) (N q20 t155 t110)) (N (q23 P) (N q21 t156 t65) (N q22 t157 t158))
def t160:BT:=N q53 ya (Lf q134)
def t161:BT:=N q55 (Lf q108) ya
def t162:BT:=N q56 (Lf (q81 P)) (Lf q135)
def t163:BT:=N q3 (Lf q110) (Lf (q136 P))
def t164:BT:=N q83 (Lf q137) Z
def t165:BT:=N q138 (N q25 (N q3 t160 (t112 P)) (N q24 t161 (t114 P))) (N q27 (N q7 (t162 P) t115) (N q26 (t163 P) t164))
def t166:BT:=N (q58 P) (Lf q85) ya
def t167:BT:=N q60 (Lf (q113 P)) (Lf q139)
def t168:BT:=N q3 (Lf q86) (Lf q140)
def t169:BT:=N q61 ya (Lf q141)
def t170:BT:=N q88 (Lf (q142 P)) Z
def t171:BT:=N (boot_o_10 P) (N q3 (N q29 (t166 P) t118) (N q3 (t167 P) t120)) (N q32 (N q30 t168 (t121 P)) (N (q31 P) t169 (t170 P)))
def t172:BT:=N q62 (Lf q89) ya
def t173:BT:=N q7 (Lf q116) (Lf q143)
def t174:BT:=N q3 (Lf q90) yb
def t175:BT:=N q64 ya (Lf q144)
def t176:BT:=N q7 (Lf q145) Z
def t177:BT:=N q36 (N q3 (N q33 t172 t124) (N q34 t173 t126)) (N q7 (N q3 t174 t127) (N q35 t175 t176))
def t178:BT:=N (boot_o_0 P) (N (boot_o_1 P) (N (q125 P) (t136 P) t142) (N (boot_o_5 P) (t147 P) t153)) (N (boot_o_2 P) (N (boot_o_4 P) (t159 P) (t165 P)) (N (boot_o_6 P) (t171 P) t177))
def t179:BT:=N q0 (N q65 ya Z) ya
def t180:BT:=N q3 (N q3 (Lf q146) Z) yb
def t181:BT:=N q37 (Lf q92) ya
def t182:BT:=N q7 (Lf q93) (Lf q147)
def t183:BT:=N (boot_o_7 P) (N q3 (N q1 t179 t132) (N q2 t133 t134)) (N q5 (N q3 t180 t181) (N q4 t135 t182))
def t184:BT:=N q3 (N q67 ya Z) (Lf q121)
def t185:BT:=N q3 (Lf q94) ya
def t186:BT:=N q68 ya (Lf q148)
def t187:BT:=N q40 (N q3 (Lf (q149 P)) Z) (Lf q123)
def t188:BT:=N q3 (Lf q95) (Lf q150)
def t189:BT:=N q69 ya (Lf q151)
def t190:BT:=N q3 (N q8 (N q6 t184 t185) (N q7 t138 t186)) (N q10 (N q3 (t187 P) t188) (N q152 t140 t189))
def t191:BT:=N q5 (N q72 (Lf q154) Z) (Lf q126)
def t192:BT:=N q44 ya (Lf q5)
def t193:BT:=N q73 (Lf q99) ya
def t194:BT:=N q45 (N q74 (Lf q155) Z) ya
def t195:BT:=N q5 (Lf q100) (Lf q156)
def t196:BT:=N q3 (Lf q5) (Lf q157)
def t197:BT:=N (boot_o_9 P) (N q14 (N q12 t191 t192) (N q13 t144 t193)) (N q3 (N q15 t194 t195) (N q3 t146 t196))
def t198:BT:=N q47 (N q7 (Lf q158) Z) (Lf q129)
def t199:BT:=N q48 ya (Lf q159)
def t200:BT:=N q75 (Lf q103) ya
def t201:BT:=N q49 (N q76 (Lf q160) Z) ya
def t202:BT:=N q77 yb (Lf q161)
def t203:BT:=N q3 (Lf q131) yb
def t204:BT:=N q19 (N q16 (N q7 t198 t199) (N q3 t149 t200)) (N q3 (N q17 t201 t202) (N q18 t151 t203))
def t205:BT:=N q50 (N q3 (Lf q162) Z) yb
def t206:BT:=N q51 (Lf q105) (Lf q50)
def t207:BT:=N q7 (Lf q106) (Lf q163)
def t208:BT:=N q7 (N q78 (Lf q164) Z) (Lf q132)
def t209:BT:=N q79 (Lf q50) ya
def t210:BT:=N (boot_o_8 P) (N q7 (N q3 t205 t206) (N q20 t155 t207)) (N (q23 P) (N q21 t208 t154) (N q22 t157 t209))
def t211:BT:=N q53 (N q3 yb Z) (Lf q134)
def t212:BT:=N (q54 P) (Lf q107) (Lf q165)
def t213:BT:=N q80 (Lf (q109 P)) (Lf q166)
def t214:BT:=N q56 (N (q81 P) (Lf q167) Z) (Lf q135)
def t215:BT:=N q82 ya (Lf q168)
def t216:BT:=N q83 (Lf q137) ya
def t217:BT:=N q169 (N q25 (N q3 t211 (t212 P)) (N q24 t161 (t213 P))) (N q27 (N q7 (t214 P) t215) (N q26 (t163 P) t216))
def t218:BT:=N (q58 P) (N q85 (Lf q170) Z) ya
def t219:BT:=N q59 (Lf q112) (Lf (q171 P))
def t220:BT:=N q3 (Lf q114) (Lf q172)
def t221:BT:=N q3 (N q86 ya Z) (Lf q140)
def t222:BT:=N (q87 P) (Lf q115) ya
def t223:BT:=N q88 (Lf (q142 P)) (Lf q173)
def t224:BT:=N (boot_o_10 P) (N q3 (N q29 (t218 P) (t219 P)) (N q3 (t167 P) t220)) (N q32 (N q30 t221 (t222 P)) (N (q31 P) t169 (t223 P)))
def t225:BT:=N q62 (N q89 ya Z) ya
def t226:BT:=N q63 yb (Lf q174)
def t227:BT:=N q3 (Lf q117) yb
def t228:BT:=N q3 (N q90 (Lf q175) Z) yb
def t229:BT:=N q91 (Lf q118) ya
def t230:BT:=N q7 (Lf q145) (Lf q176)
def t231:BT:=N q36 (N q3 (N q33 t225 t226) (N q34 t173 t227)) (N q7 (N q3 t228 t229) (N q35 t175 t230))
def t232:BT:=N (boot_o_0 P) (N (boot_o_1 P) (N (q153 P) (t183 P) (t190 P)) (N (boot_o_5 P) (t197 P) t204)) (N (boot_o_2 P) (N (boot_o_4 P) (t210 P) (t217 P)) (N (boot_o_6 P) (t224 P) t231))
def t233:BT:=N q0 (N q65 ya Z) (N q3 ya Z)
def t234:BT:=N q3 (N q7 (Lf q177) Z) (N q119 (Lf q178) Z)
def t235:BT:=N q7 (N q66 ya Z) (N q120 (Lf q179) Z)
def t236:BT:=N q3 (N q3 (Lf q180) Z) yb
def t237:BT:=N q3 (N q3 (Lf q146) Z) (N q7 (Lf q181) Z)
def t238:BT:=N q37 (N q92 (Lf q182) Z) ya
def t239:BT:=N q38 (N q3 yb Z) (N q3 (Lf q183) Z)
def t240:BT:=N q7 (N q93 (Lf q184) Z) (Lf q147)
def t241:BT:=N (boot_o_7 P) (N q3 (N q1 t233 t234) (N q2 t235 t236)) (N q5 (N q3 t237 t238) (N q4 t239 t240))
def t242:BT:=N q3 (N q67 ya Z) (N q121 ya Z)
def t243:BT:=N q3 (N q94 yb Z) ya
def t244:BT:=N q39 (N q3 (Lf q185) Z) (N q122 (Lf q186) Z)
def t245:BT:=N q68 (N q3 (Lf q187) Z) (Lf q148)
def t246:BT:=N q40 (N q3 (Lf (q149 P)) Z) (N q123 yb Z)
def t247:BT:=N q3 (N q95 (Lf q188) Z) (Lf q150)
def t248:BT:=N q41 (N q96 ya Z) (N q3 (Lf q189) Z)
def t249:BT:=N q69 (N q3 (Lf q190) Z) (Lf q151)
def t250:BT:=N q3 (N q8 (N q6 t242 t243) (N q7 t244 t245)) (N q10 (N q3 (t246 P) t247) (N q152 t248 t249))
def t251:BT:=N q5 (N q72 (Lf q154) Z) (N q126 (Lf q192) Z)
def t252:BT:=N q44 (N q3 (Lf q193) Z) (N q5 (Lf q194) Z)
def t253:BT:=N q3 (N q5 (Lf q195) Z) (N q127 ya Z)
def t254:BT:=N q73 (N q99 yb Z) ya
def t255:BT:=N q45 (N q74 (Lf q155) Z) (N q3 (Lf q196) Z)
def t256:BT:=N q5 (N q100 ya Z) (Lf q156)
def t257:BT:=N q46 (N q101 (Lf q197) Z) (N q128 yb Z)
def t258:BT:=N q3 (N q5 (Lf q198) Z) (Lf q157)
def t259:BT:=N (boot_o_9 P) (N q14 (N q12 t251 t252) (N q13 t253 t254)) (N q3 (N q15 t255 t256) (N q3 t257 t258))
def t260:BT:=N q47 (N q7 (Lf q158) Z) (N q129 (Lf q199) Z)
def t261:BT:=N q48 (N q3 ya Z) (Lf q159)
def t262:BT:=N q3 (N q102 (Lf q200) Z) (N q7 (Lf q201) Z)
def t263:BT:=N q75 (N q103 ya Z) ya
def t264:BT:=N q49 (N q76 (Lf q160) Z) (N q3 ya Z)
def t265:BT:=N q77 (N q7 (Lf q202) Z) (Lf q161)
def t266:BT:=N q7 (N q104 (Lf q203) Z) (N q130 ya Z)
def t267:BT:=N q3 (N q131 yb Z) yb
def t268:BT:=N q19 (N q16 (N q7 t260 t261) (N q3 t262 t263)) (N q3 (N q17 t264 t265) (N q18 t266 t267))
def t269:BT:=N q50 (N q3 (Lf q162) Z) (N q7 (Lf q204) Z)
def t270:BT:=N q51 (N q105 (Lf q205) Z) (N q50 (Lf q206) Z)
def t271:BT:=N q52 (N q50 yb Z) (N q3 (Lf q207) Z)
def t272:BT:=N q7 (N q106 ya Z) (Lf q163)
def t273:BT:=N q7 (N q78 (Lf q164) Z) (N q132 (Lf q208) Z)
def t274:BT:=N q50 (N q3 (Lf q209) Z) yb
def t275:BT:=N q3 (N q7 (Lf q210) Z) (N q133 ya Z)
def t276:BT:=N q79 (N q50 ya Z) ya
def t277:BT:=N (boot_o_8 P) (N q7 (N q3 t269 t270) (N q20 t271 t272)) (N (q23 P) (N q21 t273 t274) (N q22 t275 t276))
def t278:BT:=N q53 (N q3 yb Z) (N q134 yb Z)
def t279:BT:=N (q54 P) (N q107 (Lf q211) Z) (Lf q165)
def t280:BT:=N q55 (N q108 (Lf q212) Z) (N q3 ya Z)
def t281:BT:=N q80 (N (q109 P) (Lf q213) Z) (Lf q166)
def t282:BT:=N q56 (N (q81 P) (Lf q167) Z) (N q135 (Lf q214) Z)
def t283:BT:=N q82 (N q3 ya Z) (Lf q168)
def t284:BT:=N q3 (N q110 yb Z) (N (q136 P) (Lf q215) Z)
def t285:BT:=N q83 (N q137 ya Z) ya
def t286:BT:=N q216 (N q25 (N q3 t278 (t279 P)) (N q24 t280 (t281 P))) (N q27 (N q7 (t282 P) t283) (N q26 (t284 P) t285))
def t287:BT:=N (q58 P) (N q85 (Lf q170) Z) (N q3 (Lf q217) Z)
def t288:BT:=N q59 (N q112 ya Z) (Lf (q171 P))
def t289:BT:=N q60 (N (q113 P) ya Z) (N q139 yb Z)
def t290:BT:=N q3 (N q114 (Lf q218) Z) (Lf q172)
def t291:BT:=N q3 (N q86 ya Z) (N q140 ya Z)
def t292:BT:=N (q87 P) (N q115 yb Z) ya
def t293:BT:=N q61 (N q3 (Lf q219) Z) (N q141 (Lf q220) Z)
def t294:BT:=N q88 (N (q142 P) (Lf q221) Z) (Lf q173)
def t295:BT:=N (boot_o_10 P) (N q3 (N q29 (t287 P) (t288 P)) (N q3 (t289 P) t290)) (N q32 (N q30 t291 (t292 P)) (N (q31 P) t293 (t294 P)))
def t296:BT:=N q62 (N q89 ya Z) (N q3 ya Z)
def t297:BT:=N q63 (N q7 (Lf q222) Z) (Lf q174)
def t298:BT:=N q7 (N q116 ya Z) (N q143 (Lf q223) Z)
def t299:BT:=N q3 (N q117 yb Z) yb
def t300:BT:=N q3 (N q90 (Lf q175) Z) (N q7 (Lf q224) Z)
def t301:BT:=N q91 (N q118 (Lf q225) Z) ya
def t302:BT:=N q64 (N q3 ya Z) (N q144 yb Z)
def t303:BT:=N q7 (N q145 (Lf q226) Z) (Lf q176)
def t304:BT:=N q36 (N q3 (N q33 t296 t297) (N q34 t298 t299)) (N q7 (N q3 t300 t301) (N q35 t302 t303))
def t305:BT:=N (boot_o_0 P) (N (boot_o_1 P) (N (q191 P) (t241 P) (t250 P)) (N (boot_o_5 P) (t259 P) t268)) (N (boot_o_2 P) (N (boot_o_4 P) (t277 P) (t286 P)) (N (boot_o_6 P) (t295 P) t304))
def t306:BT:=N q0 (N q65 ya ya) (N q3 ya Z)
def t307:BT:=N q7 (N q66 ya (Lf q227)) (N q120 (Lf q179) Z)
def t308:BT:=N q3 (N q3 (Lf q180) Z) (N q7 (Lf q228) Z)
def t309:BT:=N q3 (N q3 (Lf q146) (Lf q229)) (N q7 (Lf q181) Z)
def t310:BT:=N q37 (N q92 (Lf q182) Z) (N q3 (Lf q230) Z)
def t311:BT:=N q7 (N q93 (Lf q184) Z) (N q147 (Lf q231) Z)
def t312:BT:=N (boot_o_7 P) (N q3 (N q1 t306 t234) (N q2 t307 t308)) (N q5 (N q3 t309 t310) (N q4 t239 t311))
def t313:BT:=N q3 (N q67 ya ya) (N q121 ya Z)
def t314:BT:=N q3 (N q94 yb Z) (N q3 yb Z)
def t315:BT:=N q68 (N q3 (Lf q187) Z) (N q148 (Lf q232) Z)
def t316:BT:=N q40 (N q3 (Lf (q149 P)) yb) (N q123 yb Z)
def t317:BT:=N q3 (N q95 (Lf q188) Z) (N q150 (Lf q233) Z)
def t318:BT:=N q69 (N q3 (Lf q190) Z) (N q151 (Lf q234) Z)
def t319:BT:=N q3 (N q8 (N q6 t313 t314) (N q7 t244 t315)) (N q10 (N q3 (t316 P) t317) (N q152 t248 t318))
def t320:BT:=N q5 (N q72 (Lf q154) (Lf q236)) (N q126 (Lf q192) Z)
def t321:BT:=N q73 (N q99 yb Z) (N q3 yb Z)
def t322:BT:=N q45 (N q74 (Lf q155) (Lf q237)) (N q3 (Lf q196) Z)
def t323:BT:=N q5 (N q100 ya Z) (N q156 ya Z)
def t324:BT:=N q3 (N q5 (Lf q198) Z) (N q157 (Lf q238) Z)
def t325:BT:=N (boot_o_9 P) (N q14 (N q12 t320 t252) (N q13 t253 t321)) (N q3 (N q15 t322 t323) (N q3 t257 t324))
def t326:BT:=N q47 (N q7 (Lf q158) (Lf q239)) (N q129 (Lf q199) Z)
def t327:BT:=N q48 (N q3 ya Z) (N q159 ya Z)
def t328:BT:=N q75 (N q103 ya Z) (N q3 ya Z)
def t329:BT:=N q49 (N q76 (Lf q160) ya) (N q3 ya Z)
def t330:BT:=N q77 (N q7 (Lf q202) Z) (N q161 (Lf q240) Z)
def t331:BT:=N q3 (N q131 yb Z) (N q7 yb Z)
def t332:BT:=N q19 (N q16 (N q7 t326 t327) (N q3 t262 t328)) (N q3 (N q17 t329 t330) (N q18 t266 t331))
def t333:BT:=N q50 (N q3 (Lf q162) (Lf q241)) (N q7 (Lf q204) Z)
def t334:BT:=N q52 (N q50 yb (Lf q242)) (N q3 (Lf q207) Z)
def t335:BT:=N q7 (N q106 ya Z) (N q163 ya Z)
def t336:BT:=N q7 (N q78 (Lf q164) (Lf q243)) (N q132 (Lf q208) Z)
def t337:BT:=N q50 (N q3 (Lf q209) Z) (N q7 (Lf q244) Z)
def t338:BT:=N q79 (N q50 ya Z) (N q3 ya Z)
def t339:BT:=N (boot_o_8 P) (N q7 (N q3 t333 t270) (N q20 t334 t335)) (N (q23 P) (N q21 t336 t337) (N q22 t275 t338))
def t340:BT:=N q53 (N q3 yb yb) (N q134 yb Z)
def t341:BT:=N (q54 P) (N q107 (Lf q211) Z) (N q165 (Lf q245) Z)
def t342:BT:=N q80 (N (q109 P) (Lf q213) Z) (N q166 (Lf q246) Z)
def t343:BT:=N q56 (N (q81 P) (Lf q167) (Lf q247)) (N q135 (Lf q214) Z)
def t344:BT:=N q82 (N q3 ya Z) (N q168 ya Z)
def t345:BT:=N q83 (N q137 ya Z) (N q3 ya Z)
def t346:BT:=N q248 (N q25 (N q3 t340 (t341 P)) (N q24 t280 (t342 P))) (N q27 (N q7 (t343 P) t344) (N q26 (t284 P) t345))
def t347:BT:=N (q58 P) (N q85 (Lf q170) (Lf q249)) (N q3 (Lf q217) Z)
def t348:BT:=N q59 (N q112 ya Z) (N (q171 P) ya Z)
def t349:BT:=N q3 (N q114 (Lf q218) Z) (N q172 (Lf q250) Z)
def t350:BT:=N q3 (N q86 ya ya) (N q140 ya Z)
def t351:BT:=N (q87 P) (N q115 yb Z) (N q3 yb Z)
def t352:BT:=N q88 (N (q142 P) (Lf q221) Z) (N q173 (Lf q251) Z)
def t353:BT:=N (boot_o_10 P) (N q3 (N q29 (t347 P) (t348 P)) (N q3 (t289 P) t349)) (N q32 (N q30 t350 (t351 P)) (N (q31 P) t293 (t352 P)))
def t354:BT:=N q62 (N q89 ya ya) (N q3 ya Z)
def t355:BT:=N q63 (N q7 (Lf q222) Z) (N q174 (Lf q252) Z)
def t356:BT:=N q3 (N q117 yb Z) (N q7 yb Z)
def t357:BT:=N q3 (N q90 (Lf q175) (Lf q253)) (N q7 (Lf q224) Z)
def t358:BT:=N q91 (N q118 (Lf q225) Z) (N q3 (Lf q254) Z)
def t359:BT:=N q7 (N q145 (Lf q226) Z) (N q176 (Lf q255) Z)
def t360:BT:=N q36 (N q3 (N q33 t354 t355) (N q34 t298 t356)) (N q7 (N q3 t357 t358) (N q35 t302 t359))
def t361:BT:=N (boot_o_0 P) (N (boot_o_1 P) (N (q235 P) (t312 P) (t319 P)) (N (boot_o_5 P) (t325 P) t332)) (N (boot_o_2 P) (N (boot_o_4 P) (t339 P) (t346 P)) (N (boot_o_6 P) (t353 P) t360))
def l0:List Obj:=q242::[]
def l1:List Obj:=q3::q229::q243::q237::q3::q7::q247::q3::q253::q227::l0
def l2:List Obj:=q3::q7::q255::q3::q241::q236::q249::q3::q7::q239::l1
def l3:List Obj:=q250::q232::q246::q3::q7::q231::q3::q238::q251::q234::l2
def l4:List Obj:=q244::q3::q7::q233::q3::q240::q254::q228::q3::q7::l3
def l5:List Obj:=q7::q178::q206::q194::q3::q7::q245::q3::q252::q230::l4
def l6:List Obj:=q3::q201::q223::q183::q3::q7::q220::q189::q215::q3::l5
def l7:List Obj:=q3::q7::q214::q3::q224::q179::q207::q3::q7::q186::l6
def l8:List Obj:=q204::q192::q217::q3::q7::q199::q3::q181::q208::q196::l7
def l9:List Obj:=q7::q184::q3::q198::q221::q190::q3::q7::q226::q3::l8
def l10:List Obj:=q3::q202::q225::q180::q3::q7::q218::q187::q213::q3::l9
def l11:List Obj:=q3::q7::q211::q3::q222::q182::q209::q3::q7::q188::l10
def l12:List Obj:=q210::q197::q219::q3::q7::q203::q3::q177::q205::q193::l11
def l13:List Obj:=q175::q3::q7::q195::q3::q185::q212::q200::q3::q7::l12
def l14:List Obj:=q7::q158::q3::q146::q164::q155::q3::(q149 P)::q167::q160::l13
def l15:List Obj:=q173::q151::q3::q7::q176::q3::q162::q154::q170::q3::l14 P
def l16:List Obj:=q163::q3::q172::q148::q166::q3::q7::q147::q3::q157::l15 P
def l17:List Obj:=q174::q3::q7::q156::q3::q150::q168::q161::q3::q7::l16 P
def l18:List Obj:=(q136 P)::q130::q144::q119::q50::q5::(q171 P)::q3::q165::q159::l17 P
def l19:List Obj:=q139::q122::q3::q7::q143::q3::q133::q128::q141::q3::l18 P
def l20:List Obj:=q132::q3::q140::q123::q135::q3::q7::q120::q3::q127::l19 P
def l21:List Obj:=q145::q3::q7::q126::q3::q121::q134::q129::q3::q7::l20 P
def l22:List Obj:=(q109 P)::q103::q117::q93::q50::q5::(q142 P)::q3::q137::q131::l21 P
def l23:List Obj:=q115::q95::q3::q7::q118::q3::q106::q99::q114::q3::l22 P
def l24:List Obj:=q105::q3::q112::q94::q107::q3::q7::q92::q3::q100::l23 P
def l25:List Obj:=q116::q3::q7::q101::q3::q96::q110::q104::q3::q7::l24 P
def l26:List Obj:=(q81 P)::q76::q90::q66::q50::q5::(q113 P)::q3::q108::q102::l25 P
def l27:List Obj:=q85::q67::q3::q7::q89::q3::q78::q74::q86::q3::l26 P
def l28:List Obj:=q79::q3::q88::q69::q83::q3::q7::q65::q3::q72::l27 P
def l29:List Obj:=q91::q3::q7::q73::q3::q68::q80::q75::q3::q7::l28 P
def l30:List Obj:=(q54 P)::q48::q63::q37::q50::q5::(q87 P)::q3::q82::q77::l29 P
def l31:List Obj:=q61::q41::q3::q7::q64::q3::q51::q44::q59::q3::l30 P
def l32:List Obj:=q52::q3::q60::q39::q55::q3::q7::q38::q3::q46::l31 P
def l33:List Obj:=q62::q3::q7::q45::q3::q40::q56::q49::q3::q7::l32 P
def l34:List Obj:=q26::q18::q35::q0::q50::q5::(q58 P)::q3::q53::q47::l33 P
def l35:List Obj:=q3::q7::q24::q3::q34::q4::q22::q3::(q31 P)::q152::l34 P
def l36:List Obj:=q21::q15::q30::q3::q7::q17::q3::q2::q20::q13::l35 P
def l37:List Obj:=q7::q1::q3::q12::q29::q6::q3::q7::q33::q3::l36 P
def l38:List Obj:=q25::q16::q3::q5::(q23 P)::q3::q32::q10::q27::q3::l37 P
def l39:List Obj:=(boot_o_10 P)::q3::q248::q19::q36::q3::q7::q14::q3::q8::l38 P
def l40:List Obj:=(boot_o_0 P)::(boot_o_1 P)::(boot_o_2 P)::(q235 P)::(boot_o_4 P)::(boot_o_5 P)::(boot_o_6 P)::(boot_o_7 P)::(boot_o_8 P)::(boot_o_9 P)::l39 P
def h8:Heap:=Heap.mk (Array.mk (l40 P)) {}
end HQ
end
open PySem PySem.W
theorem HQ.aW8:(fun _:Params->BT=>true) HQ.t9=true:=by k_qdec
theorem HQ.ar2:(fun _:Params->BT=>true) HQ.t46=true:=by k_qdec
theorem HQ.ar3:(fun _:Params->BT=>true) HQ.t84=true:=by k_qdec
theorem HQ.ac9:(fun _:Params->BT=>true) HQ.t130=true:=by k_qdec
theorem HQ.ad0:(fun _:Params->BT=>true) HQ.t178=true:=by k_qdec
theorem HQ.ad1:(fun _:Params->BT=>true) HQ.t232=true:=by k_qdec
theorem HQ.ad2:(fun _:Params->BT=>true) HQ.t305=true:=by k_qdec
theorem HQ.ad3:(fun _:Params->BT=>true) HQ.t361=true:=by k_qdec
theorem HQ.aW9:(fun _:Params->Heap=>true) HQ.h8=true:=by k_qdec
def PySem.W.Fast.tw7378010891130506359:PySem.Params->PySem.W.BT:=PySem.W.Fast.tw223376804201673506
theorem PySem.W.Fast.te7378010891130506359:HQ.t9=PySem.W.Fast.tw7378010891130506359:=PySem.W.Fast.te223376804201673506
def PySem.W.Fast.tw11791511135266432563:PySem.Params->PySem.W.BT:=PySem.W.Fast.tw10517305673627982361
theorem PySem.W.Fast.te11791511135266432563:HQ.t46=PySem.W.Fast.tw11791511135266432563:=PySem.W.Fast.te10517305673627982361
def PySem.W.Fast.tw12595203241206570796:PySem.Params->PySem.W.BT:=PySem.W.Fast.tw12584509283875553660
theorem PySem.W.Fast.te12595203241206570796:HQ.t84=PySem.W.Fast.tw12595203241206570796:=PySem.W.Fast.te12584509283875553660
def PySem.W.Fast.tw9292080482554373424:PySem.Params->PySem.W.BT:=PySem.W.Fast.tw7683263471006807842
theorem PySem.W.Fast.te9292080482554373424:HQ.t130=PySem.W.Fast.tw9292080482554373424:=PySem.W.Fast.te7683263471006807842
def PySem.W.Fast.tw13570256129904293823:PySem.Params->PySem.W.BT:=PySem.W.Fast.tw14975480072694906095
theorem PySem.W.Fast.te13570256129904293823:HQ.t178=PySem.W.Fast.tw13570256129904293823:=PySem.W.Fast.te14975480072694906095
def PySem.W.Fast.tw10584819205215610487:PySem.Params->PySem.W.BT:=PySem.W.Fast.tw17224502083555759828
theorem PySem.W.Fast.te10584819205215610487:HQ.t232=PySem.W.Fast.tw10584819205215610487:=PySem.W.Fast.te17224502083555759828
def PySem.W.Fast.tw10202995476537806281:PySem.Params->PySem.W.BT:=PySem.W.Fast.tw14602318975585890430
theorem PySem.W.Fast.te10202995476537806281:HQ.t305=PySem.W.Fast.tw10202995476537806281:=PySem.W.Fast.te14602318975585890430
def PySem.W.Fast.tw11654717999104067233:PySem.Params->PySem.W.BT:=PySem.W.Fast.tw8884992687252272219
theorem PySem.W.Fast.te11654717999104067233:HQ.t361=PySem.W.Fast.tw11654717999104067233:=PySem.W.Fast.te8884992687252272219
def PySem.W.Fast.tw1109335183780999432:PySem.Params->PySem.Heap:=PySem.W.Fast.tw11273729791531582091
theorem PySem.W.Fast.te1109335183780999432:HQ.h8=PySem.W.Fast.tw1109335183780999432:=PySem.W.Fast.te11273729791531582091
open PySem PySem.W PyProof.Rows
set_option maxRecDepth 100000 in
set_option maxHeartbeats 0 in
theorem PySem.Challenge.cw_surejoin_k02_joined_holds : PySem.Challenge.rw_surejoin_k02_joined.Holds := by
 w_on;o_law;z_head;(case hw=>w_witness2)
 refine M.walkZ (l:=PySem.Challenge.rw_surejoin_k02_joined) (cf:=LW.yB) (k:=5) (x := "_law_script") (fun _=>by kernel_rfl) rfl rfl ⟨rfl,by decide,by decide,rfl⟩ ?F LW.JY
 case F =>
  intro w mg fa h KX G KQ;refine' LW.all_mk KX G KQ ?_ ?_ ?_ ?_ ?_ ?_ ?_ ?_ ?_ ?_ ?_ ?_ ?_ ?_ ?_ ?_ ?_ ?_ ?_ ?_ ?_ ?_ ?_ ?_ ?_ ?_ ?_ ?_ ?_ ?_ ?_ ?_ ?_ ?_ ?_ ?_ ?_ ?_ ?_ ?_ ?_ ?_ ?_ ?_ ?_ ?_ ?_ ?_ ?_ ?_ ?_ ?_ ?_ ?_ ?_ ?_ ?_ ?_ ?_ ?_ ?_ ?_ ?_ ?_ ?_ ?_ ?_ ?_ ?_ ?_ ?_ ?_ ?_ ?_ ?_ ?_ ?_ ?_ ?_ ?_ ?_ ?_ ?_ ?_ ?_ ?_ ?_ ?_ ?_ ?_ ?_ ?_ ?_ ?_ ?_ ?_ ?_ ?_ ?_ ?_ ?_ ?_ ?_ ?_ ?_ ?_ ?_ ?_ ?_ ?_ ?_ ?_ ?_ ?_ ?_ ?_ ?_ ?_ ?_ ?_ ?_ ?_ ?_ ?_ ?_ ?_ ?_ ?_ ?_ ?_ ?_ ?_ ?_ ?_ ?_ ?_ ?_ ?_ ?_ ?_ ?_ ?_ ?_ ?_ ?_ ?_ ?_ ?_ ?_ ?kU ?mP ?kW ?kX ?mQ ?mR ?_ ?_ ?_ ?_ ?_ ?_ ?_ ?_ ?_ ?_ ?_ ?_ ?_ ?_ ?_ ?_ ?mS ?oS ?mT ?mU ?oU ?oV ?_ ?_ ?_ ?_ ?_ ?_ ?_ ?_ ?_ ?_ ?_ ?_ ?_ ?_ ?_ ?_ ?kY ?mW ?kZ ?lh ?mX ?mY ?_ ?_ ?_ ?_ ?_ ?_ ?_ ?_ ?_ ?_ ?_ ?_ ?_ ?_ ?_ ?_ ?mZ ?oW ?m5 ?m6 ?oX ?oY ?_ ?_ ?_ ?_ ?_ ?_ ?_ ?_ ?_ ?_ ?_ ?_ ?_ ?_ ?_ ?_ ?m8 ?oZ ?nc ?nh ?o4 ?o5 ?_ ?_ ?_ ?_ ?_ ?_ ?QT ?QU ?_ ?_ ?_ ?_ ?_ ?_ ?_ ?_ ?_ ?_ ?_ ?_ ?_
  (case kU=>kernel_rfl)
  (case mP=>kernel_rfl)
  (case kW=>kernel_rfl)
  (case kX=>kernel_rfl)
  (case mQ=>kernel_rfl)
  (case mR=>kernel_rfl)
  (case mS=>kernel_rfl)
  (case oS=>kernel_rfl)
  (case mT=>kernel_rfl)
  (case mU=>kernel_rfl)
  (case oU=>kernel_rfl)
  (case oV=>kernel_rfl)
  (case kY=>kernel_rfl)
  (case mW=>kernel_rfl)
  (case kZ=>kernel_rfl)
  (case lh=>kernel_rfl)
  (case mX=>kernel_rfl)
  (case mY=>kernel_rfl)
  (case mZ=>kernel_rfl)
  (case oW=>kernel_rfl)
  (case m5=>kernel_rfl)
  (case m6=>kernel_rfl)
  (case oX=>kernel_rfl)
  (case oY=>kernel_rfl)
  (case m8=>kernel_rfl)
  (case oZ=>kernel_rfl)
  (case nc=>kernel_rfl)
  (case nh=>kernel_rfl)
  (case o4=>kernel_rfl)
  (case o5=>kernel_rfl)
  (case QT=>kernel_rfl)
  (case QU=>kernel_rfl)
  all_goals try k_is