import PyProof.Rows.All
import Wide.All
import OpenK.AllK
import Wide.FinOn
import PyProof.EqAt
import PyProof.EqKinds
import PyProof.TupleCall
import PyProof.NeKinds
import PyProof.StrLawsTight
import PyProof.ExcClass3
import PyProof.StationsW
import PyProof.ExcBaseAll.ValueError
import PyProof.NsDelKeeps
import PyProof.RulesAs
import PyProof.ExcArgsOwn
import PyProof.ExcAttrAll.ValueError
import PyProof.ZipIter
import PyProof.ListMulRoad
import KE.KDictSum
import PyProof.ListRange
import PyProof.Draws
import PyProof.EnumMake
import PyProof.Rows.Range3
import PyProof.Rows.SortShell
import PyProof.Conv_int_bool
import PyProof.Rows.SetFrom
import PyProof.Rows.SetObj
import PyProof.WalksMore
import KE.IntBitsLaws
import KE.KRevSl
import PyProof.FitsBits
import PyProof.CollectIter
import PyProof.IsRules
import PyProof.AttrMissHeap
import PyProof.WalksS
import KE.KDictOf
import PyProof.PureStr
import PyProof.StrOps2
import PyProof.SliceStr2
import PyProof.StrBlockI
import PyProof.CompFree
import PyProof.Rows.StrSplitJoin
import PyProof.StrCalls6
import PyProof.ConsumeWalk
import PyProof.StrLawsReplace
import PyProof.DictItems
import PyProof.Rows.SortRuns
import KE.KFind
import PyProof.Rows.StrSplitMax
import PyProof.Rows.SortStr
import PySem.Builtin.SetT
import PyProof.FactsAll.tuple_iterator_0
import PyProof.Rows.TupTab
import PySem.SetOps
import Lean
import PySem.Challenge.RW_shutpairs_k28_the_walk
set_option compiler.extract_closed false
local macro_rules | `(tactic| omega)=>`(tactic| first | lia | omega (config:={}))
set_option Elab.async false
set_option linter.all false
set_option maxRecDepth 100000
open List (length_map mem_cons map_cons size_toArray mem_map length_cons mem_cons_of_mem replicate getElem?_map length_append length_take take_length mem_of_getElem? mem_cons_self map_append getElem?_eq_getElem mem_append take_succ_eq_append_getElem mem_append_right all_eq_true mem_range take_of_length_le getD_eq_getElem?_getD append_nil not_mem_nil mem_filter length filter_cons all_map any_cons filterMap_cons nodup_cons flatten_cons append_assoc pairwise_cons take_succ getElem_mem)
open Nat (le_trans le_refl ne_of_lt zero_le lt_of_lt_of_le lt_irrefl le_succ lt_succ_of_lt lt_of_le_of_lt)
open Bool (and_eq_true false_eq_true)
open Int (toNat_natCast le_of_lt)
namespace L2
open PySem PySem.Spec PyProof.Rows
abbrev Key:=Sum Int Str
def keyIs:Key->Value->Bool
 | .inl k,v=>Value.isInt k v
 | .inr x,v=>Value.isStrOf x v
def keyH(w:World):Key->Int
 | .inl k=>hashInt k
 | .inr x=>hashStr w x
theorem y8:∀{k:Key}{v:Value},keyIs k v=true->(∃i t,k=Sum.inl i/\v=Value.int i t)\/(∃x t,k=Sum.inr x/\v=Value.str x t)
 | .inl i,v,h=>by
  obtain⟨t,e⟩:=Value.isInt_shape (k:=i) (v:=v) h;exact .inl ⟨i,t,rfl,e⟩
 | .inr x,v,h=>by
  obtain⟨t,e⟩:=Value.isStrOf_shape (x:=x) (v:=v) h;exact .inr ⟨x,t,rfl,e⟩
theorem keyIs_int(i:Int)(t:Tok):keyIs (.inl i) (.int i t)=true:=by simp[keyIs,Value.isInt]
theorem keyIs_str(x:Str)(t:Tok):keyIs (.inr x) (.str x t)=true:=by simp[keyIs,Value.isStrOf]
theorem key_ll(a b:Int):decide ((Sum.inl a:Key)=Sum.inl b)=(a==b):=by
 by_cases e:a=b
 ·subst e;simp
 ·have h:¬(Sum.inl a:Key)=Sum.inl b:=fun q=>e (Sum.inl.inj q);rw[decide_eq_false h];exact(beq_eq_false_iff_ne.mpr e).symm
theorem key_rr(a b:Str):decide ((Sum.inr a:Key)=Sum.inr b)=decide (a=b):=by
 by_cases e:a=b
 ·subst e;simp
 ·have h:¬(Sum.inr a:Key)=Sum.inr b:=fun q=>e (Sum.inr.inj q);rw[decide_eq_false h,decide_eq_false e]
theorem key_lr(a:Int)(b:Str):decide ((Sum.inl a:Key)=Sum.inr b)=false:=decide_eq_false (fun q=>nomatch q)
theorem key_rl(a:Str)(b:Int):decide ((Sum.inr a:Key)=Sum.inl b)=false:=decide_eq_false (fun q=>nomatch q)
def yA(prog:Program)(w:World):PySem.KeyKind prog w Key where
 is:=keyIs
 hash:=keyH w
 inj:=fun v a b ha hb=>by
  rcases y8 ha with⟨i,t,rfl,rfl⟩|⟨x,t,rfl,rfl⟩
  ·rcases y8 hb with⟨j,u,rfl,e⟩|⟨y,u,rfl,e⟩
   ·injection e with e1 _;rw[e1]
   ·exact nomatch e
  ·rcases y8 hb with⟨j,u,rfl,e⟩|⟨y,u,rfl,e⟩
   ·exact nomatch e
   ·injection e with e1 _;rw[e1]
 byValue:=fun k v h=>by
  rcases y8 h with⟨i,t,rfl,rfl⟩|⟨x,t,rfl,rfl⟩ <;>rfl
 pyHash:=fun hv h=>by
  rcases y8 hv with⟨i,t,rfl,rfl⟩|⟨x,t,rfl,rfl⟩
  ·exact wpAny_pyHash_int h
  ·exact wpAny_pyHash_str h
 eqBool:=fun hu hv h=>by
  rcases y8 hu with⟨i,t,rfl,rfl⟩|⟨x,t,rfl,rfl⟩
  ·rcases y8 hv with⟨j,u,rfl,rfl⟩|⟨y,u,rfl,rfl⟩
   ·rw[key_ll]at h;exact wpAny_eqBool_int h
   ·rw[key_lr]at h;exact SeqAt.EqAt.int_str i t y u _ _ _ _ h
  ·rcases y8 hv with⟨j,u,rfl,rfl⟩|⟨y,u,rfl,rfl⟩
   ·rw[key_rl]at h;exact SeqAt.EqAt.str_int x t j u _ _ _ _ h
   ·rw[key_rr]at h;exact wpAny_eqBool_str h
 «strs»:=fun k x t v h=>by
  rcases y8 h with⟨i,u,rfl,e⟩|⟨y,u,rfl,e⟩
  ·exact nomatch e
  ·injection e with e1 _
   subst e1;cases v <;>rfl
theorem mixKind_int(prog:Program)(w:World)(i:Int)(t:Tok):(yA prog w).is (.inl i) (.int i t)=true:=keyIs_int i t
theorem mixKind_str(prog:Program)(w:World)(x:Str)(t:Tok):(yA prog w).is (.inr x) (.str x t)=true:=keyIs_str x t
inductive V where
 |non|bl (b:Bool)|int (i:Int)|str (x:Str)|byt (b:Array UInt8)|flt (b:UInt64)|ref (a:Addr)|ty (n:String)
 deriving DecidableEq
def RelV:V->Value->Prop
 | .non,u=>u=Value.none
 | .bl b,u=>u=Value.bool b
 | .int i,u=>∃ t,u=Value.int i t
 | .str x,u=>∃ t,u=Value.str x t
 | .byt b,u=>∃ t,u=Value.bytes b t
 | .flt b,u=>∃ t,u=Value.float b t
 | .ref a,u=>u=Value.ref a
 | .ty n,u=>u=Value.type n
abbrev Vals:List V->List Value->Prop:=Paired RelV
theorem Vals.length{xs:List V}{us:List Value}(r:Vals xs us):xs.length=us.length:=Paired.length r
theorem Vals.get:∀{xs:List V}{us:List Value}{i:Nat}{x:V},Vals xs us->xs[i]? =some x-> ∃u,us[i]? =some u/\RelV x u
 | _,_,_,_,.nil,e=>by simp at e
 | _,_,0,_,.cons r _,e=>by simp at e;subst e;exact⟨_,rfl,r⟩
 | _,_,i+1,x,.cons _ t,e=>by
  obtain⟨u,h1,h2⟩:=Vals.get (i:=i) (x:=x) t (by simpa using e);exact⟨u,by simpa using h1,h2⟩
theorem Vals.set{x:V}{u:Value}(r:RelV x u):∀{xs:List V}{us:List Value}(i:Nat),Vals xs us->Vals (xs.set i x) (us.set i u)
 | _,_,_,.nil=>.nil
 | _,_,0,.cons _ t=>.cons r t
 | _,_,i+1,.cons q t=>.cons q (Vals.set r i t)
theorem Vals.append:∀{xs ys:List V}{us ws:List Value},Vals xs us->Vals ys ws->Vals (xs++ys) (us++ws)
 | _,_,_,_,.nil,s=>s
 | _,_,_,_,.cons r t,s=>.cons r (Vals.append t s)
theorem Vals.take:∀{xs:List V}{us:List Value}(n:Nat),Vals xs us->Vals (xs.take n) (us.take n)
 | _,_,0,_=>.nil
 | _,_,_+1,.nil=>.nil
 | _,_,n+1,.cons r t=>.cons r (Vals.take n t)
theorem Vals.drop:∀{xs:List V}{us:List Value}(n:Nat),Vals xs us->Vals (xs.drop n) (us.drop n)
 | _,_,0,r=>r
 | _,_,_+1,.nil=>.nil
 | _,_,n+1,.cons _ t=>Vals.drop n t
def RelO:Option V->Option Value->Prop
 |some v,some u=>RelV v u
 |none,none=>True
 | _,_=>False
def KV{κ:Type}:List (κ×V)->List (κ×Value)->Prop:=Paired fun(p:κ×V)(q:κ×Value)=>p.1=q.1/\RelV p.2 q.2
def kV:Key->V
 | .inl i=>.int i
 | .inr x=>.str x
inductive HO where
  |lst (xs:List V)
  |tup (xs:List V)
  |dK (kvs:List (Key×V))|dT (kvs:List (List Key×V))
  |set (S:Int->Bool) (n:Nat)
  |ins (C dx:Addr) (fs:List (Str×V))
  |own (x:Addr)
  |xd (fs:List (Str×V))
  |met (f x:Addr)
  |rng (lo hi:Int)
  |frz (o:Obj) (u:HO)
  |tbl (ps:Array Value)
  |ext (φ:Heap->Prop)
abbrev Hp:=Addr->Option HO
def upd(H:Hp)(a:Addr)(o:HO):Hp:=fun b=>if b=a then some o else H b
theorem z0{H:Hp}{a:Addr}{o:HO}:upd H a o a=some o:=by unfold upd;rw[if_pos rfl]
theorem zh{H:Hp}{a b:Addr}{o:HO}(h:b≠a):upd H a o b=H b:=by unfold upd;rw[if_neg h]
theorem ne_of{H:Hp}{a b:Addr}{o u:HO}(h:H a=some o)(h':H b=some u)(d:o≠u):a≠b:=by
 intro e;subst e;rw[h]at h';exact d (Option.some.inj h')
theorem zt{H:Hp}{a b:Addr}{o:HO}(h:H a=some o)(h':H b=none):a≠b:=by
 intro e;subst e;rw[h]at h';cases h'
section
variable(P:Program)(w:World)
def zS(H:Hp)(h:Heap)(a:Addr):HO->Prop
 | .lst xs=>xs.length<=sizeLine/\ ∃(its:List Value)(n:Nat),Vals xs its/\h.get? a=some {cls:=.type "list",data:=.seq its.toArray n}
 | .tup xs=>xs.length<=sizeLine/\ ∃its:List Value,Vals xs its/\IsTup h a its.toArray/\ ∀o,h.get? a=some o->o.dict=none
 | .dK kvs=>kvs.length<=sizeLine/\(a==sysModules)=false/\ ∃vs,KV kvs vs/\h.DictOf (yA P w) a vs
 | .dT kvs=>kvs.length<=sizeLine/\(a==sysModules)=false/\ ∃xs:List (List Key×Addr×Value),
   Paired (fun(p:List Key×V)(q:List Key×Addr×Value)=>p.1=q.1/\H q.2.1=some (.tup (p.1.map kV))/\RelV p.2 q.2.2) kvs xs/\
   ∃o es ep,h.get? a=some o/\o.ExactDict/\o.data= .dict es ep/\es.toList=xs.map (entryOfKey (tupleKind (yA P w)))/\(xs.map (·.1)).Nodup
 | .set S n=>h.SetOf (intKind P w) a S n
 | .ins C dx fs=>H dx=some (.own a)/\fs.length<=1000/\dx≠a/\h.get? a=some (W.instObj C dx)/\
   ∃mA,h.Ns1 dx mA/\(∀f,RelO (fs.lookup f) (mA f))/\PySem.Within mA (fs.map (·.1))
 | .own _=>∃ o,h.get? a=some o
 | .xd fs=>∃ mA,h.Ns1 a mA/\ ∀f,RelO (fs.lookup f) (mA f)
 | .rng lo hi=>∃ t u v,h.get? a=some {cls:=.type "range",data:=.fields #[.int lo t,.int hi u,.int 1 v]}
 | .frz o u=>h.get? a=some o/\zS H h a u
 | .tbl ps=>h.get? a=some {cls:=.none,data:=.fields ps}
 | .met f x=>h.get? a=some (W.methodObj (.ref f) (.ref x))
 | .ext φ=>φ h/\(∃o,h.get? a=some o)/\ ∀h1 h2:Heap,φ h1->(∀o,h1.get? a=some o->h2.get? a=some o)-> φ h2
theorem tup_nodict{h:Heap}{its:Array Value}:∀o,(h.push {cls:=.type "tuple",data:=.seq its}).get? h.objs.size=some o->o.dict=none:=by
 intro o e;rw[Heap.get?_push_size _ rfl]at e;cases e;rfl
def HOk(H:Hp)(h:Heap):Prop:=∀ a o,H a=some o->zS P w H h a o
end
section
variable{P:Program}{w:World}{H H':Hp}{h h':Heap}{a:Addr}{o:HO}
theorem zS.lt(x:zS P w H h a o):a<h.objs.size:=by
 cases o with
 |lst xs=>obtain⟨_,_,_,_,e⟩:=x;exact Heap.lt_size e
 |tup xs=>obtain⟨_,_,_,p,_⟩:=x;exact p.lt
 |dK kvs=>obtain⟨_,_,_,_,o,_,_,e,_⟩:=x;exact Heap.lt_size e
 |dT kvs=>obtain⟨_,_,_,_,o,_,_,e,_⟩:=x;exact Heap.lt_size e
 |set S n=>obtain⟨o,_,_,_,e,_⟩:=x;exact Heap.lt_size e
 |ins C dx fs=>obtain⟨_,_,_,e,_⟩:=x;exact Heap.lt_size e
 |own y=>obtain⟨_,e⟩:=x;exact Heap.lt_size e
 |xd fs=>obtain⟨_,⟨_,_,_,e,_⟩,_⟩:=x;exact Heap.lt_size e
 |rng lo hi=>obtain⟨_,_,_,e⟩:=x;exact Heap.lt_size e
 |frz ob u=>obtain⟨e,_⟩:=x;exact Heap.lt_size e
 |tbl ps=>exact Heap.lt_size (show h.get? a=some _ from x)
 |met f y=>exact Heap.lt_size (show h.get? a=some _ from x)
 |ext φ=>obtain⟨_,⟨_,e⟩,_⟩:=x;exact Heap.lt_size e
theorem Paired.mapP{α β:Type}{F G:α-> β->Prop}:∀{l₁:List α}{l₂:List β},Paired F l₁ l₂->(∀a b,F a b->G a b)->Paired G l₁ l₂
 | _,_,.nil,_=>.nil
 | _,_,.cons r t,f=>.cons (f _ _ r) (Paired.mapP t f)
theorem zS.stay(x:zS P w H h a o)(k:∀b u,(b=a\/H b=some (.own a))->h.get? b=some u->h'.get? b=some u)(ho:∀b,H b=some (.own a)->H' b=some (.own a))(ht:∀b xs,H b=some (.tup xs)->H' b=some (.tup xs)):zS P w H' h' a o:=by
 induction o with
 |lst xs=>obtain⟨z,its,n,r,e⟩:=x;exact⟨z,its,n,r,k _ _ (.inl rfl) e⟩
 |tup xs =>
  obtain⟨z,its,r,⟨ob,e,c⟩,nd⟩:=x;have e':=k _ _ (.inl rfl) e;exact⟨z,its,r,⟨ob,e',c⟩,fun o q=>by rw[e']at q;cases q;exact nd ob e⟩
 |dK kvs=>obtain⟨z,y,vs,r,ob,es,ep,e,c⟩:=x;exact⟨z,y,vs,r,ob,es,ep,k _ _ (.inl rfl) e,c⟩
 |dT kvs =>
  obtain⟨z,y,xs,r,ob,es,ep,e,c⟩:=x;exact⟨z,y,xs,Paired.mapP r fun p q z=>⟨z.1,ht _ _ z.2.1,z.2.2⟩,ob,es,ep,k _ _ (.inl rfl) e,c⟩
 |set S n=>obtain⟨ob,es,ep,t,e,c⟩:=x;exact⟨ob,es,ep,t,k _ _ (.inl rfl) e,c⟩
 |ins C dx fs =>
  obtain⟨d,z,ne,e,mA,⟨od,es,ep,e2,c⟩,r⟩:=x;exact⟨ho _ d,z,ne,k _ _ (.inl rfl) e,mA,⟨od,es,ep,k _ _ (.inr d) e2,c⟩,r⟩
 |own y=>obtain⟨ob,e⟩:=x;exact⟨ob,k _ _ (.inl rfl) e⟩
 |xd fs=>obtain⟨mA,⟨od,es,ep,e,c⟩,r⟩:=x;exact⟨mA,⟨od,es,ep,k _ _ (.inl rfl) e,c⟩,r⟩
 |rng lo hi=>obtain⟨t,u,v,e⟩:=x;exact⟨t,u,v,k _ _ (.inl rfl) e⟩
 |frz ob u ih=>obtain⟨e,q⟩:=x;exact⟨k _ _ (.inl rfl) e,ih q⟩
 |tbl ps =>
  have e:h.get? a=some {cls:=.none,data:=.fields ps}:=x;show h'.get? a=some {cls:=.none,data:=.fields ps};exact k a _ (.inl rfl) e
 |met f y =>
  have e:h.get? a=some (W.methodObj (.ref f) (.ref y)):=x;show h'.get? a=some (W.methodObj (.ref f) (.ref y));exact k a _ (.inl rfl) e
 |ext φ=>obtain⟨p,⟨o,e⟩,st⟩:=x;exact⟨st _ _ p fun o q=>k _ _ (.inl rfl) q,⟨o,k _ _ (.inl rfl) e⟩,st⟩
theorem HOk.lt(x:HOk P w H h)(e:H a=some o):a<h.objs.size:=(x a o e).lt
theorem HOk.fresh(x:HOk P w H h)(e:h.objs.size<=a):H a=none:=by
 cases q:H a with
 |none=>rfl
 |some u=>exact absurd (lt_of_lt_of_le (x.lt q) e) (lt_irrefl _)
theorem HOk.kept(x:HOk P w H h)(k:∀b u,h.get? b=some u->h'.get? b=some u):HOk P w H h':=fun a o e =>
 (x a o e).stay (fun b u _ q=>k b u q) (fun _ q=>q) fun _ _ q=>q
theorem HOk.laid(x:HOk P w H h)(k:∀b u,h.get? b=some u->h'.get? b=some u)(hp:h.objs.size<=a)(new:zS P w (upd H a o) h' a o):HOk P w (upd H a o) h':=fun b u e=>by
 have hn:=x.fresh hp;by_cases hb:b=a
 ·subst hb;rw[z0]at e;cases e;exact new
 ·rw[zh hb]at e;exact(x b u e).stay (fun c v _ q=>k c v q) (fun c q=>by rw[zh (zt q hn)];exact q) fun c xs q=>by rw[zh (zt q hn)];exact q
end
def Rd(H:Hp)(a:Addr)(u:HO):Prop:=H a=some u\/ ∃o,H a=some (.frz o u)
theorem Rd.ok{P:Program}{w:World}{H:Hp}{h:Heap}{a:Addr}{u:HO}(r:Rd H a u)(x:HOk P w H h):zS P w H h a u:=by
 rcases r with r|⟨o,r⟩
 ·exact x a u r
 ·obtain⟨_,q⟩:=x a _ r;exact q
def Mut:Option HO->Prop
 |some (.lst _)=>True
 |some (.dK _)=>True
 |some (.dT _)=>True
 |some (.set _ _)=>True
 |some (.ins _ _ _)=>True
 |some (.ext _)=>True
 | _=>False
section
variable{P:Program}{w:World}{H:Hp}{h h':Heap}{x e:Addr}{o':HO}
theorem HOk.write(ok:HOk P w H h)(mu:Mut (H x))(he:e=x\/H e=some (.own x))(k:∀b u,b≠e->h.get? b=some u->h'.get? b=some u)(heo:∃u,h'.get? e=some u)(new:zS P w (upd H x o') h' x o'):HOk P w (upd H x o') h':=fun b u q=>by
 have nown:∀c y,H c=some (.own y)->c≠x:=fun c y r z=>by subst z;rw[r]at mu;exact mu
 have ntup:∀c xs,H c=some (.tup xs)->c≠x:=fun c xs r z=>by subst z;rw[r]at mu;exact mu
 by_cases hb:b=x
 ·subst hb;rw[z0]at q;cases q;exact new
 ·rw[zh hb]at q;by_cases hbe:b=e
  ·have q':H b=some (.own x):=by
    rcases he with z|z
    ·exact absurd (hbe.trans z) hb
    ·rw[hbe];exact z
   rw[q]at q';cases q';obtain⟨v,hv⟩:=heo;exact⟨v,by rw[hbe];exact hv⟩
  ·refine(ok b u q).stay (fun c v hc r=>k c v ?_ r) (fun c r=>by rw[zh (nown c b r)];exact r) fun c xs r=>by rw[zh (ntup c xs r)];exact r
   rcases hc with rfl|hc
   ·exact hbe
   ·rintro rfl;rcases he with z|z
    ·exact nown c b hc z
    ·rw[hc]at z;cases z;exact hb rfl
end
structure Un(fs ex:List Addr)(H H':Hp)(h h':Heap):Prop where
 keep:∀b o,h.get? b=some o->H b=none->b∉fs->b∉ex->h'.get? b=some o
 slot:∀b o,h.get? b=some o->H b=none->b∈fs->b∉ex-> ∃sl,h'.get? b=some {o with slots:=sl}
 free:∀b o,h.get? b=some o->H b=none->b∉ex->H' b=none
 there:∀b o,h.get? b=some o->b∉ex-> ∃o',h'.get? b=some o'
 tups:∀b xs,H b=some (.tup xs)->H' b=some (.tup xs)
 frzs:∀b o u,H b=some (.frz o u)->H' b=some (.frz o u)
 tbls:∀b ps,H b=some (.tbl ps)-> ∃more,H' b=some (.tbl (ps++more))
section
variable{fs fs' ex ex':List Addr}{H H1 H2:Hp}{h h1 h2 h':Heap}{a x e:Addr}{o:HO}
theorem Un.any(u:Un fs ex H H1 h h1){b:Addr}{ob:Obj}(q:h.get? b=some ob)(n:H b=none)(hx:b∉ex):∃sl,h1.get? b=some {ob with slots:=sl}:=by
 by_cases hb:b∈fs
 ·exact u.slot b ob q n hb hx
 ·exact⟨ob.slots,u.keep b ob q n hb hx⟩
theorem Un.kept(k:∀b u,h.get? b=some u->h'.get? b=some u):Un fs ex H H h h' :=
 ⟨fun b ob q _ _ _=>k b ob q,fun b ob q _ _ _=>⟨ob.slots,k b ob q⟩,fun _ _ _ n _=>n,fun b ob q _=>⟨ob,k b ob q⟩,fun _ _ q=>q,fun _ _ _ q=>q,fun _ ps q=>⟨#[],by rw[q];simp⟩⟩
theorem Un.refl:Un fs ex H H h h:=Un.kept fun _ _ q=>q
theorem Un.laid(k:∀b u,h.get? b=some u->h'.get? b=some u)(hp:h.objs.size<=a)(hn:H a=none):Un fs ex H (upd H a o) h h' where
 keep:=fun b u q _ _ _=>k b u q
 slot:=fun b u q _ _ _=>⟨u.slots,k b u q⟩
 free:=fun b u q n _=>by rw[zh (ne_of_lt (lt_of_lt_of_le (Heap.lt_size q) hp))];exact n
 there:=fun b u q _=>⟨u,k b u q⟩
 tups:=fun b xs q=>by rw[zh (zt q hn)];exact q
 frzs:=fun b u xs q=>by rw[zh (zt q hn)];exact q
 tbls:=fun b ps q=>⟨#[],by rw[zh (zt q hn),q];simp⟩
theorem Un.write(mu:Mut (H x))(he:e=x\/H e=some (.own x))(k:∀b u,b≠e->h.get? b=some u->h'.get? b=some u)(heo:∃u,h'.get? e=some u):Un fs ex H (upd H x o) h h':=by
 have hx:∀b,H b=none->b≠x:=fun b n z=>by subst z;rw[n]at mu;exact mu
 have hb:∀b,H b=none->b≠e:=fun b n z=>by
  subst z;rcases he with r|r
  ·exact hx b n r
  ·rw[n]at r;cases r
 have hm:∀b u,H b=some u-> ¬Mut (some u)->b≠x:=fun b u q nm z=>by subst z;rw[q]at mu;exact nm mu
 refine⟨fun b u q n _ _=>k b u (hb b n) q,fun b u q n _ _=>⟨u.slots,k b u (hb b n) q⟩,fun b u q n _=>by rw[zh (hx b n)];exact n,fun b u q _=>?_,
  fun b xs q=>by rw[zh (hm b _ q fun z=>z)];exact q,fun b u xs q=>by rw[zh (hm b _ q fun z=>z)];exact q,fun b ps q=>⟨#[],by rw[zh (hm b _ q fun z=>z),q];simp⟩⟩
 by_cases hbe:b=e
 ·subst hbe;exact heo
 ·exact⟨u,k b u hbe q⟩
end
def trk(h:Heap)(H:Hp):List Addr:=(List.range h.objs.size).filter fun a=>(H a).isSome
def hidT(h:Heap)(H:Hp):Heap:=W.hideAll h (trk h H)
theorem hidT_size(h:Heap)(H:Hp):(hidT h H).objs.size=h.objs.size:=W.hideAll_size _ _
theorem hidT_get{h:Heap}{H:Hp}{b:Addr}{o:Obj}(e:h.get? b=some o)(n:H b=none):(hidT h H).get? b=some o :=
 W.hideAll_get _ e fun hm=>by
  have q:(H b).isSome=true:=(mem_filter.mp hm).2;rw[n]at q;simp at q
theorem of_hidT{h:Heap}{H:Hp}{b:Addr}{o:Obj}(e:(hidT h H).get? b=some o):h.get? b=some o/\H b=none:=by
 have e':h.get? b=some o:=W.of_hideAll (trk h H) e;refine⟨e',?_⟩;cases q:H b with
 |none=>rfl
 |some x =>
  have hm:b∈trk h H:=mem_filter.mpr ⟨mem_range.mpr (Heap.lt_size e'),by simp[q]⟩;have z:(hidT h H).get? b=none:=W.hideAll_none (trk h H) hm;rw[z]at e;cases e
def allNews(g h:Heap)(L:Addr):List (Addr×Obj):=(List.range h.objs.size).filterMap fun a=>if a=L\/(g.get? a).isSome=true then none else(h.get? a).map fun o=>(a,o)
def rest(g h:Heap)(L d:Addr):List (Addr×Obj):=(allNews g h L).filter fun p=>decide (p.1≠d)
structure Mod(K:W.Frag)(mg:Str->Option Value)(base:Heap):Prop where
 kin:K.In base
 glob:base.Ns mainGlobals mg
 blt:∃mb,base.Ns builtinsNs mb/\ ∀x:Str,x≠"__name__"->mb x=bootBuiltins x
 nolimit:base.NoLimit
structure Cx where
 prog:Program
 w:World
 K:W.Frag
 mg:Str->Option Value
 base:Heap
 A:Around
 N:List Str
 s₀:Shared
 H₀:Hp
 env:Env
 outer:List Env
 stack:List Env
 ex:List Addr
 fn:Str->Bool
 calm:Bool
 pn:List (Addr×Obj)
 xe:Value->Shared->Prop
def frs(l:List Env):List Addr:=l.filterMap (·.frame)
abbrev Cx.fs(X:Cx):List Addr:=frs X.outer
def Vis(sc:Scope)(x:Str):Prop:=sc.names.lookup x=some .local\/sc.names.lookup x=some .cell\/sc.names.lookup x=some .free
def Loc(sc:Scope)(x:Str):Prop:=sc.names.lookup x=some .local\/sc.names.lookup x=some .cell
def Look(env:Env)(h:Heap)(m:Str->Option Value)(x:Str)(u:Value):Prop :=
 (env.kindOf x=some .local/\m x=some u)\/((env.kindOf x=some .cell\/env.kindOf x=some .free)/\ ∃c,env.cells.lookup x=some c/\h.IsCell c (some u))
structure Cx.Ok(X:Cx):Prop where
 mod:Mod X.K X.mg X.base
 kind:X.env.scope.kind= .function
 glob:X.env.globals=mainGlobals
 blt:X.env.builtins=builtinsNs
 above:X.s₀.heap.objs.size<=X.env.locals
 inj:∀x y c,X.env.cells.lookup x=some c->X.env.cells.lookup y=some c->x=y
 has:∀x,(X.env.kindOf x=some .cell\/X.env.kindOf x=some .free)-> ∃c,X.env.cells.lookup x=some c
 cab:∀x c,X.fn x=true->X.env.cells.lookup x=some c->X.s₀.heap.objs.size<=c
 hd:X.calm=true->X.A.handled=none
 frames:X.A.frames=some X.stack
 stk:X.stack=X.outer\/(X.stack=X.env::X.outer/\X.env.frame=some X.env.locals)
 exf:∀b∈X.ex,b≠X.env.locals/\ ∀x c,X.env.cells.lookup x=some c->c≠b
 bs:∀b o,X.base.get? b=some o->X.s₀.heap.get? b=some o/\X.H₀ b=none
 bsz:X.base.objs.size<=X.s₀.heap.objs.size
 noex:∀b o,X.base.get? b=some o->b∉X.ex
 exfs:∀b∈X.ex,b∉X.fs
 funs:X.s₀.heap.FunFrames X.base X.outer
 frf:∀b∈X.fs,X.H₀ b=none
structure Inv(X:Cx)(pins:List (Addr×Obj))(σ:List (Option V))(H:Hp)(s:Shared):Prop where
 ok:X.Ok
 os:s.os=X.s₀.os
 bare:AllBare s.gens
 base:Un X.fs X.ex X.H₀ H X.s₀.heap s.heap
 loc:∃m,s.heap.Ns X.env.locals m/\ ∀(i:Nat)(x:Str)(v:V),X.N[i]? =some x-> σ[i]? =some (some v)->Vis X.env.scope x-> ∃u,RelV v u/\Look X.env s.heap m x u
 cell:∀x c,X.env.cells.lookup x=some c-> ∃v,s.heap.IsCell c v
 free:H X.env.locals=none
 freeC:∀x c,X.env.cells.lookup x=some c->H c=none
 pin:∀p∈X.pn++pins,s.heap.get? p.1=some p.2/\H p.1=none/\p.1≠X.env.locals/\p.1∉X.fs/\ ∀v,p.2.data≠ .cell v
 hok:HOk X.prog X.w H s.heap
 len:σ.length=X.N.length
section
variable{X:Cx}{pins:List (Addr×Obj)}{σ:List (Option V)}{H H':Hp}{s:Shared}{h':Heap}
theorem Cx.Ok.nofr(ok:X.Ok){b:Addr}{o:Obj}(e:X.base.get? b=some o):b∉X.fs:=fun hb=>by
 have:=(ok.funs.mem hb).1;rw[e]at this;cases this
theorem Inv.bs(I:Inv X pins σ H s):∀b o,X.base.get? b=some o->s.heap.get? b=some o/\H b=none:=fun b o e =>
 ⟨I.base.keep b o (I.ok.bs b o e).1 (I.ok.bs b o e).2 (I.ok.nofr e) (I.ok.noex b o e),I.base.free b o (I.ok.bs b o e).1 (I.ok.bs b o e).2 (I.ok.noex b o e)⟩
theorem Inv.bk(I:Inv X pins σ H s):∀b o,X.base.get? b=some o->s.heap.get? b=some o:=fun b o e=>(I.bs b o e).1
theorem Inv.mod(I:Inv X pins σ H s):Mod X.K X.mg X.base:=I.ok.mod
theorem Inv.kIn(I:Inv X pins σ H s):X.K.In s.heap:=I.ok.mod.kin.keeps I.bk
theorem Inv.lt(I:Inv X pins σ H s):X.env.locals<s.heap.objs.size:=let⟨_,hn,_⟩:=I.loc;hn.lt
theorem Inv.sz(I:Inv X pins σ H s):X.s₀.heap.objs.size<=s.heap.objs.size:=le_trans I.ok.above (Nat.le_of_lt I.lt)
theorem Inv.nofs(I:Inv X pins σ H s){a:Addr}(h:s.heap.objs.size<=a):a∉X.fs:=fun hb=>by
 obtain⟨_,o,ho,_⟩:=I.ok.funs.mem hb;exact absurd (lt_of_lt_of_le (Heap.lt_size ho) (le_trans I.sz h)) (lt_irrefl _)
theorem Inv.cne(I:Inv X pins σ H s):∀x c,X.env.cells.lookup x=some c->c≠X.env.locals:=fun x c e z=>by
 obtain⟨v,o,ho,hd⟩:=I.cell x c e;obtain⟨m,⟨o',es,ep,ho',hd',_⟩,_⟩:=I.loc;rw[z,ho']at ho;cases ho;rw[hd']at hd;cases hd
theorem Inv.funs(I:Inv X pins σ H s):s.heap.FunFrames X.base X.outer:=by
 have all:∀(l:List Env),(∀b∈frs l,b∈X.fs)->X.s₀.heap.FunFrames X.base l->s.heap.FunFrames X.base l:=by
  intro l
  induction l with
  |nil=>intro _ _;trivial
  |cons env r ih =>
   intro hs hl;obtain⟨hk,⟨L,o,hf,hn,ho,hd⟩,hr⟩:=hl;have hL:L∈X.fs:=hs L (by unfold frs;rw[filterMap_cons,hf];exact mem_cons_self);obtain⟨sl,e⟩:=I.base.slot L o ho (I.ok.frf L hL) hL fun z=>I.ok.exfs L z hL;exact⟨hk,⟨L,_,hf,hn,e,hd⟩,ih (fun b hb=>hs b (by unfold frs;rw[filterMap_cons,hf];exact mem_cons_of_mem _ hb)) hr⟩
 exact all X.outer (fun _ hb=>hb) I.ok.funs
theorem Inv.stack(I:Inv X pins σ H s):s.heap.FunFrames X.base X.stack:=by
 rcases I.ok.stk with e|⟨e,hf⟩
 ·rw[e];exact I.funs
 ·rw[e];obtain⟨m,hn,_⟩:=I.loc;refine .cons (by rw[I.ok.kind];decide) hf hn ?_ I.funs;exact Heap.get?_none_of_le (le_trans I.ok.bsz I.ok.above)
theorem Inv.stkSub(I:Inv X pins σ H s):∀b∈frs X.stack,b∈X.env.locals::X.fs:=fun b hb=>by
 rcases I.ok.stk with e|⟨e,hf⟩
 ·rw[e]at hb;exact mem_cons_of_mem _ hb
 ·rw[e]at hb;unfold frs at hb;rw[filterMap_cons,hf]at hb;exact hb
theorem Inv.stkFree(I:Inv X pins σ H s):∀b∈frs X.stack,H b=none:=fun b hb=>by
 rcases mem_cons.mp (I.stkSub b hb)with e|hb
 ·rw[e];exact I.free
 ·obtain⟨_,o,ho,_⟩:=I.ok.funs.mem hb;exact I.base.free b o ho (I.ok.frf b hb) fun z=>I.ok.exfs b z hb
theorem Inv.step{g':Array GenState}{t':Nat}{d':Drawn}{ch:List Addr}(I:Inv X pins σ H s)(hch:∀b∈ch,(b∈X.ex\/X.s₀.heap.objs.size<=b)/\b≠X.env.locals/\(∀x c,X.env.cells.lookup x=some c->c≠b)/\ ∀p∈X.pn++pins,p.1≠b)(keep:∀b o,b≠X.env.locals->b∉X.fs->b∉ch->s.heap.get? b=some o->H b=none->h'.get? b=some o)(slot:∀b o,b≠X.env.locals->b∈X.fs->b∉ch->s.heap.get? b=some o->H b=none-> ∃sl,h'.get? b=some {o with slots:=sl})(free:∀b o,b∉ch->s.heap.get? b=some o->H b=none->H' b=none)(there:∀b o,b∉ch->s.heap.get? b=some o-> ∃o',h'.get? b=some o')(tups:∀b xs,H b=some (.tup xs)->H' b=some (.tup xs))(frzs:∀b o u,H b=some (.frz o u)->H' b=some (.frz o u))(tbls:∀b ps,H b=some (.tbl ps)-> ∃more,H' b=some (.tbl (ps++more)))(ns:∀m,s.heap.Ns X.env.locals m->h'.Ns X.env.locals m)(hok:HOk X.prog X.w H' h')(hg:AllBare g') :
  Inv X pins σ H' {s with heap:=h',gens:=g',drawn:=d',toks:=t'}:=by
 have neL:∀b o,X.s₀.heap.get? b=some o->b≠X.env.locals:=fun b o e=>ne_of_lt (lt_of_lt_of_le (Heap.lt_size e) I.ok.above);have neC:∀b o,X.s₀.heap.get? b=some o->b∉X.ex->b∉ch:=fun b o e hx hb=>by
  rcases(hch b hb).1 with z|z
  ·exact hx z
  ·exact absurd (lt_of_lt_of_le (Heap.lt_size e) z) (lt_irrefl _)
 have cellK:∀x c,X.env.cells.lookup x=some c-> ∀v,s.heap.IsCell c v->h'.IsCell c v:=fun x c e v ⟨o,ho,hd⟩=>by
  have nch:c∉ch:=fun z=>(hch c z).2.2.1 x c e rfl;by_cases hc:c∈X.fs
  ·obtain⟨sl,q⟩:=slot c o (I.cne x c e) hc nch ho (I.freeC x c e);exact⟨_,q,hd⟩
  ·exact⟨o,keep c o (I.cne x c e) hc nch ho (I.freeC x c e),hd⟩
 refine⟨I.ok,I.os,hg,⟨fun b o e n hb hx=>?_,fun b o e n hb hx=>?_,fun b o e n hx=>?_,fun b o e hx=>?_,fun b xs e=>tups b xs (I.base.tups b xs e),fun b o xs e=>frzs b o xs (I.base.frzs b o xs e),fun b ps e=>?_⟩,?_,fun x c e=>?_,?_,fun x c e=>?_,fun p hp=>?_,hok,I.len⟩
 ·exact keep b o (neL b o e) hb (neC b o e hx) (I.base.keep b o e n hb hx) (I.base.free b o e n hx)
 ·obtain⟨sl,e1⟩:=I.base.slot b o e n hb hx;obtain⟨sl',e2⟩:=slot b _ (neL b o e) hb (neC b o e hx) e1 (I.base.free b o e n hx);exact⟨sl',e2⟩
 ·obtain⟨o',e1⟩:=I.base.there b o e hx;exact free b o' (neC b o e hx) e1 (I.base.free b o e n hx)
 ·obtain⟨o',e1⟩:=I.base.there b o e hx;exact there b o' (neC b o e hx) e1
 ·obtain⟨m1,e1⟩:=I.base.tbls b ps e;obtain⟨m2,e2⟩:=tbls b _ e1;exact⟨m1++m2,by rw[e2,Array.append_assoc]⟩
 ·obtain⟨m,hn,hl⟩:=I.loc;refine⟨m,ns m hn,fun i x v e1 e2 e3=>?_⟩;obtain⟨u,r,l⟩:=hl i x v e1 e2 e3;refine⟨u,r,?_⟩;rcases l with l|⟨k,c,e,z⟩
  ·exact .inl l
  ·exact .inr ⟨k,c,e,cellK x c e _ z⟩
 ·obtain⟨v,z⟩:=I.cell x c e;exact⟨v,cellK x c e v z⟩
 ·obtain⟨m,⟨o,_,_,ho,_⟩,_⟩:=I.loc;exact free _ o (fun z=>(hch _ z).2.1 rfl) ho I.free
 ·obtain⟨v,o,ho,hd⟩:=I.cell x c e;exact free c o (fun z=>(hch c z).2.2.1 x c e rfl) ho (I.freeC x c e)
 ·obtain⟨e,n,ne,nf,d⟩:=I.pin p hp;have nch:p.1∉ch:=fun z=>(hch p.1 z).2.2.2 p hp rfl;exact⟨keep p.1 p.2 ne nf nch e n,free p.1 p.2 nch e n,ne,nf,d⟩
theorem Inv.un{t':Nat}(I:Inv X pins σ H s)(u:Un X.fs [] H H' s.heap h')(hok:HOk X.prog X.w H' h'):Inv X pins σ H' {s with heap:=h',toks:=t'}:=by
 obtain⟨m,⟨o,es,ep,ho,r⟩,_⟩:=id I.loc;obtain⟨sl,hL⟩:=u.any ho I.free (by simp);exact I.step (g':=s.gens) (d':=s.drawn) (ch:=[]) (fun _ z=>nomatch z) (fun b o _ hb _ e n=>u.keep b o e n hb (by simp)) (fun b o _ hb _ e n=>u.slot b o e n hb (by simp)) (fun b o _ e n=>u.free b o e n (by simp)) (fun b o _ e=>u.there b o e (by simp)) u.tups u.frzs u.tbls (fun m' hm=>by
  obtain⟨o',es',ep',ho',r'⟩:=hm;rw[ho]at ho';cases ho';exact⟨_,es',ep',hL,r'⟩) hok I.bare
theorem Inv.call{g':Array GenState}{t':Nat}{d':Drawn}{ch:List Addr}(I:Inv X pins σ H s)(u:Un (frs X.stack) ch H H' s.heap h')(hok:HOk X.prog X.w H' h')(hg:AllBare g')(hch:∀b∈ch,(b∈X.ex\/X.s₀.heap.objs.size<=b)/\b≠X.env.locals/\(∀x c,X.env.cells.lookup x=some c->c≠b)/\ ∀p∈X.pn++pins,p.1≠b) :
  Inv X pins σ H' {s with heap:=h',gens:=g',drawn:=d',toks:=t'}:=by
 obtain⟨m,⟨o,es,ep,ho,r⟩,_⟩:=id I.loc;obtain⟨sl,hL⟩:=u.any ho I.free fun z=>(hch _ z).2.1 rfl;exact I.step (ch:=ch) hch (fun b o hL hb hc e n=>u.keep b o e n (fun z=>(mem_cons.mp (I.stkSub b z)).elim hL hb) hc) (fun b o _ _ hc e n=>u.any e n hc) (fun b o hc e n=>u.free b o e n hc) (fun b o hc e=>u.there b o e hc) u.tups u.frzs u.tbls (fun m' hm=>by
  obtain⟨o',es',ep',ho',r'⟩:=hm;rw[ho]at ho';cases ho';exact⟨_,es',ep',hL,r'⟩) hok hg
theorem Inv.turned{t':Nat}{it:Addr}(I:Inv X pins σ H s)(k:∀b o,b≠it->s.heap.get? b=some o->h'.get? b=some o)(hn:H it=none)(hL:it≠X.env.locals)(h1:it∈X.ex\/X.s₀.heap.objs.size<=it)(h2:∀x c,X.env.cells.lookup x=some c->c≠it)(h3:∀p∈X.pn++pins,p.1≠it):Inv X pins σ H {s with heap:=h',toks:=t'}:=by
 have nit:∀b u,H b=some u->b≠it:=fun b u e z=>by rw[z,hn]at e;cases e
 refine I.step (g':=s.gens) (d':=s.drawn) (ch:=[it]) (fun b hb=>?_) (fun b o _ _ hc e _=>k b o (fun z=>hc (by simp[z])) e) (fun b o _ _ hc e _=>⟨o.slots,k b o (fun z=>hc (by simp[z])) e⟩) (fun _ _ _ _ n=>n)
  (fun b o hc e=>⟨o,k b o (fun z=>hc (by simp[z])) e⟩) (fun _ _ e=>e) (fun _ _ _ e=>e) (fun b ps e=>⟨#[],by rw[e];simp⟩) (fun m hm=>?_) (fun b u e=>?_) I.bare
 ·have e:b=it:=by simpa using hb
  subst e;exact⟨h1,hL,h2,h3⟩
 ·obtain⟨o,es,ep,ho,r⟩:=hm;exact⟨o,es,ep,k _ o (Ne.symm hL) ho,r⟩
 ·refine(I.hok b u e).stay (fun c v hc q=>k c v ?_ q) (fun _ q=>q) fun _ _ q=>q;rcases hc with z|z
  ·rw[z];exact nit b u e
  ·exact nit c _ z
theorem Inv.tok(I:Inv X pins σ H s)(t:Nat):Inv X pins σ H {s with toks:=t}:=I.un (h':=s.heap) (t':=t) Un.refl I.hok
theorem Inv.kept{t':Nat}(I:Inv X pins σ H s)(k:∀b u,s.heap.get? b=some u->h'.get? b=some u):Inv X pins σ H {s with heap:=h',toks:=t'}:=I.un (Un.kept k) (I.hok.kept k)
theorem Inv.laid{a:Addr}{o:HO}{t':Nat}(I:Inv X pins σ H s)(k:∀b u,s.heap.get? b=some u->h'.get? b=some u)(hp:s.heap.objs.size<=a)(new:zS X.prog X.w (upd H a o) h' a o) :
  Inv X pins σ (upd H a o) {s with heap:=h',toks:=t'}:=I.un (Un.laid k hp (I.hok.fresh hp)) (I.hok.laid k hp new)
theorem Inv.write{x e:Addr}{o:HO}{t':Nat}(I:Inv X pins σ H s)(mu:Mut (H x))(he:e=x\/H e=some (.own x))(k:∀b u,b≠e->s.heap.get? b=some u->h'.get? b=some u)(heo:∃u,h'.get? e=some u)(new:zS X.prog X.w (upd H x o) h' x o):Inv X pins σ (upd H x o) {s with heap:=h',toks:=t'}:=I.un (Un.write mu he k heo) (I.hok.write mu he k heo new)
theorem Inv.pins_of{pins':List (Addr×Obj)}(I:Inv X pins σ H s)(h:∀p∈pins',s.heap.get? p.1=some p.2/\H p.1=none/\p.1≠X.env.locals/\p.1∉X.fs/\ ∀v,p.2.data≠ .cell v):Inv X pins' σ H s :=
 ⟨I.ok,I.os,I.bare,I.base,I.loc,I.cell,I.free,I.freeC,fun p hp=>(mem_append.mp hp).elim (fun z=>I.pin p (List.mem_append_left _ z)) (h p),I.hok,I.len⟩
theorem nodup_ix{N:List Str}(hN:N.Nodup){i j:Nat}{x:Str}(a:N[i]? =some x)(b:N[j]? =some x):i=j:=by
 obtain⟨h1,e1⟩:=List.getElem?_eq_some_iff.mp a;obtain⟨h2,e2⟩:=List.getElem?_eq_some_iff.mp b;exact(List.getElem_inj hN).mp (e1.trans e2.symm)
theorem store_ok2{M:Model}{A:Around}{E:Value->Shared->Prop}{i:Nat}{x:Str}{v:V}{u:Value}{Q:Unit->Shared->Prop}(I:Inv X pins σ H s)(hN:X.N.Nodup)(hi:X.N[i]? =some x)(hx:Loc X.env.scope x)(r:RelV v u)(h:∀s',Inv X pins (σ.set i (some v)) H s'->(∃a,Heap.SameBut a s.heap s'.heap/\(a=X.env.locals\/X.env.cells.lookup x=some a))->Q () s')(hf:X.fn x=true\/X.env.scope.names.lookup x=some .local:=by first|exact .inl rfl|exact .inr rfl|assumption):wpAny M A (storeName X.env x u) Q E s:=by
 obtain⟨m,hn,hl⟩:=id I.loc;have hcls:(X.env.scope.kind== .class||(X.env.scope.kind== .module&&X.env.locals !=X.env.globals))=false:=by rw[I.ok.kind];rfl
 have hiσ:i< σ.length:=by rw[I.len];exact(List.getElem?_eq_some_iff.mp hi).1
 have cne:=I.cne;have tracked:∀{a:Addr}{h':Heap},(∃o,s.heap.get? a=some o/\H a=none)->Heap.SameBut a s.heap h'->HOk X.prog X.w H h':=fun{a h'} ha hs b ob e=>by
  obtain⟨_,_,hfree⟩:=ha;refine(I.hok b ob e).stay (fun c w' hc q=>(hs.2 c ?_).trans q) (fun _ q=>q) fun _ _ q=>q;rintro rfl;rcases hc with rfl|hc
  ·rw[hfree]at e;cases e
  ·rw[hfree]at hc;cases hc
 rcases hx with hk|hk
 ·refine wpAny_storeName_local hk hn (fun h' hn' hs=>?_) hcls;obtain⟨oL,_,_,hoL,_⟩:=id hn;refine h _ ⟨I.ok,I.os,I.bare,⟨fun b o e n hb hx=>?_,fun b o e n hb hx=>?_,I.base.free,fun b o e hx=>?_,I.base.tups,I.base.frzs,I.base.tbls⟩,⟨_,hn',fun j y v' e1 e2 e3=>?_⟩,fun y c e=>?_,I.free,I.freeC,fun p hp=>?_,tracked ⟨oL,hoL,I.free⟩ hs,by simpa using I.len⟩ ⟨_,hs,.inl rfl⟩
  ·exact(hs.2 b (ne_of_lt (lt_of_lt_of_le (Heap.lt_size e) I.ok.above))).trans (I.base.keep b o e n hb hx)
  ·obtain⟨sl,e1⟩:=I.base.slot b o e n hb hx;exact⟨sl,(hs.2 b (ne_of_lt (lt_of_lt_of_le (Heap.lt_size e) I.ok.above))).trans e1⟩
  ·obtain⟨o',e1⟩:=I.base.there b o e hx;exact⟨o',(hs.2 b (ne_of_lt (lt_of_lt_of_le (Heap.lt_size e) I.ok.above))).trans e1⟩
  ·by_cases hj:j=i
   ·subst hj;rw[hi]at e1;cases e1;rw[List.getElem?_set_self hiσ]at e2;cases e2;exact⟨u,r,.inl ⟨hk,by simp⟩⟩
   ·rw[List.getElem?_set_ne (Ne.symm hj)]at e2;obtain⟨u',r',q⟩:=hl j y v' e1 e2 e3;refine⟨u',r',?_⟩;rcases q with⟨k,e⟩|⟨k,c,e,z⟩
    ·refine .inl ⟨k,?_⟩;have:y≠x:=fun e=>hj (nodup_ix hN e1 (e▸hi));simp[this,e]
    ·exact .inr ⟨k,c,e,z.sameBut hs (cne y c e)⟩
  ·obtain⟨w',z⟩:=I.cell y c e;exact⟨w',z.sameBut hs (cne y c e)⟩
  ·obtain⟨e,n,ne,nf,d⟩:=I.pin p hp;exact⟨(hs.2 p.1 ne).trans e,n,ne,nf,d⟩
 ·have hfn:X.fn x=true:=by
   rcases hf with z|z
   ·exact z
   ·rw[z]at hk;cases hk
  obtain⟨c,hc⟩:=I.ok.has x (.inl hk);obtain⟨w',z⟩:=I.cell x c hc;refine wpAny_storeName_cell I.ok.kind hk hc z (fun h' hc' hs=>?_);obtain⟨oc,hoc,hocd⟩:=id z;refine h {s with heap:=h'} ⟨I.ok,I.os,I.bare,⟨fun b o e n hb hx=>?_,fun b o e n hb hx=>?_,I.base.free,fun b o e hx=>?_,I.base.tups,I.base.frzs,I.base.tbls⟩,⟨m,hn.sameBut hs (Ne.symm (cne x c hc)),fun j y v' e1 e2 e3=>?_⟩,fun y c' e=>?_,I.free,I.freeC,fun p hp=>?_,tracked ⟨oc,hoc,I.freeC x c hc⟩ hs,by simpa using I.len⟩ ⟨c,hs,.inr hc⟩
  ·exact(hs.2 b (ne_of_lt (lt_of_lt_of_le (Heap.lt_size e) (I.ok.cab x c hfn hc)))).trans (I.base.keep b o e n hb hx)
  ·obtain⟨sl,e1⟩:=I.base.slot b o e n hb hx;exact⟨sl,(hs.2 b (ne_of_lt (lt_of_lt_of_le (Heap.lt_size e) (I.ok.cab x c hfn hc)))).trans e1⟩
  ·obtain⟨o',e1⟩:=I.base.there b o e hx;exact⟨o',(hs.2 b (ne_of_lt (lt_of_lt_of_le (Heap.lt_size e) (I.ok.cab x c hfn hc)))).trans e1⟩
  ·by_cases hj:j=i
   ·subst hj;rw[hi]at e1;cases e1;rw[List.getElem?_set_self hiσ]at e2;cases e2;exact⟨u,r,.inr ⟨.inl hk,c,hc,hc'⟩⟩
   ·rw[List.getElem?_set_ne (Ne.symm hj)]at e2;obtain⟨u',r',q⟩:=hl j y v' e1 e2 e3;refine⟨u',r',?_⟩;rcases q with q|⟨k,c',e,z'⟩
    ·exact .inl q
    ·refine .inr ⟨k,c',e,z'.sameBut hs ?_⟩;rintro rfl;exact hj (nodup_ix hN e1 (I.ok.inj _ _ _ e hc▸hi))
  ·by_cases hcc:c'=c
   ·subst hcc;exact⟨_,hc'⟩
   ·obtain⟨w2,z2⟩:=I.cell y c' e;exact⟨w2,z2.sameBut hs hcc⟩
  ·obtain⟨e,n,ne,nf,d⟩:=I.pin p hp;refine⟨(hs.2 p.1 ?_).trans e,n,ne,nf,d⟩;intro q;rw[q,hoc]at e;have q':oc=p.2:=Option.some.inj e;exact d w' (by rw[<-q'];exact hocd)
theorem store_ok{M:Model}{A:Around}{E:Value->Shared->Prop}{i:Nat}{x:Str}{v:V}{u:Value}{Q:Unit->Shared->Prop}(I:Inv X pins σ H s)(hN:X.N.Nodup)(hi:X.N[i]? =some x)(hx:Loc X.env.scope x)(r:RelV v u)(h:∀s',Inv X pins (σ.set i (some v)) H s'->Q () s')(hf:X.fn x=true\/X.env.scope.names.lookup x=some .local:=by first|exact .inl rfl|exact .inr rfl|assumption):wpAny M A (storeName X.env x u) Q E s :=
 store_ok2 I hN hi hx r (fun s' I' _=>h s' I') hf
theorem Inv.call'{s':Shared}{ch:List Addr}(I:Inv X pins σ H s)(ho:s'.os=s.os)(u:Un (frs X.stack) ch H H' s.heap s'.heap)(hok:HOk X.prog X.w H' s'.heap)(hg:AllBare s'.gens)(hch:∀b∈ch,(b∈X.ex\/X.s₀.heap.objs.size<=b)/\b≠X.env.locals/\(∀x c,X.env.cells.lookup x=some c->c≠b)/\ ∀p∈X.pn++pins,p.1≠b):Inv X pins σ H' s':=by
 obtain⟨h',g',d',t',o'⟩:=s';have e:o'=s.os:=ho;subst e;exact I.call (g':=g') (t':=t') (d':=d') u hok hg hch
end
abbrev XK:=Value->Option Addr->Hp->Prop
abbrev St:=List (Option V)
abbrev VK:=V->Hp->Prop
abbrev TE:=St->Hp->VK->Prop
abbrev TT:=St->Hp->(Bool->Hp->Prop)->Prop
abbrev TA:=St->Hp->(List V->Hp->Prop)->Prop
structure Ends where
 nx:St->Hp->Prop
 rt:VK
 bk:St->Hp->Prop:=fun _ _=>False
 ct:St->Hp->Prop:=fun _ _=>False
abbrev TS:=Ends->St->Hp->Prop
def EP(X:Cx)(pins:List (Addr×Obj))(σ:St)(Q:VK)(u:Value)(s':Shared):Prop:=∃ v H',Inv X pins σ H' s'/\RelV v u/\Q v H'
def TP(X:Cx)(pins:List (Addr×Obj))(σ:St)(Q:Bool->Hp->Prop)(b:Bool)(s':Shared):Prop:=∃ H',Inv X pins σ H' s'/\Q b H'
def AP(X:Cx)(pins:List (Addr×Obj))(σ:St)(Q:List V->Hp->Prop)(us:List Value)(s':Shared):Prop:=∃ vs H',Inv X pins σ H' s'/\Vals vs us/\Q vs H'
def SP(X:Cx)(pins:List (Addr×Obj))(D:Ends)(f:Flow)(s':Shared):Prop :=
 match f with
 | .next=>∃ σ' H',Inv X pins σ' H' s'/\D.nx σ' H'
 | .brk=>∃ σ' H',Inv X pins σ' H' s'/\D.bk σ' H'
 | .cont=>∃ σ' H',Inv X pins σ' H' s'/\D.ct σ' H'
 | .ret u=>∃ v σ' H',Inv X pins σ' H' s'/\RelV v u/\D.rt v H'
def PE(X:Cx)(e:Expr)(t:TE):Prop :=
 ∀(pins:List (Addr×Obj))(s:Shared)(σ:St)(H:Hp)(Q:VK),Inv X pins σ H s->t σ H Q->wpAny (model X.prog X.w) X.A (eval e X.env) (EP X pins σ Q) X.xe s
def PT(X:Cx)(e:Expr)(t:TT):Prop :=
 ∀(pins:List (Addr×Obj))(s:Shared)(σ:St)(H:Hp)(Q:Bool->Hp->Prop),Inv X pins σ H s->t σ H Q->wpAny (model X.prog X.w) X.A (isTrue e X.env (eval e X.env)) (TP X pins σ Q) X.xe s
def PW(X:Cx)(e:Expr)(t:TT):Prop :=
 ∀(whole:Sem Value)(pins:List (Addr×Obj))(s:Shared)(σ:St)(H:Hp)(Q:Bool->Hp->Prop),Inv X pins σ H s->t σ H Q->wpAny (model X.prog X.w) X.A (isTrue e X.env whole) (TP X pins σ Q) X.xe s
theorem PW.pt{X:Cx}{e:Expr}{t:TT}(h:PW X e t):PT X e t:=h _
def PA(X:Cx)(es:List Expr)(t:TA):Prop :=
 ∀(pos:Pos)(pins:List (Addr×Obj))(s:Shared)(σ:St)(H:Hp)(Q:List V->Hp->Prop),Inv X pins σ H s->t σ H Q->wpAny (model X.prog X.w) X.A (spliced (backTo pos (starEach es X.env))) (AP X pins σ Q) X.xe s
def PS(X:Cx)(st:Stmt)(t:TS):Prop :=
 ∀(pins:List (Addr×Obj))(s:Shared)(σ:St)(H:Hp)(D:Ends),Inv X pins σ H s->t D σ H->wpAny (model X.prog X.w) X.A (exec st X.env) (SP X pins D) X.xe s
def PSs(X:Cx)(st:List Stmt)(t:TS):Prop :=
 ∀(pins:List (Addr×Obj))(s:Shared)(σ:St)(H:Hp)(D:Ends),Inv X pins σ H s->t D σ H->wpAny (model X.prog X.w) X.A (execs st X.env) (SP X pins D) X.xe s
theorem thn{α:Type}{t:Sem α}{Q Q':α->Shared->Prop}{M:Model}{A:Around}{E:Value->Shared->Prop}{s:Shared}(h:wpAny M A t Q E s)(hQ:∀a s,Q a s->Q' a s):wpAny M A t Q' E s:=wpAny_mono h hQ fun _ _ x=>x
section
variable{X:Cx}
def tVar(i:Nat):TE:=fun σ H Q=>∃ v,σ[i]? =some (some v)/\Q v H
def tC(v:V):TE:=fun _ H Q=>Q v H
theorem pe_var{i:Nat}{x:Str}{pos:Pos}(hN:X.N[i]? =some x)(hv:Vis X.env.scope x)(hd:(x==("__debug__" : Str))=false:=by decide)(hcd:(x==("__classdict__" : Str))=false:=by decide):PE X (.Name x pos) (tVar i):=by
 intro pins s σ H Q I h;obtain⟨v,e,h⟩:=h;obtain⟨m,hn,hl⟩:=I.loc;obtain⟨u,r,l⟩:=hl i x v hN e hv;have fin:EP X pins σ Q u s:=⟨v,H,I,r,h⟩;rcases l with⟨hk,hm⟩|⟨hk,c,hc,hcell⟩
 ·exact wpAny_Name (wpAny_loadName_local I.ok.kind hk hn hm fin) hd
 ·rcases hk with hk|hk
  ·exact wpAny_Name (wpAny_loadName_cell I.ok.kind hk hc hcell fin) hd
  ·exact wpAny_Name (wpAny_loadName_free I.ok.kind hk hc hcell fin hcd) hd
theorem z7{i j pos}:PE X (.Constant (.int i) j pos) (tC (.int i)):=fun _ _ _ H _ I h=>wpAny_Constant_int ⟨.int i,H,I.tok _,⟨_,rfl⟩,h⟩
theorem pe_bl{b j pos}:PE X (.Constant (.bool b) j pos) (tC (.bl b)):=fun _ _ _ H _ I h=>Constant_bool ⟨.bl b,H,I,rfl,h⟩
theorem ym{j pos}:PE X (.Constant .none j pos) (tC .non):=fun _ _ _ H _ I h=>Constant_none ⟨.non,H,I,rfl,h⟩
def Gl(X:Cx)(x:Str):Prop:=X.env.kindOf x=some .globalImplicit
theorem ld_glob{E:Value->Shared->Prop}{pins:List (Addr×Obj)}{s:Shared}{σ:St}{H:Hp}{x:Str}{u:Value}{pos:Pos}{Q:Value->Shared->Prop}(I:Inv X pins σ H s)(hg:Gl X x)(hm:X.mg x=some u)(h:Q u s)(hd:(x==("__debug__" : Str))=false:=by decide):wpAny (model X.prog X.w) X.A (eval (.Name x pos) X.env) Q E s :=
 Calls.Name_function_global I.ok.kind hg (Calls.loadGlobal_global (by rw[I.ok.glob];exact I.mod.glob.keeps I.bk) hm h) hd
theorem ld_blt{E:Value->Shared->Prop}{pins:List (Addr×Obj)}{s:Shared}{σ:St}{H:Hp}{x:Str}{u:Value}{pos:Pos}{Q:Value->Shared->Prop}(I:Inv X pins σ H s)(hg:Gl X x)(hm:X.mg x=none)(hv:bootBuiltins x=some u)(h:Q u s)(hn:x≠"__name__" :=by decide)(hd:(x==("__debug__" : Str))=false:=by decide):wpAny (model X.prog X.w) X.A (eval (.Name x pos) X.env) Q E s:=by
 obtain⟨mb,h1,h2⟩:=I.mod.blt;exact Calls.Name_function_global I.ok.kind hg (Calls.loadGlobal_builtin (by rw[I.ok.glob];exact I.mod.glob.keeps I.bk) hm (by rw[I.ok.blt];exact h1.keeps I.bk) ((h2 x hn).trans hv) h) hd
theorem zu{x:Str}{v:V}{u:Value}{pos:Pos}(hg:Gl X x)(hm:X.mg x=some u)(r:RelV v u)(hd:(x==("__debug__" : Str))=false:=by decide):PE X (.Name x pos) (tC v) :=
 fun _ _ _ H _ I h=>ld_glob I hg hm ⟨v,H,I,r,h⟩ hd
theorem yN{x:Str}{v:V}{u:Value}{pos:Pos}(hg:Gl X x)(hm:X.mg x=none)(hv:bootBuiltins x=some u)(r:RelV v u)(hn:x≠"__name__" :=by decide)(hd:(x==("__debug__" : Str))=false:=by decide):PE X (.Name x pos) (tC v) :=
 fun _ _ _ H _ I h=>ld_blt I hg hm hv ⟨v,H,I,r,h⟩ hn hd
variable{a b:Expr}{ta tb:TE}{pos:Pos}
def tB(t:TE):TT:=fun σ H Q=>t σ H fun x H1=>∃ c,x= .bl c/\Q c H1
variable{tA tB':TT}{rest:List Expr}
def tAnd(t u:TT):TT:=fun σ H Q=>t σ H fun c H1=>if c=true then u σ H1 Q else Q false H1
def tOr(t u:TT):TT:=fun σ H Q=>t σ H fun c H1=>if c=true then Q true H1 else u σ H1 Q
def tNot(t:TT):TT:=fun σ H Q=>t σ H fun c H1=>Q (!c) H1
theorem pw_and1(ha:PT X a tA):PW X (.BoolOp .And [a] pos) tA:=by
 intro wh pins s σ H Q I h;refine isTrue_and (thn (ha pins s σ H Q I h) fun c s1 e=>?_);cases c with
 |true=>exact isTrue_and_nil e
 |false=>exact e
theorem pw_or1(ha:PT X a tA):PW X (.BoolOp .Or [a] pos) tA:=by
 intro wh pins s σ H Q I h;refine isTrue_or (thn (ha pins s σ H Q I h) fun c s1 e=>?_);cases c with
 |false=>exact isTrue_or_nil e
 |true=>exact e
theorem pw_and(ha:PT X a tA)(hb:PW X (.BoolOp .And (b::rest) pos) tB'):PW X (.BoolOp .And (a::b::rest) pos) (tAnd tA tB'):=by
 intro wh pins s σ H Q I h;refine isTrue_and (thn (ha pins s σ H _ I h) fun c s1 ⟨H1,I1,q1⟩=>?_);cases c with
 |true=>exact hb wh pins s1 σ H1 Q I1 q1
 |false=>exact⟨H1,I1,q1⟩
theorem pw_or(ha:PT X a tA)(hb:PW X (.BoolOp .Or (b::rest) pos) tB'):PW X (.BoolOp .Or (a::b::rest) pos) (tOr tA tB'):=by
 intro wh pins s σ H Q I h;refine isTrue_or (thn (ha pins s σ H _ I h) fun c s1 ⟨H1,I1,q1⟩=>?_);cases c with
 |true=>exact⟨H1,I1,q1⟩
 |false=>exact hb wh pins s1 σ H1 Q I1 q1
theorem pt_not(ha:PT X a tA):PT X (.UnaryOp .Not a pos) (tNot tA):=by
 intro pins s σ H Q I h;exact isTrue_not (ha pins s σ H (fun c H1=>Q (!c) H1) I h)
def tAndV(ta tb:TE):TE:=fun σ H Q=>ta σ H fun x H1=>∃ c,x= .bl c/\if c=true then tb σ H1 Q else Q (.bl false) H1
def tOrV(ta tb:TE):TE:=fun σ H Q=>ta σ H fun x H1=>∃ c,x= .bl c/\if c=true then Q (.bl true) H1 else tb σ H1 Q
def tNotV(ta:TE):TE:=fun σ H Q=>ta σ H fun x H1=>∃ c,x= .bl c/\Q (.bl (!c)) H1
theorem pe_one{op}{t:TE}(h:PE X a t):PE X (.BoolOp op [a] pos) t:=fun pins s σ H Q I hw=>BoolOp_one (h pins s σ H Q I hw)
theorem pe_and(ha:PE X a ta)(hb:PE X (.BoolOp .And (b::rest) pos) tb):PE X (.BoolOp .And (a::b::rest) pos) (tAndV ta tb):=by
 intro pins s σ H Q I h;refine BoolOp_and (thn (ha pins s σ H _ I h) fun v s1 ⟨x,H1,I1,r1,q1⟩=>?_);obtain⟨c,rfl,q1⟩:=q1;cases r1;refine wpAny_truthy_bool ?_;cases c with
 |true=>exact hb pins s1 σ H1 Q I1 q1
 |false=>exact⟨.bl false,H1,I1,rfl,q1⟩
theorem pe_or(ha:PE X a ta)(hb:PE X (.BoolOp .Or (b::rest) pos) tb):PE X (.BoolOp .Or (a::b::rest) pos) (tOrV ta tb):=by
 intro pins s σ H Q I h;refine BoolOp_or (thn (ha pins s σ H _ I h) fun v s1 ⟨x,H1,I1,r1,q1⟩=>?_);obtain⟨c,rfl,q1⟩:=q1;cases r1;refine wpAny_truthy_bool ?_;cases c with
 |false=>exact hb pins s1 σ H1 Q I1 q1
 |true=>exact⟨.bl true,H1,I1,rfl,q1⟩
theorem pe_not(ha:PE X a ta):PE X (.UnaryOp .Not a pos) (tNotV ta):=by
 intro pins s σ H Q I h;refine UnaryOp_ (thn (ha pins s σ H _ I h) fun v s1 ⟨x,H1,I1,r1,q1⟩=>?_);obtain⟨c,rfl,q1⟩:=q1;cases r1;exact not_of (wpAny_truthy_bool ⟨.bl (!c),H1,I1,rfl,q1⟩)
def tIf(t:TT)(ta tb:TE):TE:=fun σ H Q=>t σ H fun c H1=>if c=true then ta σ H1 Q else tb σ H1 Q
theorem pe_ifExp{c:Expr}(hc:PT X c tA)(ha:PE X a ta)(hb:PE X b tb):PE X (.IfExp c a b pos) (tIf tA ta tb):=by
 intro pins s σ H Q I h;refine wpAny_IfExp (thn (hc pins s σ H _ I h) fun d s1 ⟨H1,I1,q1⟩=>?_);cases d with
 |true=>exact ha pins s1 σ H1 Q I1 q1
 |false=>exact hb pins s1 σ H1 Q I1 q1
end
def SqL(K:W.Frag)(H:Hp)(a:Addr)(xs:List V):Prop :=
 Rd H a (.lst xs)\/
  ∃(o:Obj)(its:Array Value)(n:Nat),K.lookup a=some o/\o.cls= .type "list"/\o.dict=none/\o.data= .seq its n/\its.size<=sizeLine/\Vals xs its.toList
def SqT(K:W.Frag)(H:Hp)(a:Addr)(xs:List V):Prop :=
 Rd H a (.tup xs)\/
  ∃(o:Obj)(its:Array Value)(n:Nat),K.lookup a=some o/\o.cls= .type "tuple"/\o.data= .seq its n/\its.size<=sizeLine/\Vals xs its.toList
def absV:Value->Option V
 | .none=>some .non
 | .bool b=>some (.bl b)
 | .int i _=>some (.int i)
 | .str x _=>some (.str x)
 | .bytes b _=>some (.byt b)
 | .float b _=>some (.flt b)
 | .ref a=>some (.ref a)
 | .type n=>some (.ty n)
 | _=>none
theorem RelV.abs{x:V}{u:Value}(r:RelV x u):absV u=some x:=by
 cases x with
 |non=>cases r;rfl
 |bl _=>cases r;rfl
 |int _=>obtain⟨t,rfl⟩:=r;rfl
 |str _=>obtain⟨t,rfl⟩:=r;rfl
 |byt _=>obtain⟨t,rfl⟩:=r;rfl
 |flt _=>obtain⟨t,rfl⟩:=r;rfl
 |ref _=>cases r;rfl
 |ty _=>cases r;rfl
theorem RelV.inj{x y:V}{u:Value}(r:RelV x u)(q:RelV y u):x=y:=Option.some.inj (r.abs.symm.trans q.abs)
theorem Vals.inj:∀{xs ys:List V}{us:List Value},Vals xs us->Vals ys us->xs=ys
 | _,_,_,.nil,.nil=>rfl
 | _,_,_,.cons r t,.cons r' t'=>by rw[r.inj r',Vals.inj t t']
section
variable{X:Cx}{pins:List (Addr×Obj)}{σ:St}{H:Hp}{s:Shared}{a:Addr}{xs ys:List V}
theorem SqL.of{K:W.Frag}(h:H a=some (.lst xs)):SqL K H a xs:=.inl (.inl h)
theorem SqT.of{K:W.Frag}(h:H a=some (.tup xs)):SqT K H a xs:=.inl (.inl h)
theorem Inv.list(I:Inv X pins σ H s)(h:SqL X.K H a xs):∃its:List Value,Vals xs its/\PlainL s.heap a its.toArray/\xs.length<=sizeLine:=by
 rcases h with h|⟨o,its,n,hk,hc,hd,hs,hz,r⟩
 ·obtain⟨z,its,n,r,e⟩:=h.ok I.hok;exact⟨its,r,⟨_,n,e,rfl,rfl,rfl⟩,z⟩
 ·refine⟨its.toList,r,⟨o,n,I.kIn a o hk,hc,hd,by simpa using hs⟩,?_⟩;have e:=r.length;simp only[Array.length_toList]at e;omega
theorem Inv.tuple(I:Inv X pins σ H s)(h:SqT X.K H a xs):∃its:List Value,Vals xs its/\IsTup s.heap a its.toArray/\xs.length<=sizeLine:=by
 rcases h with h|⟨o,its,n,hk,hc,hs,hz,r⟩
 ·obtain⟨z,its,r,p,_⟩:=h.ok I.hok;exact⟨its,r,p,z⟩
 ·refine⟨its.toList,r,⟨o,I.kIn a o hk,hc,n,by simpa using hs⟩,?_⟩;have e:=r.length;simp only[Array.length_toList]at e;omega
theorem Inv.list_inj(I:Inv X pins σ H s)(h:SqL X.K H a xs)(h':SqL X.K H a ys):xs=ys:=by
 obtain⟨its,r,⟨o,n,e,_,_,d⟩,_⟩:=I.list h;obtain⟨its',r',⟨o',n',e',_,_,d'⟩,_⟩:=I.list h';rw[e]at e';cases e';rw[d]at d';injection d' with d1 _
 have:its=its':=by simpa using congrArg Array.toList d1
 subst this;exact r.inj r'
theorem Inv.tuple_inj(I:Inv X pins σ H s)(h:SqT X.K H a xs)(h':SqT X.K H a ys):xs=ys:=by
 obtain⟨its,r,⟨o,e,_,n,d⟩,_⟩:=I.tuple h;obtain⟨its',r',⟨o',e',_,n',d'⟩,_⟩:=I.tuple h';rw[e]at e';cases e';rw[d]at d';injection d' with d1 _
 have:its=its':=by simpa using congrArg Array.toList d1
 subst this;exact r.inj r'
end
abbrev Cx.wish(X:Cx)(E:Value->Shared->Prop):Cx:={X with xe:=E}
abbrev Cx.nox(X:Cx):Cx:=X.wish fun _ _=>False
theorem Cx.Ok.wish{X:Cx}(ok:X.Ok)(E:Value->Shared->Prop):(X.wish E).Ok :=
 ⟨ok.mod,ok.kind,ok.glob,ok.blt,ok.above,ok.inj,ok.has,ok.cab,ok.hd,ok.frames,ok.stk,ok.exf,ok.bs,ok.bsz,ok.noex,ok.exfs,ok.funs,ok.frf⟩
theorem Cx.Ok.unwish{X:Cx}{E:Value->Shared->Prop}(ok:(X.wish E).Ok):X.Ok :=
 ⟨ok.mod,ok.kind,ok.glob,ok.blt,ok.above,ok.inj,ok.has,ok.cab,ok.hd,ok.frames,ok.stk,ok.exf,ok.bs,ok.bsz,ok.noex,ok.exfs,ok.funs,ok.frf⟩
section
variable{X:Cx}{pins:List (Addr×Obj)}{σ:St}{H:Hp}{s:Shared}{E:Value->Shared->Prop}
theorem Inv.wish(I:Inv X pins σ H s)(E:Value->Shared->Prop):Inv (X.wish E) pins σ H s:=⟨I.ok.wish E,I.os,I.bare,I.base,I.loc,I.cell,I.free,I.freeC,I.pin,I.hok,I.len⟩
theorem Inv.unwish(I:Inv (X.wish E) pins σ H s):Inv X pins σ H s:=⟨I.ok.unwish,I.os,I.bare,I.base,I.loc,I.cell,I.free,I.freeC,I.pin,I.hok,I.len⟩
theorem SP.unwish{D:Ends}{f:Flow}{s':Shared}(h:SP (X.wish E) pins D f s'):SP X pins D f s':=by
 cases f with
 |next=>obtain⟨σ',H',I,q⟩:=h;exact⟨σ',H',I.unwish,q⟩
 |brk=>obtain⟨σ',H',I,q⟩:=h;exact⟨σ',H',I.unwish,q⟩
 |cont=>obtain⟨σ',H',I,q⟩:=h;exact⟨σ',H',I.unwish,q⟩
 |ret u=>obtain⟨v,σ',H',I,r,q⟩:=h;exact⟨v,σ',H',I.unwish,r,q⟩
theorem PSs.nox{st:List Stmt}{t:TS}(h:PSs X.nox st t):PSs X st t:=fun pins s σ H D I hw =>
 wpAny_mono (h pins s σ H D (I.wish _) hw) (fun _ _ q=>q.unwish) fun _ _ z=>False.elim z
end
section
variable{X:Cx}{st:Stmt}{rest:List Stmt}{t u:TS}{e:Expr}{te:TE}{pos:Pos}
def yH:TS:=fun D σ H=>D.nx σ H
def tSeq(t u:TS):TS:=fun D σ H=>t {D with nx:=u D} σ H
theorem zj:PSs X [] yH:=fun _ _ σ H _ I h=>wpAny_execs_nil ⟨σ,H,I,h⟩
theorem z5(h1:PS X st t)(h2:PSs X rest u):PSs X (st::rest) (tSeq t u):=by
 intro pins s σ H D I h;refine wpAny_execs_cons (thn (h1 pins s σ H {D with nx:=u D} I h) fun f s1 q=>?_);cases f with
 |next =>
  obtain⟨σ',H',I',q⟩:=q;exact h2 pins s1 σ' H' D I' q
 |ret v=>exact q
 |brk=>exact q
 |cont=>exact q
theorem z8(h1:PS X st t):PSs X [st] t:=by
 intro pins s σ H D I h;refine wpAny_execs_cons (thn (h1 pins s σ H D I h) fun f s1 q=>?_);cases f with
 |next=>exact wpAny_execs_nil q
 |ret v=>exact q
 |brk=>exact q
 |cont=>exact q
theorem Inv.quiet{pins:List (Addr×Obj)}{σ:St}{H:Hp}{s:Shared}(I:Inv X pins σ H s):interactive X.env=false:=by simp[interactive,I.ok.kind]
def tDrop(te:TE):TS:=fun D σ H=>te σ H fun _ H1=>D.nx σ H1
theorem ya(he:PE X e te)(hs:swapsWith e none pos.line X.env=pure false:=by rfl):PS X (.Expr e pos) (tDrop te):=by
 intro pins s σ H D I h;exact wpAny_Expr_any (thn (he pins s σ H _ I h) fun v s1 ⟨x,H1,I1,r1,q1⟩=>⟨σ,H1,I1,q1⟩) I.quiet hs
def tRet(te:TE):TS:=fun D σ H=>te σ H D.rt
theorem zi(he:PE X e te):PS X (.Return (some e) pos) (tRet te):=by
 intro pins s σ H D I h;exact wpAny_Return_some (thn (he pins s σ H _ I h) fun v s1 ⟨x,H1,I1,r1,q1⟩=>⟨x,σ,H1,I1,r1,q1⟩)
def tIfS(c:TT)(t u:TS):TS:=fun D σ H=>c σ H fun b H1=>if b=true then t D σ H1 else u D σ H1
theorem zM{c:Expr}{a b:List Stmt}{tc:TT}(hc:PT X c tc)(ha:PSs X a t)(hb:PSs X b u):PS X (.If c a b pos) (tIfS tc t u):=by
 intro pins s σ H D I h;refine wpAny_If (thn (hc pins s σ H _ I h) fun d s1 ⟨H1,I1,q1⟩=>?_);cases d with
 |true=>exact ha pins s1 σ H1 D I1 q1
 |false=>exact hb pins s1 σ H1 D I1 q1
def tNever:TS:=fun _ _ _=>False
theorem ps_never:PS X st tNever:=fun _ _ _ _ _ _ h=>h.elim
end
abbrev TG:=V->St->Hp->(St->Hp->Prop)->Prop
abbrev TGs:=List V->St->Hp->(St->Hp->Prop)->Prop
def PG(X:Cx)(target:Expr)(t:TG):Prop :=
 ∀(pins:List (Addr×Obj))(s:Shared)(σ:St)(H:Hp)(v:V)(u:Value)(Q:St->Hp->Prop),Inv X pins σ H s->RelV v u->t v σ H Q->
  wpAny (model X.prog X.w) X.A (assign target X.env u) (fun _ s'=>∃ σ' H',Inv X pins σ' H' s'/\Q σ' H') X.xe s
def PGs(X:Cx)(ts:List Expr)(t:TGs):Prop :=
 ∀(pins:List (Addr×Obj))(s:Shared)(σ:St)(H:Hp)(vs:List V)(us:List Value)(Q:St->Hp->Prop),Inv X pins σ H s->Vals vs us->t vs σ H Q->
  wpAny (model X.prog X.w) X.A (assignInOrder ((assignEach ts X.env).map (·.2)) us) (fun _ s'=>∃ σ' H',Inv X pins σ' H' s'/\Q σ' H') X.xe s
abbrev TSet:=V->V->V->Hp->(Hp->Prop)->Prop
def PSet(X:Cx)(t:TSet):Prop :=
 ∀(pins:List (Addr×Obj))(s:Shared)(σ:St)(H:Hp)(o i v:V)(ov iv u:Value)(Q:Hp->Prop),Inv X pins σ H s->RelV o ov->RelV i iv->RelV v u->t o i v H Q->
  wpAny (model X.prog X.w) X.A (setItem ov iv u) (fun _ s'=>∃ H',Inv X pins σ H' s'/\Q H') X.xe s
abbrev TIp:=V->V->Hp->VK->Prop
def PIp(X:Cx)(op:Operator)(t:TIp):Prop :=
 ∀(pins:List (Addr×Obj))(s:Shared)(σ:St)(H:Hp)(x y:V)(v u:Value)(Q:VK),Inv X pins σ H s->RelV x v->RelV y u->t x y H Q->
  wpAny (model X.prog X.w) X.A (inplaceOp op v u) (EP X pins σ Q) X.xe s
section
variable{X:Cx}{pos:Pos}
def yc(i:Nat):TG:=fun v σ H Q=>Q (σ.set i (some v)) H
theorem pg_name{i:Nat}{x:Str}(hN:X.N.Nodup)(hi:X.N[i]? =some x)(hx:Loc X.env.scope x)(hf:X.fn x=true\/X.env.scope.names.lookup x=some .local:=by first|exact .inl rfl|exact .inr rfl|assumption):PG X (.Name x pos) (yc i):=by
 intro pins s σ H v u Q I r h;exact wpAny_assign_Name (store_ok I hN hi hx r (fun s' I'=>⟨_,H,I',h⟩) hf)
def gNil:TGs:=fun vs σ H Q=>vs=[]/\Q σ H
def gCons(t:TG)(u:TGs):TGs:=fun vs σ H Q=>∃ v r,vs=v::r/\t v σ H fun σ' H'=>u r σ' H' Q
theorem pgs_nil:PGs X [] gNil:=by
 intro pins s σ H vs us Q I r h;obtain⟨e,h⟩:=h;subst e;cases r;exact assignInOrder_nil ⟨σ,H,I,h⟩
theorem zY{e:Expr}{es:List Expr}{t:TG}{u:TGs}(h1:PG X e t)(h2:PGs X es u)(hs:(assignEach (e::es) X.env).map (·.2)=assign e X.env::(assignEach es X.env).map (·.2):=by rfl):PGs X (e::es) (gCons t u):=by
 intro pins s σ H vs us Q I r h;obtain⟨v,vr,e1,h⟩:=h;subst e1;cases r with
 |cons r rr =>
  rw[hs];refine assignInOrder_cons (thn (h1 pins s σ H _ _ _ I r h) fun _ s1 ⟨σ1,H1,I1,q1⟩=>?_);exact h2 pins s1 σ1 H1 _ _ Q I1 rr q1
def gTup(K:W.Frag)(n:Nat)(t:TGs):TG:=fun v σ H Q=>∃ a xs,v= .ref a/\SqT K H a xs/\xs.length=n/\t xs σ H Q
theorem pg_tup{es:List Expr}{k:Nat}{t:TGs}{n:Nat}(hc:X.calm=true)(h:PGs X es t)(hn:(assignEach es X.env).length=n:=by rfl)(hst:(assignEach es X.env).findIdx? (·.1)=none:=by rfl):PG X (.Tuple es k pos) (gTup X.K n t):=by
 intro pins s σ H v u Q I r hw;obtain⟨a,xs,e1,hq,hl,hw⟩:=hw;subst e1;cases r;obtain⟨its,rv,ht,hz⟩:=I.tuple hq;refine assign_Tuple_tuple (I.ok.hd hc) ht (by simp[hn,<-hl,rv.length]) hst fun h' hx=>?_;have I1:Inv X pins σ H {s with heap:=h'}:=I.kept (t':=s.toks) fun b o e=>hx b o (ne_of_lt (Heap.lt_size e)) e;exact h pins _ σ H xs _ Q I1 (by simpa using rv) hw
def gSub(to ti:TE)(t:TSet):TG:=fun v σ H Q=>to σ H fun o H1=>ti σ H1 fun i H2=>t o i v H2 fun H3=>Q σ H3
theorem pg_sub{o i:Expr}{to ti:TE}{t:TSet}(ho:PE X o to)(hi:PE X i ti)(hs:PSet X t)(ha:∀v,assign (.Subscript o i pos) X.env v=(do
   let ov <-holding [v] (eval o X.env)
   let iv <-holding [v,ov] (eval i X.env)
   standAt pos
   holding [v,ov,iv] (setItem ov iv v)
   release [v,ov,iv] []):=by intro _;rfl):PG X (.Subscript o i pos) (gSub to ti t):=by
 intro pins s σ H v u Q I r h;rw[ha];refine wpAny_bind (wpAny_holding (thn (ho pins s σ H _ I h) fun ov s1 ⟨x,H1,I1,r1,q1⟩=>?_));refine wpAny_bind (wpAny_holding (thn (hi pins s1 σ H1 _ I1 q1) fun iv s2 ⟨y,H2,I2,r2,q2⟩=>?_));refine wpAny_bind (wpAny_standAt (wpAny_bind (wpAny_holding (thn (hs pins s2 σ H2 x y v ov iv u _ I2 r1 r2 r q2) fun _ s3 ⟨H3,I3,q3⟩=>?_))));exact wpAny_release ⟨σ,H3,I3,q3⟩
def tAsg(te:TE)(g:TG):TS:=fun D σ H=>te σ H fun x H1=>g x σ H1 D.nx
theorem ps_asg{tg e:Expr}{te:TE}{g:TG}(he:PE X e te)(hg:PG X tg g)(hs:swapsWithSole [tg] e pos.line X.env=pure false:=by rfl)(hw:swappedStores [tg] e X.env=pure none:=by rfl)(h1:(assignEach [tg] X.env).map (·.2)=[assign tg X.env]:=by rfl):PS X (.Assign [tg] e pos) (tAsg te g):=by
 intro pins s σ H D I h;refine wpAny_Assign_stores (thn (he pins s σ H _ I h) fun v s1 ⟨x,H1,I1,r1,q1⟩=>?_) hs hw;rw[h1];exact thn (hg pins s1 σ H1 x v _ I1 r1 q1) fun _ s2 q=>q
theorem ps_set{i:Nat}{x:Str}{e:Expr}{te:TE}{pos':Pos}(hN:X.N.Nodup)(hi:X.N[i]? =some x)(hx:Loc X.env.scope x)(he:PE X e te)(hs:swapsWith e (some (.Name x pos')) pos.line X.env=pure false:=by rfl)(hf:X.fn x=true\/X.env.scope.names.lookup x=some .local:=by first|exact .inl rfl|exact .inr rfl|assumption) :
  PS X (.Assign [.Name x pos'] e pos) (tAsg te (yc i)):=by
 intro pins s σ H D I h;refine wpAny_Assign_Name (thn (he pins s σ H _ I h) fun v s1 ⟨y,H1,I1,r1,q1⟩=>?_) hs;exact store_ok I1 hN hi hx r1 (fun s2 I2=>⟨_,H1,I2,q1⟩) hf
def tPar(i j:Nat)(ta:TA):TS:=fun D σ H=>ta σ H fun vs H1=>∃ v w,vs=[v,w]/\D.nx ((σ.set i (some v)).set j (some w)) H1
theorem ps_par{i j:Nat}{x y:Str}{a b:Expr}{ta:TA}{px py pt:Pos}{kt k2 pt2}(hc:X.calm=true)(hN:X.N.Nodup)(hi:X.N[i]? =some x)(hj:X.N[j]? =some y)(hij:i≠j)(hx:X.env.scope.names.lookup x=some .local)(hy:X.env.scope.names.lookup y=some .local)(ha:PA X [a,b] ta)(hw:swappedStores [.Tuple [.Name x px,.Name y py] kt pt] (.Tuple [a,b] k2 pt2) X.env=pure (some [x,y]))(hs:swapsWithSole [.Tuple [.Name x px,.Name y py] kt pt] (.Tuple [a,b] k2 pt2) pos.line X.env=pure false:=by rfl) :
  PS X (.Assign [.Tuple [.Name x px,.Name y py] kt pt] (.Tuple [a,b] k2 pt2) pos) (tPar i j ta):=by
 intro pins s σ H D I h;rw[exec_Assign_arm];refine wpAny_bind (wpAny_standAt ?_);rw[hs];refine wpAny_bind (wpAny_pure ?_);rw[if_neg (by decide)];refine wpAny_bind (Tuple_ (thn (ha _ pins s σ H _ I h) fun us s1 ⟨vs,H1,I1,r1,q1⟩=>?_));obtain⟨v,w,e1,q1⟩:=q1;subst e1;obtain⟨u1,u2,rfl,rv,rw'⟩:∃u1 u2,us=[u1,u2]/\RelV v u1/\RelV w u2:=by
  cases r1 with
  |cons p q =>
   cases q with
   |cons p' q' =>
    cases q';exact⟨_,_,rfl,p,p'⟩
 refine wpAny_newObj_type ?_ (by show 2<=sizeLine;decide);have I2:Inv X pins σ H1 {s1 with heap:=s1.heap.push {cls:=.type "tuple",data:=.seq [u1,u2].toArray}}:=I1.kept (t':=s1.toks) fun b o e=>Heap.get?_push_of_some _ e;rw[hw];refine wpAny_bind (wpAny_pure ?_);show wpAny (model X.prog X.w) X.A (do rule "assign.swapped-stores";let items <-unpackItems (.ref s1.heap.objs.size) 2 none;assignInOrder [fun v=>bindName X.env y v,fun v=>bindName X.env x v] items.reverse;pure Flow.next) _ _ _;refine wpAny_bind (wpAny_rule (wpAny_bind (unpackItems_tuple (items:=#[u1,u2]) (I.ok.hd hc) (IsTup.new s1.heap _) fun h' hx'=>?_)));have I3:=I2.kept (h':=h') (t':=s1.toks) fun b o e=>hx' b o (ne_of_lt (Heap.lt_size e)) e;show wpAny _ _ (assignInOrder [fun v=>bindName X.env y v,fun v=>bindName X.env x v] [u2,u1] >>= fun _=>pure Flow.next) _ _ _;refine wpAny_bind (assignInOrder_cons (wpAny_bindName (store_ok I3 hN hj (.inl hy) rw' (fun s2 I4=>?_) (.inr hy))));refine assignInOrder_cons (wpAny_bindName (store_ok I4 hN hi (.inl hx) rv (fun s3 I5=>assignInOrder_nil (wpAny_pure ?_)) (.inr hx)));rw[List.set_comm _ _ (Ne.symm hij)]at I5;exact⟨_,H1,I5,q1⟩
def tAugS(to ti te:TE)(tget:V->V->Hp->VK->Prop)(tip:TIp)(tset:TSet):TS:=fun D σ H=>to σ H fun o H1=>ti σ H1 fun i H2=>tget o i H2 fun x H3=>te σ H3 fun y H4=>tip x y H4 fun z H5=>tset o i z H5 fun H6=>D.nx σ H6
def PGet(X:Cx)(t:V->V->Hp->VK->Prop):Prop :=
 ∀(pins:List (Addr×Obj))(s:Shared)(σ:St)(H:Hp)(o i:V)(ov iv:Value)(Q:VK),Inv X pins σ H s->RelV o ov->RelV i iv->t o i H Q->
  wpAny (model X.prog X.w) X.A (getItem ov iv) (EP X pins σ Q) X.xe s
theorem ps_augS{o i e:Expr}{to ti te:TE}{tget:V->V->Hp->VK->Prop}{tip:TIp}{tset:TSet}{op:Operator}{tpos:Pos}(ho:PE X o to)(hi:PE X i ti)(hg:PGet X tget)(he:PE X e te)(hp:PIp X op tip)(hs:PSet X tset)(ha:∀ov iv new,augStore i ov iv new=(do holding [new,ov,iv] (setItem ov iv new);release [new,ov,iv] [];pure .next):=by intros;rfl):PS X (.AugAssign (.Subscript o i tpos) op e pos) (tAugS to ti te tget tip tset):=by
 intro pins s σ H D I h;refine wpAny_AugAssign_SubscriptAny (thn (ho pins s σ H _ I h) fun ov s1 ⟨x1,H1,I1,r1,q1⟩=>?_) ha;refine thn (hi pins s1 σ H1 _ I1 q1) fun iv s2 ⟨x2,H2,I2,r2,q2⟩=>?_;refine thn (hg pins s2 σ H2 x1 x2 ov iv _ I2 r1 r2 q2) fun old s3 ⟨x3,H3,I3,r3,q3⟩=>?_;refine thn (he pins s3 σ H3 _ I3 q3) fun v s4 ⟨x4,H4,I4,r4,q4⟩=>?_;refine thn (hp pins s4 σ H4 x3 x4 old v _ I4 r3 r4 q4) fun new s5 ⟨x5,H5,I5,r5,q5⟩=>?_;exact thn (hs pins s5 σ H5 x1 x2 x5 ov iv new _ I5 r1 r2 r5 q5) fun _ s6 ⟨H6,I6,q6⟩=>⟨σ,H6,I6,q6⟩
def ipI(f:Int->Int->Int):TIp:=fun x y H Q=>∃ i j,x= .int i/\y= .int j/\Q (.int (f i j)) H
theorem ip_add:PIp X .Add (ipI fun i j=>i+j):=by
 intro pins s σ H x y v u Q I r1 r2 h;obtain⟨i,j,e1,e2,q⟩:=h;subst e1;subst e2;obtain⟨t,rfl⟩:=r1;obtain⟨t',rfl⟩:=r2;exact iadd_int ⟨.int _,H,I.tok _,⟨_,rfl⟩,q⟩
end
section
variable{X:Cx}{pos:Pos}
def tWhile(c:TT)(tb:TS):TS:=fun D σ H=>∃ W0:Nat->St->Hp->Prop,(∃m,W0 m σ H)/\ ∀m σ H,W0 m σ H->
 c σ H fun b H1=>if b=true then ∃N:St->Hp->Prop,(∀ σ' H',N σ' H'-> ∃m',m'<m/\W0 m' σ' H')/\tb {D with nx:=N,ct:=N,bk:=D.nx} σ H1 else D.nx σ H1
theorem ps_while{c:Expr}{body:List Stmt}{tc:TT}{tb:TS}(hp:PassesOwn (model X.prog X.w) X.A X.env X.xe)(hc:PT X c tc)(hb:PSs X body tb):PS X (.While c body [] pos) (tWhile tc tb):=by
 intro pins s σ H D I h;obtain⟨W0,⟨m0,w0⟩,turn⟩:=h;refine wpAny_While (codeAny_whileLoop (fun n s'=>∃ σ' H',Inv X pins σ' H' s'/\W0 n σ' H') ?_ m0 ⟨σ,H,I,w0⟩);rintro n s1 ⟨σ1,H1,I1,w1⟩;refine wpAny_passesOwn hp (thn (hc pins s1 σ1 H1 _ I1 (turn n σ1 H1 w1)) fun b s2 ⟨H2,I2,q2⟩=>?_);cases b with
 |true =>
  obtain⟨N,hN,q2⟩:=q2;rw[if_pos rfl];refine wpAny_passesOwn hp (thn (hb pins s2 σ1 H2 _ I2 q2) fun f s3 q3=>?_);cases f with
  |next =>
   obtain⟨σ3,H3,I3,n3⟩:=q3;obtain⟨m',hm,w3⟩:=hN σ3 H3 n3;exact⟨m',hm,σ3,H3,I3,w3⟩
  |cont =>
   obtain⟨σ3,H3,I3,n3⟩:=q3;obtain⟨m',hm,w3⟩:=hN σ3 H3 n3;exact⟨m',hm,σ3,H3,I3,w3⟩
  |brk=>exact q3
  |ret v=>exact q3
 |false =>
  rw[if_neg Bool.false_ne_true];exact wpAny_execs_nil ⟨σ1,H2,I2,q2⟩
end
structure It where
 go:Nat->Hp->Prop
 yld:Nat->Hp->V->Hp->Prop
 stop:Nat->Hp->Prop
def FpOk(X:Cx)(pins:List (Addr×Obj))(H:Hp)(b:Addr):Prop :=
 H b=none/\b≠X.env.locals/\b∉X.fs/\(b∈X.ex\/X.s₀.heap.objs.size<=b)/\(∀x c,X.env.cells.lookup x=some c->c≠b)/\ ∀p∈X.pn++pins,p.1≠b
theorem Inv.fpOk{X:Cx}{pins:List (Addr×Obj)}{σ:St}{H H':Hp}{s:Shared}{b:Addr}(I:Inv X pins σ H s)(hb:s.heap.objs.size<=b)(hn:H' b=none):FpOk X pins H' b:=by
 refine⟨hn,Nat.ne_of_gt (lt_of_lt_of_le I.lt hb),I.nofs hb,.inr (le_trans I.sz hb),fun x c e z=>?_,fun p hp z=>?_⟩
 ·obtain⟨v,q⟩:=I.cell x c e;exact absurd (lt_of_lt_of_le q.lt (by rw[z];exact hb)) (lt_irrefl _)
 ·exact absurd (lt_of_lt_of_le (Heap.lt_size (I.pin p hp).1) (by rw[z];exact hb)) (lt_irrefl _)
structure Turn(P:Program)(w:World)(K:W.Frag)(tg:Expr)(J:It)(fp:List Addr)(it:Addr)(tn:Nat->Heap->Prop):Prop where
 mem:it∈fp
 obj:∀i h,tn i h-> ∀b∈fp,∃o,h.get? b=some o/\ ∀v,o.data≠ .cell v
 keep:∀i h h',tn i h->(∀b∈fp,∀o,h.get? b=some o->h'.get? b=some o)->tn i h'
 item:∀(X:Cx),X.prog=P->X.w=w->X.K=K->X.calm=true-> ∀(i:Nat)(pins:List (Addr×Obj))(s:Shared)(σ:St)(H:Hp)(E:Value->Shared->Prop),Inv X pins σ H s->(∀b∈fp,FpOk X pins H b)->tn i s.heap->J.go i H->
  wpAny (model P w) X.A (pyNext (.ref it)) (fun r s1=>∃ u,r=some u/\
   wpAny (model P w) X.A (letOwnedTupleGo tg (.ref it) u) (fun _ s2=>∃ x H',Inv X pins σ H' s2/\RelV x u/\J.yld i H x H'/\tn (i+1) s2.heap/\ ∀b∈fp,H' b=none) E s1) E s
 done:∀(X:Cx),X.prog=P->X.w=w->X.K=K->X.calm=true-> ∀(i:Nat)(pins:List (Addr×Obj))(s:Shared)(σ:St)(H:Hp)(E:Value->Shared->Prop),Inv X pins σ H s->(∀b∈fp,FpOk X pins H b)->tn i s.heap->J.stop i H->
  wpAny (model P w) X.A (pyNext (.ref it)) (fun r s1=>r=none/\Inv X pins σ H s1) E s
 self:∀(A:Around)(i:Nat)(s:Shared)(Q:Value->Shared->Prop)(E:Value->Shared->Prop),tn i s.heap->Q (.ref it) s->wpAny (model P w) A (pyIter (.ref it)) Q E s
abbrev TI:=St->Hp->(It->Hp->Prop)->Prop
def PIE(X:Cx)(pins:List (Addr×Obj))(σ:St)(tg:Expr)(R:It->Hp->Prop)(itv:Value)(s2:Shared):Prop :=
 ∃(it:Addr)(fp:List Addr)(tn:Nat->Heap->Prop)(J:It)(H':Hp),itv= .ref it/\Inv X pins σ H' s2/\Turn X.prog X.w X.K tg J fp it tn/\tn 0 s2.heap/\(∀b∈fp,FpOk X pins H' b)/\R J H'
def PI(X:Cx)(tg iter:Expr)(wi:TI):Prop :=
 ∀(pins:List (Addr×Obj))(s:Shared)(σ:St)(H:Hp)(R:It->Hp->Prop),Inv X pins σ H s->wi σ H R->
  wpAny (model X.prog X.w) X.A (eval iter X.env) (fun v s1=>wpAny (model X.prog X.w) X.A (pyIter v) (PIE X pins σ tg R) X.xe s1) X.xe s
theorem go_of{M:Model}{A:Around}{E:Value->Shared->Prop}{s:Shared}{tg:Expr}{it:Addr}{u:Value}{o:Obj}{n:String}{vs:Array Value}{Q:Unit->Shared->Prop}(ho:s.heap.get? it=some o)(hc:o.cls= .type n)(hd:o.data= .fields vs)(hn:["enumerate","zip","dict_itemiterator","dict_reverseitemiterator","odict_iterator","itertools.zip_longest","itertools.pairwise"].contains n=false)(hQ:Q () s):wpAny M A (letOwnedTupleGo tg (.ref it) u) Q E s:=by
 unfold letOwnedTupleGo;cases tg <;>first
  |exact wpAny_pure hQ
  |(cases u <;>first
    |exact wpAny_pure hQ
    |(refine wpAny_bind (wpAny_load ho ?_)
      rw[hc,hd];show wpAny M A (if(["enumerate","zip","dict_itemiterator","dict_reverseitemiterator","odict_iterator","itertools.zip_longest","itertools.pairwise"].contains n&&vs[0]? ==some (rawInt _))=true then _ else _) Q E s;rw[if_neg (by intro h;rw[hn,Bool.false_and]at h;cases h)];exact wpAny_pure hQ))
def Itl(K:W.Frag)(a:Addr):It :=
 ⟨fun i H=>∃ xs x,SqL K H a xs/\xs[i]? =some x,fun i H x H'=>H'=H/\ ∀xs,SqL K H a xs->xs[i]? =some x,fun i H=>∃ xs,SqL K H a xs/\xs.length<=i⟩
def Itt(K:W.Frag)(a:Addr):It :=
 ⟨fun i H=>∃ xs x,SqT K H a xs/\xs[i]? =some x,fun i H x H'=>H'=H/\ ∀xs,SqT K H a xs->xs[i]? =some x,fun i H=>∃ xs,SqT K H a xs/\xs.length<=i⟩
def Itr(lo:Int)(n:Nat):It:=⟨fun i _=>i<n,fun i H x H'=>H'=H/\x= .int (lo+i),fun i _=>n<=i⟩
theorem turn_list{P:Program}{w:World}{K:W.Frag}{tg:Expr}(a it:Addr):Turn P w K tg (Itl K a) [it] it (fun i h=>h.IsListIter it a i) where
 mem:=by simp
 obj:=fun i h st b hb=>by
  have e:b=it:=by simpa using hb
  subst e;obtain⟨o,e,c,d⟩:=st;exact⟨o,e,fun v z=>by rw[d]at z;cases z⟩
 keep:=fun i h h' st k=>st.at fun o e=>k it (by simp) o e
 item:=by
  intro X hP hw hK hc i pins s σ H E I hf st hg;subst hP hw hK;obtain⟨xs,x,hq,hx⟩:=hg;obtain⟨its,rv,p,hz⟩:=I.list hq;obtain⟨u,hu,ru⟩:=rv.get hx;obtain⟨f0,f1,f2,f3,f4,f5⟩:=hf it (by simp);refine wpAny_pyNext_list_item st p.isList (x:=u) (by simpa using hu) fun h' st' sb=>?_;have I1:Inv X pins σ H {s with heap:=h'}:=I.turned (t':=s.toks) (fun b o hb e=>(sb.2 b hb).trans e) f0 f1 f3 f4 f5;obtain⟨o,e,c,d⟩:=id st';exact⟨u,rfl,go_of (s:={s with heap:=h'}) e c d (by decide) ⟨x,H,I1,ru,⟨rfl,fun ys hy=>by rw[I.list_inj hy hq];exact hx⟩,st',fun b hb=>(hf b hb).1⟩⟩
 done:=by
  intro X hP hw hK hc i pins s σ H E I hf st hg;subst hP hw hK;obtain⟨xs,hq,hx⟩:=hg;obtain⟨its,rv,p,hz⟩:=I.list hq;obtain⟨f0,f1,f2,f3,f4,f5⟩:=hf it (by simp);have hl:=rv.length;exact wpAny_pyNext_list_end (I.ok.hd hc) st p.isList (by simp;omega) fun h' eb=>⟨rfl,I.turned (t':=s.toks) (fun b o hb e=>eb b o hb e) f0 f1 f3 f4 f5⟩
 self:=fun _ _ _ _ _ st h=>wpAny_pyIter_listiter st h
theorem turn_tuple{P:Program}{w:World}{K:W.Frag}{tg:Expr}(a it:Addr):Turn P w K tg (Itt K a) [it] it (fun i h=>h.IsTupleIter it a i) where
 mem:=by simp
 obj:=fun i h st b hb=>by
  have e:b=it:=by simpa using hb
  subst e;obtain⟨o,e,c,d⟩:=st;exact⟨o,e,fun v z=>by rw[d]at z;cases z⟩
 keep:=fun i h h' st k=>st.at fun o e=>k it (by simp) o e
 item:=by
  intro X hP hw hK hc i pins s σ H E I hf st hg;subst hP hw hK;obtain⟨xs,x,hq,hx⟩:=hg;obtain⟨its,rv,p,hz⟩:=I.tuple hq;obtain⟨u,hu,ru⟩:=rv.get hx;obtain⟨f0,f1,f2,f3,f4,f5⟩:=hf it (by simp);refine wpAny_pyNext_tuple_item st (show s.heap.IsTuple a its.toArray from p) (x:=u) (by simpa using hu) fun h' st' sb=>?_;have I1:Inv X pins σ H {s with heap:=h'}:=I.turned (t':=s.toks) (fun b o hb e=>(sb.2 b hb).trans e) f0 f1 f3 f4 f5;obtain⟨o,e,c,d⟩:=id st';exact⟨u,rfl,go_of (s:={s with heap:=h'}) e c d (by decide) ⟨x,H,I1,ru,⟨rfl,fun ys hy=>by rw[I.tuple_inj hy hq];exact hx⟩,st',fun b hb=>(hf b hb).1⟩⟩
 done:=by
  intro X hP hw hK hc i pins s σ H E I hf st hg;subst hP hw hK;obtain⟨xs,hq,hx⟩:=hg;obtain⟨its,rv,p,hz⟩:=I.tuple hq;obtain⟨f0,f1,f2,f3,f4,f5⟩:=hf it (by simp);have hl:=rv.length;exact wpAny_pyNext_tuple_end (I.ok.hd hc) st (show s.heap.IsTuple a its.toArray from p) (by simp;omega) fun h' eb=>⟨rfl,I.turned (t':=s.toks) (fun b o hb e=>eb b o hb e) f0 f1 f3 f4 f5⟩
 self:=fun _ _ _ _ _ st h=>wpAny_pyIter_tupleiter st h
theorem turn_range{P:Program}{w:World}{K:W.Frag}{tg:Expr}(it:Addr)(lo:Int)(n:Nat):Turn P w K tg (Itr lo n) [it] it (fun i h=>IsRangeIter h it (lo+(i:Nat)*1) ((n:Int)-(i:Nat)) 1) where
 mem:=by simp
 obj:=fun i h st b hb=>by
  have e:b=it:=by simpa using hb
  subst e;exact⟨_,st,fun v z=>by
   have z':Data.fields _=Data.cell v:=z;cases z'⟩
 keep:=fun i h h' st k=>k it (by simp) _ st
 item:=by
  intro X hP hw hK hc i pins s σ H E I hf st hg;subst hP hw hK;obtain⟨f0,f1,f2,f3,f4,f5⟩:=hf it (by simp);have W0:=Walks.range (prog:=X.prog) (w:=X.w) (I.ok.hd hc) it lo 1 n;refine W0.item i s _ _ hg st fun v h' tk hv st' kk=>?_;obtain⟨t,rfl⟩:=hv;have I1:Inv X pins σ H {s with heap:=h',toks:=tk}:=I.turned (fun b o hb e=>kk b o (by simpa using hb) e) f0 f1 f3 f4 f5;refine⟨_,rfl,go_of (s:={s with heap:=h',toks:=tk}) (n :="range_iterator") st' rfl rfl (by decide) ⟨.int (lo+i),H,I1,⟨t,?_⟩,⟨rfl,rfl⟩,st',fun b hb=>(hf b hb).1⟩⟩;rw[Int.mul_one]
 done:=by
  intro X hP hw hK hc i pins s σ H E I hf st hg;subst hP hw hK;obtain⟨f0,f1,f2,f3,f4,f5⟩:=hf it (by simp);exact wpAny_pyNext_range_end (I.ok.hd hc) st (by have:n<=i:=hg;omega) fun h' eb=>⟨rfl,I.turned (t':=s.toks) (fun b o hb e=>eb b o hb e) f0 f1 f3 f4 f5⟩
 self:=fun _ _ _ _ _ st h=>wpAny_pyIter_rangeiter st h
section
variable{X:Cx}{tg:Expr}
def iList(K:W.Frag)(tl:TE):TI:=fun σ H R=>tl σ H fun x H1=>∃ a,x= .ref a/\(∃xs,SqL K H1 a xs)/\R (Itl K a) H1
def iTup(K:W.Frag)(tl:TE):TI:=fun σ H R=>tl σ H fun x H1=>∃ a,x= .ref a/\(∃xs,SqT K H1 a xs)/\R (Itt K a) H1
theorem pi_list{l:Expr}{tl:TE}(hl:PE X l tl):PI X tg l (iList X.K tl):=by
 intro pins s σ H R I h;refine thn (hl pins s σ H _ I h) fun v s1 ⟨x,H1,I1,r1,q1⟩=>?_;obtain⟨a,e,⟨xs,hq⟩,q⟩:=q1;subst e;cases r1;obtain⟨its,rv,p,hz⟩:=I1.list hq;refine wpAny_pyIter_list p.isList ?_;refine⟨s1.heap.objs.size,[s1.heap.objs.size],_,_,H1,rfl,I1.kept (t':=s1.toks) fun b o e=>Heap.get?_push_of_some _ e,turn_list a _,⟨_,Heap.get?_push_size _ rfl,rfl,rfl⟩,fun b hb=>?_,q⟩;have e:b=s1.heap.objs.size:=by simpa using hb
 subst e;exact I1.fpOk (le_refl _) (I1.hok.fresh (le_refl _))
theorem pi_tup{l:Expr}{tl:TE}(hl:PE X l tl):PI X tg l (iTup X.K tl):=by
 intro pins s σ H R I h;refine thn (hl pins s σ H _ I h) fun v s1 ⟨x,H1,I1,r1,q1⟩=>?_;obtain⟨a,e,⟨xs,hq⟩,q⟩:=q1;subst e;cases r1;obtain⟨its,rv,p,hz⟩:=I1.tuple hq;refine wpAny_pyIter_tuple (show s1.heap.IsTuple a its.toArray from p) ?_;refine⟨s1.heap.objs.size,[s1.heap.objs.size],_,_,H1,rfl,I1.kept (t':=s1.toks) fun b o e=>Heap.get?_push_of_some _ e,turn_tuple a _,⟨_,Heap.get?_push_size _ rfl,rfl,rfl⟩,fun b hb=>?_,q⟩;have e:b=s1.heap.objs.size:=by simpa using hb
 subst e;exact I1.fpOk (le_refl _) (I1.hok.fresh (le_refl _))
theorem range_it{pins:List (Addr×Obj)}{σ:St}{H:Hp}{s:Shared}{R:It->Hp->Prop}{E:Value->Shared->Prop}{lo hi:Int}{t u v:Tok}{tk:Nat}(I:Inv X pins σ H s)(h1:-(2^62)<=lo)(h2:lo<2^62)(h3:-(2^62)<=hi)(h4:hi<2^62)(q:R (Itr lo (hi-lo).toNat) H):wpAny (model X.prog X.w) X.A (pyIter (.ref s.heap.objs.size)) (PIE X pins σ tg R) E {s with heap:=s.heap.push {cls:=.type "range",data:=.fields #[.int lo t,.int hi u,.int 1 v]},toks:=tk}:=by
 refine wpAny_pyIter_range (IsRange.new ..) (small_one h1 h2 h3 h4) ?_;have I1:Inv X pins σ H {s with heap:=s.heap.push {cls:=.type "range",data:=.fields #[.int lo t,.int hi u,.int 1 v]},toks:=tk}:=I.kept fun b o e=>Heap.get?_push_of_some _ e;refine⟨(s.heap.push {cls:=.type "range",data:=.fields #[.int lo t,.int hi u,.int 1 v]}).objs.size,[(s.heap.push {cls:=.type "range",data:=.fields #[.int lo t,.int hi u,.int 1 v]}).objs.size],_,_,H,rfl,
  I1.kept (t':=tk) fun b o e=>Heap.get?_push_of_some _ e,turn_range _ lo (hi-lo).toNat,?_,fun b hb=>?_,q⟩
 ·have e1:lo+((0:Nat):Int)*1=lo:=by simp
  have e2:(((hi-lo).toNat:Nat):Int)-((0:Nat):Int)=Builtin.Range.rangeSize lo hi 1:=by rw[rangeSize_one];split <;>omega
  show IsRangeIter _ _ (lo+((0:Nat):Int)*1) ((((hi-lo).toNat:Nat):Int)-((0:Nat):Int)) 1;rw[e1,e2];exact Heap.get?_push_size _ rfl
 ·have e:b=(s.heap.push {cls:=.type "range",data:=.fields #[.int lo t,.int hi u,.int 1 v]}).objs.size:=by simpa using hb
  subst e;exact I1.fpOk (le_refl _) (I1.hok.fresh (le_refl _))
def iRng1(ta:TA):TI:=fun σ H R=>ta σ H fun vs H1=>∃ j:Int,vs=[.int j]/\ -(2^62)<=j/\j<2^62/\R (Itr 0 j.toNat) H1
def iRng2(ta:TA):TI:=fun σ H R=>ta σ H fun vs H1=>∃ i j:Int,vs=[.int i,.int j]/\(-(2^62)<=i/\i<2^62/\ -(2^62)<=j/\j<2^62)/\R (Itr i (j-i).toNat) H1
theorem pi_range1{a:Expr}{ta:TA}{p pos:Pos}(hg:Gl X "range")(hm:X.mg "range"=none)(ha:PA X [a] ta)(hs:starEach [a] X.env=[(false,eval a X.env)]:=by rfl):PI X tg (.Call (.Name "range" p) [a] [] pos) (iRng1 ta):=by
 intro pins s σ H R I h;refine Call_ (ld_blt I hg hm boot_range (PyProof.Rows.callWith_type1 (thn (ha pos pins s σ H _ I h) fun us s1 ⟨vs,H1,I1,r1,q1⟩=>?_) hs rfl));obtain⟨j,e,q1,q2,q⟩:=q1;subst e;cases r1 with
 |cons r rr =>
  cases rr;obtain⟨t,rfl⟩:=r;exact call_range_1 (range_it I1 (by omega) (by omega) q1 q2 (by simpa using q))
theorem pi_range2{a b:Expr}{ta:TA}{p pos:Pos}(hg:Gl X "range")(hm:X.mg "range"=none)(ha:PA X [a,b] ta)(hs:starEach [a,b] X.env=[(false,eval a X.env),(false,eval b X.env)]:=by rfl)(hs2:starEach [b] X.env=[(false,eval b X.env)]:=by rfl) :
  PI X tg (.Call (.Name "range" p) [a,b] [] pos) (iRng2 ta):=by
 intro pins s σ H R I h;refine Call_ (ld_blt I hg hm boot_range (PyProof.Rows.callWith_type1 (thn (ha pos pins s σ H _ I h) fun us s1 ⟨vs,H1,I1,r1,q1⟩=>?_) (by rw[hs,hs2]) (by rw[hs2];rfl)));obtain⟨i,j,e,⟨q1,q2,q3,q4⟩,q⟩:=q1;subst e;cases r1 with
 |cons r rr =>
  cases rr with
  |cons r' rr =>
   cases rr;obtain⟨t,rfl⟩:=r;obtain⟨t',rfl⟩:=r';exact call_range_2 (range_it I1 q1 q2 q3 q4 q)
def tFor(wi:TI)(g:TG)(tb:TS):TS:=fun D σ H=>wi σ H fun J H1=>∃ W0:Nat->Nat->St->Hp->Prop,(∃m,W0 0 m σ H1)/\ ∀i m σ H,W0 i m σ H->
 (J.stop i H/\D.nx σ H)\/(J.go i H/\ ∃N:St->Hp->Prop,(∀ σ' H',N σ' H'-> ∃m',m'<m/\W0 (i+1) m' σ' H')/\ ∀x H',J.yld i H x H'->g x σ H' fun σ2 H2=>tb {D with nx:=N,ct:=N,bk:=D.nx} σ2 H2)
def pinsAt(fp:List Addr)(h:Heap):List (Addr×Obj):=fp.filterMap fun b=>(h.get? b).map fun o=>(b,o)
theorem mem_pinsAt{fp:List Addr}{h:Heap}{b:Addr}{o:Obj}(hb:b∈fp)(e:h.get? b=some o):(b,o)∈pinsAt fp h:=List.mem_filterMap.mpr ⟨b,hb,by rw[e];rfl⟩
theorem of_pinsAt{fp:List Addr}{h:Heap}{p:Addr×Obj}(hp:p∈pinsAt fp h):p.1∈fp/\h.get? p.1=some p.2:=by
 obtain⟨b,hb,e⟩:=List.mem_filterMap.mp hp;cases q:h.get? b with
 |none=>rw[q]at e;cases e
 |some o =>
  rw[q]at e;have e':(b,o)=p:=Option.some.inj e;subst e';exact⟨hb,q⟩
theorem Inv.pinned{pins:List (Addr×Obj)}{σ:St}{H:Hp}{s:Shared}{fp:List Addr}(I:Inv X pins σ H s)(hf:∀b∈fp,FpOk X pins H b)(ho:∀b∈fp,∃o,s.heap.get? b=some o/\ ∀v,o.data≠ .cell v):Inv X (pins++pinsAt fp s.heap) σ H s :=
 I.pins_of fun p hp=>(mem_append.mp hp).elim (fun z=>I.pin p (mem_append_right _ z)) fun z=>by
  obtain⟨hb,e⟩:=of_pinsAt z;obtain⟨f0,f1,f2,_⟩:=hf p.1 hb;obtain⟨o,e',d⟩:=ho p.1 hb;rw[e]at e';cases e';exact⟨e,f0,f1,f2,d⟩
theorem Inv.unpinned{pins pl:List (Addr×Obj)}{σ:St}{H:Hp}{s:Shared}(I:Inv X (pins++pl) σ H s):Inv X pins σ H s:=I.pins_of fun p hp=>I.pin p (mem_append_right _ (List.mem_append_left _ hp))
theorem ps_for{iter:Expr}{body:List Stmt}{wi:TI}{g:TG}{tb:TS}{pos:Pos}(hp:PassesOwn (model X.prog X.w) X.A X.env X.xe)(hc:X.calm=true)(hi:PI X tg iter wi)(hg:PG X tg g)(hb:PSs X body tb)(hs:∀x,foldedSetIterable iter X.env x=pure x:=by intro _;rfl):PS X (.For tg iter body [] pos) (tFor wi g tb):=by
 intro pins s σ H D I h;refine wpAny_For (thn (hi pins s σ H _ I h) fun v s1 h1=>thn h1 fun itv s2 h2=>?_) hs;obtain⟨it,fp,tn,J,H2,e,I2,T,st2,f2,W0,⟨m0,w0⟩,turn⟩:=h2;subst e
 -- what stays true of the iterator's objects through the loop
 have stat:∀{H':Hp},(∀b∈fp,H' b=none)-> ∀b∈fp,FpOk X pins H' b:=fun hn b hb=>⟨hn b hb,(f2 b hb).2⟩;refine codeAny_forLoop_any (fun n s'=>∃ i σ' H',Inv X pins σ' H' s'/\tn i s'.heap/\(∀b∈fp,H' b=none)/\W0 i n σ' H') ?_ m0 ⟨0,σ,H2,I2,st2,fun b hb=>(f2 b hb).1,w0⟩;rintro n s3 ⟨i,σ3,H3,I3,st3,fr3,w3⟩;rcases turn i n σ3 H3 w3 with⟨stop,qn⟩|⟨go,N,hN,step⟩
 ·refine wpAny_passesOwn hp (thn (T.done X rfl rfl rfl hc i pins s3 σ3 H3 X.xe I3 (stat fr3) st3 stop) fun r s4 ⟨hr,I4⟩=>?_);subst hr;exact wpAny_execs_nil ⟨σ3,H3,I4,qn⟩
 ·refine wpAny_passesOwn hp (thn (T.item X rfl rfl rfl hc i pins s3 σ3 H3 X.xe I3 (stat fr3) st3 go) fun r s4 ⟨u,hr,h4⟩=>?_);subst hr;refine wpAny_passesOwn hp (thn h4 fun _ s5 ⟨x,H5,I5,r5,y5,st5,fr5⟩=>?_);have I5':=I5.pinned (stat fr5) (T.obj _ _ st5);refine wpAny_passesOwn hp (thn (hg _ s5 σ3 H5 x u _ I5' r5 (step x H5 y5)) fun _ s6 ⟨σ6,H6,I6,q6⟩=>?_);refine wpAny_passesOwn hp (thn (hb _ s6 σ6 H6 _ I6 q6) fun f s7 q7=>?_);have again:∀{σ7:St}{H7:Hp},Inv X (pins++pinsAt fp s5.heap) σ7 H7 s7->N σ7 H7-> ∃m,m<n/\ ∃i σ' H',Inv X pins σ' H' s7/\tn i s7.heap/\(∀b∈fp,H' b=none)/\W0 i m σ' H':=fun{σ7 H7} I7 n7=>by
   obtain⟨m',hm,w7⟩:=hN σ7 H7 n7;refine⟨m',hm,i+1,σ7,H7,I7.unpinned,T.keep _ _ _ st5 fun b hb o e=>(I7.pin (b,o) (mem_append_right _ (mem_append_right _ (mem_pinsAt hb e)))).1,fun b hb=>?_,w7⟩;obtain⟨o,e,d⟩:=T.obj _ _ st5 b hb;exact(I7.pin (b,o) (mem_append_right _ (mem_append_right _ (mem_pinsAt hb e)))).2.1
  cases f with
  |next=>obtain⟨σ7,H7,I7,n7⟩:=q7;exact again I7 n7
  |cont=>obtain⟨σ7,H7,I7,n7⟩:=q7;exact again I7 n7
  |brk=>obtain⟨σ7,H7,I7,q7⟩:=q7;exact⟨σ7,H7,I7.unpinned,q7⟩
  |ret v=>obtain⟨x7,σ7,H7,I7,r7,q7⟩:=q7;exact⟨x7,σ7,H7,I7.unpinned,r7,q7⟩
end
theorem for_list{K:W.Frag}{a:Addr}{xs:List V}{g:TG}{tb:TS}{D:Ends}{σ:St}{H:Hp}(Pv:Nat->St->Hp->Prop)(h0:Pv 0 σ H)(hl:∀i σ H,i<=xs.length->Pv i σ H->SqL K H a xs)(hs:∀i x σ H,xs[i]? =some x->Pv i σ H->g x σ H fun σ2 H2=>tb {D with nx:=Pv (i+1),ct:=Pv (i+1),bk:=D.nx} σ2 H2)(hd:∀ σ H,Pv xs.length σ H->D.nx σ H) :
  ∃W0:Nat->Nat->St->Hp->Prop,(∃m,W0 0 m σ H)/\ ∀i m σ H,W0 i m σ H->
   ((Itl K a).stop i H/\D.nx σ H)\/((Itl K a).go i H/\ ∃N:St->Hp->Prop,(∀ σ' H',N σ' H'-> ∃m',m'<m/\W0 (i+1) m' σ' H')/\ ∀x H',(Itl K a).yld i H x H'->g x σ H' fun σ2 H2=>tb {D with nx:=N,ct:=N,bk:=D.nx} σ2 H2):=by
 refine⟨fun i m σ H=>m=xs.length-i/\i<=xs.length/\Pv i σ H,⟨xs.length,by simp,zero_le _,h0⟩,?_⟩;rintro i m σ H ⟨rfl,hi,p⟩;have q:=hl i σ H hi p;by_cases hlt:i<xs.length
 ·refine .inr ⟨⟨xs,xs[i],q,by simp[hlt]⟩,Pv (i+1),fun σ' H' p'=>⟨xs.length-(i+1),by omega,rfl,hlt,p'⟩,fun x H' y=>?_⟩;obtain⟨e,y⟩:=y;subst e;exact hs i x σ _ (y xs q) p
 ·have e:i=xs.length:=by omega
  subst e;exact .inl ⟨⟨xs,q,le_refl _⟩,hd σ H p⟩
theorem for_tup{K:W.Frag}{a:Addr}{xs:List V}{g:TG}{tb:TS}{D:Ends}{σ:St}{H:Hp}(Pv:Nat->St->Hp->Prop)(h0:Pv 0 σ H)(hl:∀i σ H,i<=xs.length->Pv i σ H->SqT K H a xs)(hs:∀i x σ H,xs[i]? =some x->Pv i σ H->g x σ H fun σ2 H2=>tb {D with nx:=Pv (i+1),ct:=Pv (i+1),bk:=D.nx} σ2 H2)(hd:∀ σ H,Pv xs.length σ H->D.nx σ H) :
  ∃W0:Nat->Nat->St->Hp->Prop,(∃m,W0 0 m σ H)/\ ∀i m σ H,W0 i m σ H->
   ((Itt K a).stop i H/\D.nx σ H)\/((Itt K a).go i H/\ ∃N:St->Hp->Prop,(∀ σ' H',N σ' H'-> ∃m',m'<m/\W0 (i+1) m' σ' H')/\ ∀x H',(Itt K a).yld i H x H'->g x σ H' fun σ2 H2=>tb {D with nx:=N,ct:=N,bk:=D.nx} σ2 H2):=by
 refine⟨fun i m σ H=>m=xs.length-i/\i<=xs.length/\Pv i σ H,⟨xs.length,by simp,zero_le _,h0⟩,?_⟩;rintro i m σ H ⟨rfl,hi,p⟩;have q:=hl i σ H hi p;by_cases hlt:i<xs.length
 ·refine .inr ⟨⟨xs,xs[i],q,by simp[hlt]⟩,Pv (i+1),fun σ' H' p'=>⟨xs.length-(i+1),by omega,rfl,hlt,p'⟩,fun x H' y=>?_⟩;obtain⟨e,y⟩:=y;subst e;exact hs i x σ _ (y xs q) p
 ·have e:i=xs.length:=by omega
  subst e;exact .inl ⟨⟨xs,q,le_refl _⟩,hd σ H p⟩
theorem for_range{lo:Int}{n:Nat}{g:TG}{tb:TS}{D:Ends}{σ:St}{H:Hp}(Pv:Nat->St->Hp->Prop)(h0:Pv 0 σ H)(hs:∀i σ H,i<n->Pv i σ H->g (.int (lo+i)) σ H fun σ2 H2=>tb {D with nx:=Pv (i+1),ct:=Pv (i+1),bk:=D.nx} σ2 H2)(hd:∀ σ H,Pv n σ H->D.nx σ H) :
  ∃W0:Nat->Nat->St->Hp->Prop,(∃m,W0 0 m σ H)/\ ∀i m σ H,W0 i m σ H->
   ((Itr lo n).stop i H/\D.nx σ H)\/((Itr lo n).go i H/\ ∃N:St->Hp->Prop,(∀ σ' H',N σ' H'-> ∃m',m'<m/\W0 (i+1) m' σ' H')/\ ∀x H',(Itr lo n).yld i H x H'->g x σ H' fun σ2 H2=>tb {D with nx:=N,ct:=N,bk:=D.nx} σ2 H2):=by
 refine⟨fun i m σ H=>m=n-i/\i<=n/\Pv i σ H,⟨n,by simp,zero_le _,h0⟩,?_⟩;rintro i m σ H ⟨rfl,hi,p⟩;by_cases hlt:i<n
 ·refine .inr ⟨hlt,Pv (i+1),fun σ' H' p'=>⟨n-(i+1),by omega,rfl,hlt,p'⟩,fun x H' y=>?_⟩;obtain⟨e,y⟩:=y;subst e y;exact hs i σ _ hlt p
 ·have e:i=n:=by omega
  subst e;exact .inl ⟨le_refl _,hd σ H p⟩
abbrev R2:=V->V->Hp->VK->Prop
def OpR(X:Cx)(f:Value->Value->Sem Value)(r:R2):Prop :=
 ∀(pins:List (Addr×Obj))(s:Shared)(σ:St)(H:Hp)(x y:V)(v u:Value)(Q:VK),Inv X pins σ H s->RelV x v->RelV y u->r x y H Q->
  wpAny (model X.prog X.w) X.A (f v u) (EP X pins σ Q) X.xe s
def UnR(X:Cx)(f:Value->Sem Value)(r:V->Hp->VK->Prop):Prop :=
 ∀(pins:List (Addr×Obj))(s:Shared)(σ:St)(H:Hp)(x:V)(v:Value)(Q:VK),Inv X pins σ H s->RelV x v->r x H Q->
  wpAny (model X.prog X.w) X.A (f v) (EP X pins σ Q) X.xe s
def CallR(X:Cx)(f:Value)(r:List V->Hp->VK->Prop):Prop :=
 ∀(pins:List (Addr×Obj))(s:Shared)(σ:St)(H:Hp)(xs:List V)(us:List Value)(Q:VK),Inv X pins σ H s->Vals xs us->r xs H Q->
  wpAny (model X.prog X.w) X.A (call f us) (EP X pins σ Q) X.xe s
def TruR(X:Cx)(r:V->Hp->(Bool->Hp->Prop)->Prop):Prop :=
 ∀(pins:List (Addr×Obj))(s:Shared)(σ:St)(H:Hp)(x:V)(v:Value)(Q:Bool->Hp->Prop),Inv X pins σ H s->RelV x v->r x H Q->
  wpAny (model X.prog X.w) X.A (truthy v) (TP X pins σ Q) X.xe s
def tOp(r:R2)(ta tb:TE):TE:=fun σ H Q=>ta σ H fun x H1=>tb σ H1 fun y H2=>r x y H2 Q
def tUn(r:V->Hp->VK->Prop)(ta:TE):TE:=fun σ H Q=>ta σ H fun x H1=>r x H1 Q
def rI(C:Int->Int->Prop)(g:Int->Int->V):R2:=fun x y H Q=>∃ i j,x= .int i/\y= .int j/\C i j/\Q (g i j) H
def rI0(g:Int->Int->V):R2:=fun x y H Q=>∃ i j,x= .int i/\y= .int j/\Q (g i j) H
def rU(g:Int->V):V->Hp->VK->Prop:=fun x H Q=>∃ i,x= .int i/\Q (g i) H
section
variable{X:Cx}{a b c:Expr}{ta tb tc:TE}{pos:Pos}
theorem binT(ha:PE X a ta)(hb:PE X b tb){pins:List (Addr×Obj)}{s:Shared}{σ:St}{H:Hp}{R:V->V->Hp->Prop}(I:Inv X pins σ H s)(h:ta σ H fun x H1=>tb σ H1 fun y H2=>R x y H2){Q:Value->Shared->Prop}{f:Value->Value->Sem Value}(hf:∀v u s2 x y H2,Inv X pins σ H2 s2->RelV x v->RelV y u->R x y H2->wpAny (model X.prog X.w) X.A (f v u) Q X.xe s2) :
  wpAny (model X.prog X.w) X.A (eval a X.env) (fun v s₁=>wpAny (model X.prog X.w) X.A (eval b X.env) (fun u s₂=>wpAny (model X.prog X.w) X.A (f v u) Q X.xe s₂) X.xe s₁) X.xe s:=by
 refine thn (ha pins s σ H _ I h) fun v s1 ⟨x,H1,I1,r1,q1⟩=>?_;refine thn (hb pins s1 σ H1 _ I1 q1) fun u s2 ⟨y,H2,I2,r2,q2⟩=>?_;exact hf v u s2 x y H2 I2 r1 r2 q2
theorem zr{op:Operator}{r:R2}(ho:OpR X (binaryOp op) r)(ha:PE X a ta)(hb:PE X b tb):PE X (.BinOp a op b pos) (tOp r ta tb):=by
 intro pins s σ H Q I h;exact wpAny_BinOp (binT ha hb I h fun v u s2 x y H2 I2 rx ry q=>ho pins s2 σ H2 x y v u Q I2 rx ry q)
theorem pe_un{op:UnaryOp}{r:V->Hp->VK->Prop}(ho:UnR X (unaryOp op) r)(ha:PE X a ta):PE X (.UnaryOp op a pos) (tUn r ta):=by
 intro pins s σ H Q I h;exact UnaryOp_ (thn (ha pins s σ H _ I h) fun v s1 ⟨x,H1,I1,r1,q1⟩=>ho pins s1 σ H1 x v Q I1 r1 q1)
theorem opI{f:Value->Value->Sem Value}{C:Int->Int->Prop}{g:Int->Int->Int}(rule:∀(i j:Int) (t u:Tok) (s:Shared) (Q:Value->Shared->Prop) (E:Value->Shared->Prop),C i j->Q (.int (g i j) s.toks) {s with toks:=s.toks+1}->wpAny (model X.prog X.w) X.A (f (.int i t) (.int j u)) Q E s) :
  OpR X f (rI C fun i j=>.int (g i j)):=by
 intro pins s σ H x y v u Q I rx ry h;obtain⟨i,j,rfl,rfl,hc,q⟩:=h;obtain⟨t,rfl⟩:=rx;obtain⟨t',rfl⟩:=ry;exact rule i j t t' s _ _ hc ⟨.int (g i j),H,I.tok _,⟨_,rfl⟩,q⟩
theorem opI0{f:Value->Value->Sem Value}{g:Int->Int->Int}(rule:∀(i j:Int) (t u:Tok) (s:Shared) (Q:Value->Shared->Prop) (E:Value->Shared->Prop),Q (.int (g i j) s.toks) {s with toks:=s.toks+1}->wpAny (model X.prog X.w) X.A (f (.int i t) (.int j u)) Q E s) :
  OpR X f (rI0 fun i j=>.int (g i j)):=by
 intro pins s σ H x y v u Q I rx ry h;obtain⟨i,j,rfl,rfl,q⟩:=h;obtain⟨t,rfl⟩:=rx;obtain⟨t',rfl⟩:=ry;exact rule i j t t' s _ _ ⟨.int (g i j),H,I.tok _,⟨_,rfl⟩,q⟩
theorem opB0{f:Value->Value->Sem Value}{g:Int->Int->Bool}(rule:∀(i j:Int) (t u:Tok) (s:Shared) (Q:Value->Shared->Prop) (E:Value->Shared->Prop),Q (.bool (g i j)) s->wpAny (model X.prog X.w) X.A (f (.int i t) (.int j u)) Q E s) :
  OpR X f (rI0 fun i j=>.bl (g i j)):=by
 intro pins s σ H x y v u Q I rx ry h;obtain⟨i,j,rfl,rfl,q⟩:=h;obtain⟨t,rfl⟩:=rx;obtain⟨t',rfl⟩:=ry;exact rule i j t t' s _ _ ⟨.bl (g i j),H,I,rfl,q⟩
def CPow(i j:Int):Prop:=0<=j/\j<=1000000/\i.natAbs<2^64
def CMul(i j:Int):Prop:=(-(2^64)<i/\i<2^64)\/(-(2^64)<j/\j<2^64)
theorem CMul.ok{i j:Int}(h:CMul i j):IntMulOk i j:=by
 rcases h with⟨h1,h2⟩|⟨h1,h2⟩
 ·exact .of_left (intBits_le_64 h1 h2)
 ·exact .of_right (intBits_le_64 h1 h2)
theorem yL:OpR X (binaryOp .Add) (rI0 fun i j=>.int (i+j)):=opI0 fun _ _ _ _ _ _ _ q=>add_int q
theorem op_sub:OpR X (binaryOp .Sub) (rI0 fun i j=>.int (i-j)):=opI0 fun _ _ _ _ _ _ _ q=>sub_int q
theorem op_mul:OpR X (binaryOp .Mult) (rI CMul fun i j=>.int (i*j)):=opI fun _ _ _ _ _ _ _ hc q=>mul_int q hc.ok
theorem op_mod:OpR X (binaryOp .Mod) (rI (fun _ j=>0<j) fun i j=>.int (i%j)):=opI fun i j _ _ _ _ _ hc q=>by
 have h1:(0:Int)<j:=hc;exact mod_int' (by omega) (by rw[Int.fmod_eq_emod_of_nonneg i (by omega)];exact q)
theorem op_pow:OpR X (binaryOp .Pow) (rI CPow fun i j=>.int (i^j.toNat)):=opI fun _ _ _ _ _ _ _ hc q=>pow_int_small hc.1 hc.2.1 hc.2.2 q
theorem unI{f:Value->Sem Value}{g:Int->Int}(rule:∀(i:Int) (t:Tok) (s:Shared) (Q:Value->Shared->Prop) (E:Value->Shared->Prop),Q (.int (g i) s.toks) {s with toks:=s.toks+1}->wpAny (model X.prog X.w) X.A (f (.int i t)) Q E s) :
  UnR X f (rU fun i=>.int (g i)):=by
 intro pins s σ H x v Q I rx h;obtain⟨i,rfl,q⟩:=h;obtain⟨t,rfl⟩:=rx;exact rule i t s _ _ ⟨.int (g i),H,I.tok _,⟨_,rfl⟩,q⟩
theorem un_neg:UnR X (unaryOp .USub) (rU fun i=>.int (-i)):=unI fun _ _ _ _ _ q=>neg_int q
end
def scal:V->V->Bool
 | .non,.non=>true| .non,.int _=>true| .int _,.non=>true| .non,.bl _=>true| .bl _,.non=>true| .non,.str _=>true| .str _,.non=>true
 | .int _,.int _=>true| .bl _,.bl _=>true| .str _,.str _=>true| .byt _,.byt _=>true
 | .int _,.str _=>true| .str _,.int _=>true| .bl _,.str _=>true| .str _,.bl _=>true
 | _,_=>false
def rEq:R2:=fun x y H Q=>scal x y=true/\Q (.bl (decide (x=y))) H
def rNe:R2:=fun x y H Q=>scal x y=true/\Q (.bl (!decide (x=y))) H
theorem dec_int{i j:Int}:decide (V.int i=V.int j)=(i==j):=by
 rw[Bool.eq_iff_iff];simp
theorem dec_bl{i j:Bool}:decide (V.bl i=V.bl j)=(i==j):=by
 rw[Bool.eq_iff_iff];simp
theorem dec_str{i j:Str}:decide (V.str i=V.str j)=(i==j):=by
 rw[Bool.eq_iff_iff];simp
theorem dec_byt{i j:Array UInt8}:decide (V.byt i=V.byt j)=(i.toList==j.toList):=by
 rw[Bool.eq_iff_iff];cases i;cases j;simp
section
variable{X:Cx}{a b c:Expr}{ta tb tc:TE}{pos:Pos}
theorem zU{pins:List (Addr×Obj)}{σ:St}{H:Hp}{s:Shared}{Q:VK}{k k':Bool}(I:Inv X pins σ H s)(q:Q (.bl k) H)(e:k=k'):EP X pins σ Q (.bool k') s:=by
 subst e;exact⟨.bl k,H,I,rfl,q⟩
theorem op_eq:OpR X (compareOp .Eq) rEq:=by
 intro pins s σ H x y v u Q I rx ry h;obtain⟨hs,q⟩:=h;cases x with
 |non =>
  cases rx;cases y with
  |non=>cases ry;exact PySem.EqNone.eq_none_none (zU I q (by simp))
  |bl j=>cases ry;exact PySem.EqNone.eq_none_bool (zU I q (by simp))
  |int j=>obtain⟨t',rfl⟩:=ry;exact PySem.EqNone.eq_none_int (zU I q (by simp))
  |str j=>obtain⟨t',rfl⟩:=ry;exact PySem.EqNone.eq_none_str (zU I q (by simp))
  | _=>exact absurd (show false=true from hs) Bool.false_ne_true
 |bl i =>
  cases rx;cases y with
  |non=>cases ry;exact PySem.EqNone.eq_bool_none (zU I q (by simp))
  |bl j=>cases ry;exact eq_bool (zU I q dec_bl)
  |str j=>obtain⟨t',rfl⟩:=ry;exact PySem.EqMixed.eq_bool_str (zU I q (by simp))
  | _=>exact absurd (show false=true from hs) Bool.false_ne_true
 |int i =>
  obtain⟨t,rfl⟩:=rx;cases y with
  |non=>cases ry;exact PySem.EqNone.eq_int_none (zU I q (by simp))
  |int j=>obtain⟨t',rfl⟩:=ry;exact eq_int (zU I q dec_int)
  |str j=>obtain⟨t',rfl⟩:=ry;exact PySem.EqMixed.eq_int_str (zU I q (by simp))
  | _=>exact absurd (show false=true from hs) Bool.false_ne_true
 |str i =>
  obtain⟨t,rfl⟩:=rx;cases y with
  |non=>cases ry;exact PySem.EqNone.eq_str_none (zU I q (by simp))
  |bl j=>cases ry;exact PySem.EqMixed.eq_str_bool (zU I q (by simp))
  |int j=>obtain⟨t',rfl⟩:=ry;exact PySem.EqMixed.eq_str_int (zU I q (by simp))
  |str j=>obtain⟨t',rfl⟩:=ry;exact eq_str (zU I q dec_str)
  | _=>exact absurd (show false=true from hs) Bool.false_ne_true
 |byt i =>
  obtain⟨t,rfl⟩:=rx;cases y with
  |byt j=>obtain⟨t',rfl⟩:=ry;exact W.eq_bytes (zU I q dec_byt)
  | _=>exact absurd (show false=true from hs) Bool.false_ne_true
 | _=>cases y <;>exact absurd (show false=true from hs) Bool.false_ne_true
theorem op_ne:OpR X (compareOp .NotEq) rNe:=by
 intro pins s σ H x y v u Q I rx ry h;obtain⟨hs,q⟩:=h;cases x with
 |non =>
  cases rx;cases y with
  |non=>cases ry;exact PySem.EqNone.ne_none_none (zU I q (by simp))
  |bl j=>cases ry;exact PySem.EqNone.ne_none_bool (zU I q (by simp))
  |int j=>obtain⟨t',rfl⟩:=ry;exact PySem.EqNone.ne_none_int (zU I q (by simp))
  |str j=>obtain⟨t',rfl⟩:=ry;exact PySem.EqNone.ne_none_str (zU I q (by simp))
  | _=>exact absurd (show false=true from hs) Bool.false_ne_true
 |bl i =>
  cases rx;cases y with
  |non=>cases ry;exact PySem.EqNone.ne_bool_none (zU I q (by simp))
  |bl j=>cases ry;exact ne_bool (zU I q (congrArg not dec_bl))
  |str j=>obtain⟨t',rfl⟩:=ry;exact PySem.EqMixed.ne_bool_str (zU I q (by simp))
  | _=>exact absurd (show false=true from hs) Bool.false_ne_true
 |int i =>
  obtain⟨t,rfl⟩:=rx;cases y with
  |non=>cases ry;exact PySem.EqNone.ne_int_none (zU I q (by simp))
  |int j=>obtain⟨t',rfl⟩:=ry;exact ne_int (zU I q (congrArg not dec_int))
  |str j=>obtain⟨t',rfl⟩:=ry;exact PySem.EqMixed.ne_int_str (zU I q (by simp))
  | _=>exact absurd (show false=true from hs) Bool.false_ne_true
 |str i =>
  obtain⟨t,rfl⟩:=rx;cases y with
  |non=>cases ry;exact PySem.EqNone.ne_str_none (zU I q (by simp))
  |bl j=>cases ry;exact PySem.EqMixed.ne_str_bool (zU I q (by simp))
  |int j=>obtain⟨t',rfl⟩:=ry;exact PySem.EqMixed.ne_str_int (zU I q (by simp))
  |str j=>obtain⟨t',rfl⟩:=ry;exact ne_str (zU I q (congrArg not dec_str))
  | _=>exact absurd (show false=true from hs) Bool.false_ne_true
 |byt i =>
  obtain⟨t,rfl⟩:=rx;cases y with
  |byt j=>obtain⟨t',rfl⟩:=ry;exact W.ne_bytes (zU I q (congrArg not dec_byt))
  | _=>exact absurd (show false=true from hs) Bool.false_ne_true
 | _=>cases y <;>exact absurd (show false=true from hs) Bool.false_ne_true
theorem op_lt:OpR X (compareOp .Lt) (rI0 fun i j=>.bl (decide (i<j))):=opB0 fun _ _ _ _ _ _ _ q=>lt_int q
theorem op_le:OpR X (compareOp .LtE) (rI0 fun i j=>.bl (decide (i<=j))):=opB0 fun _ _ _ _ _ _ _ q=>le_int q
theorem op_gt:OpR X (compareOp .Gt) (rI0 fun i j=>.bl (decide (j<i))):=opB0 fun _ _ _ _ _ _ _ q=>gt_int q
theorem op_ge:OpR X (compareOp .GtE) (rI0 fun i j=>.bl (decide (j<=i))):=opB0 fun _ _ _ _ _ _ _ q=>ge_int q
theorem op_isN:OpR X (compareOp .Is) (fun x y H Q=>y= .non/\Q (.bl (decide (x= .non))) H):=by
 intro pins s σ H x y v u Q I rx ry h;obtain⟨rfl,q⟩:=h;cases ry;refine is_none_gen (zU I q ?_);cases x <;>first
  |(cases rx;rfl)
  |(obtain⟨t,rfl⟩:=rx;rfl)
theorem op_notN:OpR X (compareOp .IsNot) (fun x y H Q=>y= .non/\Q (.bl (!decide (x= .non))) H):=by
 intro pins s σ H x y v u Q I rx ry h;obtain⟨rfl,q⟩:=h;cases ry;refine isnot_none_gen (zU I q ?_);cases x <;>first
  |(cases rx;rfl)
  |(obtain⟨t,rfl⟩:=rx;rfl)
theorem zw(b:Expr){op:CmpOp}(h:op≠ .In:=by decide)(h2:op≠ .NotIn:=by decide):behindInMarks op b=false:=by
 have e1:(op==CmpOp.In)=false:=by cases op <;>first|rfl|exact absurd rfl h
 have e2:(op==CmpOp.NotIn)=false:=by cases op <;>first|rfl|exact absurd rfl h2
 cases b <;>simp[behindInMarks,e1,e2]
theorem pe_cmpR{op:CmpOp}{r:R2}(ho:OpR X (compareOp op) r)(ha:PE X a ta)(hb:PE X b tb)(hm:behindInMarks op b=false):PE X (.Compare a [op] [b] pos) (tOp r ta tb):=by
 intro pins s σ H Q I h;exact wpAny_Compare1 (binT ha hb I h fun v u s2 x y H2 I2 rx ry q=>ho pins s2 σ H2 x y v u Q I2 rx ry q) hm
def tTest(t:TE):TT:=fun σ H Q=>t σ H fun x H'=>∃ k,x= .bl k/\Q k H'
theorem zk{op:CmpOp}{r:R2}(ho:OpR X (compareOp op) r)(ha:PE X a ta)(hb:PE X b tb)(hm:behindInMarks op b=false):PT X (.Compare a [op] [b] pos) (tTest (tOp r ta tb)):=by
 intro pins s σ H Q I h;refine wpAny_isTrue_Compare1 (thn (ha pins s σ H _ I h) fun v s1 ⟨x,H1,I1,r1,q1⟩=>thn (hb pins s1 σ H1 _ I1 q1) fun u s2 ⟨y,H2,I2,r2,q2⟩ =>
  thn (ho pins s2 σ H2 x y v u _ I2 r1 r2 q2) fun c s3 ⟨z,H3,I3,r3,k,e,q3⟩=>?_) hm
 subst e;cases r3;exact wpAny_truthy_bool ⟨H3,I3,q3⟩
def TruV(K:W.Frag)(x:V)(H:Hp)(k:Bool):Prop :=
 match x with
 | .non=>k=false
 | .bl b=>k=b
 | .int i=>k=(i !=0)
 | .str y=>y.length<=sizeLine/\k=((y.length:Int) !=0)
 | .byt y=>y.size<=sizeLine/\k=((y.size:Int) !=0)
 | .ref p=>(∃xs,SqL K H p xs/\k= !xs.isEmpty)\/(∃xs,SqT K H p xs/\k= !xs.isEmpty)\/ ∃kvs,H p=some (.dK kvs)/\k= !kvs.isEmpty
 | _=>False
theorem isEmpty_kv{κ:Type}{kvs:List (κ×V)}{vs:List (κ×Value)}(r:KV kvs vs):(!vs.isEmpty)= !kvs.isEmpty:=by
 cases r <;>rfl
theorem isEmpty_of{xs:List V}{its:List Value}(r:Vals xs its):(!its.toArray.isEmpty)= !xs.isEmpty:=by
 cases r <;>simp
theorem line63:(sizeLine:Nat)<2^63:=by rw[sizeLine_eq];decide
theorem tru_ok:TruR X (fun x H Q=>∃ k,TruV X.K x H k/\Q k H):=by
 intro pins s σ H x v Q I rx h;obtain⟨k,e,q⟩:=h;have hl:=line63;have hs:sizeLine=16777216:=sizeLine_eq;cases x with
 |non =>
  cases rx;have e':k=false:=e;subst e';exact truthy_none ⟨H,I,q⟩
 |bl b =>
  cases rx;have e':k=b:=e;subst e';exact wpAny_truthy_bool ⟨H,I,q⟩
 |int i =>
  obtain⟨t,rfl⟩:=rx;have e':k=(i !=0):=e;subst e';exact PySem.P.truthy_int ⟨H,I,q⟩
 |str y =>
  obtain⟨t,rfl⟩:=rx;obtain⟨hy,e'⟩:y.length<=sizeLine/\k=((y.length:Int) !=0):=e;subst e';exact PySem.P.truthy_str (by omega) ⟨H,I.tok _,q⟩
 |byt y =>
  obtain⟨t,rfl⟩:=rx;obtain⟨hy,e'⟩:y.size<=sizeLine/\k=((y.size:Int) !=0):=e;subst e';exact W.truthy_bytes (by omega) ⟨H,I.tok _,q⟩
 |ref p =>
  cases rx;have e':(∃xs,SqL X.K H p xs/\k= !xs.isEmpty)\/(∃xs,SqT X.K H p xs/\k= !xs.isEmpty)\/ ∃kvs,H p=some (.dK kvs)/\k= !kvs.isEmpty:=e;rcases e' with⟨xs,hx,e'⟩|⟨xs,hx,e'⟩|⟨kvs,hx,e'⟩
  ·subst e';obtain⟨its,r,pl,hz⟩:=I.list hx;have hlen:=r.length;exact wpAny_truthy_list pl.isList (by simp only[size_toArray];omega) ⟨H,I.tok _,by rw[isEmpty_of r];exact q⟩
  ·subst e';obtain⟨its,r,pl,hz⟩:=I.tuple hx;have hlen:=r.length;exact truthy_tuple pl (by simp only[size_toArray];omega) ⟨H,I.tok _,by rw[isEmpty_of r];exact q⟩
  ·subst e';obtain⟨hz,hS,vs,r,m⟩:kvs.length<=sizeLine/\(p==sysModules)=false/\ ∃vs,KV kvs vs/\s.heap.DictOf (yA X.prog X.w) p vs:=I.hok p _ hx;have hlen:kvs.length=vs.length:=Paired.length r;exact wpAny_truthy_dict hS m (by omega) ⟨H,I.tok _,by rw[isEmpty_kv r];exact q⟩
 | _=>exact(show False from e).elim
theorem zR(ha:PE X a ta)(he:∀whole,isTrue a X.env whole=(do let v <-whole;standAt a.pos;holding [v] (truthy v))) :
  PT X a (fun σ H Q=>ta σ H fun x H'=>∃ k,TruV X.K x H' k/\Q k H'):=by
 intro pins s σ H Q I h;exact isTrue_plain (thn (ha pins s σ H _ I h) fun v s1 ⟨x,H1,I1,r1,q1⟩=>tru_ok pins s1 σ H1 x v Q I1 r1 q1) (he _)
theorem vals1{x:V}{us:List Value}(r:Vals [x] us):∃u,us=[u]/\RelV x u:=by
 cases r with
 |cons r1 r2=>cases r2;exact⟨_,rfl,r1⟩
theorem vals2{x y:V}{us:List Value}(r:Vals [x,y] us):∃u w',us=[u,w']/\RelV x u/\RelV y w':=by
 cases r with
 |cons r1 r2 =>
  cases r2 with
  |cons r3 r4=>cases r4;exact⟨_,_,rfl,r1,r3⟩
theorem call_min2(hc:X.calm=true):CallR X (.builtin "min") (fun xs H Q=>∃ i j,xs=[.int i,.int j]/\Q (.int (if j<i then j else i)) H):=by
 intro pins s σ H xs us Q I r h;obtain⟨i,j,rfl,q⟩:=h;obtain⟨u,w',rfl,⟨t,rfl⟩,⟨t',rfl⟩⟩:=vals2 r;refine min_two_ints (I.ok.hd hc) fun h' tk k=>⟨_,H,I.kept k,?_,q⟩;by_cases hj:j<i
 ·rw[if_pos hj,if_pos hj];exact⟨_,rfl⟩
 ·rw[if_neg hj,if_neg hj];exact⟨_,rfl⟩
end
structure ObjM(h:Heap)(x dx C:Addr)(mA:Str->Option Value):Prop where
 obj:h.get? x=some (W.instObj C dx)
 ns:h.Ns1 dx mA
 ne:dx≠x
theorem lookIn_ns{h:Heap}{dx:Addr}{mA:Str->Option Value}(n:h.Ns1 dx mA):∃od,h.get? dx=some od/\ ∀name,W.lookIn name od=some (mA name):=by
 obtain⟨o,es,ep,ho,hd,hk,_,hm⟩:=n;refine⟨o,ho,fun name=>?_⟩;have e:=hm name;unfold nsFind findBy at e;rw[<-Array.find?_toList]at e;unfold W.lookIn;rw[hd];dsimp only;split
 ·rename_i y q;rw[q]at e;exact congrArg some e
 ·rename_i q;rw[q]at e;have a:es.toList.any (·.refKey)=false:=by
   rw[List.any_eq_false];intro y hy;obtain⟨z,t,hkey⟩:=hk y (Array.mem_toList_iff.mp hy);simp[DictEntry.refKey,hkey]
  have a':¬es.toList.any (·.refKey)=true:=by rw[a];exact Bool.false_ne_true
  rw[if_neg a'];exact congrArg some e
theorem ObjM.look{h:Heap}{x dx C:Addr}{mA:Str->Option Value}(I:ObjM h x dx C mA):∃od,W.InstAt h x (W.instObj C dx) C (some od)/\ ∀name,W.lookIn name od=some (mA name) :=
 let⟨od,ho,hl⟩:=lookIn_ns I.ns
 ⟨od,⟨I.obj,rfl,rfl,ho⟩,hl⟩
section
variable{prog:Program}{w:World}{A:Around}{E:Value->Shared->Prop}{s:Shared}{K:W.Frag}{x dx C f:Addr}{mA:Str->Option Value}{name:Str}{v:Value}
theorem get_map{expr:Bool}{Q:Value->Shared->Prop}(X:K.In s.heap)(I:ObjM s.heap x dx C mA)(hg:W.plainGet K C name=true)(hh:W.hasDictIn K C=true)(ha:W.findIn K (.ref C) name=some none)(hv:mA name=some v)(hv':W.handedIn v=true)(h:Q v {s with toks:=s.toks+1}) :
  wpAny (model prog w) A (getAttr (.ref x) name expr) Q E s:=by
 obtain⟨od,J,hl⟩:=I.look;exact W.get_value X J (W.plainGet_of hg).1 (W.findObj_own hh ha rfl (by rw[hl,hv])) hv' h
theorem get_meth{pl:Sem Bool}{Q:Value×List Value->Shared->Prop}(X:K.In s.heap)(I:ObjM s.heap x dx C mA)(hg:W.plainGet K C name=true)(hf:W.findIn K (.ref C) name=some (some (.ref f)))(ht:W.isFn K (.ref f)=true)(hv:mA name=none)(h:Q (.ref f,[.ref x]) s) :
  wpAny (model prog w) A (getMethod (.ref x) name pl) Q E s:=by
 obtain⟨od,J,hl⟩:=I.look;exact W.method_fn X J (W.plainGet_of hg).1 (W.plainGet_of hg).2 hf (beq_iff_eq.mp ht) (by show(W.lookIn name od).map (·.isSome)=some false;rw[hl,hv];rfl) h
theorem set_map{ns:List Str}{Q:Unit->Shared->Prop}(X:K.In s.heap)(I:ObjM s.heap x dx C mA)(hs:W.findIn K (.ref C) "__setattr__"=some (some (.builtin "object.__setattr__")))(hp:W.plainOver K C=true)(ht:W.takerIn K C name=some none)(hh:W.hasDictIn K C=true)(hw:PySem.Within mA ns)(hsz:ns.length<=sizeLine)(h:∀h',ObjM h' x dx C (fun y=>if y=name then some v else mA y)->Heap.SameBut dx s.heap h'->Q () {s with heap:=h',toks:=s.toks+2}) :
  wpAny (model prog w) A (setAttr (.ref x) name v) Q E s:=by
 obtain⟨od,J,hl⟩:=I.look;refine W.set_plain X J hs (W.osa_open (s:={s with toks:=s.toks+1}) (r:=none) X J hp ht fun b=>?_);obtain⟨cd,hc,hd'⟩:=W.any_some hh;have hx:s.heap.get? x=some ⟨.ref C,some dx,.plain,#[]⟩:=I.obj;refine wpAny_bind (wpAny_pure (wpAny_bind (wpAny_bind (wpAny_loadPart hx (wpAny_bind (W.Looks.here (s:={s with toks:=s.toks+1}) (W.looks_clsIn X hc) ?_))))));rw[hd'];refine wpAny_pure (a:=some dx) (wpAny_bind (wpAny_pure (wpAny_bind ?_)));refine wpAny_nsSet1 (s:={s with toks:=s.toks+1}) I.ns fun h' hn2 hs2=>?_;obtain⟨oD,esD,epD,hoD,hdD,hcD⟩:=hn2.count (PySem.Within.cons name v hw);refine wpAny_bind (wpAny_lookBehind hoD (by rw[hdD];exact pastItsLine_dict (le_trans hcD (by rw[length_cons];omega))) ?_);exact wpAny_pure (h _ ⟨(hs2.2 _ (Ne.symm I.ne)).trans I.obj,hn2,I.ne⟩ hs2)
theorem make_map{R:Result->Shared->Prop}{vs:List Value}{kw:List (Str×Value)}(X:K.In s.heap)(hm:W.makesIn K C=true)(hi:W.findIn K (.ref C) "__init__"=some (some (.ref f)))(hf:W.typeIn K (.ref f)=some (.type "function"))(h:codeAny (model prog w) (A.under (.builtin "type.__call__" ⟨.ref C::vs,kw⟩)) (.call (.ref f) ⟨.ref (s.heap.objs.size+1)::vs,kw⟩) (W.InitBack (s.heap.objs.size+1) R)
   {s with heap:=(s.heap.push W.emptyDict).push (W.instObj C s.heap.objs.size)}) :
  codeAny (model prog w) A (.call (.ref C) ⟨vs,kw⟩) R s:=by
 obtain⟨hh,g,d,t,os⟩:=s;exact W.make_core (W.makes_of X hm) (W.looks_findIn X hi) (fun self=>W.bind_fn X self hf) (.inl rfl) h
end
def putF(f:Str)(v:V):List (Str×V)->List (Str×V)
 | []=>[(f,v)]
 |(g,x)::r=>if g=f then(g,v)::r else(g,x)::putF f v r
theorem yz(f g:Str)(v:V):∀fs:List (Str×V),(putF f v fs).lookup g=if g=f then some v else fs.lookup g
 | []=>by
  show List.lookup g [(f,v)]=_;by_cases h:g=f
  ·have hb:(g==f)=true:=beq_iff_eq.mpr h;simp only[List.lookup,hb,if_pos h]
  ·have hb:(g==f)=false:=beq_eq_false_iff_ne.mpr h;simp only[List.lookup,hb,if_neg h]
 |(k,x)::r=>by
  have ih:=yz f g v r;rw[show putF f v ((k,x)::r)=(if k=f then(k,v)::r else(k,x)::putF f v r)from rfl];by_cases hk:k=f
  ·rw[if_pos hk];by_cases h:g=k
   ·have hb:(g==k)=true:=beq_iff_eq.mpr h;simp only[List.lookup,hb,if_pos (h.trans hk)]
   ·have hb:(g==k)=false:=beq_eq_false_iff_ne.mpr h;simp only[List.lookup,hb,if_neg (fun e:g=f=>h (e.trans hk.symm))]
  ·rw[if_neg hk];by_cases h:g=k
   ·have hb:(g==k)=true:=beq_iff_eq.mpr h;simp only[List.lookup,hb,if_neg (fun e:g=f=>hk (h.symm.trans e))]
   ·have hb:(g==k)=false:=beq_eq_false_iff_ne.mpr h;simp only[List.lookup,hb];exact ih
theorem keys_putF(f:Str)(v:V):∀fs:List (Str×V),f∈(putF f v fs).map (·.1)/\ ∀g,g∈fs.map (·.1)->g∈(putF f v fs).map (·.1)
 | []=>⟨by simp[putF],fun g h=>by simp at h⟩
 |(k,x)::r=>by
  obtain⟨i1,i2⟩:=keys_putF f v r;rw[show putF f v ((k,x)::r)=(if k=f then(k,v)::r else(k,x)::putF f v r)from rfl];by_cases hk:k=f
  ·rw[if_pos hk];subst hk;exact⟨by simp,fun g h=>by simpa using h⟩
  ·rw[if_neg hk];refine⟨?_,fun g h=>?_⟩
   ·rw[map_cons];exact mem_cons_of_mem _ i1
   ·rw[map_cons]at h ⊢;rcases mem_cons.mp h with e|e
    ·exact mem_cons.mpr (.inl e)
    ·exact mem_cons_of_mem _ (i2 g e)
theorem length_putF(f:Str)(v:V):∀fs:List (Str×V),(putF f v fs).length<=fs.length+1
 | []=>by simp[putF]
 |(k,x)::r=>by
  have ih:=length_putF f v r;rw[show putF f v ((k,x)::r)=(if k=f then(k,v)::r else(k,x)::putF f v r)from rfl];by_cases hk:k=f
  ·rw[if_pos hk,length_cons,length_cons];omega
  ·rw[if_neg hk,length_cons,length_cons];omega
theorem RelO.some_of{v:V}{o:Option Value}(r:RelO (some v) o):∃u,o=some u/\RelV v u:=by
 cases o with
 |none=>exact(show False from r).elim
 |some u=>exact⟨u,rfl,r⟩
theorem RelO.none_of{o:Option Value}(r:RelO none o):o=none:=by
 cases o with
 |none=>rfl
 |some u=>exact(show False from r).elim
theorem handed_of{v:V}{u:Value}(r:RelV v u):W.handedIn u=true:=by
 cases v with
 |non=>cases(show u=Value.none from r);rfl
 |bl b=>cases(show u=Value.bool b from r);rfl
 |int i=>obtain⟨t,e⟩:=(show ∃t,u=Value.int i t from r);cases e;rfl
 |str x=>obtain⟨t,e⟩:=(show ∃t,u=Value.str x t from r);cases e;rfl
 |byt b=>obtain⟨t,e⟩:=(show ∃t,u=Value.bytes b t from r);cases e;rfl
 |flt b=>obtain⟨t,e⟩:=(show ∃t,u=Value.float b t from r);cases e;rfl
 |ref a=>cases(show u=Value.ref a from r);rfl
 |ty n=>cases(show u=Value.type n from r);rfl
section
variable{P:Program}{w:World}{H H':Hp}{h h':Heap}{a C dx:Addr}{fs fs':List (Str×V)}
theorem ins_get(hok:HOk P w H h)(e:H a=some (.ins C dx fs)):∃mA,ObjM h a dx C mA/\(∀f,RelO (fs.lookup f) (mA f))/\PySem.Within mA (fs.map (·.1))/\fs.length<=1000/\H dx=some (.own a):=by
 obtain⟨d,z,ne,ob,mA,n,r,q⟩:=(show zS P w H h a (.ins C dx fs)from hok a _ e);exact⟨mA,⟨ob,n,ne⟩,r,q,z,d⟩
end
structure Cls(K:W.Frag)(C:Addr):Prop where
 pg:W.plainGet K C Str.empty=true
 hd:W.hasDictIn K C=true
 po:W.plainOver K C=true
 sa:W.findIn K (.ref C) "__setattr__"=some (some (.builtin "object.__setattr__"))
theorem Cls.get{K:W.Frag}{C:Addr}(c:Cls K C)(f:Str):W.plainGet K C f=true:=c.pg
def NoAttr(K:W.Frag)(C:Addr)(f:Str):Prop:=W.findIn K (.ref C) f=some none
theorem NoAttr.taker{K:W.Frag}{C:Addr}{f:Str}(n:NoAttr K C f):W.takerIn K C f=some none:=by
 unfold W.takerIn;rw[show W.findIn K (.ref C) f=some none from n];rfl
structure Meth(K:W.Frag)(C:Addr)(m:Str)(f:Addr):Prop where
 at_:W.findIn K (.ref C) m=some (some (.ref f))
 fn:W.isFn K (.ref f)=true
 kp:W.keepIn K (.ref f)=true
section
variable{X:Cx}{pins:List (Addr×Obj)}{σ:St}{H:Hp}{s:Shared}{a C dx:Addr}{fs:List (Str×V)}{f:Str}{v:V}{A:Around}{E:Value->Shared->Prop}
theorem getattr_ok{b:Bool}{Q:Value->Shared->Prop}(I:Inv X pins σ H s)(e:H a=some (.ins C dx fs))(c:Cls X.K C)(n:NoAttr X.K C f)(l:fs.lookup f=some v)(h:∀u s',Inv X pins σ H s'->RelV v u->Q u s'):wpAny (model X.prog X.w) A (getAttr (.ref a) f b) Q E s:=by
 obtain⟨mA,O,r,_,_,_⟩:=ins_get I.hok e;obtain⟨u,hu,ru⟩:=RelO.some_of (v:=v) (o:=mA f) (by rw[<-l];exact r f);exact get_map I.kIn O (c.get f) c.hd n hu (handed_of ru) (h u _ (I.tok _) ru)
theorem getmeth_ok{m:Str}{g:Addr}{pl:Sem Bool}{Q:Value×List Value->Shared->Prop}(I:Inv X pins σ H s)(e:H a=some (.ins C dx fs))(c:Cls X.K C)(k:Meth X.K C m g)(l:fs.lookup m=none)(h:Q (.ref g,[.ref a]) s):wpAny (model X.prog X.w) A (getMethod (.ref a) m pl) Q E s:=by
 obtain⟨mA,O,r,_,_,_⟩:=ins_get I.hok e;have hn:mA m=none:=RelO.none_of (by rw[<-l];exact r m);exact get_meth I.kIn O (c.get m) k.at_ k.fn hn h
theorem setattr_ok{y:V}{u:Value}{Q:Unit->Shared->Prop}(I:Inv X pins σ H s)(e:H a=some (.ins C dx fs))(c:Cls X.K C)(n:NoAttr X.K C f)(hl:fs.length<1000)(ry:RelV y u)(h:∀s',Inv X pins σ (upd H a (.ins C dx (putF f y fs))) s'->Q () s'):wpAny (model X.prog X.w) A (setAttr (.ref a) f u) Q E s:=by
 obtain⟨mA,O,r,wi,_,ho⟩:=ins_get I.hok e;have hz:(fs.map (·.1)).length<=sizeLine:=by rw[length_map,sizeLine_eq];omega
 refine set_map I.kIn O c.sa c.po n.taker c.hd wi hz fun h' O' sb=>h _ ?_;have hd:∃o,h'.get? dx=some o:=let⟨o,_,_,e',_⟩:=O'.ns;⟨o,e'⟩
 refine I.write (x:=a) (e:=dx) (by rw[e];exact True.intro) (.inr ho) (fun b q hb z=>(sb.2 b hb).trans z) hd ?_;refine⟨by rw[zh O.ne];exact ho,?_,O.ne,O'.obj,_,O'.ns,fun g=>?_,fun g hg=>?_⟩
 ·have:=length_putF f y fs;omega
 ·show RelO ((putF f y fs).lookup g) (if g=f then some u else mA g);rw[yz];by_cases q:g=f
  ·rw[if_pos q,if_pos q];exact ry
  ·rw[if_neg q,if_neg q];exact r g
 ·by_cases q:g=f
  ·rw[q];exact(keys_putF f y fs).1
  ·refine(keys_putF f y fs).2 g (wi g fun z=>hg ?_);show(if g=f then some u else mA g)=none;rw[if_neg q];exact z
theorem Inv.made(I:Inv X pins σ H s):Inv X pins σ (upd (upd H s.heap.objs.size (.own (s.heap.objs.size+1))) (s.heap.objs.size+1) (.ins C s.heap.objs.size []))
  {s with heap:=(s.heap.push W.emptyDict).push (W.instObj C s.heap.objs.size)}:=by
 have e1:(s.heap.push W.emptyDict).get? s.heap.objs.size=some W.emptyDict:=Heap.get?_push_size s.heap rfl;have e2:((s.heap.push W.emptyDict).push (W.instObj C s.heap.objs.size)).get? (s.heap.objs.size+1)=some (W.instObj C s.heap.objs.size):=by
  have:=Heap.get?_push_size (s.heap.push W.emptyDict) (o:=W.instObj C s.heap.objs.size) rfl
  rwa [Heap.size_push]at this
 have e3:(s.heap.push W.emptyDict).Ns s.heap.objs.size (fun _=>none):=⟨W.emptyDict,#[],_,e1,rfl,(fun e he=>absurd he (by simp)),fun _=>rfl⟩;have I1:=I.laid (a:=s.heap.objs.size) (o:=.own (s.heap.objs.size+1)) (h':=s.heap.push W.emptyDict) (t':=s.toks) (fun b u q=>Heap.get?_push_of_some _ q) (le_refl _) ⟨_,e1⟩;refine I1.laid (a:=s.heap.objs.size+1) (o:=.ins C s.heap.objs.size []) (t':=s.toks) (fun b u q=>Heap.get?_push_of_some _ q) (Nat.le_of_eq (Heap.size_push _ _)) ?_;have ne:s.heap.objs.size≠s.heap.objs.size+1:=ne_of_lt (Nat.lt_succ_self _);refine⟨by rw[zh ne,z0],zero_le _,ne,e2,fun _=>none,(Heap.Ns1.of_empty e3).at fun o q=>Heap.get?_push_of_some _ q,fun _=>True.intro,fun y hy=>absurd rfl hy⟩
theorem attr_of{prog:Program}{w:World}{env:Env}{e:Expr}{f:Str}{pos:Pos}{s:Shared}{Q:Value->Shared->Prop}(hb:attributeBase e f env (eval e env)=eval e env)(h:wpAny (model prog w) A (eval e env) (fun o s₁=>wpAny (model prog w) A (getAttr o f true) Q E s₁) E s):wpAny (model prog w) A (eval (.Attribute e f pos) env) Q E s :=
 Attribute_any_ h (by rw[arm_eval_Attribute,hb])
end
def tFld(K:W.Frag)(ta:TE)(f:Str):TE:=fun σ H Q=>ta σ H fun x H1=>∃ a C dx fs v,x= .ref a/\H1 a=some (.ins C dx fs)/\Cls K C/\NoAttr K C f/\fs.lookup f=some v/\Q v H1
def sFld(K:W.Frag)(ta tv:TE)(f:Str):TS:=fun D σ H=>tv σ H fun y H1=>ta σ H1 fun x H2=>∃ a C dx fs,x= .ref a/\H2 a=some (.ins C dx fs)/\Cls K C/\NoAttr K C f/\fs.length<1000/\
 D.nx σ (upd H2 a (.ins C dx (putF f y fs)))
section
variable{X:Cx}{o e value:Expr}{f:Str}{pos pos' tpos:Pos}{ta tv:TE}
theorem pe_fld(he:PE X e ta)(hb:attributeBase e f X.env (eval e X.env)=eval e X.env):PE X (.Attribute e f pos) (tFld X.K ta f):=by
 intro pins s σ H Q I h;refine attr_of hb (thn (he pins s σ H _ I h) fun u s1 ⟨x,H1,I1,rx,a,C,dx,fs,v,ex,ea,c,n,l,q⟩=>?_);subst ex;obtain rfl:u=Value.ref a:=rx;exact getattr_ok I1 ea c n l fun u' s2 I2 ru=>⟨v,H1,I2,ru,q⟩
theorem ps_fld(ha:PE X o ta)(hv:PE X value tv)(hs:swapsWith value (some (.Attribute o f pos')) pos.line X.env=pure false):PS X (.Assign [.Attribute o f pos'] value pos) (sFld X.K ta tv f):=by
 intro pins s σ H D I h;refine plainObj_wpAny_Assign_Attribute (thn (hv pins s σ H _ I h) fun u s1 ⟨y,H1,I1,ry,q⟩=>thn (ha pins s1 σ H1 _ I1 q) fun ov s2 ⟨x,H2,I2,rx,a,C,dx,fs,ex,ea,c,n,l,q2⟩=>?_) hs;subst ex;obtain rfl:ov=Value.ref a:=rx;exact setattr_ok I2 ea c n l ry fun s3 I3=>⟨σ,_,I3,q2⟩
end
section
variable{X:Cx}{pins:List (Addr×Obj)}{σ:St}{H:Hp}{s:Shared}{A:Around}{E:Value->Shared->Prop}{Q:Value->Shared->Prop}{c:Value}{b:Bool}
inductive TyOf(K:W.Frag)(H:Hp):V->Value->Prop where
 |non:TyOf K H .non (.type "NoneType")
 |bl (x:Bool):TyOf K H (.bl x) (.type "bool")
 |int (i:Int):TyOf K H (.int i) (.type "int")
 |str (x:Str):TyOf K H (.str x) (.type "str")
 |flt (x:UInt64):TyOf K H (.flt x) (.type "float")
 |lst {a:Addr} {xs:List V} (e:H a=some (.lst xs)):TyOf K H (.ref a) (.type "list")
 |frz {a:Addr} {o:Obj} {xs:List V} (e:H a=some (.frz o (.lst xs))):TyOf K H (.ref a) (.type "list")
 |tup {a:Addr} {xs:List V} (e:H a=some (.tup xs)):TyOf K H (.ref a) (.type "tuple")
 |dK {a:Addr} {kvs:List (Key×V)} (e:H a=some (.dK kvs)):TyOf K H (.ref a) (.type "dict")
 |dT {a:Addr} {kvs:List (List Key×V)} (e:H a=some (.dT kvs)):TyOf K H (.ref a) (.type "dict")
 |ins {a C dx:Addr} {fs:List (Str×V)} (e:H a=some (.ins C dx fs)) (cl:Cls K C) (ha:W.findIn K (.ref C) "__class__"=some (some (.builtin "object.__class__")))
   (hn:W.specialIn K (.builtin "object.__class__") "__get__"=some (some (.builtin "getset_descriptor.__get__"))) (htk:W.takesIn K (.builtin "object.__class__")=some true)
   (hm:W.mroIn K C (.type "object")=some true):TyOf K H (.ref a) (.ref C)
theorem isinst_ok{x:V}{u t:Value}(I:Inv X pins σ H s)(rx:RelV x u)(ty:TyOf X.K H x t)(e:W.kitOne X.K t c=some b)(h:∀tk,Q (.bool b) {s with toks:=tk}) :
  wpAny (model X.prog X.w) A (call (.builtin "isinstance") [u,c]) Q E s:=by
 cases ty with
 |non=>cases(show u=Value.none from rx);exact W.kia_one W.kitx_none I.kIn True.intro e (fun z=>nomatch z) h
 |bl y=>cases(show u=Value.bool y from rx);exact W.kia_one W.kitx_bool I.kIn True.intro e (fun z=>nomatch z) h
 |int i=>obtain⟨t,q⟩:=(show ∃t,u=Value.int i t from rx);cases q;exact W.kia_one W.kitx_int I.kIn True.intro e (fun z=>nomatch z) h
 |str y=>obtain⟨t,q⟩:=(show ∃t,u=Value.str y t from rx);cases q;exact W.kia_one W.kitx_str I.kIn True.intro e (fun z=>nomatch z) h
 |flt y=>obtain⟨t,q⟩:=(show ∃t,u=Value.float y t from rx);cases q;exact W.kia_one W.kitx_float I.kIn True.intro e (fun z=>nomatch z) h
 | @lst a xs ea =>
  cases(show u=Value.ref a from rx);obtain⟨_,_,n,_,h1⟩:=(show zS X.prog X.w H s.heap a (.lst xs)from I.hok a _ ea);exact W.kia_one W.kitx_list I.kIn ⟨_,h1,rfl⟩ e (fun z=>nomatch z) h
 | @frz a ob xs ea =>
  cases(show u=Value.ref a from rx);obtain⟨_,_,_,n,_,h1⟩:=(show zS X.prog X.w H s.heap a (.frz ob (.lst xs))from I.hok a _ ea);exact W.kia_one W.kitx_list I.kIn ⟨_,h1,rfl⟩ e (fun z=>nomatch z) h
 | @tup a xs ea =>
  cases(show u=Value.ref a from rx);obtain⟨_,_,_,p,_⟩:=(show zS X.prog X.w H s.heap a (.tup xs)from I.hok a _ ea);obtain⟨o,h1,h2,_⟩:=p;exact W.kia_one W.kitx_tuple I.kIn ⟨o,h1,h2⟩ e (fun z=>nomatch z) h
 | @dK a kvs ea =>
  cases(show u=Value.ref a from rx);obtain⟨_,_,vs,_,p⟩:=(show zS X.prog X.w H s.heap a (.dK kvs)from I.hok a _ ea);obtain⟨o,es,ep,h1,h2,_⟩:=p;exact W.kia_one W.kitx_dict I.kIn ⟨o,h1,h2.1⟩ e (fun z=>nomatch z) h
 | @dT a kvs ea =>
  cases(show u=Value.ref a from rx);obtain⟨_,_,xs,_,o,es,ep,h1,h2,_⟩:=(show zS X.prog X.w H s.heap a (.dT kvs)from I.hok a _ ea);exact W.kia_one W.kitx_dict I.kIn ⟨o,h1,h2.1⟩ e (fun z=>nomatch z) h
 | @ins a C dx fs ea cl ha hn htk hm =>
  cases(show u=Value.ref a from rx);obtain⟨mA,O,_⟩:=ins_get I.hok ea;obtain⟨od,J,_⟩:=O.look;exact W.kia_one (W.kitx_own (cl.get _) cl.hd ha hn htk hm) I.kIn J e (fun z=>nomatch z) h
end
structure Room(k:Nat)(A:Around)(cm:Bool:=true):Prop where
 hd:cm=true->A.handled=none
 dp:A.depth+3*k+5<recursionLimit
 un:A.units+16*k+200<cLine
theorem Room.mono{j k:Nat}{A:Around}{cm:Bool}(r:Room k A cm)(h:j<=k):Room j A cm:=⟨r.hd,by have:=r.dp;omega,by have:=r.un;omega⟩
theorem Room.deeper{k:Nat}{A:Around}{cm:Bool}(r:Room (k+1) A cm)(env:Env):Room k (A.deeper env) cm :=
 ⟨r.hd,by have:=r.dp;show A.depth+1+3*k+5<_;omega,by have:=r.un;show A.units+3+16*k+200<_;omega⟩
theorem make_depth{A:Around}{C:Addr}{us:List Value}{kw:List (Str×Value)}:(A.under (.builtin "type.__call__" ⟨.ref C::us,kw⟩)).depth=A.depth+1:=by
 first|rfl|simp[Around.under,Code.weight,Code.isCreation,Code.isGuard,Code.isCaller,Code.frames,Code.isFrame,guardIds]
theorem make_units{A:Around}{C:Addr}{us:List Value}{kw:List (Str×Value)}:(A.under (.builtin "type.__call__" ⟨.ref C::us,kw⟩)).units=A.units+1:=by
 first|rfl|simp[Around.under,Code.cUnits,Code.frames,Code.isFrame]
theorem Room.make{k:Nat}{A:Around}{cm:Bool}(r:Room (k+1) A cm)(C:Addr)(us:List Value)(kw:List (Str×Value)):Room k (A.under (.builtin "type.__call__" ⟨.ref C::us,kw⟩)) cm :=
 ⟨r.hd,by have:=r.dp;rw[make_depth];omega,by have:=r.un;rw[make_units];omega⟩
theorem Room.depth{k:Nat}{A:Around}{cm:Bool}(r:Room k A cm):A.depth<recursionLimit:=by have:=r.dp;omega
theorem Room.units{k:Nat}{A:Around}{cm:Bool}(r:Room k A cm):A.units+64<cLine:=by have:=r.un;omega
def tNil:TA:=fun _ H Q=>Q [] H
def tCons(ta:TE)(tr:TA):TA:=fun σ H Q=>ta σ H fun x H1=>tr σ H1 fun xs H2=>Q (x::xs) H2
section
variable{X:Cx}{e:Expr}{es:List Expr}{te:TE}{t:TA}{pos:Pos}
theorem yt:PA X [] tNil:=fun _ _ _ _ H Q I h=>Calls.spliced_nil ⟨[],H,I,.nil,h⟩
theorem pa_cons(ha:PE X e te)(hr:PA X es t)(hs:starEach (e::es) X.env=(false,eval e X.env)::starEach es X.env:=by rfl):PA X (e::es) (tCons te t):=by
 intro pos pins s σ H Q I h;rw[hs];show wpAny _ _ (spliced ((false,eval e X.env)::backTo pos (starEach es X.env))) _ _ s;refine Calls.spliced_cons (thn (ha pins s σ H _ I h) fun u s1 ⟨x,H1,I1,r1,q1⟩=>?_);exact thn (hr pos pins s1 σ H1 _ I1 q1) fun us s2 ⟨xs,H2,I2,r2,q2⟩=>⟨x::xs,H2,I2,.cons r1 r2,q2⟩
def tTup(t:TA):TE:=fun σ H Q=>t σ H fun xs H1=>xs.length<=sizeLine/\ ∀p,H1 p=none->Q (.ref p) (upd H1 p (.tup xs))
def tLst(t:TA):TE:=fun σ H Q=>t σ H fun xs H1=>xs.length<=sizeLine/\ ∀p,H1 p=none->Q (.ref p) (upd H1 p (.lst xs))
theorem zK{x1}(h:PA X es t):PE X (.Tuple es x1 pos) (tTup t):=by
 intro pins s σ H Q I hq;refine wpAny_Tuple_spliced (thn (h pos pins s σ H _ I hq) fun us s1 ⟨xs,H1,I1,r,z,q⟩=>⟨by rw[<-r.length];exact z,?_⟩);have hf:H1 s1.heap.objs.size=none:=I1.hok.fresh (le_refl _);refine⟨.ref s1.heap.objs.size,upd H1 s1.heap.objs.size (.tup xs),I1.laid (t':=s1.toks) (fun b u e=>Heap.get?_push_of_some _ e) (le_refl _) ?_,rfl,q _ hf⟩;exact⟨z,us,r,⟨_,Heap.get?_push_size _ rfl,rfl,_,rfl⟩,tup_nodict⟩
theorem zF(h:PA X es t):PE X (.List es pos) (tLst t):=by
 intro pins s σ H Q I hq;refine wpAny_List_spliced (thn (h pos pins s σ H _ I hq) fun us s1 ⟨xs,H1,I1,r,z,q⟩=>⟨by rw[<-r.length];exact z,?_⟩);have hf:H1 s1.heap.objs.size=none:=I1.hok.fresh (le_refl _);refine⟨.ref s1.heap.objs.size,upd H1 s1.heap.objs.size (.lst xs),I1.laid (t':=s1.toks) (fun b u e=>Heap.get?_push_of_some _ e) (le_refl _) ?_,rfl,q _ hf⟩;exact⟨z,us,0,r,Heap.get?_push_size _ rfl⟩
end
abbrev Sp:=List V->Hp->VK->XK->Prop
abbrev CXT:=List Env->Hp->Shared->XK->Value->Shared->Prop
structure Env0(P:Program)(w:World)(K:W.Frag)(mg:Str->Option Value)(base:Heap)(A:Around)(outer:List Env)(s:Shared)(H:Hp):Prop where
 frames:A.frames=some outer
 mod:Mod K mg base
 bs:∀b o,base.get? b=some o->s.heap.get? b=some o/\H b=none
 bsz:base.objs.size<=s.heap.objs.size
 funs:s.heap.FunFrames base outer
 frf:∀b∈frs outer,H b=none
 hok:HOk P w H s.heap
 bare:AllBare s.gens
def CE(outer:List Env)(P:Program)(w:World)(H:Hp)(s:Shared)(Q:VK)(u:Value)(s':Shared):Prop :=
 ∃v H',s'.os=s.os/\AllBare s'.gens/\Un (frs outer) [] H H' s.heap s'.heap/\HOk P w H' s'.heap/\RelV v u/\Q v H'
def CR(CX:CXT)(outer:List Env)(P:Program)(w:World)(H:Hp)(s:Shared)(Q:VK)(E:XK)(r:Result)(s':Shared):Prop :=
 match r with
 | .ok (.ret u)=>CE outer P w H s Q u s'
 | .ok _=>False
 | .error e=>CX outer H s E e s'
structure FnOk(P:Program)(w:World)(K:W.Frag)(mg:Str->Option Value)(base:Heap)(CX:CXT)(k:Nat)(f:Addr)(fd:FuncData)(ps:List Str)(sp:Sp)(cm:Bool:=true):Prop where
 len:∀vs H Q E,sp vs H Q E->vs.length=ps.length
 run:∀(A:Around)(outer:List Env)(s:Shared)(H:Hp)(args:Args)(us:List Value)(vs:List V)(Q:VK)(E:XK),Room k A cm->Env0 P w K mg base A outer s H->BindsTo s fd args (ps.zip us)->Vals vs us->sp vs H Q E->
  codeAny (model P w) A (.call (.ref f) args) (CR CX outer P w H s Q E) s
theorem Env0.make{P:Program}{w:World}{K:W.Frag}{mg:Str->Option Value}{base:Heap}{A:Around}{outer:List Env}{s:Shared}{H:Hp}(e:Env0 P w K mg base A outer s H)(C:Addr)(us:List Value)(kw:List (Str×Value)) :
  Env0 P w K mg base (A.under (.builtin "type.__call__" ⟨.ref C::us,kw⟩)) outer s H:=⟨by first|exact e.frames|(simpa [Around.under,Code.envs,Code.isFrame,pushEnvs]using e.frames),e.mod,e.bs,e.bsz,e.funs,e.frf,e.hok,e.bare⟩
section
variable{X:Cx}{pins:List (Addr×Obj)}{σ:St}{H:Hp}{s s':Shared}
theorem Inv.env0(I:Inv X pins σ H s):Env0 X.prog X.w X.K X.mg X.base X.A X.stack s H :=
 ⟨I.ok.frames,I.ok.mod,I.bs,le_trans I.ok.bsz I.sz,I.stack,I.stkFree,I.hok,I.bare⟩
theorem Inv.after{Q:VK}{u:Value}(I:Inv X pins σ H s)(h:CE X.stack X.prog X.w H s Q u s'):EP X pins σ Q u s':=by
 obtain⟨v,H',os,bare,un,hok,r,q⟩:=h;obtain⟨hh,g,d,t,os'⟩:=s';obtain rfl:os'=s.os:=os;exact⟨v,H',I.call (h':=hh) (g':=g) (d':=d) (t':=t) (ch:=[]) un hok bare (fun b z=>absurd z (by simp)),r,q⟩
end
def tCall(sp:Sp)(dvs:List V)(E:XK)(t:TA):TE:=fun σ H Q=>t σ H fun vs H1=>sp (vs++dvs) H1 Q E
def tMeth(C:Addr)(m:Str)(sp:Sp)(dvs:List V)(E:XK)(ta:TE)(t:TA):TE:=fun σ H Q=>ta σ H fun x H1=>∃ a dx fs,x= .ref a/\H1 a=some (.ins C dx fs)/\fs.lookup m=none/\
 t σ H1 fun vs H2=>sp (x::(vs++dvs)) H2 Q E
def tMake(C:Addr)(sp:Sp)(dvs:List V)(E:XK)(t:TA):TE:=fun σ H Q=>t σ H fun vs H1=>∀ x dx,H1 x=none->H1 dx=none->dx≠x->
 sp (.ref x::(vs++dvs)) (upd (upd H1 dx (.own x)) x (.ins C dx [])) (fun v H2=>v= .non/\Q (.ref x) H2) E
def Binds(K:W.Frag)(fd:FuncData)(ps:List Str)(ds:List Value):Prop :=
 ∀(s:Shared)(us:List Value),K.In s.heap->(us++ds).length=ps.length->BindsTo s fd ⟨us,[]⟩ (ps.zip (us++ds))
theorem Binds.all{K:W.Frag}{fd:FuncData}{ps:List Str}(h:∀us:List Value,us.length=ps.length->bindArgs fd ⟨us,[]⟩=pure (ps.zip us)):Binds K fd ps []:=fun s us _ hl=>by
 rw[append_nil]at hl ⊢;exact .of_eq (h us hl)
def Passes(CX:CXT)(X:Cx)(E:XK):Prop:=∀(pins:List (Addr×Obj))(σ:St)(H:Hp)(s:Shared)(e:Value)(s':Shared),Inv X pins σ H s->CX X.stack H s E e s'->X.xe e s'
section
variable{cm:Bool}{X:Cx}{CX:CXT}{k:Nat}{f C:Addr}{fd:FuncData}{ps:List Str}{sp:Sp}{dvs:List V}{ds:List Value}{E:XK}{x m:Str}{p pos apos:Pos}{e o:Expr}{es:List Expr}{ta:TE}{t:TA}
theorem run_fn{pins:List (Addr×Obj)}{σ:St}{H:Hp}{s:Shared}{Q:VK}{us:List Value}{vs:List V}(F:FnOk X.prog X.w X.K X.mg X.base CX k f fd ps sp cm)(hr:Room k X.A cm)(hb:Binds X.K fd ps ds)(hd:Vals dvs ds)(hx:Passes CX X E)(I:Inv X pins σ H s)(r:Vals vs us)(h:sp (vs++dvs) H Q E):wpAny (model X.prog X.w) X.A (call (.ref f) us) (EP X pins σ Q) X.xe s:=by
 have r2:Vals (vs++dvs) (us++ds):=r.append hd;have hl:(us++ds).length=ps.length:=by rw[<-r2.length];exact F.len _ _ _ _ h
 refine wpAny_call (codeAny_mono (F.run X.A X.stack s H ⟨us,[]⟩ (us++ds) (vs++dvs) Q E hr I.env0 (hb s us I.kIn hl) r2 h) fun r s' hq=>?_);cases r with
 |error e=>exact hx pins σ H s e s' I hq
 |ok fl =>
  cases fl with
  |ret u=>exact I.after hq
  |next=>exact False.elim hq
  |brk=>exact False.elim hq
  |cont=>exact False.elim hq
theorem pe_call(F:FnOk X.prog X.w X.K X.mg X.base CX k f fd ps sp cm)(hr:Room k X.A cm)(hg:Gl X x)(hm:X.mg x=some (.ref f))(hk:W.keepIn X.K (.ref f)=true)(hb:Binds X.K fd ps ds)(hd:Vals dvs ds)(hx:Passes CX X E)(ha:PA X (e::es) t)(hdb:(x==("__debug__" : Str))=false:=by decide)(he:starEach (e::es) X.env=(false,eval e X.env)::starEach es X.env:=by rfl)(hpl:(backTo pos (starEach es X.env)).any (·.1)=false:=by rfl) :
  PE X (.Call (.Name x p) (e::es) [] pos) (tCall sp dvs E t):=by
 intro pins s σ H Q I h;refine wpAny_Call_Name_kw (ld_glob I hg hm ?_ hdb);refine W.callWith_K (h₀:=X.base) I.ok.mod.kin hk (thn (ha pos pins s σ H _ I h) fun us s1 ⟨vs,H1,I1,r,q⟩=>⟨I1.kIn,?_⟩) he hpl;exact run_fn F hr hb hd hx I1 r q
theorem pe_meth0{pl:Sem Bool}(he:PE X o ta)(c:Cls X.K C)(hm:Meth X.K C m f)(F:FnOk X.prog X.w X.K X.mg X.base CX k f fd ps sp cm)(hr:Room k X.A cm)(hb:Binds X.K fd ps ds)(hd:Vals dvs ds)(hx:Passes CX X E)(ht:eval (.Call (.Attribute o m apos) [] [] pos) X.env=(do
   let ov <-eval o X.env
   standAt apos.atName
   let(f,first) <-holding [ov] (getMethod ov m pl)
   callWith pos f first (backTo pos (starEach [] X.env)) (backToKw pos (keywordEach [] X.env))):=by rfl) :
  PE X (.Call (.Attribute o m apos) [] [] pos) (tMeth C m sp dvs E ta tNil):=by
 intro pins s σ H Q I h;refine W.methodCall_KW (pl:=pl) (thn (he pins s σ H _ I h) fun u s1 ⟨x,H1,I1,rx,a,dx,fs,ex,ea,l,q⟩=>?_) ht;subst ex;obtain rfl:u=Value.ref a:=rx;refine getmeth_ok I1 ea c hm l ?_;exact W.callWith_K0 (first:=[.ref a]) I1.kIn hm.kp (run_fn (us:=[.ref a]) (vs:=[.ref a]) F hr hb hd hx I1 (.cons rfl .nil) q)
structure Mk(K:W.Frag)(C f:Addr):Prop where
 makes:W.makesIn K C=true
 init:W.findIn K (.ref C) "__init__"=some (some (.ref f))
 fn:W.isFn K (.ref f)=true
 kp:W.keepIn K (.ref C)=true
theorem run_make{pins:List (Addr×Obj)}{σ:St}{H:Hp}{s:Shared}{Q:VK}{us:List Value}{vs:List V}(M:Mk X.K C f)(F:FnOk X.prog X.w X.K X.mg X.base CX k f fd ps sp cm)(hr:Room (k+1) X.A cm)(hb:Binds X.K fd ps ds)(hd:Vals dvs ds)(hx:Passes CX X E)(I:Inv X pins σ H s)(r:Vals vs us)(h:∀x dx,H x=none->H dx=none->dx≠x->sp (.ref x::(vs++dvs)) (upd (upd H dx (.own x)) x (.ins C dx [])) (fun v H2=>v= .non/\Q (.ref x) H2) E) :
  wpAny (model X.prog X.w) X.A (call (.ref C) us) (EP X pins σ Q) X.xe s:=by
 have hq:=h (s.heap.objs.size+1) s.heap.objs.size (I.hok.fresh (le_succ _)) (I.hok.fresh (le_refl _)) (ne_of_lt (Nat.lt_succ_self _));have I2:=Inv.made (C:=C) I;have r2:Vals (V.ref (s.heap.objs.size+1)::(vs++dvs)) (Value.ref (s.heap.objs.size+1)::(us++ds)):=.cons rfl (r.append hd);have hl:(Value.ref (s.heap.objs.size+1)::us++ds).length=ps.length:=by
  have e:=r2.length;rw[F.len _ _ _ _ hq]at e;exact e.symm
 refine wpAny_call (make_map (f:=f) I.kIn M.makes M.init (beq_iff_eq.mp M.fn) (codeAny_mono (F.run _ X.stack _ _ ⟨Value.ref (s.heap.objs.size+1)::us,[]⟩ (Value.ref (s.heap.objs.size+1)::(us++ds)) _ _ E (hr.make C us [])
  (I2.env0.make C us []) (hb _ (Value.ref (s.heap.objs.size+1)::us) I2.kIn hl) r2 hq) fun r s' hq'=>?_))
 cases r with
 |error e=>exact hx pins σ _ _ e s' I2 hq'
 |ok fl =>
  cases fl with
  |ret u =>
   obtain⟨v,H',I3,rv,ev,q3⟩:=I2.after hq';subst ev;exact⟨rv,⟨V.ref (s.heap.objs.size+1),H',I3,rfl,q3⟩⟩
  |next=>exact False.elim hq'
  |brk=>exact False.elim hq'
  |cont=>exact False.elim hq'
theorem pe_make(M:Mk X.K C f)(F:FnOk X.prog X.w X.K X.mg X.base CX k f fd ps sp cm)(hr:Room (k+1) X.A cm)(hg:Gl X x)(hm:X.mg x=some (.ref C))(hb:Binds X.K fd ps ds)(hd:Vals dvs ds)(hx:Passes CX X E)(ha:PA X (e::es) t)(hdb:(x==("__debug__" : Str))=false:=by decide)(he:starEach (e::es) X.env=(false,eval e X.env)::starEach es X.env:=by rfl)(hpl:(backTo pos (starEach es X.env)).any (·.1)=false:=by rfl) :
  PE X (.Call (.Name x p) (e::es) [] pos) (tMake C sp dvs E t):=by
 intro pins s σ H Q I h;refine wpAny_Call_Name_kw (ld_glob I hg hm ?_ hdb);refine W.callWith_K (h₀:=X.base) I.ok.mod.kin M.kp (thn (ha pos pins s σ H _ I h) fun us s1 ⟨vs,H1,I1,r,q⟩=>⟨I1.kIn,?_⟩) he hpl;exact run_make M F hr hb hd hx I1 r q
end
def PK(X:Cx)(kws:List Keyword)(t:TA):Prop :=
 ∀(pos:Pos)(pins:List (Addr×Obj))(s:Shared)(σ:St)(H:Hp)(Q:List V->Hp->Prop),Inv X pins σ H s->t σ H Q->wpAny (model X.prog X.w) X.A (evalAll ((backToKw pos (keywordEach kws X.env)).map (·.2))) (AP X pins σ Q) X.xe s
section
variable{cm:Bool}{X:Cx}{CX:CXT}{k:Nat}{f C:Addr}{fd:FuncData}{ps ks:List Str}{sp:Sp}{E:XK}{x m:Str}{p pos apos kpos:Pos}{e o:Expr}{es:List Expr}{kws:List Keyword}{te ta:TE}{t tk:TA}{nm:Option Str}
theorem pk_nil:PK X [] tNil:=fun _ _ _ _ H Q I h=>wpAny_evalAll_nil ⟨[],H,I,.nil,h⟩
theorem pk_cons(ha:PE X e te)(hr:PK X kws t):PK X (⟨nm,e,kpos⟩::kws) (tCons te t):=by
 intro pos pins s σ H Q I h;show wpAny _ _ (evalAll ((do let v <-eval e X.env;standAt pos;pure v)::(backToKw pos (keywordEach kws X.env)).map (·.2))) _ _ s;refine wpAny_evalAll_cons (wpAny_bind (thn (ha pins s σ H _ I h) fun u s1 ⟨x,H1,I1,r1,q1⟩=>wpAny_bind (wpAny_standAt (wpAny_pure ?_))));exact thn (hr pos pins s1 σ H1 _ I1 q1) fun us s2 ⟨xs,H2,I2,r2,q2⟩=>⟨x::xs,H2,I2,.cons r1 r2,q2⟩
structure KBinds(K:W.Frag)(fd:FuncData)(ps ks:List Str)(g:List Value->List Value->List Value)(gV:List V->List V->List V):Prop where
 to:∀(s:Shared)(us ws:List Value),K.In s.heap->(g us ws).length=ps.length->BindsTo s fd ⟨us,ks.zip ws⟩ (ps.zip (g us ws))
 rel:∀{vs:List V}{us:List Value}{zs:List V}{ws:List Value},Vals vs us->Vals zs ws->Vals (gV vs zs) (g us ws)
def tCallK(sp:Sp)(gV:List V->List V->List V)(E:XK)(t tk:TA):TE:=fun σ H Q=>t σ H fun vs H1=>tk σ H1 fun zs H2=>sp (gV vs zs) H2 Q E
variable{g:List Value->List Value->List Value}{gV:List V->List V->List V}
theorem run_fnk{pins:List (Addr×Obj)}{σ:St}{H:Hp}{s:Shared}{Q:VK}{us ws:List Value}{vs zs:List V}(F:FnOk X.prog X.w X.K X.mg X.base CX k f fd ps sp cm)(hr:Room k X.A cm)(hb:KBinds X.K fd ps ks g gV)(hx:Passes CX X E)(I:Inv X pins σ H s)(r:Vals vs us)(rz:Vals zs ws)(h:sp (gV vs zs) H Q E):wpAny (model X.prog X.w) X.A (call (.ref f) us (ks.zip ws)) (EP X pins σ Q) X.xe s:=by
 have r2:=hb.rel r rz;have hl:(g us ws).length=ps.length:=by rw[<-r2.length];exact F.len _ _ _ _ h
 refine wpAny_call (codeAny_mono (F.run X.A X.stack s H ⟨us,ks.zip ws⟩ (g us ws) (gV vs zs) Q E hr I.env0 (hb.to s us ws I.kIn hl) r2 h) fun r s' hq=>?_);cases r with
 |error e=>exact hx pins σ H s e s' I hq
 |ok fl =>
  cases fl with
  |ret u=>exact I.after hq
  |next=>exact False.elim hq
  |brk=>exact False.elim hq
  |cont=>exact False.elim hq
theorem pe_callK(F:FnOk X.prog X.w X.K X.mg X.base CX k f fd ps sp cm)(hr:Room k X.A cm)(hg:Gl X x)(hm:X.mg x=some (.ref f))(hk:W.keepIn X.K (.ref f)=true)(hb:KBinds X.K fd ps ks g gV)(hx:Passes CX X E)(ha:PA X (e::es) t)(hkw:PK X kws tk)(hall:(backToKw pos (keywordEach kws X.env)).all (·.1.isSome)=true:=by rfl)(hks:(backToKw pos (keywordEach kws X.env)).filterMap (·.1)=ks:=by rfl)(hdb:(x==("__debug__" : Str))=false:=by decide)(he:starEach (e::es) X.env=(false,eval e X.env)::starEach es X.env:=by rfl)(hpl:((backTo pos (starEach (e::es) X.env)).any (·.1)||(backToKw pos (keywordEach kws X.env)).any (·.1.isNone))=false:=by rfl) :
  PE X (.Call (.Name x p) (e::es) kws pos) (tCallK sp gV E t tk):=by
 intro pins s σ H Q I h;refine wpAny_Call_Name_kw (ld_glob I hg hm ?_ hdb);refine W.callWith_KW (h₀:=X.base) I.ok.mod.kin hk hall (thn (ha pos pins s σ H _ I h) fun us s1 ⟨vs,H1,I1,r,q⟩=>?_) hpl he;refine thn (hkw pos pins s1 σ H1 _ I1 q) fun ws s2 ⟨zs,H2,I2,rz,q2⟩=>⟨I2.kIn,?_⟩;rw[hks];exact run_fnk F hr hb hx I2 r rz q2
end
structure FnScope(N P:List Str)(sc:Scope):Prop where
 kind:sc.kind= .function
 co:sc.isCoroutine=false
 gen:sc.isGenerator=false
 nd:N.Nodup
 pre:N.take P.length=P
 par:∀x∈P,sc.names.lookup x=some .local\/sc.names.lookup x=some .cell
 nofree:∀y∈sc.names,y.2≠ .free
theorem bindL_out{kindOf:Str->Option NameKind}{x:Str}:∀{binds:List (Str×Value)}{m:Str->Option Value},(∀v,(x,v)∉binds)->bindL kindOf binds m x=m x
 | [],_,_=>rfl
 |(n,v)::r,m,h=>by
  unfold bindL;rw[bindL_out fun w hw=>h w (mem_cons_of_mem _ hw)];split
  ·have:x≠n:=by rintro rfl;exact h v mem_cons_self
   simp[this]
  ·rfl
theorem bindC_out{kindOf:Str->Option NameKind}{x:Str}:∀{binds:List (Str×Value)}{m:Str->Option Value},(∀v,(x,v)∉binds)->bindC kindOf binds m x=m x
 | [],_,_=>rfl
 |(n,v)::r,m,h=>by
  unfold bindC;rw[bindC_out fun w hw=>h w (mem_cons_of_mem _ hw)];split
  ·rfl
  ·have:x≠n:=by rintro rfl;exact h v mem_cons_self
   simp[this]
theorem bindL_get{kindOf:Str->Option NameKind}{x:Str}{v:Value}:∀{P:List Str}{vs:List Value}{i:Nat}{m:Str->Option Value},P.Nodup->P[i]? =some x->vs[i]? =some v->kindOf x=some .local->
  bindL kindOf (P.zip vs) m x=some v
 | [],_,_,_,_,h,_,_=>by simp at h
 | _::_,[],_,_,_,_,h,_=>by simp at h
 |p::P,w::vs,0,m,nd,h1,h2,hk=>by
  simp at h1 h2;subst h1;subst h2;show bindL kindOf ((p,w)::P.zip vs) m p=_;unfold bindL;rw[bindL_out fun v hv=>(nodup_cons.mp nd).1 (List.of_mem_zip hv).1,if_pos hk];simp
 |p::P,w::vs,i+1,m,nd,h1,h2,hk=>by
  show bindL kindOf ((p,w)::P.zip vs) m x=_;unfold bindL;exact bindL_get (i:=i) (nodup_cons.mp nd).2 (by simpa using h1) (by simpa using h2) hk
theorem bindC_get{kindOf:Str->Option NameKind}{x:Str}{v:Value}:∀{P:List Str}{vs:List Value}{i:Nat}{m:Str->Option Value},P.Nodup->P[i]? =some x->vs[i]? =some v->kindOf x≠some .local->
  bindC kindOf (P.zip vs) m x=some v
 | [],_,_,_,_,h,_,_=>by simp at h
 | _::_,[],_,_,_,_,h,_=>by simp at h
 |p::P,w::vs,0,m,nd,h1,h2,hk=>by
  simp at h1 h2;subst h1;subst h2;show bindC kindOf ((p,w)::P.zip vs) m p=_;unfold bindC;rw[bindC_out fun v hv=>(nodup_cons.mp nd).1 (List.of_mem_zip hv).1,if_neg hk];simp
 |p::P,w::vs,i+1,m,nd,h1,h2,hk=>by
  show bindC kindOf ((p,w)::P.zip vs) m x=_;unfold bindC;exact bindC_get (i:=i) (nodup_cons.mp nd).2 (by simpa using h1) (by simpa using h2) hk
def start(N:List Str)(vs:List V):St:=vs.map some++replicate (N.length-vs.length) none
def cxOf(CX:CXT)(P:Program)(w:World)(K:W.Frag)(mg:Str->Option Value)(base:Heap)(N:List Str)(qual:Str)(scope:Scope)(f:Addr)(cd:Value)(A:Around)(outer:List Env)(s:Shared)(H:Hp)(E:XK)(cm:Bool:=true):Cx where
 prog:=P
 w:=w
 K:=K
 mg:=mg
 base:=base
 A:=A.deeper (envOfC qual scope s.heap.objs.size f cd)
 N:=N
 s₀:=s
 H₀:=H
 env:=envOfC qual scope s.heap.objs.size f cd
 outer:=outer
 stack:=envOfC qual scope s.heap.objs.size f cd::outer
 ex:=[]
 calm:=cm
 fn:=fun _=>true
 pn:=[]
 xe:=fun e s'=>wpAny (model P w) (A.deeper (envOfC qual scope s.heap.objs.size f cd)) (leaving (envOfC qual scope s.heap.objs.size f cd) e) (fun _ s''=>CX outer H s E e s'') (fun e' s''=>CX outer H s E e' s'') s'
theorem cell_has{sc:Scope}{n:Nat}{x:Str}(h:sc.names.lookup x=some .cell):∃c,(cellsFrom n sc.names []).lookup x=some c:=by
 have q:=W.cellsFrom_some sc.names n [] (.inl h);exact Option.isSome_iff_exists.mp q
theorem inv_start{CX:CXT}{P:Program}{w:World}{K:W.Frag}{mg:Str->Option Value}{base:Heap}{N ps:List Str}{qual:Str}{scope:Scope}{f:Addr}{cd:Value}{A:Around}{outer:List Env}{s s1:Shared}{H:Hp}{E:XK}{cm:Bool}{us:List Value}{vs:List V}(S:FnScope N ps scope)(hd:cm=true->A.handled=none)(e0:Env0 P w K mg base A outer s H)(hl:vs.length=ps.length)(r:Vals vs us)(x:InCallC s s.heap.objs.size (bindL (envOfC qual scope s.heap.objs.size f cd).kindOf (ps.zip us) fun _=>none) (cellsFrom (s.heap.objs.size+1) scope.names []) (bindC (envOfC qual scope s.heap.objs.size f cd).kindOf (ps.zip us) fun _=>none) s1) :
  Inv (cxOf CX P w K mg base N qual scope f cd A outer s H E cm) [] (start N vs) H s1:=by
 have hpl:ps.length<=N.length:=by have:=congrArg length S.pre;rw[length_take]at this;omega
 obtain⟨h1,tk,rfl,hk⟩:=x.done;have noA:∀b:Addr,b∉(cxOf CX P w K mg base N qual scope f cd A outer s H E cm).ex:=fun b z=>absurd (show b∈([]:List Addr)from z) (by simp);refine⟨⟨e0.mod,S.kind,rfl,rfl,le_refl _,fun y z c h1 h2=>?_,fun y hy=>?_,fun y c _ h=>?_,hd,Around.frames_deeper e0.frames,.inr ⟨rfl,rfl⟩,fun b z=>absurd z (noA b),e0.bs,e0.bsz,fun b _ _=>noA b,fun b z=>absurd z (noA b),e0.funs,e0.frf⟩,
  rfl,e0.bare,Un.kept hk,⟨_,x.toInCall.ns,fun i y v h1 h2 h3=>?_⟩,fun y c h=>⟨_,x.cell y c h⟩,e0.hok.fresh (le_refl _),fun y c h=>?_,fun p hp=>absurd (show p∈([]:List (Addr×Obj))from hp) (by simp),e0.hok.kept hk,?_⟩
 ·exact name_of_addr x.apart (PySem.mem_of_lookup h1) (PySem.mem_of_lookup h2)
 ·have hy:scope.names.lookup y=some .cell\/scope.names.lookup y=some .free:=hy;rcases hy with hy|hy
  ·exact cell_has hy
  ·exact absurd rfl (S.nofree _ (PySem.mem_of_lookup hy))
 ·exact Nat.le_of_lt (x.above y c (PySem.mem_of_lookup h))
 ·have hi:i<vs.length:=by
   unfold start at h2;by_cases hi:i<vs.length
   ·exact hi
   ·rw[List.getElem?_append_right (by simpa using hi)]at h2;rw[List.getElem?_replicate]at h2;split at h2 <;>cases h2
  have ha:vs[i]? =some v:=by
   unfold start at h2;rw[List.getElem?_append_left (by simpa using hi),getElem?_map]at h2;cases e:vs[i]? with
   |none=>rw[e]at h2;cases h2
   |some a=>rw[e]at h2;cases h2;rfl
  obtain⟨u,hu,rv⟩:=r.get ha;have hp:ps[i]? =some y:=by
   rw[<-S.pre,List.getElem?_take_of_lt (by omega)];exact h1
  have ndP:ps.Nodup:=by rw[<-S.pre];exact S.nd.sublist (List.take_sublist _ _)
  refine⟨u,rv,?_⟩;rcases S.par y (mem_of_getElem? hp)with k|k
  ·exact .inl ⟨k,bindL_get ndP hp hu k⟩
  ·obtain⟨c,e⟩:=cell_has (n:=s.heap.objs.size+1) k;refine .inr ⟨.inl k,c,e,?_⟩;have q:=x.cell y c e;rw[bindC_get ndP hp hu (by show scope.names.lookup y≠_;rw[k];decide)]at q;exact q
 ·exact e0.hok.fresh (Nat.le_of_lt (x.above y c (PySem.mem_of_lookup h)))
 ·unfold start;show _=N.length;rw[length_append,length_map,List.length_replicate];omega
theorem fn_of{CX:CXT}{P:Program}{w:World}{K:W.Frag}{mg:Str->Option Value}{base:Heap}{k:Nat}{f:Addr}{name qual:Str}{params:Arguments}{body:List Stmt}{scope:Scope}{dV kV doc pm cdv ct oc:Value}{an od:Option Addr}{osl:Array (Option Value)}{N ps:List Str}{sp:Sp}{cm:Bool}(lk:K.lookup f=some ⟨oc,od,.func (W.fnOf name qual params body scope dV kV doc pm an cdv ct),osl⟩)(hcd:W.codeIn K cdv qual=true)(S:FnScope N ps scope)(len:∀vs H Q E,sp vs H Q E->vs.length=ps.length)(hbody:∀(A:Around) (outer:List Env) (s:Shared) (H:Hp) (vs:List V) (Q:VK) (E:XK),Room k (A.deeper (envOfC qual scope s.heap.objs.size f cdv)) cm->sp vs H Q E->
   ∃t,PSs (cxOf CX P w K mg base N qual scope f cdv A outer s H E cm) body t/\t {nx:=fun _ H'=>Q .non H',rt:=Q} (start N vs) H) :
  FnOk P w K mg base CX (k+1) f (W.fnOf name qual params body scope dV kV doc pm an cdv ct) ps sp cm:=by
 refine⟨len,fun A outer s H args us vs Q E hr e0 hb r hsp=>?_⟩;have hl:=len _ _ _ _ hsp;have KX:K.In s.heap:=e0.mod.kin.keeps fun b o e=>(e0.bs b o e).1;have lim:s.heap.NoLimit:=e0.mod.nolimit.keeps fun b o e=>(e0.bs b o e).1;have hkind:∀y∈ps.zip us,scope.names.lookup y.1=some .local\/(scope.names.lookup y.1=some .cell/\((cellsFrom (s.heap.objs.size+1) scope.names []).lookup y.1).isSome=true):=fun⟨n,v⟩ hy=>by
  rcases S.par n (List.of_mem_zip hy).1 with q|q
  ·exact .inl q
  ·exact .inr ⟨q,W.cellsFrom_some _ _ _ (.inl q)⟩
 refine codeAny_call_function hr.depth (KX _ _ lk) rfl S.co S.gen rfl (W.codeRec_of KX hcd) (hb _ _ _ _ ?_);refine wpAny_newFunctionEnv_cells S.kind hkind fun env he s1 x=>?_;subst he;refine⟨lim.keeps x.toInCall.keep,codeAny_func ?_⟩;obtain⟨t,ht,hq⟩:=hbody A outer s H vs Q E (hr.deeper _) hsp;have I:Inv (cxOf CX P w K mg base N qual scope f cdv A outer s H E cm) [] (start N vs) H s1:=inv_start S hr.hd e0 hl r x;refine wpAny_mono (ht [] s1 (start N vs) H _ I hq) (fun fl s' hs=>?_) fun e s' hs=>hs;have fin:∀{σ':St}{H':Hp}{v:V}{u:Value},Inv (cxOf CX P w K mg base N qual scope f cdv A outer s H E cm) [] σ' H' s'->RelV v u->Q v H'->CE outer P w H s Q u s' :=
  fun{σ' H' v u} J rv q=>⟨v,H',J.os,J.bare,J.base,J.hok,rv,q⟩
 cases fl with
 |ret u =>
  obtain⟨v,σ',H',J,rv,q⟩:=hs;exact fin J rv q
 |next =>
  obtain⟨σ',H',J,q⟩:=hs;exact fin (v:=V.non) (u:=Value.none) J rfl q
 |brk =>
  obtain⟨_,_,_,q⟩:=hs;exact False.elim q
 |cont =>
  obtain⟨_,_,_,q⟩:=hs;exact False.elim q
section
variable{X:Cx}{x:Str}{p pos:Pos}{e:Expr}{es:List Expr}{t:TA}{id T:String}{r:List V->Hp->VK->Prop}
def tCB(r:List V->Hp->VK->Prop)(t:TA):TE:=fun σ H Q=>t σ H fun vs H1=>r vs H1 Q
theorem z9(hc:CallR X (.builtin id) r)(hg:Gl X x)(hm:X.mg x=none)(hv:bootBuiltins x=some (.builtin id))(ha:PA X (e::es) t)(hn:x≠"__name__" :=by decide)(hdb:(x==("__debug__" : Str))=false:=by decide)(he:starEach (e::es) X.env=(false,eval e X.env)::starEach es X.env:=by rfl)(hpl:(backTo pos (starEach es X.env)).any (·.1)=false:=by rfl):PE X (.Call (.Name x p) (e::es) [] pos) (tCB r t):=by
 intro pins s σ H Q I h;refine wpAny_Call_Name_kw (ld_blt I hg hm hv ?_ hn hdb);exact PyProof.Rows.callWith_builtin1 (thn (ha pos pins s σ H _ I h) fun us s1 ⟨vs,H1,I1,r1,q1⟩=>hc pins s1 σ H1 vs us Q I1 r1 q1) he hpl
theorem zQ(hc:CallR X (.type T) r)(hg:Gl X x)(hm:X.mg x=none)(hv:bootBuiltins x=some (.type T))(ha:PA X (e::es) t)(hn:x≠"__name__" :=by decide)(hdb:(x==("__debug__" : Str))=false:=by decide)(he:starEach (e::es) X.env=(false,eval e X.env)::starEach es X.env:=by rfl)(hpl:(backTo pos (starEach es X.env)).any (·.1)=false:=by rfl):PE X (.Call (.Name x p) (e::es) [] pos) (tCB r t):=by
 intro pins s σ H Q I h;refine wpAny_Call_Name_kw (ld_blt I hg hm hv ?_ hn hdb);exact PyProof.Rows.callWith_type1 (thn (ha pos pins s σ H _ I h) fun us s1 ⟨vs,H1,I1,r1,q1⟩=>hc pins s1 σ H1 vs us Q I1 r1 q1) he hpl
end
end L2
namespace HT
open PySem PyProof.Rows
section
variable{prog:Program}{w:World}{A:Around}{E:Value->Shared->Prop}{s:Shared}
theorem cat_tup{t b:Addr}{vs ws:List Value}{Q:Value->Shared->Prop}(ht:IsTup s.heap t vs.toArray)(hb:IsTup s.heap b ws.toArray)(hv:vs≠[])(h1:ws=[]->Q (.ref t) s)(h2:ws≠[]->Q (.ref s.heap.objs.size) {s with heap:=s.heap.push {cls:=.type "tuple",data:=.seq (vs++ws).toArray}})(hsz:vs.length+ws.length<=sizeLine):wpAny (model prog w) A (binaryOp .Add (.ref t) (.ref b)) Q E s:=by
 obtain⟨⟨cls,dd,data,sl⟩,ho,hc,n,hd⟩:=id ht;obtain⟨⟨cls2,dd2,data2,sl2⟩,ho2,hc2,n2,hd2⟩:=id hb;simp only at hc hd hc2 hd2;subst hc hd hc2 hd2;have e:vs.toArray++ws.toArray=(vs++ws).toArray:=by simp
 by_cases hw:ws=[]
 ·exact concat_meets ⟨_,ho,rfl⟩ ⟨_,ho2,rfl⟩ noFill_tuple_add seq_tuple_add PySem.F.slot_tuple_add PySem.F.entry_tuple_add (PySem.F.args_tuple_add_2 _ _)
   (tuple_addW1 t b vs.toArray ws.toArray n n2 dd dd2 sl sl2 (by simpa using hv) (by simp[hw])) ⟨ho,ho2,h1 hw⟩
 ·refine concat_meets ⟨_,ho,rfl⟩ ⟨_,ho2,rfl⟩ noFill_tuple_add seq_tuple_add PySem.F.slot_tuple_add PySem.F.entry_tuple_add (PySem.F.args_tuple_add_2 _ _)
   (tuple_addW2 t b vs.toArray ws.toArray n n2 dd dd2 sl sl2 (by simpa using hv) (by simpa using hw) (by rw[size_toArray,size_toArray];exact hsz)) ⟨ho,ho2,?_⟩
  rw[e];exact h2 hw
def sIx(n d:Nat):Option Int->Nat
 |none=>d
 |some v=>if v<0 then(v+(n:Int)).toNat else min v.toNat n
theorem sIx_none(n d:Nat):sIx n d none=d:=rfl
theorem sIx_nat(n d k:Nat):sIx n d (some (k:Int))=min k n:=by
 show(if(k:Int)<0 then((k:Int)+(n:Int)).toNat else min (k:Int).toNat n)=min k n;rw[if_neg (by omega),toNat_natCast]
theorem sIx_le(n d:Nat)(hd:d<=n)(o:Option Int):sIx n d o<=n:=by
 cases o with
 |none=>exact hd
 |some v =>
  show(if v<0 then(v+(n:Int)).toNat else min v.toNat n)<=n;by_cases hv:v<0
  ·rw[if_pos hv];omega
  ·rw[if_neg hv];exact Nat.min_le_right _ _
theorem clip_eq(v:Int)(n d:Nat):(if v<0 then max (v+(n:Int)) 0 else min v (n:Int))=((sIx n d (some v):Nat):Int):=by
 show(if v<0 then max (v+(n:Int)) 0 else min v (n:Int))=(((if v<0 then(v+(n:Int)).toNat else min v.toNat n):Nat):Int);by_cases hv:v<0
 ·simp only[if_pos hv];exact(Int.ofNat_toNat _).symm
 ·simp only[if_neg hv];obtain⟨k,rfl⟩:=Int.eq_ofNat_of_zero_le (Int.not_lt.mp hv);rw[toNat_natCast,Int.min_def,Nat.min_def];simp only[Int.ofNat_le];split <;>rfl
theorem adjust_gen(lo hi:Option Int)(n:Nat):Builtin.Slice.sliceAdjust lo hi 1 (n:Int)=(((sIx n 0 lo:Nat):Int),((sIx n n hi:Nat):Int)):=by
 have h1:¬((1:Int)<0):=by omega
 unfold Builtin.Slice.sliceAdjust;simp only[h1,if_false];refine Prod.ext ?_ ?_
 ·cases lo with
  |none=>rfl
  |some v=>exact clip_eq v n 0
 ·cases hi with
  |none=>rfl
  |some v=>exact clip_eq v n n
theorem places_gen(i j:Nat):Builtin.Slice.slicePlaces (i:Int) (j:Int) 1=j-i:=by
 unfold Builtin.Slice.slicePlaces;have h1:(1:Int)>0:=by omega
 simp only[h1,if_true,Int.ediv_one];split <;>omega
theorem slicePart_{v:Value}{o:Option Int}{Q:Option Int->Shared->Prop}(p:IsPart v o)(h:Q o s):wpAny (model prog w) A (Builtin.Slice.slicePartIndex v) Q E s:=by
 cases p with
 |none=>exact slicePart_none h
 |int i t=>exact slicePart_int h
theorem sliceApplied_gen{sl:Addr}{vl vu:Value}{lo hi:Option Int}{n:Nat}{Q:Int×Int×Nat->Shared->Prop}(hs:s.heap.IsSliceOf sl vl vu .none)(pl:IsPart vl lo)(pu:IsPart vu hi)(h:Q (((sIx n 0 lo:Nat):Int),1,sIx n n hi-sIx n 0 lo) s):wpAny (model prog w) A (Builtin.Slice.sliceApplied (.ref sl) (pure (n:Int))) Q E s:=by
 obtain⟨os,hos,hcs,hds⟩:=id hs;unfold Builtin.Slice.sliceApplied Builtin.Slice.sliceFields;refine wpAny_bind (wpAny_bind (wpAny_field hos hds (x:=vl) rfl (wpAny_bind (wpAny_field hos hds (x:=vu) rfl (wpAny_bind (wpAny_field hos hds (x:=.none) rfl (wpAny_pure ?_)))))));refine wpAny_bind (slicePart_none ?_);show wpAny _ _ (if((1:Int)==0)=true then _ else _) _ _ s;rw[if_neg (by decide)];refine wpAny_bind (slicePart_ pl (wpAny_bind (slicePart_ pu (wpAny_bind (wpAny_pure ?_)))));show wpAny _ _ (match Builtin.Slice.sliceAdjust lo hi 1 (n:Int)with|(lo,hi)=>pure (lo,(1:Int),Builtin.Slice.slicePlaces lo hi 1)) _ _ s;rw[adjust_gen lo hi n];show wpAny _ _ (pure (((sIx n 0 lo:Nat):Int),(1:Int),Builtin.Slice.slicePlaces ((sIx n 0 lo:Nat):Int) ((sIx n n hi:Nat):Int) 1)) _ _ s;rw[places_gen];exact wpAny_pure h
theorem pick_gen(xs:Array Value)(i k:Nat):((List.range k).filterMap fun(m:Nat)=>xs[((i:Int)+(m:Int)*1).toNat]?).toArray=((xs.toList.drop i).take k).toArray:=by
 have e:(fun(m:Nat)=>xs[((i:Int)+(m:Int)*1).toNat]?)=fun m=>xs[i+m]?:=by
  funext m
  have:((i:Int)+(m:Int)*1).toNat=i+m:=by omega
  rw[this]
 rw[e];have:=pick_run xs i k;rw[List.filterMap_map]at this;have e2:((fun x=>xs[x]?)∘fun x=>i+x)=fun m=>xs[i+m]?:=rfl;rw[e2]at this;rw[this]
theorem getItem_tuple_cut{t sl:Addr}{items:Array Value}{vl vu:Value}{lo hi:Option Int}{Q:Value->Shared->Prop}(ht:IsTup s.heap t items)(hs:s.heap.IsSliceOf sl vl vu .none)(pl:IsPart vl lo)(pu:IsPart vu hi)(hw:¬(sIx items.size 0 lo=0/\sIx items.size items.size hi=items.size))(h:Q (.ref s.heap.objs.size) {s with heap:=s.heap.push {cls:=.type "tuple",data:=.seq ((items.toList.drop (sIx items.size 0 lo)).take (sIx items.size items.size hi-sIx items.size 0 lo)).toArray}})(hsz:items.size<=sizeLine):wpAny (model prog w) A (getItem (.ref t) (.ref sl)) Q E s:=by
 have htake:sizeOk (.seq ((items.toList.drop (sIx items.size 0 lo)).take (sIx items.size items.size hi-sIx items.size 0 lo)).toArray):=by
  show((items.toList.drop (sIx items.size 0 lo)).take (sIx items.size items.size hi-sIx items.size 0 lo)).toArray.size<=sizeLine;rw[size_toArray,length_take,List.length_drop,Array.length_toList];exact le_trans (Nat.min_le_right _ _) (le_trans (Nat.sub_le _ _) hsz)
 have hj:sIx items.size items.size hi<=items.size:=sIx_le _ _ (le_refl _) hi;obtain⟨os,hos,hcs,hds⟩:=id hs;have hTs:s.TypeIs (.ref sl) "slice" :=⟨os,hos,hcs⟩;unfold getItem
 try with_reducible refine wpAny_holding ?_
 first|refine wpAny_bind (wpAny_pure ?_)|skip
 refine wpAny_bind (wpAny_sequenceKey ht.typeIs (by decide) ?_);refine wpAny_bind (wpAny_callSpecial?_slot (name:=Str.ofString "__getitem__") ht.typeIs PyProof.Rows.slot_tuple_getitem
  (wpAny_call_entry PyProof.Rows.slot_tuple_getitem ht.typeIs entry_tuple_getitem ?_ (args_tuple_getitem _ _)))
 show wpAny _ _ (Builtin.Tuple.tupleItemsOf (.ref t) >>= _) _ _ s;refine wpAny_bind (tupleItemsOf_ ht ?_);refine wpAny_bind (wpAny_typeOf hTs ?_);rw[if_pos (by decide)];refine wpAny_bind (sliceApplied_gen hs pl pu ?_);have hno:¬((((sIx items.size 0 lo:Nat):Int)==0&&(1:Int)==1&&(sIx items.size items.size hi-sIx items.size 0 lo)==items.size)=true):=by
  intro q;rw[and_eq_true,and_eq_true]at q;have q1:((sIx items.size 0 lo:Nat):Int)=0:=eq_of_beq q.1.1;have q2:sIx items.size items.size hi-sIx items.size 0 lo=items.size:=eq_of_beq q.2;exact hw ⟨by omega,by omega⟩
 show wpAny _ _ (if(((sIx items.size 0 lo:Nat):Int)==0&&(1:Int)==1&&(sIx items.size items.size hi-sIx items.size 0 lo)==items.size)=true then _ else _) _ _ s;rw[if_neg hno,pick_gen]
 first
  |exact wpAny_bind (m:=Builtin.Tuple.tupleExact _) (wpAny_newObj_type (wpAny_pure ⟨_,rfl,wpAny_pure h⟩) htake)
  |exact wpAny_bind (m:=Builtin.Tuple.tupleExact _) (wpAny_newObj_type (wpAny_bind (wpAny_pure (wpAny_pure ⟨_,rfl,wpAny_pure h⟩))) htake)
  |exact wpAny_bind (wpAny_bind (m:=Builtin.Tuple.tupleExact _) (wpAny_newObj_type (wpAny_pure (wpAny_pure ⟨_,rfl,wpAny_pure h⟩)) htake))
  |exact wpAny_bind (wpAny_bind (m:=Builtin.Tuple.tupleExact _) (wpAny_newObj_type (wpAny_pure ⟨_,rfl,wpAny_pure h⟩) htake))
end
end HT
namespace L2
open PySem PySem.Spec PyProof.Rows
abbrev TO:=St->Hp->(Option Int->Hp->Prop)->Prop
def PO(X:Cx)(e:Option Expr)(t:TO):Prop :=
 ∀(pins:List (Addr×Obj))(s:Shared)(σ:St)(H:Hp)(Q:Option Int->Hp->Prop),Inv X pins σ H s->t σ H Q->
  wpAny (model X.prog X.w) X.A (evalPart e X.env) (fun u s'=>∃ o H',Inv X pins σ H' s'/\IsPart u o/\Q o H') X.xe s
def tNoPart:TO:=fun _ H Q=>Q none H
def tPart(t:TE):TO:=fun σ H Q=>t σ H fun x H1=>∃ i,x= .int i/\Q (some i) H1
theorem intsAre_of{ns:List Int}:∀{us:List Value},Vals (ns.map V.int) us->IntsAre us ns:=by
 induction ns with
 |nil=>intro us r;rw[List.map_nil]at r;cases r;exact .nil
 |cons n ns ih =>
  intro us r;rw[map_cons]at r;cases r with
  |cons r1 r2 =>
   obtain⟨t,e⟩:=r1;subst e;exact .cons n t (ih r2)
section
variable{X:Cx}{e:Expr}{te:TE}{lo hi:Option Expr}{tl th:TO}{pos p2:Pos}
theorem po_none:PO X none tNoPart:=by
 intro pins s σ H Q I h;rw[evalPart_none];exact wpAny_pure ⟨none,H,I,.none,h⟩
theorem po_some(h:PE X e te):PO X (some e) (tPart te):=by
 intro pins s σ H Q I hw;rw[evalPart_some];refine thn (h pins s σ H _ I hw) fun u s1 ⟨x,H1,I1,r1,q1⟩=>?_;obtain⟨i,rfl,q⟩:=q1;obtain⟨t,rfl⟩:=r1;exact⟨some i,H1,I1,.int i t,q⟩
def SlR(X:Cx)(r:V->Option Int->Option Int->Hp->VK->Prop):Prop :=
 ∀(pins:List (Addr×Obj))(s:Shared)(σ:St)(H:Hp)(x:V)(v vl vu:Value)(lo hi:Option Int)(sl:Addr)(Q:VK),Inv X pins σ H s->RelV x v->s.heap.IsSliceOf sl vl vu .none->IsPart vl lo->IsPart vu hi->r x lo hi H Q->
  ∃T id,typeLookup (.type T) "__getitem__"=pure (some (.builtin id))/\s.TypeIs v T/\wpAny (model X.prog X.w) X.A (getItem v (.ref sl)) (EP X pins σ Q) X.xe s
theorem SlR.or{r r':V->Option Int->Option Int->Hp->VK->Prop}(h:SlR X r)(h':SlR X r'):SlR X (fun x lo hi H Q=>r x lo hi H Q\/r' x lo hi H Q):=by
 intro pins s σ H x v vl vu lo hi sl Q I rx hs pl pu q;rcases q with q|q
 ·exact h pins s σ H x v vl vu lo hi sl Q I rx hs pl pu q
 ·exact h' pins s σ H x v vl vu lo hi sl Q I rx hs pl pu q
def tSl(r:V->Option Int->Option Int->Hp->VK->Prop)(te:TE)(tl th:TO):TE:=fun σ H Q=>te σ H fun x H1=>tl σ H1 fun l H2=>th σ H2 fun u H3=>r x l u H3 Q
theorem pe_slice{r:V->Option Int->Option Int->Hp->VK->Prop}(hr:SlR X r)(he:PE X e te)(hl:PO X lo tl)(hu:PO X hi th):PE X (.Subscript e (.Slice lo hi none p2) pos) (tSl r te tl th):=by
 intro pins s σ H Q I h;refine Subscript_ (thn (he pins s σ H _ I h) fun v s1 ⟨x,H1,I1,r1,q1⟩=>?_);refine wpAny_Slice (thn (hl pins s1 σ H1 _ I1 q1) fun vl s2 ⟨l,H2,I2,pl,q2⟩=>thn (hu pins s2 σ H2 _ I2 q2) fun vu s3 ⟨u,H3,I3,pu,q3⟩=>?_);rw[evalPart_none];refine wpAny_pure ?_;have I4:Inv X pins σ H3 {s3 with heap:=s3.heap.push {cls:=.type "slice",data:=.fields #[vl,vu,.none]}}:=I3.kept (t':=s3.toks) fun b ob q=>Heap.get?_push_of_some _ q;obtain⟨T,id,hT,ht,hg⟩:=hr pins {s3 with heap:=s3.heap.push {cls:=.type "slice",data:=.fields #[vl,vu,.none]}} σ H3 x v vl vu l u s3.heap.objs.size Q I4 r1 (Heap.IsSliceOf.new ..) pl pu q3;show wpAny (model X.prog X.w) X.A (subscriptTail e (.Slice lo hi none p2) v (.ref s3.heap.objs.size)) (EP X pins σ Q) X.xe {s3 with heap:=s3.heap.push {cls:=.type "slice",data:=.fields #[vl,vu,.none]}};exact tail_any (ops:=[.ref s3.heap.objs.size,v]) ht hT hg (by with_unfolding_all rfl)
def cutV(xs:List V)(lo hi:Option Int):List V:=(xs.drop (HT.sIx xs.length 0 lo)).take (HT.sIx xs.length xs.length hi-HT.sIx xs.length 0 lo)
theorem cutV_length(xs:List V)(lo hi:Option Int):(cutV xs lo hi).length<=xs.length:=by
 unfold cutV;rw[length_take,List.length_drop];omega
def rSlT(K:W.Frag):V->Option Int->Option Int->Hp->VK->Prop:=fun x lo hi H Q=>∃ a xs,x= .ref a/\SqT K H a xs/\
 ¬(HT.sIx xs.length 0 lo=0/\HT.sIx xs.length xs.length hi=xs.length)/\ ∀p,H p=none->Q (.ref p) (upd H p (.tup (cutV xs lo hi)))
theorem sl_tup:SlR X (rSlT X.K):=by
 intro pins s σ H x v vl vu lo hi sl Q I rx hs pl pu h;obtain⟨a,xs,rfl,hx,hw,q⟩:=h;cases rx;obtain⟨its,r,ht,hz⟩:=I.tuple hx;have hlen:its.toArray.size=xs.length:=by rw[size_toArray];exact r.length.symm
 refine⟨"tuple",_,PyProof.Rows.slot_tuple_getitem.lookup,ht.typeIs,?_⟩;refine HT.getItem_tuple_cut ht hs pl pu (by rw[hlen];exact hw) ?_ (by rw[hlen];exact hz);rw[hlen];refine⟨.ref s.heap.objs.size,_,I.laid (t':=s.toks) (o:=.tup (cutV xs lo hi)) (fun b ob q=>Heap.get?_push_of_some _ q) (le_refl _) ?_,rfl,q _ (I.hok.fresh (le_refl _))⟩;exact⟨le_trans (cutV_length xs lo hi) hz,_,(r.drop (HT.sIx xs.length 0 lo)).take (HT.sIx xs.length xs.length hi-HT.sIx xs.length 0 lo),IsTup.new _ _,tup_nodict⟩
def rCatT(K:W.Frag):R2:=fun x y H Q=>∃ a b xs ys,x= .ref a/\y= .ref b/\SqT K H a xs/\SqT K H b ys/\xs≠[]/\xs.length+ys.length<=sizeLine/\
 (ys=[]->Q (.ref a) H)/\(ys≠[]-> ∀p,H p=none->Q (.ref p) (upd H p (.tup (xs++ys))))
theorem Vals.nil_iff{xs:List V}{us:List Value}(r:Vals xs us):us=[]↔xs=[]:=by
 cases r with
 |nil=>simp
 |cons _ _=>simp
theorem op_catT:OpR X (binaryOp .Add) (rCatT X.K):=by
 intro pins s σ H x y v u Q I rx ry h;obtain⟨a,b,xs,ys,rfl,rfl,ha,hb,hx,hz,q1,q2⟩:=h;cases rx;cases ry;obtain⟨its,r1,p1,_⟩:=I.tuple ha;obtain⟨its2,r2,p2,_⟩:=I.tuple hb;refine HT.cat_tup p1 p2 (fun z=>hx (r1.nil_iff.mp z)) (fun z=>⟨.ref a,H,I,rfl,q1 (r2.nil_iff.mp z)⟩) (fun z=>?_) (by rw[<-r1.length,<-r2.length];exact hz);refine⟨.ref s.heap.objs.size,_,I.laid (t':=s.toks) (o:=.tup (xs++ys)) (fun b ob q=>Heap.get?_push_of_some _ q) (le_refl _) ?_,rfl,q2 (fun w=>z (r2.nil_iff.mpr w)) _ (I.hok.fresh (le_refl _))⟩;exact⟨by rw[length_append];exact hz,_,r1.append r2,IsTup.new _ _,tup_nodict⟩
end
def ixN(n:Nat)(i:Int):Option Nat:=if 0<=i then(if i<n then some i.toNat else none)else if -(n:Int)<=i then some (i+n).toNat else none
def atI{α:Type}(xs:List α)(i:Int):Option α:=(ixN xs.length i).bind fun j=>xs[j]?
theorem ixN_seq{n:Nat}{i:Int}{j:Nat}(h:ixN n i=some j):seqIndex? i n=some j/\j<n/\ -(n:Int)<=i/\i<n:=by
 unfold ixN at h;by_cases h0:0<=i
 ·rw[if_pos h0]at h;by_cases h1:i<n
  ·rw[if_pos h1]at h;have e:i.toNat=j:=Option.some.inj h;exact⟨by rw[seqIndex_of h0 h1,e],by omega,by omega,h1⟩
  ·rw[if_neg h1]at h;cases h
 ·rw[if_neg h0]at h;by_cases h1:-(n:Int)<=i
  ·rw[if_pos h1]at h;have e:(i+n).toNat=j:=Option.some.inj h;exact⟨by rw[seqIndex_neg (by omega) h1,e],by omega,h1,by omega⟩
  ·rw[if_neg h1]at h;cases h
theorem atI_get{α:Type}{xs:List α}{i:Int}{v:α}(h:atI xs i=some v):∃j,seqIndex? i xs.length=some j/\xs[j]? =some v/\j<xs.length/\ -(xs.length:Int)<=i/\i<xs.length:=by
 unfold atI at h;cases e:ixN xs.length i with
 |none=>rw[e]at h;cases h
 |some j =>
  rw[e]at h;obtain⟨h1,h2,h3,h4⟩:=ixN_seq e;exact⟨j,h1,h,h2,h3,h4⟩
theorem zo{α:Type}{xs:List α}{j:Nat}{v:α}(h:xs[j]? =some v):atI xs (j:Int)=some v:=by
 have hj:j<xs.length:=(List.getElem?_eq_some_iff.mp h).1;have e:ixN xs.length (j:Int)=some j:=by
  unfold ixN;rw[if_pos (by omega),if_pos (by omega)];simp
 unfold atI;rw[e];exact h
theorem atI_last{α:Type}(xs:List α)(v:α):atI (xs++[v]) (-1)=some v:=by
 have hl:(xs++[v]).length=xs.length+1:=by simp
 have e:ixN (xs++[v]).length (-1)=some xs.length:=by
  unfold ixN;rw[hl,if_neg (by decide),if_pos (by omega)];congr 1;omega
 unfold atI;rw[e];show(xs++[v])[xs.length]? =some v;simp
def PlainIx(b:Expr):Prop:=∀ o i,subscripted b false o i=operate [o,i] (getItem o i)
def IxR(X:Cx)(r:R2):Prop :=
 ∀(value slice:Expr)(pins:List (Addr×Obj))(s:Shared)(σ:St)(H:Hp)(x y:V)(v u:Value)(Q:VK),Inv X pins σ H s->RelV x v->RelV y u->r x y H Q->
  subscripted slice false v u=operate [v,u] (getItem v u)->wpAny (model X.prog X.w) X.A (subscriptTail value slice v u) (EP X pins σ Q) X.xe s
def MtR(X:Cx)(id:String)(r:V->List V->Hp->VK->Prop):Prop :=
 ∀(pins:List (Addr×Obj))(s:Shared)(σ:St)(H:Hp)(x:V)(xs:List V)(v:Value)(us:List Value)(Q:VK),Inv X pins σ H s->RelV x v->Vals xs us->r x xs H Q->
  wpAny (model X.prog X.w) X.A (call (.builtin id) (v::us)) (EP X pins σ Q) X.xe s
section
variable{X:Cx}{a b:Expr}{ta tb:TE}{pos:Pos}
theorem pe_ix{r:R2}(hr:IxR X r)(ha:PE X a ta)(hb:PE X b tb)(hs:PlainIx b):PE X (.Subscript a b pos) (tOp r ta tb):=by
 intro pins s σ H Q I h;exact Subscript_ (binT ha hb I h fun v u s2 x y H2 I2 rx ry q=>hr a b pins s2 σ H2 x y v u Q I2 rx ry q (hs _ _))
def rIxL(K:W.Frag):R2:=fun x y H Q=>∃ p xs i v,x= .ref p/\y= .int i/\SqL K H p xs/\atI xs i=some v/\Q v H
def rIxT(K:W.Frag):R2:=fun x y H Q=>∃ p xs i v,x= .ref p/\y= .int i/\SqT K H p xs/\atI xs i=some v/\Q v H
theorem zE:IxR X (rIxL X.K):=by
 intro value slice pins s σ H x y v u Q I rx ry h hs;obtain⟨p,xs,i,z,rfl,rfl,hq,he,q⟩:=h;cases rx;obtain⟨t,rfl⟩:=ry;obtain⟨its,r,pl,hz⟩:=I.list hq;obtain⟨j,h1,h2,h3,h4,h5⟩:=atI_get he;obtain⟨w,ew,rw'⟩:=r.get h2;have hl:=r.length;have hn:=line63;have fin:EP X pins σ Q w s:=⟨z,H,I,rw',q⟩;by_cases h0:0<=i
 ·have hj:i.toNat=j:=by
   rw[seqIndex_of h0 h5]at h1;exact Option.some.inj h1
  exact item_listR pl.isList h0 (by omega) (by rw[hj];simpa using ew) fin hs
 ·have hj:(i+(its.toArray.size:Int)).toNat=j:=by
   rw[seqIndex_neg (by omega) h4]at h1;rw[size_toArray,<-hl];exact Option.some.inj h1
  exact subscriptTail_builtinR (x:=w) pl.isList.typeIs slot_list_getitem.lookup
   (wpAny_getItem_list_neg (Q:=fun r s'=>r=w/\EP X pins σ Q r s') pl.isList (by omega) (by rw[size_toArray] <;>omega) (by omega) (by rw[hj];simpa using ew) ⟨rfl,fin⟩) hs
theorem zN:IxR X (rIxT X.K):=by
 intro value slice pins s σ H x y v u Q I rx ry h hs;obtain⟨p,xs,i,z,rfl,rfl,hq,he,q⟩:=h;cases rx;obtain⟨t,rfl⟩:=ry;obtain⟨its,r,pl,hz⟩:=I.tuple hq;obtain⟨j,h1,h2,h3,h4,h5⟩:=atI_get he;obtain⟨w,ew,rw'⟩:=r.get h2;have hl:=r.length;have hn:=line63;have fin:EP X pins σ Q w s:=⟨z,H,I,rw',q⟩;exact subscriptTail_builtinR (x:=w) pl.typeIs slot_tuple_getitem.lookup
  (getItem_tuple (j:=j) (Q:=fun r s'=>r=w/\EP X pins σ Q r s') pl (by omega) (by omega) (by rw[size_toArray,<-hl];exact h1) (by simpa using ew) ⟨rfl,fin⟩) hs
theorem mapSeq_set(its:List Value)(n j:Nat)(u:Value):Obj.mapSeq (·.setIfInBounds j u) {cls:=.type "list",data:=.seq its.toArray n}={cls:=.type "list",data:=.seq (its.set j u).toArray n}:=by
 simp[Obj.mapSeq]
theorem Inv.lst{pins:List (Addr×Obj)}{σ:St}{H:Hp}{s:Shared}{p:Addr}{xs:List V}(I:Inv X pins σ H s)(h:H p=some (.lst xs)) :
  ∃(its:List Value)(n:Nat),Vals xs its/\s.heap.get? p=some {cls:=.type "list",data:=.seq its.toArray n}/\xs.length<=sizeLine:=by
 obtain⟨z,its,n,r,e⟩:=I.hok p _ h;exact⟨its,n,r,e,z⟩
theorem Inv.lstUpd{pins:List (Addr×Obj)}{σ:St}{H:Hp}{s:Shared}{p:Addr}{xs ys:List V}{its its':List Value}{n n':Nat}{f:Obj->Obj}(I:Inv X pins σ H s)(h:H p=some (.lst xs))(ho:s.heap.get? p=some {cls:=.type "list",data:=.seq its.toArray n})(hf:f {cls:=.type "list",data:=.seq its.toArray n}={cls:=.type "list",data:=.seq its'.toArray n'})(r:Vals ys its')(hz:ys.length<=sizeLine)(t:Nat) :
  Inv X pins σ (upd H p (.lst ys)) {s with heap:=s.heap.update p f,toks:=t}:=by
 have e:(s.heap.update p f).get? p=some {cls:=.type "list",data:=.seq its'.toArray n'}:=by
  rw[Heap.get?_update_self f ho (by rw[hf] <;>rfl),hf]
 refine I.write (x:=p) (e:=p) (by rw[h];trivial) (.inl rfl) (fun b u hb q=>(Heap.get?_update_other _ _ (Ne.symm hb)).trans q) ⟨_,e⟩ ?_;exact⟨hz,its',n',r,e⟩
def rSetL:V->V->V->Hp->(Hp->Prop)->Prop:=fun o i v H Q=>∃ p xs k j,o= .ref p/\i= .int k/\H p=some (.lst xs)/\ixN xs.length k=some j/\Q (upd H p (.lst (xs.set j v)))
theorem set_list:PSet X rSetL:=by
 intro pins s σ H o i v ov iv u Q I ro ri rv h;obtain⟨p,xs,k,j,rfl,rfl,hp,hj,q⟩:=h;cases ro;obtain⟨t,rfl⟩:=ri;obtain⟨its,n,r,ho,hz⟩:=I.lst hp;obtain⟨h1,h2,h3,h4⟩:=ixN_seq hj;have hl:=r.length;have hn:=line63;have I':Inv X pins σ (upd H p (.lst (xs.set j v))) {s with heap:=s.heap.update p (Obj.mapSeq (·.setIfInBounds j u))} :=
  I.lstUpd hp ho (mapSeq_set its n j u) (r.set rv j) (by rw[List.length_set];exact hz) s.toks
 by_cases h0:0<=k
 ·have hk:k.toNat=j:=by
   rw[seqIndex_of h0 h4]at h1;exact Option.some.inj h1
  exact W.ki_setAt ho h0 (by omega) (by rw[size_toArray,<-hl];exact h4) (by rw[hk];exact⟨_,I',q⟩)
 ·have hk:(k+(its.toArray.size:Int)).toNat=j:=by
   rw[seqIndex_neg (by omega) h3]at h1;rw[size_toArray,<-hl];exact Option.some.inj h1
  exact W.ki_setBack ho (by omega) (by rw[size_toArray,<-hl];exact h3) (by omega) (by rw[hk];exact⟨_,I',q⟩)
theorem clipN(n:Nat)(i:Int):max 0 (min (if i<0 then i+n else i) n)=((if i<0 then(i+n).toNat else min i.toNat n:Nat):Int):=by
 split
 ·next h=>rw[Int.min_eq_left (Int.add_le_of_le_sub_right (by rw[Int.sub_self];exact le_of_lt h)),Int.ofNat_toNat,Int.max_comm]
 ·next h =>
  obtain⟨k,rfl⟩:=Int.eq_ofNat_of_zero_le (Int.not_lt.mp h);rw[toNat_natCast,Int.min_def,Nat.min_def];simp only[Int.ofNat_le];split <;>exact Int.max_eq_right (Int.natCast_nonneg _)
theorem slice_bounds(lo hi:Option Int)(n:Nat):(sliceBounds lo hi none n).1=((HT.sIx n 0 lo:Nat):Int)/\(sliceBounds lo hi none n).2.1=((HT.sIx n n hi:Nat):Int)/\(sliceBounds lo hi none n).2.2=1 :=
 ⟨by cases lo with|none=>rfl|some i=>exact clipN n i,by cases hi with|none=>rfl|some i=>exact clipN n i,rfl⟩
theorem slicePick_cut(its:List Value)(lo hi:Option Int):slicePick its.toArray lo hi none=((its.drop (HT.sIx its.length 0 lo)).take (HT.sIx its.length its.length hi-HT.sIx its.length 0 lo)).toArray:=by
 obtain⟨h1,h2,h3⟩:=slice_bounds lo hi its.toArray.size;unfold slicePick;rw[h1,h2,h3];simp only[sliceRange_one,pick_run,size_toArray] <;>rfl
def rSlL(K:W.Frag):V->Option Int->Option Int->Hp->VK->Prop:=fun x lo hi H Q=>∃ a xs,x= .ref a/\SqL K H a xs/\ ∀p,H p=none->Q (.ref p) (upd H p (.lst (cutV xs lo hi)))
theorem sl_list:SlR X (rSlL X.K):=by
 intro pins s σ H x v vl vu lo hi sl Q I rx hs pl pu h;obtain⟨a,xs,rfl,hx,q⟩:=h;cases rx;obtain⟨its,r,ht,hz⟩:=I.list hx;have hlen:=r.length;refine⟨"list",_,slot_list_getitem.lookup,ht.isList.typeIs,?_⟩;refine wpAny_getItem_list_slice ht.isList hs pl pu .none (by simp) ?_ (by rw[size_toArray] <;>omega);rw[slicePick_cut,<-hlen];refine⟨.ref s.heap.objs.size,_,I.laid (t':=s.toks) (o:=.lst (cutV xs lo hi)) (fun b ob q=>Heap.get?_push_of_some _ q) (le_refl _) ?_,rfl,q _ (I.hok.fresh (le_refl _))⟩;exact⟨le_trans (cutV_length xs lo hi) hz,_,0,(r.drop (HT.sIx xs.length 0 lo)).take (HT.sIx xs.length xs.length hi-HT.sIx xs.length 0 lo),Heap.get?_push_size _ rfl⟩
def flatV:V->Bool
 | .non=>true
 | .bl _=>true
 | .int _=>true
 | .str _=>true
 | _=>false
def eqV:V->V->Bool
 | .non,.non=>true
 | .bl a,.bl b=>a==b
 | .bl a,.int b=>(if a then 1 else 0)==b
 | .int a,.bl b=>a==(if b then 1 else 0)
 | .int a,.int b=>a==b
 | .str a,.str b=>a==b
 | _,_=>false
theorem eqAt_V{A:Around}{s:Shared}{y x:V}{u v:Value}(ry:RelV y u)(rx:RelV x v)(fy:flatV y=true)(fx:flatV x=true):SeqAt.EqAt A s u v (eqV y x):=by
 cases y with
 |non =>
  cases ry;cases x with
  |non=>cases rx;exact SeqAt.EqAt.same _
  |bl b=>cases rx;exact SeqAt.EqAt.none_bool b
  |int b=>obtain⟨t,rfl⟩:=rx;exact SeqAt.EqAt.none_int b t
  |str b=>obtain⟨t,rfl⟩:=rx;exact SeqAt.EqAt.none_str b t
  | _=>exact absurd (show false=true from fx) Bool.false_ne_true
 |bl a =>
  cases ry;cases x with
  |non=>cases rx;exact SeqAt.EqAt.bool_none a
  |bl b=>cases rx;exact SeqAt.EqAt.bool_bool a b
  |int b=>obtain⟨t,rfl⟩:=rx;exact SeqAt.EqAt.bool_int a b t
  |str b=>obtain⟨t,rfl⟩:=rx;exact SeqAt.EqAt.bool_str a b t
  | _=>exact absurd (show false=true from fx) Bool.false_ne_true
 |int a =>
  obtain⟨t',rfl⟩:=ry;cases x with
  |non=>cases rx;exact SeqAt.EqAt.int_none a t'
  |bl b=>cases rx;exact SeqAt.EqAt.int_bool a t' b
  |int b=>obtain⟨t,rfl⟩:=rx;exact SeqAt.EqAt.int_int a t' b t
  |str b=>obtain⟨t,rfl⟩:=rx;exact SeqAt.EqAt.int_str a t' b t
  | _=>exact absurd (show false=true from fx) Bool.false_ne_true
 |str a =>
  obtain⟨t',rfl⟩:=ry;cases x with
  |non=>cases rx;exact SeqAt.EqAt.str_none a t'
  |bl b=>cases rx;exact SeqAt.EqAt.str_bool a t' b
  |int b=>obtain⟨t,rfl⟩:=rx;exact SeqAt.EqAt.str_int a t' b t
  |str b=>obtain⟨t,rfl⟩:=rx;exact SeqAt.EqAt.str_str a t' b t
  | _=>exact absurd (show false=true from fx) Bool.false_ne_true
 | _=>exact absurd (show false=true from fy) Bool.false_ne_true
def eqU(x:V)(u:Value):Bool:=match u with
 | .none=>eqV .non x
 | .bool b=>eqV (.bl b) x
 | .int i _=>eqV (.int i) x
 | .str z _=>eqV (.str z) x
 | _=>false
theorem eqU_of{x y:V}{u:Value}(r:RelV y u)(f:flatV y=true):eqU x u=eqV y x:=by
 cases y with
 |non=>cases r;rfl
 |bl b=>cases r;rfl
 |int i=>obtain⟨t,rfl⟩:=r;rfl
 |str z=>obtain⟨t,rfl⟩:=r;rfl
 | _=>exact absurd (show false=true from f) Bool.false_ne_true
theorem any_eqU{x:V}:∀{xs:List V}{us:List Value},Vals xs us->xs.all flatV=true->us.any (eqU x)=xs.any fun y=>eqV y x
 | _,_,.nil,_=>rfl
 |y::xs,u::us,.cons r t,f=>by
  rw[List.all_cons,and_eq_true]at f;rw[any_cons,any_cons,eqU_of r f.1,any_eqU t f.2]
theorem mem_eqAt{A:Around}{s:Shared}{x:V}{v:Value}(rx:RelV x v)(fx:flatV x=true):∀{xs:List V}{us:List Value},Vals xs us->xs.all flatV=true-> ∀u∈us,SeqAt.EqAt A s u v (eqU x u)
 | _,_,.nil,_=>fun u hu=>by cases hu
 |y::xs,u::us,.cons r t,f=>fun u' hu=>by
  rw[List.all_cons,and_eq_true]at f;rcases mem_cons.mp hu with rfl|hu
  ·rw[eqU_of r f.1];exact eqAt_V r rx f.1 fx
  ·exact mem_eqAt rx fx t f.2 u' hu
def inV(x:V)(xs:List V):Bool:=xs.any fun y=>eqV y x
def rIn(K:W.Frag)(neg:Bool):R2:=fun x y H Q=>∃ p xs,y= .ref p/\(SqL K H p xs\/SqT K H p xs)/\flatV x=true/\xs.all flatV=true/\Q (.bl (if neg then !inV x xs else inV x xs)) H
theorem op_in_seq:OpR X (compareOp .In) (rIn X.K false):=by
 intro pins s σ H x y v u Q I rx ry h;obtain⟨p,xs,rfl,hq,fx,fs,q⟩:=h;cases ry;rcases hq with hq|hq
 ·obtain⟨its,r,pl,hz⟩:=I.list hq;refine SeqAt.in_listAt (eqU x) pl.isList (fun w hw=>mem_eqAt rx fx r fs w (by simpa using hw)) ⟨.bl _,H,I,rfl,?_⟩;rw[show its.toArray.any (eqU x)=its.any (eqU x)by simp,any_eqU r fs];exact q
 ·obtain⟨its,r,pl,hz⟩:=I.tuple hq;refine SeqAt.in_tupleAt (eqU x) pl (fun w hw=>mem_eqAt rx fx r fs w (by simpa using hw)) ⟨.bl _,H,I,rfl,?_⟩;rw[show its.toArray.any (eqU x)=its.any (eqU x)by simp,any_eqU r fs];exact q
theorem op_notIn_seq:OpR X (compareOp .NotIn) (rIn X.K true):=by
 intro pins s σ H x y v u Q I rx ry h;obtain⟨p,xs,rfl,hq,fx,fs,q⟩:=h;cases ry;rcases hq with hq|hq
 ·obtain⟨its,r,pl,hz⟩:=I.list hq;refine SeqAt.notIn_listAt (eqU x) pl.isList (fun w hw=>mem_eqAt rx fx r fs w (by simpa using hw)) ⟨.bl _,H,I,rfl,?_⟩;rw[show its.toArray.any (eqU x)=its.any (eqU x)by simp,any_eqU r fs];exact q
 ·obtain⟨its,r,pl,hz⟩:=I.tuple hq;refine SeqAt.notIn_tupleAt (eqU x) pl (fun w hw=>mem_eqAt rx fx r fs w (by simpa using hw)) ⟨.bl _,H,I,rfl,?_⟩;rw[show its.toArray.any (eqU x)=its.any (eqU x)by simp,any_eqU r fs];exact q
theorem zl:CallR X (.builtin "len") (fun xs H Q=>∃ p ys,xs=[.ref p]/\(SqL X.K H p ys\/SqT X.K H p ys)/\Q (.int ys.length) H):=by
 intro pins s σ H xs us Q I r h;obtain⟨p,ys,rfl,hq,q⟩:=h;obtain⟨u,rfl,rx⟩:=vals1 r;cases rx;have hn:=line63;rcases hq with hq|hq
 ·obtain⟨its,r',pl,hz⟩:=I.list hq;have hlen:=r'.length;exact Calls.call_len_list pl.isList (by simp only[size_toArray] <;>omega) ⟨.int ys.length,H,I.tok _,⟨s.toks+1,by rw[size_toArray,hlen]⟩,q⟩
 ·obtain⟨its,r',pl,hz⟩:=I.tuple hq;have hlen:=r'.length;exact len_tuple pl (by simp only[size_toArray] <;>omega) ⟨.int ys.length,H,I.tok _,⟨s.toks+1,by rw[size_toArray,hlen]⟩,q⟩
theorem call_list_of:CallR X (.type "list") (fun xs H Q=>∃ p ys,xs=[.ref p]/\(SqL X.K H p ys\/SqT X.K H p ys)/\ ∀l,H l=none->Q (.ref l) (upd H l (.lst ys))):=by
 intro pins s σ H xs us Q I r h;obtain⟨p,ys,rfl,hq,q⟩:=h;obtain⟨u,rfl,rx⟩:=vals1 r;cases rx;have fin:∀(its:List Value),Vals ys its->ys.length<=sizeLine-> ∀(h':Heap)(c':Nat),(∀b o',s.heap.get? b=some o'->h'.get? b=some o')->
   h'.get? s.heap.objs.size=some {cls:=.type "list",dict:=none,data:=.seq its.toArray c',slots:=#[]}->EP X pins σ Q (.ref s.heap.objs.size) {s with heap:=h'}:=fun its r' hz h' c' kp e =>
  ⟨.ref s.heap.objs.size,_,I.laid (t':=s.toks) kp (le_refl _) (show zS X.prog X.w _ h' _ (.lst ys)from⟨hz,its,c',r',e⟩),rfl,q _ (I.hok.fresh (le_refl _))⟩
 rcases hq with hq|hq
 ·obtain⟨its,r',pl,hz⟩:=I.list hq;have hlen:=r'.length;obtain⟨o,ho,hc,n,hd⟩:=pl.isList;exact call_list_seq p (.inl rfl) ho hc hd (fun h' c' kp e=>fin its r' hz h' c' kp e) (by simp only[size_toArray] <;>omega)
 ·obtain⟨its,r',pl,hz⟩:=I.tuple hq;have hlen:=r'.length;obtain⟨o,ho,hc,n,hd⟩:=pl;exact call_list_seq p (.inr rfl) ho hc hd (fun h' c' kp e=>fin its r' hz h' c' kp e) (by simp only[size_toArray] <;>omega)
theorem zA:CallR X (.type "tuple") (fun xs H Q=>∃ p ys,xs=[.ref p]/\((SqL X.K H p ys/\ ∀l,H l=none->Q (.ref l) (upd H l (.tup ys)))\/(SqT X.K H p ys/\Q (.ref p) H))):=by
 intro pins s σ H xs us Q I r h;obtain⟨p,ys,rfl,h⟩:=h;obtain⟨u,rfl,rx⟩:=vals1 r;cases rx;rcases h with⟨hq,q⟩|⟨hq,q⟩
 ·obtain⟨its,r',pl,hz⟩:=I.list hq;have hlen:=r'.length;refine call_tuple_list pl.isList (fun h' kp=>?_) (by simp only[size_toArray] <;>omega);have I1:Inv X pins σ H {s with heap:=h'}:=I.kept (t':=s.toks) kp;have I2:Inv X pins σ (upd H h'.objs.size (.tup ys)) {s with heap:=h'.push {cls:=.type "tuple",data:=.seq its.toArray}} :=
   I1.laid (t':=s.toks) (fun b o e=>Heap.get?_push_of_some _ e) (le_refl _) (show zS X.prog X.w _ _ _ (.tup ys)from⟨hz,its,r',IsTup.new _ _,tup_nodict⟩)
  exact⟨.ref h'.objs.size,_,I2,rfl,q _ (I1.hok.fresh (le_refl _))⟩
 ·obtain⟨its,r',pl,hz⟩:=I.tuple hq;exact call_tuple_same pl ⟨.ref p,H,I,rfl,q⟩
def tyV(K:W.Frag)(T:String)(x:V)(H:Hp):Prop:=match x with
 | .str _=>T="str"
 | .int _=>T="int"
 | .ref p=>(T="list"/\ ∃xs,SqL K H p xs)\/(T="tuple"/\((∃o,K.lookup p=some o/\o.cls= .type "tuple"/\o.dict=none)\/ ∃xs,H p=some (.tup xs)))\/
   (T="dict"/\((∃kvs,H p=some (.dK kvs))\/ ∃kvs,H p=some (.dT kvs)))\/(T="set"/\ ∃S n,H p=some (.set S n))
 | _=>False
theorem tyV_is{pins:List (Addr×Obj)}{σ:St}{H:Hp}{s:Shared}{T:String}{x:V}{v:Value}(I:Inv X pins σ H s)(r:RelV x v)(ty:tyV X.K T x H) :
  s.TypeIs v T/\ ∀a,v= .ref a-> ∃ob,s.heap.get? a=some ob/\ob.dict=none:=by
 cases x with
 |str z =>
  obtain⟨t,rfl⟩:=r;cases(show T="str" from ty);exact⟨typeIs_str s z t,fun _ e=>nomatch e⟩
 |int i =>
  obtain⟨t,rfl⟩:=r;cases(show T="int" from ty);exact⟨typeIs_int s i t,fun _ e=>nomatch e⟩
 |ref p =>
  cases r;rcases ty with⟨rfl,xs,hq⟩|⟨rfl,⟨o,hk,hc,hd⟩|⟨xs,hk⟩⟩|⟨rfl,hk⟩|⟨rfl,S,n,hk⟩
  ·obtain⟨its,_,pl,_⟩:=I.list hq;refine⟨pl.isList.typeIs,fun a e=>?_⟩;cases e;obtain⟨o,n,e,c,hd,_⟩:=pl;exact⟨o,e,hd⟩
  ·refine⟨⟨o,I.kIn p o hk,hc⟩,fun a e=>?_⟩;cases e;exact⟨o,I.kIn _ o hk,hd⟩
  ·obtain⟨_,_,_,⟨o,e,hc,_⟩,nd⟩:=(show zS X.prog X.w H s.heap p (.tup xs)from I.hok p _ hk);refine⟨⟨o,e,hc⟩,fun a e2=>?_⟩;cases e2;exact⟨o,e,nd o e⟩
  ·have z:∃o,s.heap.get? p=some o/\o.ExactDict:=by
    rcases hk with⟨kvs,hk⟩|⟨kvs,hk⟩
    ·obtain⟨_,_,_,_,o,_,_,e,ex,_⟩:=I.hok p _ hk;exact⟨o,e,ex⟩
    ·obtain⟨_,_,_,_,o,_,_,e,ex,_⟩:=I.hok p _ hk;exact⟨o,e,ex⟩
   obtain⟨o,e,ex⟩:=z;refine⟨⟨o,e,ex.1⟩,fun a e2=>?_⟩;cases e2;exact⟨o,e,ex.2.1⟩
  ·obtain⟨o,_,_,_,e,ex,_⟩:=I.hok p _ hk;refine⟨⟨o,e,ex.1⟩,fun a e2=>?_⟩;cases e2;exact⟨o,e,ex.2.1⟩
 | _=>exact False.elim ty
def tBM0(K:W.Frag)(T:String)(r:V->List V->Hp->VK->Prop)(to:TE):TE:=fun σ H Q=>to σ H fun x H1=>tyV K T x H1/\r x [] H1 Q
def tBM(K:W.Frag)(T:String)(r:V->List V->Hp->VK->Prop)(to:TE)(t:TA):TE:=fun σ H Q=>to σ H fun x H1=>tyV K T x H1/\t σ H1 fun xs H2=>r x xs H2 Q
variable{o e:Expr}{es:List Expr}{to:TE}{t:TA}{name:Str}{apos cpos:Pos}{T id:String}{r:V->List V->Hp->VK->Prop}
theorem pe_bm0(pa:PlainAttrs T)(slot:Slot T name id)(hty:typeOf (.builtin id)=pure (.type "method_descriptor"))(hm:MtR X id r)(ho:PE X o to)(hbase:attributeBase o name X.env (eval o X.env)=eval o X.env:=by rfl)(hline:(apos.endLine==cpos.line)=true:=by rfl):PE X (.Call (.Attribute o name apos) [] [] cpos) (tBM0 X.K T r to):=by
 intro pins s σ H Q I h;refine wpAny_Call_method0_late hbase hline (thn (ho pins s σ H _ I h) fun v s1 ⟨x,H1,I1,r1,ty,q1⟩=>?_);obtain⟨h1,h2⟩:=tyV_is I1 r1 ty;exact⟨T,id,pa,slot,hty,h1,h2,Calls.callWith_builtin rfl (PySem.evalArgs_none (hm pins s1 σ H1 x [] v [] Q I1 r1 .nil q1))⟩
theorem pe_bm(pa:PlainAttrs T)(slot:Slot T name id)(hty:typeOf (.builtin id)=pure (.type "method_descriptor"))(hm:MtR X id r)(ho:PE X o to)(ha:PA X (e::es) t)(hbase:attributeBase o name X.env (eval o X.env)=eval o X.env:=by rfl)(hfew:((backTo cpos (starEach (e::es) X.env)).all (fun x=>!x.1)&&(backToKw cpos (keywordEach [] X.env)).all (fun x=>x.1.isSome)
   &&decide ((e::es).length+([]:List Keyword).length+(if([]:List Keyword).isEmpty then 0 else 1)<30))=true:=by rfl)(hline:(apos.endLine==cpos.line)=true:=by rfl)(hs:starEach (e::es) X.env=(false,eval e X.env)::starEach es X.env:=by rfl)(hplain:(backTo cpos (starEach es X.env)).any (·.1)=false:=by rfl) :
  PE X (.Call (.Attribute o name apos) (e::es) [] cpos) (tBM X.K T r to t):=by
 intro pins s σ H Q I h;refine wpAny_Call_method_late hbase hfew hline rfl (thn (ho pins s σ H _ I h) fun v s1 ⟨x,H1,I1,r1,ty,q1⟩=>?_);obtain⟨h1,h2⟩:=tyV_is I1 r1 ty;refine⟨T,id,pa,slot,hty,h1,h2,?_⟩;have hA:=ha cpos pins s1 σ H1 _ I1 q1;rw[hs]at hA ⊢;refine Calls.callWith_builtin (by show(false||(backTo cpos (starEach es X.env)).any (·.1))=false;rw[hplain] <;>rfl) (Calls.evalArgs_plain ?_);exact thn hA fun us s2 ⟨vs,H2,I2,r2,q2⟩=>hm pins s2 σ H2 x vs v us Q I2 r1 r2 q2
/- xs.append(e),list.index on a module's tuple .. are MtR facts of 06m -/
end
def MtM(X:Cx)(id:String)(r:V->List V->Hp->VK->Prop):Prop :=
 ∀(pins:List (Addr×Obj))(s:Shared)(σ:St)(H:Hp)(x:V)(xs:List V)(v:Value)(us:List Value)(Q:VK),Inv X pins σ H s->RelV x v->Vals xs us->r x xs H Q->
  wpAny (model X.prog X.w) X.A (call (.builtin id) (v::us)) (EP X pins σ Q) X.xe s
theorem Vals.one:∀{x:V}{us:List Value},Vals [x] us-> ∃u,us=[u]/\RelV x u
 | _,_,.cons r .nil=>⟨_,rfl,r⟩
theorem Vals.zero:∀{us:List Value},Vals [] us->us=[]
 | _,.nil=>rfl
theorem Vals.eraseIdx:∀{xs:List V}{us:List Value}(i:Nat),Vals xs us->Vals (xs.eraseIdx i) (us.eraseIdx i)
 | _,_,_,.nil=>.nil
 | _,_,0,.cons _ t=>t
 | _,_,i+1,.cons r t=>.cons r (Vals.eraseIdx i t)
theorem Vals.rep{xs:List V}{us:List Value}(h:Vals xs us):∀k:Nat,Vals (replicate k xs).flatten (replicate k us).flatten
 | 0=>.nil
 |k+1=>by
  rw[List.replicate_succ,List.replicate_succ,flatten_cons,flatten_cons];exact Vals.append h (Vals.rep h k)
theorem len_erase{α:Type}:∀(l:List α)(i:Nat),(l.eraseIdx i).length<=l.length
 | [],_=>le_refl _
 | _::_,0=>le_succ _
 | _::r,i+1=>Nat.succ_le_succ (len_erase r i)
theorem foldl_rep(its:List Value):∀(k:Nat)(acc:List Value),
  List.foldl (fun x1 x2=>x1++x2) acc.toArray (replicate k its.toArray)=(acc++(replicate k its).flatten).toArray
 | 0,acc=>by simp
 |k+1,acc=>by
  have e:acc.toArray++its.toArray=(acc++its).toArray:=by simp
  have e2:(acc++its)++(replicate k its).flatten=acc++(replicate (k+1) its).flatten:=by
   rw[List.replicate_succ,flatten_cons,append_assoc]
  rw[<-e2,<-foldl_rep its k (acc++its),<-e,List.replicate_succ,List.foldl_cons]
section
variable{X:Cx}{pins:List (Addr×Obj)}{σ:St}{H:Hp}{s:Shared}{l b:Addr}{xs ys zs:List V}
theorem Inv.lset{its its':List Value}{n:Nat}{f:Array Value->Array Value}{t':Nat}(I:Inv X pins σ H s)(hH:H l=some (.lst xs))(e:s.heap.get? l=some {cls:=.type "list",data:=.seq its.toArray n})(hf:f its.toArray=its'.toArray)(hv:Vals ys its')(hz:ys.length<=sizeLine) :
  Inv X pins σ (upd H l (.lst ys)) {s with heap:=s.heap.update l (Obj.mapSeq f),toks:=t'}:=by
 have q:=PySem.IsL.update e f;rw[hf]at q;refine I.write (x:=l) (e:=l) (by rw[hH];exact trivial) (.inl rfl) (fun b' u hb hu=>(Heap.get?_update_other s.heap (Obj.mapSeq f) (Ne.symm hb)).trans hu) ⟨_,q⟩ ?_;exact⟨hz,its',_,hv,q⟩
theorem Inv.lnew{its:List Value}{t':Nat}(I:Inv X pins σ H s)(hv:Vals ys its)(hz:ys.length<=sizeLine) :
  Inv X pins σ (upd H s.heap.objs.size (.lst ys)) {s with heap:=s.heap.push {cls:=.type "list",data:=.seq its.toArray},toks:=t'} :=
 I.laid (fun _ _ q=>Heap.get?_push_of_some _ q) (le_refl _) ⟨hz,its,0,hv,Heap.get?_push_size _ rfl⟩
theorem Inv.fresh(I:Inv X pins σ H s):H s.heap.objs.size=none:=I.hok.fresh (le_refl _)
theorem Inv.lstM(I:Inv X pins σ H s)(hH:H l=some (.lst xs)):xs.length<=sizeLine/\ ∃(its:List Value)(n:Nat),Vals xs its/\xs.length=its.length/\s.heap.get? l=some {cls:=.type "list",data:=.seq its.toArray n}:=by
 obtain⟨z,its,n,r,e⟩:=I.hok l _ hH;exact⟨z,its,n,r,r.length,e⟩
theorem notLongL{n:Nat}(h:n<=sizeLine):Builtin.List.listTooLong n=false:=by
 unfold Builtin.List.listTooLong;exact decide_eq_false (by omega)
end
section
variable{X:Cx}
def rAppend:V->List V->Hp->VK->Prop:=fun x vs H Q=>∃ l xs y,x= .ref l/\vs=[y]/\H l=some (.lst xs)/\xs.length<sizeLine/\Q .non (upd H l (.lst (xs++[y])))
theorem zZ:MtM X "list.append" rAppend:=by
 intro pins s σ H x vs v us Q I rx rv h;obtain⟨l,xs,y,rfl,rfl,hH,hz,q⟩:=h;cases rx;obtain⟨u,rfl,ru⟩:=rv.one;obtain⟨z,its,n,r,hl,e⟩:=I.lstM hH;refine call_meets F.slot_list_append ⟨_,e,rfl⟩ F.entry_list_append (F.args_list_append_2 _ _) (PySem.list_append l its.toArray n u (by rw[size_toArray];omega)) ⟨e,?_⟩;refine⟨.non,_,I.lset (its':=its++[u]) hH e (by simp) (r.append (.cons ru .nil)) ?_,rfl,q⟩;rw[length_append,List.length_singleton];omega
def rExtend:V->List V->Hp->VK->Prop:=fun x vs H Q=>∃ l b xs zs,x= .ref l/\vs=[.ref b]/\H l=some (.lst xs)/\H b=some (.lst zs)/\xs.length+zs.length<=sizeLine/\Q .non (upd H l (.lst (xs++zs)))
theorem mt_extend:MtM X "list.extend" rExtend:=by
 intro pins s σ H x vs v us Q I rx rv h;obtain⟨l,b,xs,zs,rfl,rfl,hH,hB,hz,q⟩:=h;cases rx;obtain⟨u,rfl,ru⟩:=rv.one;cases ru;obtain⟨z,its,n,r,hl,e⟩:=I.lstM hH;obtain⟨z2,its2,n2,r2,hl2,e2⟩:=I.lstM hB;have hsz:its.toArray.size+its2.toArray.size<=sizeLine:=by rw[size_toArray,size_toArray];omega
 have hlong:¬(!its.toArray.isEmpty&&Builtin.List.listTooLong (its.toArray.size+its2.toArray.size))=true:=by
  rw[notLongL hsz,Bool.and_false];exact Bool.false_ne_true
 refine call_meets F.slot_list_extend ⟨_,e,rfl⟩ F.entry_list_extend (F.args_list_extend_2 _ _)
  (AutoSeq1.list_extend_list_list_0 l its.toArray n b its2.toArray n2 hlong (by rw[size_toArray];omega) (by omega)) ⟨e,e2,?_⟩
 refine⟨.non,_,I.lset (its':=its++its2) hH e (by simp) (r.append r2) ?_,rfl,q⟩;rw[length_append];omega
def rPopAt:V->List V->Hp->VK->Prop:=fun x vs H Q=>∃ l xs i k y,x= .ref l/\vs=[.int i]/\H l=some (.lst xs)/\ -(2^63)<=i/\i<2^63/\seqIndex? i xs.length=some k/\xs[k]? =some y/\Q y (upd H l (.lst (xs.eraseIdx k)))
theorem mt_popAt:MtM X "list.pop" rPopAt:=by
 intro pins s σ H x vs v us Q I rx rv h;obtain⟨l,xs,i,k,y,rfl,rfl,hH,h1,h2,hk,hy,q⟩:=h;cases rx;obtain⟨u,rfl,ru⟩:=rv.one;obtain⟨t,rfl⟩:=ru;obtain⟨z,its,n,r,hl,e⟩:=I.lstM hH;obtain⟨w,hw,rw'⟩:=r.get hy;refine call_meets F.slot_list_pop ⟨_,e,rfl⟩ F.entry_list_pop (F.args_list_pop_2 _ _)
  (MeetsSeq.list_pop_at l its.toArray n i t k w (fitsIndex_both h1 h2) (by rw[size_toArray,<-hl];exact hk) (by rw[<-Array.getElem?_toList];exact hw) (by rw[size_toArray];omega)) ⟨e,?_⟩
 refine⟨y,_,I.lset (its':=its.eraseIdx k) hH e ?_ (r.eraseIdx k) ?_,rw',q⟩
 ·show its.toArray.eraseIdxIfInBounds k=(its.eraseIdx k).toArray;rw[List.eraseIdxIfInBounds_toArray]
 ·have:=len_erase xs k;omega
def rClear:V->List V->Hp->VK->Prop:=fun x vs H Q=>∃ l xs,x= .ref l/\vs=[]/\H l=some (.lst xs)/\Q .non (upd H l (.lst []))
theorem mt_clear:MtM X "list.clear" rClear:=by
 intro pins s σ H x vs v us Q I rx rv h;obtain⟨l,xs,rfl,rfl,hH,q⟩:=h;cases rx;have hus:=rv.zero;subst hus;obtain⟨z,its,n,r,hl,e⟩:=I.lstM hH;refine call_meets F.slot_list_clear ⟨_,e,rfl⟩ F.entry_list_clear (F.args_list_clear_1 _) (AutoSeq1.list_clear_list_0 l its.toArray n (by rw[size_toArray];omega)) ⟨e,?_⟩;exact⟨.non,_,I.lset (its':=[]) (ys:=[]) hH e rfl .nil (zero_le _),rfl,q⟩
def rCat:R2:=fun x y H Q=>∃ l b xs zs,x= .ref l/\y= .ref b/\H l=some (.lst xs)/\H b=some (.lst zs)/\xs.length+zs.length<=sizeLine/\ ∀p,H p=none->Q (.ref p) (upd H p (.lst (xs++zs)))
theorem op_cat:OpR X (binaryOp .Add) rCat:=by
 intro pins s σ H x y v u Q I rx ry h;obtain⟨l,b,xs,zs,rfl,rfl,hH,hB,hz,q⟩:=h;cases rx;cases ry;obtain⟨z,its,n,r,hl,e⟩:=I.lstM hH;obtain⟨z2,its2,n2,r2,hl2,e2⟩:=I.lstM hB;refine PySem.P.add_list e e2 ?_ (by rw[size_toArray,size_toArray];omega);have ea:its.toArray++its2.toArray=(its++its2).toArray:=by simp
 rw[ea];exact⟨.ref _,_,I.lnew (t':=s.toks) (r.append r2) (by rw[length_append];omega),rfl,q _ I.fresh⟩
def rRep:R2:=fun x y H Q=>∃ l k xs,x= .ref l/\y= .int k/\H l=some (.lst xs)/\ -(2^63)<=k/\k<2^63/\xs.length*k.toNat<=sizeLine/\
 ∀p,H p=none->Q (.ref p) (upd H p (.lst (replicate k.toNat xs).flatten))
theorem len_rep{α:Type}(xs:List α)(k:Nat):(replicate k xs).flatten.length=k*xs.length:=by
 induction k with
 |zero=>simp
 |succ k ih=>rw[List.replicate_succ,flatten_cons,length_append,ih,Nat.succ_mul,Nat.add_comm]
theorem op_rep:OpR X (binaryOp .Mult) rRep:=by
 intro pins s σ H x y v u Q I rx ry h;obtain⟨l,k,xs,rfl,rfl,hH,h1,h2,hz,q⟩:=h;cases rx;obtain⟨t,rfl⟩:=ry;obtain⟨z,its,n,r,hl,e⟩:=I.lstM hH;have hlen:its.toArray.size*k.toNat<=sizeLine:=by rw[size_toArray,<-hl];exact hz
 have hcap:¬its.toArray.size*k.toNat>(2^63-1) / 8:=by
  have:(sizeLine:Nat)<=(2^63-1) / 8:=by decide
  omega
 have hfit:¬(!Builtin.List.listFitsIndex k)=true:=by
  rw[fitsIndex_both h1 h2];exact Bool.false_ne_true
 have hlong:¬Builtin.List.listTooLong (its.toArray.size*k.toNat)=true:=by
  rw[notLongL hlen];exact Bool.false_ne_true
 have hnew:List.foldl (fun x1 x2=>x1++x2) #[] (replicate (if its.toArray.isEmpty=true then 0 else k.toNat) its.toArray)=(replicate k.toNat its).flatten.toArray:=by
  have f0:∀m:Nat,List.foldl (fun x1 x2=>x1++x2) #[] (replicate m its.toArray)=(replicate m its).flatten.toArray:=fun m=>by
   have:=foldl_rep its m [];rw[List.nil_append]at this;exact this
  rw[f0];cases its with
  |nil=>simp
  |cons a r'=>rw[if_neg (by simp)]
 refine wpAny_binaryOp_repeat_ref (T :="list") (U :="int") (by decide) ⟨_,e,rfl⟩ (fun s'=>typeIs_int s' k t) noFill_list_mul F.fills_int_mul F.slot_int_rmul repeat_list F.slot_int_index.lookup
  (call_meets F.slot_int_rmul (typeIs_int s k t) F.entry_int_rmul (F.args_int_rmul_2 _ _) (int___rmul___int_list k t l its.toArray n)
   ⟨e,rfl,⟨_,e,rfl⟩,call_meets F.slot_list_mul ⟨_,e,rfl⟩ F.entry_list_mul (F.args_list_mul_2 _ _) (AutoListH.list___mul___list_int_3 l its.toArray n k t hfit hcap hlong) ⟨e,?_⟩⟩)
 rw[hnew];exact⟨.ref _,_,I.lnew (t':=s.toks) (r.rep k.toNat) (by rw[len_rep,Nat.mul_comm];exact hz),rfl,q _ I.fresh⟩
end
end L2
namespace Att
open PySem PySem.W PySem.Calls PyProof.Rows
theorem ints_of_wellAll{P:Params}{h:Heap}:∀(ns:List Int)(vs:List Value),WellAll P h vs (ns.map WData.int)->IntsAre vs ns:=by
 intro ns
 induction ns with
 |nil =>
  intro vs w;rw[List.map_nil]at w;cases w;exact .nil
 |cons n ns ih =>
  intro vs w;rw[map_cons]at w;cases w with
  |cons a b =>
   cases a;exact .cons _ _ (ih _ b)
theorem script_of{l:OpenLaw}{n:Nat}(hn:l.most=some n){P:Params}{h:Heap}{args:List WData}{vals:List Value}(hpre:l.row.toRowW.claim.pre args=true)(hwl:WellAll P h vals args) :
  ∃a vs ns,vals=[Value.ref a]/\args=[WData.list (ns.map WData.int)]/\h.get? a=some {cls:=.type "list",data:=.seq vs.toArray}/\IntsAre vs ns/\ns.length<=n:=by
 have hsh:WShape.hasAll [] args [.list .int]=true:=(pre_splitW hpre).1;have hc:l.pre.holds [] {args:=args}=true:=(pre_splitW hpre).2;obtain⟨d,r,rfl,h1,h2⟩:=hasAllW_cons hsh;obtain rfl:=hasAllW_nil h2;obtain⟨xs,rfl,h3⟩:=hasW_list h1;obtain⟨ns,rfl⟩:=items_int h3;have hlen:ns.length<=n:=by
  unfold OpenLaw.pre at hc;have h4:(WTm.not (.lt (.lit (.int (n:Int))) (.len (.arg 0)))).holds [] {args:=[.list (ns.map .int)]}=true:=by
   have h4:=(holds_andW hc).1;rw[hn]at h4;exact h4
  have h5:=condW_of h4 (w_not (w_lt w_lit (w_len_list (w_arg rfl))));rw[length_map]at h5;refine Nat.le_of_not_lt fun q=>?_;have q':(n:Int)<((ns.length:Nat):Int):=by omega
  first
   |(rw[decide_eq_true q']at h5;exact absurd h5 (by decide))
   |(simp at h5;omega)
 cases hwl with
 |cons w1 w2 =>
  cases w2;cases w1 with
  |list ho hall=>exact⟨_,_,ns,rfl,rfl,ho,ints_of_wellAll ns _ hall,hlen⟩
theorem post_true(l:OpenLaw)(args:List WData):l.row.toRowW.claim.post args (.bool true) args=true :=
 postW_of (r:=l.row.toRowW) (X:=(true==true))
  (show WShape.has [] (.bool true) .bool=true by first|rfl|decide|simp[WShape.has,WShape.arms,WShape.armsAll])
  (show(WTm.eq .res (.lit (.bool true))).value [] {args:=args,res:=some (.bool true),after:=args}=some (.bool (true==true))from w_eq_bool (w_res rfl) w_lit) rfl
theorem attach_call{l:OpenLaw}{n:Nat}{q:Program}{loose:List Str}{XP:(Str->Option Value)->Heap->Prop}{YP:World->Heap->Prop}{d:DefRec}(hn:l.most=some n)(hdf:d.params.defaults=[])(call:∀(w:World) (s₀ s₁:Shared) (mg mb:Str->Option Value) (fa:Addr) (o:Obj) (pm cd doc:Value) (a:Addr) (vs:List Value) (ns:List Int),
   Ground q loose [] XP w s₀ mg mb s₁.heap->YP w s₁.heap->
   s₁.heap.get? fa=some o->o.data= .func (docDef d.name d.params d.body d.scope pm cd doc)->s₁.heap.CodeRec cd d.name->mg d.name=some (.ref fa)->
   s₁.heap.get? a=some {cls:=.type "list",data:=.seq vs.toArray}->IntsAre vs ns->ns.length<=n->s₁.gens= #[]->
   codeAny (model l.prog w) callerA (.call (.ref fa) ⟨[.ref a],[]⟩) (fun r s'=>r= .ok (.ret (.bool true))/\OldK s₁.heap s'.heap/\s'.os=s₁.os/\AllBare s'.gens) s₁) :
  WalkO q loose XP YP l.row.toRowW d [] (fun f vs=>PySem.call f vs):=by
 intro w s₀ s₁ mg mb G Y fa o pm cd doc dV kV ho hd hcd hD hmg hg args vals as hpre hlay hrd hwl hlo;obtain rfl:dV= .none:=Dflts.none hD hdf;obtain rfl:kV= .none:=Dflts.noKw hD;obtain⟨a,vs,ns,rfl,rfl,hobj,hints,hlen⟩:=script_of hn hpre hwl;refine enter_call (codeAny_mono (call w s₀ s₁ mg mb fa o pm cd doc a vs ns G Y ho (fd_plain hd) hcd hmg hobj hints hlen hg) fun r s' hq=>?_);obtain⟨rfl,h2,h3,h4⟩:=hq;exact⟨.inl ⟨.bool true,.bool true,[],rfl,fun _=>rfl,.bool true,post_true l _,fun _=>⟨List.Pairwise.nil,fun _ hm=>(nomatch hm)⟩⟩,h2,h3,h4⟩
section
variable{prog:Program}{w:World}{A:Around}{E:Value->Shared->Prop}{s:Shared}{K:Frag}
def ledger(h:Heap)(L d:Addr):List (Addr×Obj):=(List.range h.objs.size).filterMap fun a=>if a=L\/a=d then none else(h.get? a).map fun o=>(a,o)
end
end Att
namespace L2
open PySem PySem.Spec PyProof.Rows
theorem vals_ints:∀{vs:List Value}{ns:List Int},IntsAre vs ns->Vals (ns.map V.int) vs
 | _,_,.nil=>.nil
 | _,_,.cons n t h=>.cons ⟨t,rfl⟩ (vals_ints h)
def Only(H:Hp):Prop:=∀ b,H b=none\/ ∃o xs,H b=some (.frz o (.lst xs))
theorem law_call{P:Program}{w:World}{K:W.Frag}{mg mb:Str->Option Value}{CX:CXT}{k:Nat}{fa a:Addr}{fd:FuncData}{x:Str}{sp:Sp}{s₁:Shared}{vs:List Value}{ns:List Int}(KX:K.In s₁.heap)(hns:s₁.heap.Ns mainGlobals mg)(hb:s₁.heap.Ns builtinsNs mb)(hbb:∀x:Str,x≠"__name__"->mb x=bootBuiltins x)(hlim:s₁.heap.NoLimit)(hg:s₁.gens= #[])(ha:s₁.heap.get? a=some {cls:=.type "list",data:=.seq vs.toArray})(hi:IntsAre vs ns)(hl:ns.length<=sizeLine)(hr:Room k callerA)(F:∀base:Heap,K.In base->base.Ns mainGlobals mg->FnOk P w K mg base CX k fa fd [x] sp)(hbind:∀(s:Shared) (u:Value),BindsTo s fd ⟨[u],[]⟩ [(x,u)])(hsp:∀H:Hp,Only H->SqL K H a (ns.map V.int)->sp [.ref a] H (fun v _=>v= .bl true) fun _ _ _=>False)(hCX:∀H e s',CX [] H s₁ (fun _ _ _=>False) e s'->False) :
  codeAny (model P w) callerA (.call (.ref fa) ⟨[.ref a],[]⟩) (fun r s'=>r= .ok (.ret (.bool true))/\OldK s₁.heap s'.heap/\s'.os=s₁.os/\AllBare s'.gens) s₁:=by
 have rv:=vals_ints hi;have lenV:=hi.length
 -- from an abstract heap in which nothing but the script may be tracked
 have core:∀H:Hp,Only H->SqL K H a (ns.map V.int)->HOk P w H s₁.heap->(∀b,H b≠none->b=a)->(H a≠none->K.lookup a=none)->
   codeAny (model P w) callerA (.call (.ref fa) ⟨[.ref a],[]⟩) (fun r s'=>r= .ok (.ret (.bool true))/\OldK s₁.heap s'.heap/\s'.os=s₁.os/\AllBare s'.gens) s₁:=by
  intro H hO hS hok hA hK;have base_of:∀{b:Addr}{o:Obj},s₁.heap.get? b=some o->H b=none->(hidT s₁.heap H).get? b=some o:=fun e n=>hidT_get e n;have noA:∀{b:Addr}{o:Obj}{es:Array DictEntry}{ep:Nat},s₁.heap.get? b=some o->o.data= .dict es ep->H b=none:=fun{b o es ep} e d=>by
   cases q:H b with
   |none=>rfl
   |some u =>
    have e':b=a:=hA b (by rw[q];simp);subst e';rw[ha]at e;cases e;have d':Data.seq vs.toArray _=Data.dict es ep:=d;cases d'
  have nsK:∀{b:Addr}{m:Str->Option Value},s₁.heap.Ns b m->(hidT s₁.heap H).Ns b m:=fun{b m} ⟨o,es,ep,e,d,r⟩=>⟨o,es,ep,base_of e (noA e d),d,r⟩;have hKb:K.In (hidT s₁.heap H):=fun b o e=>base_of (KX b o e) (by
   cases q:H b with
   |none=>rfl
   |some u =>
    have e':b=a:=hA b (by rw[q];simp);subst e';rw[hK (by rw[q];simp)]at e;cases e)
  have hM:Mod K mg (hidT s₁.heap H):=⟨hKb,nsK hns,⟨mb,nsK hb,hbb⟩,let⟨mc,h1,h2⟩:=hlim;⟨mc,nsK h1,h2⟩⟩;have e0:Env0 P w K mg (hidT s₁.heap H) callerA [] s₁ H:=⟨rfl,hM,fun b o e=>of_hidT e,Nat.le_of_eq (hidT_size _ _),trivial,fun b hb=>absurd (show b∈([]:List Addr)from hb) (by simp),hok,.of_eq hg⟩;refine codeAny_mono ((F _ hKb (nsK hns)).run callerA [] s₁ H ⟨[.ref a],[]⟩ [.ref a] [.ref a] _ _ hr e0 (hbind s₁ (.ref a)) (.cons rfl .nil) (hsp H hO hS)) fun r s' h=>?_;cases r with
  |error e=>exact(hCX H e s' h).elim
  |ok fl =>
   cases fl with
   |next=>exact False.elim h
   |brk=>exact False.elim h
   |cont=>exact False.elim h
   |ret u =>
    obtain⟨v,H',os,bare,un,hok',r',q⟩:=h;have q':v= .bl true:=q;subst q';obtain rfl:u=Value.bool true:=r';refine⟨rfl,OldK.of_keep fun b o e=>?_,os,bare⟩;cases q:H b with
    |none=>exact un.keep b o e q (by intro z;exact absurd (show b∈([]:List Addr)from z) (by simp)) (by simp)
    |some u =>
     rcases hO b with z|⟨ob,xs,z⟩
     ·rw[q]at z;cases z
     ·have z2:=un.frzs b ob _ z;obtain⟨e1,_⟩:=hok b _ z;obtain⟨e2,_⟩:=hok' b _ z2;rw[e]at e1;cases e1;exact e2
 cases hk:K.lookup a with
 |some o =>
  -- the script is one of the module's own objects
  have e:=KX a o hk;rw[ha]at e;cases e;refine core (fun _=>none) (fun _=>.inl rfl) (.inr ⟨_,vs.toArray,_,hk,rfl,rfl,rfl,by rw[size_toArray,lenV];exact hl,by simpa using rv⟩) (fun b u z=>by have z':(none:Option HO)=some u:=z;cases z') (fun b z=>absurd rfl z) fun z=>absurd rfl z
 |none =>
  refine core (fun b=>if b=a then some (.frz {cls:=.type "list",data:=.seq vs.toArray} (.lst (ns.map V.int)))else none) (fun b=>?_) (.inl (.inr ⟨{cls:=.type "list",data:=.seq vs.toArray},if_pos rfl⟩)) (fun b u z=>?_) (fun b z=>?_) fun _=>hk
  ·by_cases hb:b=a
   ·exact .inr ⟨_,_,if_pos hb⟩
   ·exact .inl (if_neg hb)
  ·by_cases hb:b=a
   ·have z':=(if_pos hb).symm.trans z;cases z';subst hb;exact⟨ha,by rw[length_map];exact hl,vs,_,rv,ha⟩
   ·have z':=(if_neg hb).symm.trans z;cases z'
  ·by_cases hb:b=a
   ·exact hb
   ·exact absurd (if_neg hb) z
theorem walk_of{l:W.OpenLaw}{n k:Nat}{q:Program}{loose:List Str}{XP:(Str->Option Value)->Heap->Prop}{YP:World->Heap->Prop}{d:DefRec}{K:Params->W.Frag}{CX:World->CXT}{sp:World->Sp}{x:Str}(hn:l.most=some n)(hn2:n<=sizeLine)(hdf:d.params.defaults=[])(hr:Room k callerA)(hY:∀(w:World) (h:Heap),YP w h->(K w.params).In h)(F:∀(w:World) (mg:Str->Option Value) (fa:Addr) (h:Heap),(K w.params).In h->h.Ns mainGlobals mg->mg d.name=some (.ref fa)->
   ∃fd:FuncData,(∀(s:Shared) (u:Value),BindsTo s fd ⟨[u],[]⟩ [(x,u)])/\
    ∀base:Heap,(K w.params).In base->base.Ns mainGlobals mg->FnOk l.prog w (K w.params) mg base (CX w) k fa fd [x] (sp w))(hsp:∀(w:World) (H:Hp) (a:Addr) (ns:List Int),ns.length<=n->Only H->SqL (K w.params) H a (ns.map V.int)->sp w [.ref a] H (fun v _=>v= .bl true) fun _ _ _=>False)(hCX:∀(w:World) (H:Hp) (s:Shared) (e:Value) (s':Shared),CX w [] H s (fun _ _ _=>False) e s'->False) :
  W.WalkO q loose XP YP l.row.toRowW d [] (fun f vs=>PySem.call f vs):=by
 refine Att.attach_call hn hdf fun w s₀ s₁ mg mb fa o pm cd doc a vs ns G Y ho hd hcd hmg hobj hints hlen hg=>?_;have KX:=hY w _ Y;obtain⟨fd,hb,hF⟩:=F w mg fa _ KX G.T.g hmg;exact law_call KX G.T.g G.T.b G.T.builtins G.T.nolimit hg hobj hints (le_trans hlen hn2) hr hF hb (fun H hO hS=>hsp w H a ns hlen hO hS) fun H e s'=>hCX w H s₁ e s'
end L2
/- THE LAST THEOREM (shape;LID,My.* are yours):
  My.Adr: a structure of the addresses that your layer names (classes,functions);My.Txt K t: a structure (Prop) of the equations over K;
  My.txt_mk:{K} {implicit addresses ..} (e1:nsIn K mainGlobals "law"=some (some (.ref f))) (e2:K.lookup f=some ⟨oc,od,.func (fnOf "law" "law" params body scope dV kV doc pm an cdv ct),sl⟩) (e3:codeIn K cdv "law"=true) ..:∃t,My.Txt K t
(the tactic k_is has no namespace: write k_is) -/
namespace L2
open PySem PySem.Spec PyProof.Rows
def inClass(s:Stmt)(j:Nat):Stmt:=match s with
 | .ClassDef _ _ _ body _ _ _ _ _ _ _=>body.getD j (.Pass ⟨0,0,0,0⟩)
 | _=>.Pass ⟨0,0,0,0⟩
def yx(s:Stmt):Arguments:=match s with
 | .FunctionDef _ a _ _ _ _ _ _ _ _=>a
 | _=>{posonlyargs:=[],args:=[],vararg:=none,kwonlyargs:=[],kw_defaults:=[],kwarg:=none,defaults:=[]}
def yh(s:Stmt):List Stmt:=match s with
 | .FunctionDef _ _ b _ _ _ _ _ _ _=>b
 | _=>[]
def z6(s:Stmt):Scope:=match s with
 | .FunctionDef _ _ _ _ _ _ sc _ _ _=>sc
 | _=>{kind:=.function,names:=[],isGenerator:=false,isCoroutine:=false}
abbrev CX0:CXT:=fun _ _ _ _ _ _=>False
abbrev E0:XK:=fun _ _ _=>False
theorem pass0{X:Cx}:Passes CX0 X E0:=fun _ _ _ _ _ _ _ h=>h.elim
structure Fun(K:W.Frag)(x qual:Str)(st:Stmt)(f:Addr)(fd:FuncData):Prop where
 ex:∃(oc:Value)(od:Option Addr)(kV doc pm:Value)(an:Option Addr)(cdv ct:Value)(osl:Array (Option Value)),
  fd=W.fnOf x qual (yx st) (yh st) (z6 st) .none kV doc pm an cdv ct/\K.lookup f=some ⟨oc,od,.func fd,osl⟩/\W.codeIn K cdv qual=true
 kp:W.keepIn K (.ref f)=true
section
variable{P:Program}{w:World}{K:W.Frag}{mg:Str->Option Value}{base:Heap}
theorem Fun.ok{x qual:Str}{st:Stmt}{f:Addr}{fd:FuncData}{N ps:List Str}{k:Nat}{sp:Sp}{cm:Bool}(F:Fun K x qual st f fd)(S:FnScope N ps (z6 st))(len:∀vs H Q E,sp vs H Q E->vs.length=ps.length)(hbody:∀(cdv:Value) (A:Around) (outer:List Env) (s:Shared) (H:Hp) (vs:List V) (Q:VK) (E:XK),Room k (A.deeper (envOfC qual (z6 st) s.heap.objs.size f cdv)) cm->sp vs H Q E->
   ∃t,PSs (cxOf CX0 P w K mg base N qual (z6 st) f cdv A outer s H E cm).nox (yh st) t/\t {nx:=fun _ H'=>Q .non H',rt:=Q} (start N vs) H):FnOk P w K mg base CX0 (k+1) f fd ps sp cm:=by
 obtain⟨oc,od,kV,doc,pm,an,cdv,ct,osl,rfl,lk,hcd⟩:=F.ex;refine fn_of lk hcd S len fun A outer s H vs Q E hr hsp=>?_;obtain⟨t,h,q⟩:=hbody cdv A outer s H vs Q E hr hsp;exact⟨t,h.nox,q⟩
theorem Fun.binds{x qual:Str}{st:Stmt}{f:Addr}{fd:FuncData}{ps:List Str}(F:Fun K x qual st f fd)(h:∀(kV doc pm:Value) (an:Option Addr) (cdv ct:Value) (us:List Value),us.length=ps.length->bindArgs (W.fnOf x qual (yx st) (yh st) (z6 st) .none kV doc pm an cdv ct) ⟨us,[]⟩=pure (ps.zip us)):Binds K fd ps []:=by
 obtain⟨oc,od,kV,doc,pm,an,cdv,ct,osl,rfl,lk,hcd⟩:=F.ex;exact .all (h kV doc pm an cdv ct)
theorem fun_mk{x qual:Str}{st:Stmt}{f:Addr}{oc:Value}{od an:Option Addr}{osl:Array (Option Value)}{kV doc pm cdv ct:Value}(l:K.lookup f=some ⟨oc,od,.func (W.fnOf x qual (yx st) (yh st) (z6 st) .none kV doc pm an cdv ct),osl⟩)(c:W.codeIn K cdv qual=true)(k:W.keepIn K (.ref f)=true):Fun K x qual st f (W.fnOf x qual (yx st) (yh st) (z6 st) .none kV doc pm an cdv ct):=⟨⟨oc,od,kV,doc,pm,an,cdv,ct,osl,rfl,l,c⟩,k⟩
end
section
variable{X:Cx}
theorem pv(i:Nat){x:Str}{pos:Pos}(hN:X.N[i]? =some x:=by rfl)(hv:Vis X.env.scope x:=by first|exact Or.inl rfl|exact Or.inr (Or.inl rfl)|exact Or.inr (Or.inr rfl))(hd:(x==("__debug__" : Str))=false:=by decide)(hcd:(x==("__classdict__" : Str))=false:=by decide):PE X (.Name x pos) (tVar i):=pe_var hN hv hd hcd
end
theorem iteF{A B:Prop}(h:B):if false=true then A else B:=by
 rw[if_neg Bool.false_ne_true];exact h
theorem iteT{A B:Prop}(h:A):if true=true then A else B:=by
 rw[if_pos rfl];exact h
theorem ite2{c A B:Prop}[Decidable c](h1:c->A)(h2:¬c->B):if c then A else B:=by
 by_cases h:c
 ·rw[if_pos h];exact h1 h
 ·rw[if_neg h];exact h2 h
theorem iteNS{c A B:Prop}[Decidable c](hc:c)(h:B):if(!decide c)=true then A else B:=by
 rw[decide_eq_true hc];exact iteF h
def Same(H H':Hp):Prop:=∀ b o,H b=some o->H' b=some o
theorem Same.refl(H:Hp):Same H H:=fun _ _ h=>h
theorem Same.trans{H H1 H2:Hp}(a:Same H H1)(b:Same H1 H2):Same H H2:=fun c o h=>b c o (a c o h)
theorem Same.free{H H':Hp}(e:Same H H'){l:Addr}(h:H' l=Option.none):H l=Option.none:=by
 cases q:H l with
 |none=>rfl
 |some o =>
  rw[e l o q]at h;cases h
theorem Same.seq{K:W.Frag}{H H':Hp}{a:Addr}{xs:List V}(e:Same H H')(h:SqL K H a xs):SqL K H' a xs:=by
 rcases h with(h|⟨o,h⟩)|h
 ·exact .inl (.inl (e _ _ h))
 ·exact .inl (.inr ⟨o,e _ _ h⟩)
 ·exact .inr h
section
variable{prog:Program}{w:World}{A:Around}{R:Result->Shared->Prop}{s:Shared}
theorem comp_loop_any{elt target iter:Expr}{ifs:List Expr}{scope:Scope}{pos:Pos}{it acc:Value}{env:Env}(I:Nat->Shared->Prop)(turn:∀n s,I n s->wpAny (model prog w) A (pyNext it) (fun r s₁=>match r with
   |none=>R (.ok .next) s₁
   |some v=>wpAny (model prog w) A (letOwnedTupleGo target it v) (fun _ s₁'=>wpAny (model prog w) A (assign target env v) (fun _ s₂ =>
     wpAny (model prog w) A (forIn ifs true fun c r=>if r=true then do let ok <-isTrue c env (eval c env);pure (ForInStep.yield ok)else pure (ForInStep.yield r)) (fun ok s₃ =>
      if ok=true then wpAny (model prog w) A (eval elt env) (fun x s₄ =>
       wpAny (model prog w) A (call (.builtin "list.append") [acc,x]) (fun _ s₅=>∃ m,m<n/\I m s₅) (notedBy (model prog w) A env fun e s'=>R (.error e) s') s₄) (notedBy (model prog w) A env fun e s'=>R (.error e) s') s₃
      else ∃m,m<n/\I m s₃) (notedBy (model prog w) A env fun e s'=>R (.error e) s') s₂) (notedBy (model prog w) A env fun e s'=>R (.error e) s') s₁') (notedBy (model prog w) A env fun e s'=>R (.error e) s') s₁) (notedBy (model prog w) A env fun e s'=>R (.error e) s') s)(n:Nat)(h:I n s) :
  codeAny (model prog w) A (.compLoop (.ListComp elt [⟨target,iter,ifs,0⟩] scope pos) 0 it acc env) R s:=by
 refine codeAny_loop rfl I (fun n s hI=>?_) n h;show wpAny _ A ((compTurn (.ListComp elt [⟨target,iter,ifs,0⟩] scope pos) 0 it acc env).onRaise (fun x=>do noteFrame x env;theTreesLotGoes x)) _ _ s;refine wpAny_noted ?_;rw[compTurn_list];refine wpAny_bind (wpAny_standAt (wpAny_bind (wpAny_mono (turn n s hI) (fun r s₁ h₁=>?_) fun _ _ h'=>h')));cases r with
 |none=>exact wpAny_pure h₁
 |some v =>
  refine wpAny_bind (wpAny_mono h₁ (fun _ s₁' h₁=>?_) fun _ _ h'=>h');refine wpAny_bind (wpAny_mono h₁ (fun _ s₂ h₂=>wpAny_bind (wpAny_mono h₂ (fun ok s₃ h₃=>?_) fun _ _ h'=>h')) fun _ _ h'=>h');cases ok with
  |false=>exact wpAny_pure ⟨rfl,h₃⟩
  |true =>
   exact wpAny_bind (wpAny_bind (wpAny_mono h₃ (fun x s₄ h₄=>wpAny_bind (wpAny_mono h₄ (fun _ s₅ h₅=>wpAny_pure (wpAny_pure ⟨rfl,h₅⟩)) fun _ _ h'=>h')) fun _ _ h'=>h'))
end
def closL(env:Env):List (Str×NameKind)->List (Str×Addr)->List (Str×Addr)
 | [],cs=>cs
 |(n,k)::r,cs=>closL env r (if k== .free then(n,(env.cells.lookup n).getD 0)::cs else cs)
def clos(scope:Scope)(env:Env):List (Str×Addr):=closL env scope.names []
theorem forIn_closL{env:Env}:∀(ns:List (Str×NameKind))(cs:List (Str×Addr)),(∀x∈ns,x.2= .free-> ∃c,env.cells.lookup x.1=some c)->
  (forIn ns cs fun(x:Str×NameKind)(r:List (Str×Addr))=>(match x with|(name,kind)=>if kind== .free then do let c <-cellOf env name;pure (ForInStep.yield ((name,c)::r))else pure (ForInStep.yield r):Sem (ForInStep (List (Str×Addr)))))=(pure (closL env ns cs):Sem (List (Str×Addr)))
 | [],cs,_=>rfl
 |(n,k)::r,cs,h=>by
  rw[List.forIn_cons];by_cases hk:k= .free
  ·subst hk;obtain⟨c,hc⟩:=h (n,.free) mem_cons_self rfl;have e:cellOf env n=pure c:=by
    have hc':env.cells.lookup n=some c:=hc;unfold cellOf;rw[hc']
   simp only[beq_self_eq_true,if_true,e,pure_bind];rw[forIn_closL r _ fun x hx=>h x (mem_cons_of_mem _ hx)];have hc':env.cells.lookup n=some c:=hc;simp[closL,hc']
  ·have hb:(k==NameKind.free)=false:=by simpa using hk
   simp only[hb,false_eq_true,if_false,pure_bind];rw[forIn_closL r _ fun x hx=>h x (mem_cons_of_mem _ hx)];simp[closL,hb]
theorem closureFor_eq{scope:Scope}{env:Env}(h:∀x∈scope.names,x.2= .free-> ∃c,env.cells.lookup x.1=some c):closureFor scope env=pure (clos scope env):=by
 unfold closureFor clos;have:=forIn_closL (env:=env) scope.names [] h;simp only[bind_pure];exact this
theorem closL_look{env:Env}{x:Str}{c:Addr}:∀(ns:List (Str×NameKind))(cs:List (Str×Addr)),(∀y∈ns,y.2= .free-> ∃c,env.cells.lookup y.1=some c)->(∀c,cs.lookup x=some c->env.cells.lookup x=some c)->
  (closL env ns cs).lookup x=some c->env.cells.lookup x=some c
 | [],cs,_,hc,e=>hc c e
 |(n,k)::r,cs,h,hc,e=>by
  refine closL_look r _ (fun y hy=>h y (mem_cons_of_mem _ hy)) (fun c' e'=>?_) e;by_cases hk:k= .free
  ·subst hk;obtain⟨c₁,h₁⟩:=h (n,.free) mem_cons_self rfl;have h₁':env.cells.lookup n=some c₁:=h₁;simp only[beq_self_eq_true,if_true,List.lookup_cons]at e';cases hx:x==n with
   |true =>
    rw[hx]at e';have hxn:x=n:=by simpa using hx
    subst hxn;rw[h₁']at e' ⊢;exact e'
   |false=>rw[hx]at e';exact hc c' e'
  ·have hb:(k==NameKind.free)=false:=by simpa using hk
   simp only[hb,false_eq_true,if_false]at e';exact hc c' e'
theorem closL_has{env:Env}{x:Str}:∀(ns:List (Str×NameKind))(cs:List (Str×Addr)),((x,NameKind.free)∈ns\/ ∃c,cs.lookup x=some c)-> ∃c,(closL env ns cs).lookup x=some c
 | [],cs,h=>h.elim (fun z=>nomatch z) fun z=>z
 |(n,k)::r,cs,h=>by
  refine closL_has r _ ?_;rcases h with h|⟨c,h⟩
  ·rcases mem_cons.mp h with e|h
   ·cases e;right;simp
   ·exact .inl h
  ·right;by_cases hk:k= .free
   ·subst hk;simp only[beq_self_eq_true,if_true,List.lookup_cons];cases x==n with
    |true=>exact⟨_,rfl⟩
    |false=>exact⟨c,h⟩
   ·have hb:(k==NameKind.free)=false:=by simpa using hk
    simp only[hb,false_eq_true,if_false];exact⟨c,h⟩
theorem relabel_back{env:Env}{x:Str}{k':NameKind}:∀{names:List (Str×NameKind)},
  (names.map fun(n,k)=>if(k==NameKind.free&&env.scope.kind== .function&&env.kindOf n==some .cell)then(n,NameKind.cell)else(n,k)).lookup x=some k'->
  ∃k,names.lookup x=some k/\(x,k)∈names/\(k'=k\/(k= .free/\k'= .cell))
 | [],h=>by simp at h
 |(n,k)::r,h=>by
  have ih:=@relabel_back env x k' r;have h':List.lookup x ((if(k==NameKind.free&&env.scope.kind== .function&&env.kindOf n==some .cell)=true then(n,NameKind.cell)else(n,k))::r.map fun(n,k)=>if(k==NameKind.free&&env.scope.kind== .function&&env.kindOf n==some .cell)then(n,NameKind.cell)else(n,k))=some k':=h;cases hx:x==n with
  |true =>
   have hxn:x=n:=by simpa using hx
   subst hxn;refine⟨k,by simp,mem_cons_self,?_⟩;by_cases hc:(k==NameKind.free&&env.scope.kind== .function&&env.kindOf x==some .cell)=true
   ·rw[if_pos hc]at h';simp at h';have hk:k= .free:=by
     cases k <;>simp at hc ⊢
    exact .inr ⟨hk,h'.symm⟩
   ·rw[if_neg hc]at h';simp at h';exact .inl h'.symm
  |false =>
   have h2:(r.map fun(n,k)=>if(k==NameKind.free&&env.scope.kind== .function&&env.kindOf n==some .cell)then(n,NameKind.cell)else(n,k)).lookup x=some k':=by
    by_cases hc:(k==NameKind.free&&env.scope.kind== .function&&env.kindOf n==some .cell)=true
    ·rw[if_pos hc]at h';simp only[List.lookup_cons,hx]at h';exact h'
    ·rw[if_neg hc]at h';simp only[List.lookup_cons,hx]at h';exact h'
   obtain⟨k0,e1,e2,e3⟩:=ih h2;exact⟨k0,by simp only[List.lookup_cons,hx];exact e1,mem_cons_of_mem _ e2,e3⟩
def cxC(X:Cx)(scope:Scope)(N:List Str)(C:Addr)(s:Shared)(H:Hp)(ex:List Addr):Cx :=
 {X with N:=N,s₀:=s,H₀:=H,env:=compEnvC scope (clos scope X.env) C X.env,outer:=X.stack,stack:=X.stack,ex:=ex,fn:=fun _=>false,pn:=[],xe:=fun _ _=>False}
structure CScope(X:Cx)(scope:Scope)(ls:List Str)(fr:List (Str×Nat)):Prop where
 kind:scope.kind= .function
 nocell:∀y∈scope.names,y.2≠ .cell
 names:∀y∈scope.names,y.2= .local->scope.names.lookup y.1=some .local
 free:∀y∈scope.names,y.2= .free->X.env.kindOf y.1=some .cell\/X.env.kindOf y.1=some .free
 slots:∀p∈fr,X.N[p.2]? =some p.1/\scope.names.lookup p.1=some .free
def startC(ls:List Str)(fr:List (Str×Nat))(σ:St):St:=ls.map (fun _=>none)++fr.map fun p=>(σ[p.2]?).join
section
variable{X:Cx}{scope:Scope}{ls:List Str}{fr:List (Str×Nat)}
theorem CScope.cells{pins:List (Addr×Obj)}{σ:St}{H:Hp}{s:Shared}(S:CScope X scope ls fr)(I:Inv X pins σ H s):∀x∈scope.names,x.2= .free-> ∃c,X.env.cells.lookup x.1=some c :=
 fun x hx hk=>I.ok.has x.1 (S.free x hx hk)
theorem CScope.look{pins:List (Addr×Obj)}{σ:St}{H:Hp}{s:Shared}(S:CScope X scope ls fr)(I:Inv X pins σ H s){x:Str}{c:Addr}(e:(clos scope X.env).lookup x=some c):X.env.cells.lookup x=some c :=
 closL_look scope.names [] (S.cells I) (fun _ z=>by simp at z) e
theorem comp_ok{pins:List (Addr×Obj)}{σ:St}{H:Hp}{s:Shared}{C:Addr}{ex:List Addr}(S:CScope X scope ls fr)(I:Inv X pins σ H s)(hC:s.heap.objs.size<=C)(hex:∀b∈ex,FpOk X pins H b/\b<s.heap.objs.size) :
  (cxC X scope (ls++fr.map (·.1)) C s H ex).Ok where
 mod:=I.ok.mod
 kind:=S.kind
 glob:=I.ok.glob
 blt:=I.ok.blt
 above:=hC
 inj:=fun x y c e1 e2=>I.ok.inj x y c (S.look I e1) (S.look I e2)
 has:=fun x h=>by
  have h':∃k',(relabel scope X.env).names.lookup x=some k'/\(k'= .cell\/k'= .free):=h.elim (fun z=>⟨_,z,.inl rfl⟩) fun z=>⟨_,z,.inr rfl⟩;obtain⟨k',e,hk⟩:=h';obtain⟨k,e1,e2,e3⟩:=relabel_back e;refine closL_has scope.names [] (.inl ?_);have hn:=S.nocell _ e2;rcases e3 with rfl|⟨rfl,_⟩
  ·rcases hk with rfl|rfl
   ·exact absurd rfl hn
   ·exact e2
  ·exact e2
 cab:=fun x c h=>nomatch h
 hd:=I.ok.hd
 frames:=I.ok.frames
 stk:=.inl rfl
 exf:=fun b hb=>by
  obtain⟨⟨f0,f1,f2,f3,f4,f5⟩,hl⟩:=hex b hb;exact⟨ne_of_lt (lt_of_lt_of_le hl hC),fun x c e=>f4 x c (S.look I e)⟩
 bs:=I.bs
 bsz:=le_trans I.ok.bsz I.sz
 noex:=fun b o e hb=>by
  obtain⟨⟨f0,f1,f2,f3,f4,f5⟩,hl⟩:=hex b hb;rcases f3 with z|z
  ·exact I.ok.noex b o e z
  ·exact absurd (lt_of_lt_of_le (Heap.lt_size e) (le_trans I.ok.bsz z)) (lt_irrefl _)
 exfs:=fun b hb hf=>by
  obtain⟨⟨f0,f1,f2,f3,f4,f5⟩,hl⟩:=hex b hb;exact(mem_cons.mp (I.stkSub b hf)).elim f1 f2
 funs:=I.stack
 frf:=I.stkFree
theorem comp_inv{pins:List (Addr×Obj)}{σ:St}{H:Hp}{s s':Shared}{C:Addr}{m:Str->Option Value}{ex:List Addr}(S:CScope X scope ls fr)(I:Inv X pins σ H s)(hC:s.heap.objs.size<=C)(hex:∀b∈ex,FpOk X pins H b/\b<s.heap.objs.size)(ho:s'.os=s.os)(hg:AllBare s'.gens)(k:∀b o,s.heap.get? b=some o->s'.heap.get? b=some o)(hn:s'.heap.Ns C m):Inv (cxC X scope (ls++fr.map (·.1)) C s H ex) [] (startC ls fr σ) H s' where
 ok:=comp_ok S I hC hex
 os:=ho
 bare:=hg
 base:=Un.kept k
 loc:=by
  refine⟨m,hn,fun i x v e1 e2 e3=>?_⟩;have e2':(ls.map (fun _=>(none:Option V))++fr.map fun p=>(σ[p.2]?).join)[i]? =some (some v):=e2;have e1':(ls++fr.map (·.1))[i]? =some x:=e1;by_cases hi:i<ls.length
  ·rw[List.getElem?_append_left (by simpa using hi),getElem?_map]at e2';cases q:ls[i]? with
   |none=>rw[q]at e2';cases e2'
   |some y=>rw[q]at e2';cases e2'
  ·have hi':ls.length<=i:=Nat.le_of_not_lt hi;rw[List.getElem?_append_right (by simpa using hi'),getElem?_map,length_map]at e2';rw[List.getElem?_append_right hi',getElem?_map]at e1';cases q:fr[i-ls.length]? with
   |none=>rw[q]at e1';cases e1'
   |some p =>
    rw[q]at e1' e2';have ex1:p.1=x:=Option.some.inj e1';have hp:p∈fr:=mem_of_getElem? q;obtain⟨hsl,hfree⟩:=S.slots p hp;subst ex1;have hv:σ[p.2]? =some (some v):=by
     have z:(σ[p.2]?).join=some v:=Option.some.inj e2';cases w:σ[p.2]? with
     |none=>rw[w]at z;cases z
     |some o=>rw[w]at z;exact congrArg some z
    obtain⟨m0,hn0,hl⟩:=id I.loc;have vis':∃k',(relabel scope X.env).names.lookup p.1=some k'/\(k'= .local\/k'= .cell\/k'= .free):=by
     rcases e3 with z|z|z
     ·exact⟨_,z,.inl rfl⟩
     ·exact⟨_,z,.inr (.inl rfl)⟩
     ·exact⟨_,z,.inr (.inr rfl)⟩
    obtain⟨k',ek,_⟩:=vis';obtain⟨k0,f1,f2,f3⟩:=relabel_back ek;rw[hfree]at f1;cases f1;have hk:=S.free _ f2 rfl;have hk':k'= .cell\/k'= .free:=f3.elim .inr fun z=>.inl z.2;have hvis:Vis X.env.scope p.1:=hk.elim (fun z=>.inr (.inl z)) fun z=>.inr (.inr z);obtain⟨u,ru,lk⟩:=hl p.2 p.1 v hsl hv hvis;obtain⟨c',hc'⟩:∃c,(clos scope X.env).lookup p.1=some c:=closL_has scope.names [] (.inl f2);refine⟨u,ru,.inr ⟨hk'.elim (fun z=>.inl (z▸ek)) fun z=>.inr (z▸ek),c',hc',?_⟩⟩;rcases lk with⟨z,_⟩|⟨_,c,ec,ic⟩
    ·rcases hk with y|y <;>(rw[y]at z;cases z)
    ·have:=S.look I hc';rw[ec]at this;cases this;exact ic.keeps k
 cell:=fun x c e=>by
  obtain⟨v,z⟩:=I.cell x c (S.look I e);exact⟨v,z.keeps k⟩
 free:=I.hok.fresh hC
 freeC:=fun x c e=>I.freeC x c (S.look I e)
 pin:=fun p hp=>nomatch hp
 hok:=I.hok.kept k
 len:=by simp[startC,cxC]
def PF(X:Cx)(ifs:List Expr)(t:TT):Prop :=
 ∀(pins:List (Addr×Obj))(s:Shared)(σ:St)(H:Hp)(Q:Bool->Hp->Prop),Inv X pins σ H s->t σ H Q->
  wpAny (model X.prog X.w) X.A (forIn ifs true fun c r=>if r=true then do let ok <-isTrue c X.env (eval c X.env);pure (ForInStep.yield ok)else pure (ForInStep.yield r)) (TP X pins σ Q) X.xe s
def tYes:TT:=fun _ H Q=>Q true H
theorem pf_nil{X:Cx}:PF X [] tYes:=fun pins s σ H Q I h=>wpAny_tests_nil ⟨H,I,h⟩
theorem pf_one{X:Cx}{c:Expr}{t:TT}(h:PT X c t):PF X [c] t:=fun pins s σ H Q I hw=>wpAny_tests_one (h pins s σ H Q I hw)
theorem HOk.add{P:Program}{w:World}{H:Hp}{h:Heap}{a:Addr}{o:HO}(x:HOk P w H h)(hn:H a=none)(new:zS P w (upd H a o) h a o):HOk P w (upd H a o) h:=fun b u e=>by
 by_cases hb:b=a
 ·subst hb;rw[z0]at e;cases e;exact new
 ·rw[zh hb]at e;exact(x b u e).stay (fun _ _ _ q=>q) (fun c q=>by rw[zh (zt q hn)];exact q) fun c xs q=>by rw[zh (zt q hn)];exact q
theorem Un.add{fs ex:List Addr}{H H':Hp}{h h':Heap}{a:Addr}{o:HO}(u:Un fs ex H H' h h')(ha:h.objs.size<=a)(hn:H' a=none):Un fs ex H (upd H' a o) h h' where
 keep:=u.keep
 slot:=u.slot
 free:=fun b ob q n hx=>by rw[zh (ne_of_lt (lt_of_lt_of_le (Heap.lt_size q) ha))];exact u.free b ob q n hx
 there:=u.there
 tups:=fun b xs q=>by
  have z:=u.tups b xs q;rw[zh (zt z hn)];exact z
 frzs:=fun b ob xs q=>by
  have z:=u.frzs b ob xs q;rw[zh (zt z hn)];exact z
 tbls:=fun b ps q=>by
  obtain⟨more,z⟩:=u.tbls b ps q;exact⟨more,by rw[zh (zt z hn)];exact z⟩
def tCompK(g:TG)(tf:TT)(te:TE)(σ0:St)(J:It)(H:Hp)(Q:VK):Prop :=
 ∃W0:Nat->Nat->List V->St->Hp->Prop,(∃m,W0 0 m [] σ0 H)/\ ∀i m ys σ H,W0 i m ys σ H->
  (J.stop i H/\ys.length<=sizeLine/\ ∀p,H p=none->Q (.ref p) (upd H p (.lst ys)))\/
  (J.go i H/\ys.length<=sizeLine/\ ∃N:List V->St->Hp->Prop,(∀ys σ' H',N ys σ' H'-> ∃m',m'<m/\W0 (i+1) m' ys σ' H')/\ ∀x H1,J.yld i H x H1->g x σ H1 fun σ2 H2=>tf σ2 H2 fun b H3=>if b=true then te σ2 H3 fun v H4=>N (ys++[v]) σ2 H4 else N ys σ2 H3)
def tComp(wi:TI)(ls:List Str)(fr:List (Str×Nat))(g:TG)(tf:TT)(te:TE):TE:=fun σ H Q=>wi σ H fun J H1=>tCompK g tf te (startC ls fr σ) J H1 Q
theorem comp_block{pins:List (Addr×Obj)}{σ:St}{H:Hp}{s:Shared}{it:Addr}{fp:List Addr}{tn:Nat->Heap->Prop}{J:It}{tg elt iter:Expr}{ifs:List Expr}{pos:Pos}{g:TG}{tf:TT}{te:TE}{Q:VK}{E:Value->Shared->Prop}{RR:Value->Addr->Result->Shared->Prop}(S:CScope X scope ls fr)(hc:X.calm=true)(I:Inv X pins σ H s)(T:Turn X.prog X.w X.K tg J fp it tn)(st:tn 0 s.heap)(hf:∀b∈fp,FpOk X pins H b)(hq:tCompK g tf te (startC ls fr σ) J H Q)(hg:∀C s H ex,PG (cxC X scope (ls++fr.map (·.1)) C s H ex) tg g)(ht:∀C s H ex,PF (cxC X scope (ls++fr.map (·.1)) C s H ex) ifs tf)(he:∀C s H ex,PE (cxC X scope (ls++fr.map (·.1)) C s H ex) elt te)(hRR:∀(D C:Addr) (s':Shared) (H':Hp) (m:Str->Option Value),Inv X pins σ H' s'->s'.heap.Ns C m->s.heap.objs.size<=C->H' C=none->Q (.ref D) H'->RR (.ref D) C (.ok .next) s') :
  wpAny (model X.prog X.w) X.A (newList []) (fun acc s₃=>wpAny (model X.prog X.w) X.A (newFunctionEnv scope X.env.globals (clos scope X.env) [] X.env.qual none .none (some X.env)) (fun cenv s₄ =>
   codeAny (model X.prog X.w) X.A (.compStart (.ListComp elt [⟨tg,iter,ifs,0⟩] scope pos) 0 (.ref it) acc {cenv with scope:=relabel scope X.env}) (RR acc cenv.locals) s₄) E s₃) E s:=by
 refine wpAny_newObj_type (wpAny_newFunctionEnv S.nocell (by intro y hy;simp at hy) (fun h₁ hns₁ hsb₁=>?_) S.kind);dsimp only at hns₁ hsb₁ ⊢;generalize hH2:s.heap.push {cls:=.type "list",dict:=none,data:=.seq ([]:List Value).toArray}=H2 at hns₁ hsb₁ ⊢;have hC:H2.objs.size=s.heap.objs.size+1:=by rw[<-hH2,Heap.size_push]
 have hDC:s.heap.objs.size≠H2.objs.size:=by rw[hC];exact ne_of_lt (Nat.lt_succ_self _)
 have hCle:s.heap.objs.size<=H2.objs.size:=by rw[hC];exact le_succ _
 have below:∀b,b<s.heap.objs.size->b≠H2.objs.size/\b≠s.heap.objs.size:=fun b hb=>⟨by rw[hC];exact ne_of_lt (lt_succ_of_lt hb),ne_of_lt hb⟩;have old:∀b o,s.heap.get? b=some o->h₁.get? b=some o:=fun b o e=>hsb₁.extBut b o (below b (Heap.lt_size e)).1 (Heap.get?_push_of_some _ (hH2▸Heap.get?_push_of_some _ e));have hacc:h₁.PlainList s.heap.objs.size #[]:=⟨_,hsb₁.extBut _ _ hDC (Heap.get?_push_of_some _ (hH2▸Heap.get?_push_size _ rfl))⟩;have hfl:∀b∈fp,b<s.heap.objs.size:=fun b hb=>by
  obtain⟨o,e,_⟩:=T.obj _ _ st b hb;exact Heap.lt_size e
 have hex:∀b∈fp,FpOk X pins H b/\b<s.heap.objs.size:=fun b hb=>⟨hf b hb,hfl b hb⟩;generalize hs4:({s with heap:=h₁,toks:=s.toks+([]:List (Str×Value)).length}:Shared)=s4;generalize hX:cxC X scope (ls++fr.map (·.1)) H2.objs.size s H fp=Y;have I4:Inv Y [] (startC ls fr σ) H s4:=by
  rw[<-hX,<-hs4];exact comp_inv S I hCle hex rfl I.bare old hns₁
 have YP:Y.prog=X.prog:=by rw[<-hX];rfl
 have Yw:Y.w=X.w:=by rw[<-hX];rfl
 have YK:Y.K=X.K:=by rw[<-hX];rfl
 have YA:Y.A=X.A:=by rw[<-hX];rfl
 have Yc:Y.calm=true:=by rw[<-hX];exact hc
 have Yx:Y.xe=fun _ _=>False:=by rw[<-hX];rfl
 have Yl:Y.env.locals=H2.objs.size:=by rw[<-hX];rfl
 have Yok:(cxC X scope (ls++fr.map (·.1)) H2.objs.size s H fp).Ok:=comp_ok S I hCle hex;have fpY:∀{H':Hp}{o:Obj},(∀b∈fp,H' b=none)-> ∀b∈fp,FpOk Y [(s.heap.objs.size,o)] H' b:=fun{H' o} hn b hb=>by
  rw[<-hX];obtain⟨f0,f1,f2,f3,f4,f5⟩:=hf b hb;refine⟨hn b hb,(below b (hfl b hb)).1,fun z=>Yok.exfs b hb z,.inl hb,fun x c e=>f4 x c (S.look I e),fun p hp=>?_⟩;have e:p=(s.heap.objs.size,o):=by simpa [cxC]using hp
  subst e;exact Ne.symm (below b (hfl b hb)).2
 have pinD:∀{σ':St}{H':Hp}{s':Shared}{its:Array Value}{n:Nat},Inv Y [] σ' H' s'->H' s.heap.objs.size=none->s'.heap.get? s.heap.objs.size=some {cls:=.type "list",data:=.seq its n}->
   Inv Y [(s.heap.objs.size,{cls:=.type "list",data:=.seq its n})] σ' H' s':=fun{σ' H' s' its n} I' hn e=>I'.pins_of fun p hp=>by
  have ep:p=(s.heap.objs.size,{cls:=.type "list",data:=.seq its n}):=by simpa using hp
  subst ep;refine⟨e,hn,by rw[Yl];exact hDC,?_,fun v z=>nomatch z⟩;rw[<-hX];exact fun hb=>I.nofs (le_refl _) ((mem_cons.mp (I.stkSub _ hb)).resolve_left fun z=>absurd I.lt (by rw[<-z];exact lt_irrefl _))
 obtain⟨W0,⟨m0,w0⟩,turn⟩:=hq;have E1:∀{α:Type}{t:Sem α}{Q1:α->Shared->Prop}{s1:Shared}{E1:Value->Shared->Prop},wpAny (model X.prog X.w) X.A t Q1 Y.xe s1->wpAny (model X.prog X.w) X.A t Q1 E1 s1:=fun h=>wpAny_mono h (fun _ _ z=>z) fun _ _ z=>by rw[Yx]at z;exact z.elim
 have endC:∀{σ':St}{H':Hp}{s':Shared}{its:List Value}{ys:List V},Inv Y [] σ' H' s'->H' s.heap.objs.size=none->s'.heap.PlainList s.heap.objs.size its.toArray->Vals ys its->ys.length<=sizeLine->
   (∀p,H' p=none->Q (.ref p) (upd H' p (.lst ys)))->RR (.ref s.heap.objs.size) H2.objs.size (.ok .next) s':=fun{σ' H' s' its ys} I' hn ⟨n,e⟩ rv hz q=>by
  subst hX;obtain⟨m,hm,_⟩:=id I'.loc;have hCn:H' H2.objs.size=none:=I'.free;refine hRR _ _ s' (upd H' s.heap.objs.size (.lst ys)) m (I.call' I'.os (Un.add I'.base (le_refl _) hn) (I'.hok.add hn ⟨hz,its,n,rv,e⟩) I'.bare fun b hb=>?_) hm hCle (by rw[zh (Ne.symm hDC)];exact hCn) (q _ hn);obtain⟨f0,f1,f2,f3,f4,f5⟩:=hf b hb;exact⟨f3,f1,f4,f5⟩
 have loop:codeAny (model X.prog X.w) X.A (.compLoop (.ListComp elt [⟨tg,iter,ifs,0⟩] scope pos) 0 (.ref it) (.ref s.heap.objs.size) Y.env) (RR (.ref s.heap.objs.size) H2.objs.size) s4:=by
  refine comp_loop_any (fun n s'=>∃(i:Nat)(σ':St)(H':Hp)(ys:List V)(its:List Value),Inv Y [] σ' H' s'/\tn i s'.heap/\(∀b∈fp,H' b=none)/\H' s.heap.objs.size=none/\s'.heap.PlainList s.heap.objs.size its.toArray/\Vals ys its/\W0 i n ys σ' H') ?_ m0
   ⟨0,startC ls fr σ,H,[],[],I4,T.keep _ _ _ st fun b _ o e=>by rw[<-hs4];exact old b o e,fun b hb=>(hf b hb).1,I.hok.fresh (le_refl _),by rw[<-hs4];exact hacc,.nil,w0⟩
  rintro n s5 ⟨i,σ5,H5,ys,its,I5,st5,fr5,hn5,⟨nn,e5⟩,rv,w5⟩;have I5p:=pinD I5 hn5 e5;rcases turn i n ys σ5 H5 w5 with⟨stop,hz,qn⟩|⟨go,hz,NN,hNN,step⟩
  ·rw[<-YA];refine thn (T.done Y YP Yw YK Yc i _ s5 σ5 H5 _ I5p (fpY fr5) st5 stop) fun r s6 ⟨hr,I6⟩=>?_;subst hr;exact endC (I6.pins_of fun p hp=>nomatch hp) hn5 ⟨nn,(I6.pin _ (mem_append_right _ mem_cons_self)).1⟩ rv hz qn
  ·have hit:=T.item Y YP Yw YK Yc i _ s5 σ5 H5 (notedBy (model X.prog X.w) X.A Y.env fun e s'=>RR (Value.ref s.heap.objs.size) H2.objs.size (Except.error e) s') I5p (fpY fr5) st5 go;rw[YA]at hit;refine thn hit fun r s6 ⟨u,hr,h6⟩=>?_;subst hr;refine thn h6 fun _ s7 ⟨x,H7,I7,r7,y7,st7,fr7⟩=>?_;have I7':=I7.pinned (fpY fr7) (T.obj _ _ st7);have h8:=hg H2.objs.size s H fp;have h9:=ht H2.objs.size s H fp;have h10:=he H2.objs.size s H fp;rw[hX]at h8 h9 h10;have a8:=h8 _ s7 σ5 H7 x u _ I7' r7 (step x H7 y7);rw[YP,Yw,YA]at a8;refine thn (E1 a8) fun _ s8 ⟨σ8,H8,I8,q8⟩=>?_;have a9:=h9 _ s8 σ8 H8 _ I8 q8;rw[YP,Yw,YA]at a9;refine thn (E1 a9) fun b s9 ⟨H9,I9,q9⟩=>?_;have back:∀{σ':St}{H':Hp}{s':Shared},Inv Y ([(s.heap.objs.size,{cls:=.type "list",data:=.seq its.toArray nn})]++pinsAt fp s7.heap) σ' H' s'->
     tn (i+1) s'.heap/\(∀b∈fp,H' b=none)/\H' s.heap.objs.size=none/\s'.heap.PlainList s.heap.objs.size its.toArray:=fun{σ' H' s'} I'=>by
    have hp:=I'.pin (s.heap.objs.size,{cls:=.type "list",data:=.seq its.toArray nn}) (mem_append_right _ (List.mem_append_left _ mem_cons_self));refine⟨T.keep _ _ _ st7 fun b hb o e=>(I'.pin (b,o) (mem_append_right _ (mem_append_right _ (mem_pinsAt hb e)))).1,fun b hb=>?_,hp.2.1,⟨nn,hp.1⟩⟩;obtain⟨o,e,d⟩:=T.obj _ _ st7 b hb;exact(I'.pin (b,o) (mem_append_right _ (mem_append_right _ (mem_pinsAt hb e)))).2.1
   cases b with
   |false =>
    rw[if_neg Bool.false_ne_true]at q9 ⊢;obtain⟨m',hm,w9⟩:=hNN _ _ _ q9;obtain⟨z1,z2,z3,z4⟩:=back I9;exact⟨m',hm,i+1,σ8,H9,ys,its,I9.pins_of (fun p hp=>nomatch hp),z1,z2,z3,z4,rv,w9⟩
   |true =>
    rw[if_pos rfl]at q9 ⊢;have a10:=h10 _ s9 σ8 H9 _ I9 q9;rw[YP,Yw,YA]at a10;refine thn (E1 a10) fun xv s10 ⟨v,H10,I10,rx,q10⟩=>?_;obtain⟨m',hm,w10⟩:=hNN _ _ _ q10;obtain⟨z1,z2,z3,z4⟩:=back I10;have hlen:its.length=ys.length:=(rv.length).symm;refine wpAny_list_append_plain z4 (fun h' pl sb=>?_) (by rw[size_toArray,hlen];exact hz);refine⟨m',hm,i+1,σ8,H10,ys++[v],its++[xv],?_,?_,z2,z3,?_,rv.append (.cons rx .nil),w10⟩
    ·have I10':Inv Y [] σ8 H10 s10:=I10.pins_of fun p hp=>nomatch hp
     refine I10'.turned (t':=s10.toks) (it:=s.heap.objs.size) (fun b o hb e=>(sb.2 b hb).trans e) z3 (by rw[Yl];exact hDC) (.inr ?_) (fun x c e=>?_) fun p hp=>?_
     ·rw[<-hX];exact le_refl _
     ·rw[<-hX]at e;intro z;obtain⟨v0,q0⟩:=I.cell x c (S.look I e);exact absurd q0.lt (by rw[z];exact lt_irrefl _)
     ·rw[<-hX]at hp;exact nomatch hp
    ·refine T.keep _ _ _ z1 fun b hb o e=>(sb.2 b (below b (hfl b hb)).2).trans e
    ·have:(its++[xv]).toArray=its.toArray.push xv:=by simp
     rw[this];exact pl
 have hYe:Y.env={newEnv scope H2.objs.size X.env.globals (clos scope X.env) X.env.qual none .none (some X.env) builtinsNs with scope:=relabel scope X.env}:=by rw[<-hX];rfl
 rw[<-hYe];rw[hYe]at loop ⊢;refine codeAny_compStart_list loop ?_;exact T.self _ 0 _ _ _ (T.keep _ _ _ st fun b _ o e=>by rw[<-hs4];exact old b o e) loop
theorem yB{wi:TI}{tg elt iter:Expr}{ifs:List Expr}{pos:Pos}{g:TG}{tf:TT}{te:TE}(S:CScope X scope ls fr)(hc:X.calm=true)(hi:PI X tg iter wi)(hg:∀C s H ex,PG (cxC X scope (ls++fr.map (·.1)) C s H ex) tg g)(ht:∀C s H ex,PF (cxC X scope (ls++fr.map (·.1)) C s H ex) ifs tf)(he:∀C s H ex,PE (cxC X scope (ls++fr.map (·.1)) C s H ex) elt te)(hs:∀x,foldedSetIterable iter X.env x=pure x:=by intro _;rfl):PE X (.ListComp elt [⟨tg,iter,ifs,0⟩] scope pos) (tComp wi ls fr g tf te):=by
 intro pins s σ H Q I h;rw[eval_ListComp];refine wpAny_comprehension_free (use:=none) rfl hs (closureFor_eq (S.cells I)) S.kind S.names (thn (hi pins s σ H _ I h) fun xv s₁ h₁=>thn h₁ fun itv s₂ h₂=>?_);obtain⟨it,fp,tn,J,H2,rfl,I2,T,st,hf,q⟩:=h₂;refine comp_block (RR:=fun acc C=>compPost (model X.prog X.w) X.A X.xe none (EP X pins σ Q) acc C) S hc I2 T st hf q hg ht he ?_;intro D C s' H' m I' hn hC hCn hq;refine⟨m,hn,fun h' sb=>?_⟩;have nC:∀{b:Addr},b<s₂.heap.objs.size->b≠C:=fun hb=>ne_of_lt (lt_of_lt_of_le hb hC);refine⟨.ref D,H',I'.turned (t':=s'.toks) (it:=C) (fun b o hb e=>(sb.2 b hb).trans e) hCn (Ne.symm (nC I2.lt)) (.inr (le_trans I2.sz hC)) (fun x c e=>?_) fun p hp=>?_,rfl,hq⟩
 ·obtain⟨v0,q0⟩:=I2.cell x c e;exact nC q0.lt
 ·exact nC (Heap.lt_size (I2.pin p hp).1)
theorem ps_comp{wi:TI}{tg elt iter:Expr}{ifs:List Expr}{pos spos py:Pos}{y:Str}{i:Nat}{g:TG}{tf:TT}{te:TE}(S:CScope X scope ls fr)(hc:X.calm=true)(hi:PI X tg iter wi)(hg:∀C s H ex,PG (cxC X scope (ls++fr.map (·.1)) C s H ex) tg g)(ht:∀C s H ex,PF (cxC X scope (ls++fr.map (·.1)) C s H ex) ifs tf)(he:∀C s H ex,PE (cxC X scope (ls++fr.map (·.1)) C s H ex) elt te)(hN:X.N.Nodup)(hy:X.N[i]? =some y)(hl:X.env.scope.names.lookup y=some .local)(hsw:swapsWith (.ListComp elt [⟨tg,iter,ifs,0⟩] scope pos) (some (.Name y py)) spos.line X.env=pure true)(hs:∀x,foldedSetIterable iter X.env x=pure x:=by intro _;rfl):PS X (.Assign [.Name y py] (.ListComp elt [⟨tg,iter,ifs,0⟩] scope pos) spos) (tAsg (tComp wi ls fr g tf te) (yc i)):=by
 intro pins s σ H D I h;rw[exec_Assign_Name_used _ _ _ _ hsw];refine wpAny_bind (wpAny_standAt (wpAny_bind ?_));show wpAny _ X.A (do let _ <-comprehension (.ListComp elt [⟨tg,iter,ifs,0⟩] scope pos) scope X.env _ (newList []) false (eval iter X.env) (some (assign (.Name y py) X.env))) _ _ s;refine wpAny_bind (wpAny_mono (wpAny_comprehension_free (use:=some (assign (.Name y py) X.env)) (Q:=fun _ s'=>SP X pins D .next s') rfl hs (closureFor_eq (S.cells I)) S.kind S.names
  (thn (hi pins s σ H _ I h) fun xv s₁ h₁=>thn h₁ fun itv s₂ h₂=>?_)) (fun _ s' hq=>wpAny_pure (wpAny_pure hq)) fun _ _ e=>e)
 obtain⟨it,fp,tn,J,H2,rfl,I2,T,st,hf,q⟩:=h₂;refine comp_block (RR:=fun acc C=>compPost (model X.prog X.w) X.A X.xe (some (assign (.Name y py) X.env)) (fun _ s'=>SP X pins D .next s') acc C) S hc I2 T st hf q hg ht he ?_;intro D1 C s' H' m I' hn hC hCn hq;have nC:∀{b:Addr},b<s₂.heap.objs.size->b≠C:=fun hb=>ne_of_lt (lt_of_lt_of_le hb hC);have cC:∀x c,X.env.cells.lookup x=some c->c≠C:=fun x c e=>by
  obtain⟨v0,q0⟩:=I2.cell x c e;exact nC q0.lt
 show wpAny _ X.A (assign (.Name y py) X.env (.ref D1)) _ _ _;refine wpAny_assign_Name (store_ok2 I' hN hy (.inl hl) (v:=.ref D1) rfl (fun s3 I3 hsb=>?_) (.inr hl));obtain⟨a,sb1,ha⟩:=hsb;have haC:C≠a:=by
  rcases ha with rfl|e
  ·exact Ne.symm (nC I2.lt)
  ·exact Ne.symm (cC _ _ e)
 refine⟨m,hn.sameBut sb1 haC,fun h' sb=>⟨_,H',I3.turned (t':=s3.toks) (it:=C) (fun b o hb e=>(sb.2 b hb).trans e) hCn (Ne.symm (nC I2.lt)) (.inr (le_trans I2.sz hC)) cC fun p hp=>nC (Heap.lt_size (I2.pin p hp).1),hq⟩⟩
end
theorem comp_list{K:W.Frag}{a:Addr}{xs:List V}{g:TG}{tf:TT}{te:TE}{σ:St}{H:Hp}{Q:VK}(Pv:Nat->List V->St->Hp->Prop)(h0:Pv 0 [] σ H)(hl:∀i ys σ H,i<=xs.length->Pv i ys σ H->SqL K H a xs/\ys.length<=sizeLine)(hs:∀i x ys σ H,xs[i]? =some x->Pv i ys σ H->g x σ H fun σ2 H2=>tf σ2 H2 fun b H3=>if b=true then te σ2 H3 fun v H4=>Pv (i+1) (ys++[v]) σ2 H4 else Pv (i+1) ys σ2 H3)(hd:∀ys σ H,Pv xs.length ys σ H-> ∀p,H p=none->Q (.ref p) (upd H p (.lst ys))):tCompK g tf te σ (Itl K a) H Q:=by
 refine⟨fun i m ys σ H=>m=xs.length-i/\i<=xs.length/\Pv i ys σ H,⟨xs.length,by simp,zero_le _,h0⟩,?_⟩;rintro i m ys σ H ⟨rfl,hi,p⟩;obtain⟨q,hz⟩:=hl i ys σ H hi p;by_cases hlt:i<xs.length
 ·refine .inr ⟨⟨xs,xs[i],q,by simp[hlt]⟩,hz,Pv (i+1),fun ys' σ' H' p'=>⟨xs.length-(i+1),by omega,rfl,hlt,p'⟩,fun x H' y=>?_⟩;obtain⟨e,y⟩:=y;subst e;exact hs i x ys σ _ (y xs q) p
 ·have e:i=xs.length:=by omega
  subst e;exact .inl ⟨⟨xs,q,le_refl _⟩,hz,hd ys σ H p⟩
theorem comp_tup{K:W.Frag}{a:Addr}{xs:List V}{g:TG}{tf:TT}{te:TE}{σ:St}{H:Hp}{Q:VK}(Pv:Nat->List V->St->Hp->Prop)(h0:Pv 0 [] σ H)(hl:∀i ys σ H,i<=xs.length->Pv i ys σ H->SqT K H a xs/\ys.length<=sizeLine)(hs:∀i x ys σ H,xs[i]? =some x->Pv i ys σ H->g x σ H fun σ2 H2=>tf σ2 H2 fun b H3=>if b=true then te σ2 H3 fun v H4=>Pv (i+1) (ys++[v]) σ2 H4 else Pv (i+1) ys σ2 H3)(hd:∀ys σ H,Pv xs.length ys σ H-> ∀p,H p=none->Q (.ref p) (upd H p (.lst ys))):tCompK g tf te σ (Itt K a) H Q:=by
 refine⟨fun i m ys σ H=>m=xs.length-i/\i<=xs.length/\Pv i ys σ H,⟨xs.length,by simp,zero_le _,h0⟩,?_⟩;rintro i m ys σ H ⟨rfl,hi,p⟩;obtain⟨q,hz⟩:=hl i ys σ H hi p;by_cases hlt:i<xs.length
 ·refine .inr ⟨⟨xs,xs[i],q,by simp[hlt]⟩,hz,Pv (i+1),fun ys' σ' H' p'=>⟨xs.length-(i+1),by omega,rfl,hlt,p'⟩,fun x H' y=>?_⟩;obtain⟨e,y⟩:=y;subst e;exact hs i x ys σ _ (y xs q) p
 ·have e:i=xs.length:=by omega
  subst e;exact .inl ⟨⟨xs,q,le_refl _⟩,hz,hd ys σ H p⟩
theorem comp_range{lo:Int}{n:Nat}{g:TG}{tf:TT}{te:TE}{σ:St}{H:Hp}{Q:VK}(Pv:Nat->List V->St->Hp->Prop)(h0:Pv 0 [] σ H)(hl:∀i ys σ H,i<=n->Pv i ys σ H->ys.length<=sizeLine)(hs:∀i ys σ H,i<n->Pv i ys σ H->g (.int (lo+i)) σ H fun σ2 H2=>tf σ2 H2 fun b H3=>if b=true then te σ2 H3 fun v H4=>Pv (i+1) (ys++[v]) σ2 H4 else Pv (i+1) ys σ2 H3)(hd:∀ys σ H,Pv n ys σ H-> ∀p,H p=none->Q (.ref p) (upd H p (.lst ys))):tCompK g tf te σ (Itr lo n) H Q:=by
 refine⟨fun i m ys σ H=>m=n-i/\i<=n/\Pv i ys σ H,⟨n,by simp,zero_le _,h0⟩,?_⟩;rintro i m ys σ H ⟨rfl,hi,p⟩;have hz:=hl i ys σ H hi p;by_cases hlt:i<n
 ·refine .inr ⟨hlt,hz,Pv (i+1),fun ys' σ' H' p'=>⟨n-(i+1),by omega,rfl,hlt,p'⟩,fun x H' y=>?_⟩;obtain⟨e,y⟩:=y;subst e y;exact hs i ys σ _ hlt p
 ·have e:i=n:=by omega
  subst e;exact .inl ⟨le_refl _,hz,hd ys σ H p⟩
def cscopeB(sc:Scope)(N:List Str)(scope:Scope)(fr:List (Str×Nat)):Bool :=
 (scope.kind== .function)&&scope.names.all (fun y=>y.2 != .cell)&&scope.names.all (fun y=>y.2 != .local||scope.names.lookup y.1==some .local)&&
 scope.names.all (fun y=>y.2 != .free||sc.names.lookup y.1==some .cell||sc.names.lookup y.1==some .free)&&fr.all (fun p=>N[p.2]? ==some p.1&&scope.names.lookup p.1==some .free)
theorem cs_of{X:Cx}{scope:Scope}{ls:List Str}{fr:List (Str×Nat)}(sc:Scope)(N:List Str)(h1:X.env.scope=sc)(h2:X.N=N)(h:cscopeB sc N scope fr=true):CScope X scope ls fr:=by
 subst h1 h2;simp only[cscopeB,and_eq_true,all_eq_true,Bool.or_eq_true,bne_iff_ne,beq_iff_eq,ne_eq]at h;obtain⟨⟨⟨⟨a,b⟩,c⟩,d⟩,e⟩:=h;refine⟨a,b,fun y hy hk=>(c y hy).resolve_left fun z=>z hk,fun y hy hk=>?_,e⟩;rcases d y hy with(z|z)|z
 ·exact absurd hk z
 ·exact .inl z
 ·exact .inr z
theorem pgc{X:Cx}{scope:Scope}{ls:List Str}{fr:List (Str×Nat)}{C:Addr}{s:Shared}{H:Hp}{ex:List Addr}{x:Str}{pos:Pos}(i:Nat)(hN:(ls++fr.map (·.1)).Nodup)(hi:(ls++fr.map (·.1))[i]? =some x)(hx:scope.names.lookup x=some .local) :
  PG (cxC X scope (ls++fr.map (·.1)) C s H ex) (.Name x pos) (yc i) :=
 pg_name hN hi (.inl (lookup_relabel_local hx)) (.inr (lookup_relabel_local hx))
def relN(scope sc:Scope):List (Str×NameKind):=scope.names.map fun(n,k)=>if(k== .free&&sc.kind== .function&&sc.names.lookup n==some .cell)then(n,.cell)else(n,k)
def visB(scope sc:Scope)(x:Str):Bool:=match(relN scope sc).lookup x with|some .local=>true|some .cell=>true|some .free=>true| _=>false
theorem pvc(sc:Scope)(i:Nat){X:Cx}{scope:Scope}{N:List Str}{C:Addr}{s:Shared}{H:Hp}{ex:List Addr}{x:Str}{pos:Pos}(hN:N[i]? =some x:=by rfl)(hs:X.env.scope=sc:=by rfl)(hv:visB scope sc x=true:=by decide+kernel)(hd:(x==("__debug__" : Str))=false:=by decide+kernel)(hcd:(x==("__classdict__" : Str))=false:=by decide+kernel):PE (cxC X scope N C s H ex) (.Name x pos) (tVar i):=by
 subst hs;refine pe_var hN ?_ hd hcd;have hv':visB scope X.env.scope x=true:=hv;unfold visB at hv';show(relN scope X.env.scope).lookup x=some .local\/(relN scope X.env.scope).lookup x=some .cell\/(relN scope X.env.scope).lookup x=some .free;split at hv'
 ·rename_i e;exact .inl e
 ·rename_i e;exact .inr (.inl e)
 ·rename_i e;exact .inr (.inr e)
 ·cases hv'
theorem glc(sc:Scope){X:Cx}{scope:Scope}{N:List Str}{C:Addr}{s:Shared}{H:Hp}{ex:List Addr}{x:Str}(hs:X.env.scope=sc:=by rfl)(h:((relN scope sc).lookup x==some .globalImplicit)=true:=by decide+kernel):Gl (cxC X scope N C s H ex) x:=by
 subst hs;exact eq_of_beq h
def insD(x:Int):List Int->List Int
 | []=>[x]
 |y::r=>if y<=x then x::y::r else y::insD x r
def sortD:List Int->List Int
 | []=>[]
 |x::r=>insD x (sortD r)
theorem insD_perm(x:Int):∀l:List Int,(insD x l).Perm (x::l)
 | []=>.refl _
 |y::r=>by
  unfold insD;split
  ·exact .refl _
  ·exact((insD_perm x r).cons y).trans (.swap x y r)
theorem yg:∀l:List Int,(sortD l).Perm l
 | []=>.refl _
 |x::r=>(insD_perm x _).trans ((yg r).cons x)
theorem insD_pw(x:Int):∀{l:List Int},l.Pairwise (· >= ·)->(insD x l).Pairwise (· >= ·)
 | [],_=>by simp[insD]
 |y::r,h=>by
  obtain⟨h1,h2⟩:=pairwise_cons.mp h;unfold insD;split
  ·rename_i hy;refine pairwise_cons.mpr ⟨fun z hz=>?_,h⟩;rcases mem_cons.mp hz with rfl|hz
   ·exact hy
   ·exact Int.le_trans (h1 z hz) hy
  ·rename_i hy;refine pairwise_cons.mpr ⟨fun z hz=>?_,insD_pw x h2⟩;rcases mem_cons.mp ((insD_perm x r).mem_iff.mp hz)with rfl|hz
   ·show z<=y;omega
   ·exact h1 z hz
theorem sortD_pw:∀l:List Int,(sortD l).Pairwise (· >= ·)
 | []=>.nil
 |x::r=>insD_pw x (sortD_pw r)
theorem perm_ge_eq{a b:List Int}(ha:a.Pairwise (· >= ·))(hb:b.Pairwise (· >= ·))(p:a.Perm b):a=b :=
 p.eq_of_pairwise (le:=fun x y=>x>=y) (fun x y _ _ h1 h2=>Int.le_antisymm h2 h1) ha hb
theorem sortD_eq{a l:List Int}(p:a.Perm l)(h:a.Pairwise (· >= ·)):a=sortD l:=perm_ge_eq h (sortD_pw l) (p.trans (yg l).symm)
section
variable{prog:Program}{w:World}{A:Around}{E:Value->Shared->Prop}{s:Shared}
theorem sorted_ints_revT{l:Addr}{vs:List Value}{ns:List Int}{b:Bool}{Q:Value->Shared->Prop}(hl:IsTup s.heap l vs.toArray)(hI:IntsAre vs ns)(h64:vs.length<64)(h:∀(out:List Value) (n:Nat) (h1 h':Heap) (ns':List Int),(∀b o,s.heap.get? b=some o->h1.get? b=some o)->(∀b o,h1.get? b=some o->h'.get? b=some o)->h'.get? h1.objs.size=some (seqObj "list" out.toArray n)->IntsAre out ns'->ns'.Perm ns->Ordered b ns'->Q (.ref h1.objs.size) {s with heap:=h'}) :
  wpAny (model prog w) A (call (.builtin "sorted") [.ref l] [(Str.ofString "reverse",.bool b)]) Q E s:=by
 refine call_function_entry_kw kind_sorted plain_sorted entry_sorted (args_sorted_rev _ _) ?_;unfold Builtin.«sorted»;refine wpAny_bind (m:=checkCount "sorted" 1 1 _) (wpAny_pure ?_);obtain⟨o,ho,hc,n,hd⟩:=hl;refine wpAny_bind (wpAny_collect_seq l (.inr rfl) ho hc hd (fun h1 hk1=>?_) (by simp[sizeLine_eq];omega));refine wpAny_bind (wpAny_newList ?_);have hoL:(h1.push (seqObj "list" vs.toArray 0)).get? h1.objs.size=some (seqObj "list" vs.toArray 0):=Heap.get?_push_size _ rfl;refine wpAny_bind (wpAny_holding (wpAny_call_entry_kw slot_list_sort ⟨_,hoL,rfl⟩ entry_list_sort (list_sort_tree_rev hoL hI h64 fun out ns' a1 a2 a3=>⟨_,rfl,?_⟩) (args_list_sort_rev _ _)));obtain⟨e,he⟩:=sortedHeap_at (vs:=vs) (out:=out) hoL;refine wpAny_pure ⟨_,rfl,h out.toList e h1 _ ns' hk1 (fun b o hb=>?_) he a1 a2 a3⟩;have hlt:=Heap.lt_size hb;rw[sortedHeap_old (ne_of_lt hlt) (by rw[Heap.size_push];exact lt_succ_of_lt hlt)];exact Heap.get?_push_of_some _ hb
end
section
variable{X:Cx}
def rSortR(K:W.Frag)(b:Bool):V->Hp->VK->Prop:=fun x H Q=>∃ a ns,x= .ref a/\(SqL K H a (ns.map V.int)\/SqT K H a (ns.map V.int))/\ns.length<64/\ ∀ns' p,ns'.Perm ns->Ordered b ns'->H p=none->Q (.ref p) (upd H p (.lst (ns'.map V.int)))
def tSortR(K:W.Frag)(b:Bool)(te:TE):TE:=fun σ H Q=>te σ H fun x H1=>rSortR K b x H1 Q
theorem yj{n:Nat}(h:n<64):n<=sizeLine:=le_trans (Nat.le_of_lt h) (by decide)
theorem pe_sortR{e:Expr}{te:TE}{b:Bool}{p kp cp pos:Pos}{j:Nat}(hg:Gl X "sorted")(hm:X.mg "sorted"=none)(he:PE X e te)(hse:starEach [e] X.env=[(false,eval e X.env)]:=by rfl):PE X (.Call (.Name "sorted" p) [e] [⟨some "reverse",.Constant (.bool b) j cp,kp⟩] pos) (tSortR X.K b te):=by
 intro pins s σ H Q I h;refine wpAny_Call_Name_kw (ld_blt I hg hm boot_sorted ?_ (by decide) (by decide));refine callWith_kw (thn (pa_cons he yt hse pos pins s σ H (fun vs H1=>match vs with| [x]=>rSortR X.K b x H1 Q| _=>False) I h) fun us s1 ⟨vs,H1,I1,r1,q1⟩=>?_) (by rw[hse];rfl) (by rw[hse];rfl)
 match vs,r1,q1 with
 | [x],r1,q =>
  obtain⟨u,rfl,ru⟩:=vals1 r1;refine kws_cons (Constant_bool (kws_nil ?_));obtain⟨a,ns,rfl,hq,hl,q⟩:=q;cases ru;show wpAny _ _ (call (.builtin "sorted") [.ref a] [(Str.ofString "reverse",.bool b)]) _ _ _;rcases hq with hq|hq
  ·obtain⟨its,r',pl,hz⟩:=I1.list hq;have hlen:=r'.length;rw[length_map]at hlen;refine sorted_ints_rev pl.isList (intsAre_of r') (by omega) fun out ns' a1 a2 a3=>?_;obtain⟨n,hn⟩:=sortedAll_at s1.heap its out;have hz':(ns'.map V.int).length<=sizeLine:=by rw[length_map,a2.length_eq];exact yj hl
   exact⟨.ref _,_,I1.laid (t':=s1.toks) (fun _ _=>sortedAll_old) (le_succ _) (show zS X.prog X.w _ _ _ (.lst (ns'.map V.int))from⟨hz',out.toList,n,vals_ints a1,by simpa [seqObj]using hn⟩),rfl,q ns' _ a2 a3 (I1.hok.fresh (le_succ _))⟩
  ·obtain⟨its,r',pl,hz⟩:=I1.tuple hq;have hlen:=r'.length;rw[length_map]at hlen;refine sorted_ints_revT pl (intsAre_of r') (by omega) fun out n h1 h' ns' k1 k2 e a1 a2 a3=>?_;have hz':(ns'.map V.int).length<=sizeLine:=by rw[length_map,a2.length_eq];exact yj hl
   have I2:Inv X pins σ H1 {s1 with heap:=h1}:=I1.kept (t':=s1.toks) k1;exact⟨.ref _,_,I2.laid (t':=s1.toks) k2 (le_refl _) (show zS X.prog X.w _ _ _ (.lst (ns'.map V.int))from⟨hz',out,n,vals_ints a1,by simpa [seqObj]using e⟩),rfl,q ns' _ a2 a3 (I2.hok.fresh (le_refl _))⟩
theorem preSum_list(ns:List Int):∀j,preSum (fun i=>ns.getD i 0) j=(ns.take j).sum
 | 0=>by simp[preSum]
 |j+1=>by
  rw[preSum,preSum_list ns j];by_cases h:j<ns.length
  ·rw[take_succ_eq_append_getElem h,List.sum_append,List.sum_cons,List.sum_nil];have e:ns.getD j 0=ns[j]:=by simp[h]
   rw[e];omega
  ·rw[take_of_length_le (by omega),take_of_length_le (by omega)];have:ns[j]? =none:=List.getElem?_eq_none (by omega);simp[List.getD,this]
theorem yD{ns:List Int}{its:List Value}(r:Vals (ns.map V.int) its)(i:Nat)(v:Value)(e:its.toArray[i]? =some v):∃t,v= .int (ns.getD i 0) t:=by
 have e':its[i]? =some v:=by simpa using e
 have hi:i<its.length:=(List.getElem?_eq_some_iff.mp e').1;have hl:=r.length;rw[length_map]at hl;have hx:(ns.map V.int)[i]? =some (V.int (ns.getD i 0)):=by
  have hi':i<ns.length:=by omega
  simp[hi']
 obtain⟨u,hu,t,rfl⟩:=r.get hx;rw[e']at hu;cases hu;exact⟨t,rfl⟩
theorem call_sum_ints(hc:X.calm=true):CallR X (.builtin "sum") (fun xs H Q=>∃(a:Addr)(ns:List Int),xs=[.ref a]/\(SqL X.K H a (ns.map V.int)\/SqT X.K H a (ns.map V.int))/\Q (.int ns.sum) H):=by
 intro pins s σ H xs us Q I r h;obtain⟨a,ns,rfl,hq,q⟩:=h;obtain⟨u,rfl,ru⟩:=vals1 r;cases ru;have hh:X.A.in1.handled=none:=I.ok.hd hc;have fin:∀{its:List Value}(h':Heap)(tk:Nat)(t':Tok),Vals (ns.map V.int) its->(∀b o,s.heap.get? b=some o->h'.get? b=some o)->EP X pins σ Q (.int (preSum (fun i=>ns.getD i 0) its.toArray.size) t') {s with heap:=h',toks:=tk}:=fun{its} h' tk t' r' hk=>by
  have hl:=r'.length;rw[length_map]at hl;refine⟨.int ns.sum,H,I.kept hk,⟨t',?_⟩,q⟩;rw[preSum_list,size_toArray,<-hl,take_length]
 rcases hq with hq|hq
 ·obtain⟨its,r',pl,hz⟩:=I.list hq;have hlt:a<s.heap.objs.size:=by obtain⟨_,e,_⟩:=pl.isList;exact Heap.lt_size e
  refine call_sum_walkG (wpAny_pyIter_list pl.isList ⟨_,_,_,_,_,_,fun i=>ns.getD i 0,rfl,Walks.list (A:=X.A.in1) hh _ a (ne_of_lt hlt) its.toArray,⟨⟨_,Heap.get?_push_size _ rfl,rfl,rfl⟩,pl.isList.push _⟩,fun b hb=>?_,yD r',fun h' tk t' hk=>fin h' tk t' r' fun b o e=>hk b o (by simpa using ne_of_lt (Heap.lt_size e)) (Heap.get?_push_of_some _ e)⟩);show b<(s.heap.push _).objs.size;rw[Heap.size_push];rcases mem_cons.mp hb with rfl|hb
  ·exact Nat.lt_succ_self _
  ·rcases mem_cons.mp hb with rfl|hb
   ·exact lt_succ_of_lt hlt
   ·cases hb
 ·obtain⟨its,r',pl,hz⟩:=I.tuple hq;have pl':s.heap.IsTuple a its.toArray:=pl;have hlt:a<s.heap.objs.size:=by obtain⟨_,e,_⟩:=pl;exact Heap.lt_size e
  refine call_sum_walkG (wpAny_pyIter_tuple pl' ⟨_,_,_,_,_,_,fun i=>ns.getD i 0,rfl,Walks.tuple (A:=X.A.in1) hh _ a (ne_of_lt hlt) its.toArray,⟨⟨_,Heap.get?_push_size _ rfl,rfl,rfl⟩,pl'.at fun o e=>Heap.get?_push_of_some _ e⟩,fun b hb=>?_,yD r',fun h' tk t' hk=>fin h' tk t' r' fun b o e=>hk b o (by simpa using ne_of_lt (Heap.lt_size e)) (Heap.get?_push_of_some _ e)⟩);show b<(s.heap.push _).objs.size;rw[Heap.size_push];rcases mem_cons.mp hb with rfl|hb
  ·exact Nat.lt_succ_self _
  ·rcases mem_cons.mp hb with rfl|hb
   ·exact lt_succ_of_lt hlt
   ·cases hb
def cntV(y:V)(xs:List V):Nat:=xs.countP fun x=>eqV x y
theorem cnt_eqU{x:V}:∀{xs:List V}{us:List Value},Vals xs us->xs.all flatV=true->us.countP (eqU x)=cntV x xs
 | _,_,.nil,_=>rfl
 |y::xs,u::us,.cons r t,f=>by
  rw[List.all_cons,and_eq_true]at f;unfold cntV;rw[List.countP_cons,List.countP_cons,eqU_of r f.1,cnt_eqU t f.2];rfl
def rCount(K:W.Frag)(SQ:W.Frag->Hp->Addr->List V->Prop):V->List V->Hp->VK->Prop:=fun x vs H Q=>∃ a xs y,x= .ref a/\vs=[y]/\SQ K H a xs/\flatV y=true/\xs.all flatV=true/\Q (.int (cntV y xs)) H
theorem mt_countT:MtR X "tuple.count" (rCount X.K SqT):=by
 intro pins s σ H x vs v us Q I rx rv h;obtain⟨a,xs,y,rfl,rfl,hq,fy,fs,q⟩:=h;cases rx;obtain⟨u,rfl,ru⟩:=rv.one;obtain⟨its,r,pl,hz⟩:=I.tuple hq;obtain⟨o,ho,hc,n,hd⟩:=pl;obtain⟨c,dd,dt,sl⟩:=o;cases hc;cases hd;refine call_meets F.slot_tuple_count ⟨_,ho,rfl⟩ F.entry_tuple_count (F.args_tuple_count_2 _ _) (SeqAt.tuple_countAt a its.toArray n dd sl u (eqU y)) ⟨ho,fun w hw=>mem_eqAt ru fy r fs w (by simpa using hw),?_⟩;refine⟨.int _,H,I.tok _,⟨s.toks,?_⟩,q⟩;rw[show its.toArray.toList=its from rfl,cnt_eqU r fs]
theorem mt_countL:MtR X "list.count" (rCount X.K SqL):=by
 intro pins s σ H x vs v us Q I rx rv h;obtain⟨a,xs,y,rfl,rfl,hq,fy,fs,q⟩:=h;cases rx;obtain⟨u,rfl,ru⟩:=rv.one;obtain⟨its,r,pl,hz⟩:=I.list hq;obtain⟨o,ho,hc,n,hd⟩:=pl.isList;obtain⟨c,dd,dt,sl⟩:=o;cases hc;cases hd;refine call_meets F.slot_list_count ⟨_,ho,rfl⟩ F.entry_list_count (F.args_list_count_2 _ _) (SeqAt.list_countAt a its.toArray n dd sl u (eqU y)) ⟨ho,fun w hw=>mem_eqAt ru fy r fs w (by simpa using hw),?_⟩;refine⟨.int _,H,I.tok _,⟨s.toks,?_⟩,q⟩;rw[show its.toArray.toList=its from rfl,cnt_eqU r fs]
theorem cntV_ints(k:Int)(ns:List Int):cntV (.int k) (ns.map V.int)=ns.count k:=by
 unfold cntV;rw[List.countP_map,List.count_eq_countP];congr 1
theorem yu(ns:List Int):(ns.map V.int).all flatV=true:=by
 rw[all_map];simp[flatV]
theorem call_isi:CallR X (.builtin "isinstance") (fun xs H Q=>∃ x T t b,xs=[x,.ty T]/\TyOf X.K H x t/\W.kitOne X.K t (.type T)=some b/\Q (.bl b) H):=by
 intro pins s σ H xs us Q I r h;obtain⟨x,T,t,b,rfl,ty,hk,q⟩:=h;obtain⟨u,v,rfl,ru,rv⟩:=vals2 r;cases(show v=Value.type T from rv);exact isinst_ok I ru ty hk fun tk=>⟨.bl b,H,I.tok tk,rfl,q⟩
end
theorem kit_int_int{K:W.Frag}:W.kitOne K (.type "int") (.type "int")=some true:=by unfold W.kitOne;rw[if_pos (by decide+kernel)]
theorem kit_int_bool{K:W.Frag}:W.kitOne K (.type "int") (.type "bool")=some false:=by
 unfold W.kitOne;rw[if_neg (by decide+kernel)];rfl
theorem kit_bool_bool{K:W.Frag}:W.kitOne K (.type "bool") (.type "bool")=some true:=by unfold W.kitOne;rw[if_pos (by decide+kernel)]
theorem kit_tup_tup{K:W.Frag}:W.kitOne K (.type "tuple") (.type "tuple")=some true:=by unfold W.kitOne;rw[if_pos (by decide+kernel)]
theorem kit_str_str{K:W.Frag}:W.kitOne K (.type "str") (.type "str")=some true:=by unfold W.kitOne;rw[if_pos (by decide+kernel)]
theorem kit_list_list{K:W.Frag}:W.kitOne K (.type "list") (.type "list")=some true:=by unfold W.kitOne;rw[if_pos (by decide+kernel)]
theorem noPylong_big{x y:Int}(h0:0<y)(h:y<=10^100):Builtin.divisionGoesByPylong x y=false:=by
 refine PyProof.noPylong_of_log2 ?_;have hn:y.natAbs≠0:=by omega
 have h1:y.natAbs<=10^100:=by omega
 refine(Nat.log2_lt hn).mpr (lt_of_le_of_lt h1 (by decide+kernel))
def CDivB(i j:Int):Prop:=0<j/\j<=10^100
theorem yM{X:Cx}:OpR X (binaryOp .FloorDiv) (rI CDivB fun i j=>.int (i / j)):=opI fun i j _ _ _ _ _ hc q=>by
 refine floordiv_int (by have:=hc.1;omega) ?_ (.inl (noPylong_big hc.1 hc.2));rw[Int.fdiv_eq_ediv_of_nonneg _ (le_of_lt hc.1)];exact q
theorem get_list{X:Cx}:PGet X (fun x y H Q=>∃ p xs i v,x= .ref p/\y= .int i/\SqL X.K H p xs/\0<=i/\xs[i.toNat]? =some v/\Q v H):=by
 intro pins s σ H o i ov iv Q I ro ri h;obtain⟨p,xs,k,v,rfl,rfl,hq,h0,hv,q⟩:=h;cases ro;obtain⟨t,rfl⟩:=ri;obtain⟨its,r,pl,hz⟩:=I.list hq;have hlen:=r.length;have hn:=line63;obtain⟨u,hu,ru⟩:=r.get hv;have hk:=(List.getElem?_eq_some_iff.mp hv).1;exact wpAny_getItem_list pl.isList h0 (by omega) (by simpa using hu) ⟨v,H,I,ru,q⟩
theorem seqJoin{A B:TS}{D:Ends}{σ:St}{H:Hp}(R:St->Hp->Prop)(h:∀nx:St->Hp->Prop,(∀ σ' H',R σ' H'->nx σ' H')->A {D with nx:=nx} σ H)(hR:∀ σ' H',R σ' H'->B D σ' H'):tSeq A B D σ H:=h (B D) hR
def Keep(S:List Addr)(H H':Hp):Prop:=∀ b o,H b=some o->b∉S->H' b=some o
theorem Keep.refl(S:List Addr)(H:Hp):Keep S H H:=fun _ _ h _=>h
theorem Keep.trans{S:List Addr}{H H1 H2:Hp}(a:Keep S H H1)(b:Keep S H1 H2):Keep S H H2:=fun c o h n=>b c o (a c o h n) n
theorem Keep.set{S:List Addr}{H:Hp}{p:Addr}{o:HO}(h:p∈S):Keep S H (upd H p o):=fun b u e n=>by
 have hb:b≠p:=fun z=>n (by rw[z];exact h);rw[zh hb];exact e
theorem Same.keep{S:List Addr}{H H':Hp}(h:Same H H'):Keep S H H':=fun b o e _=>h b o e
structure StAt(H:Hp)(st ga ca:Addr)(N:Nat):Prop where
 ex:∃(gs cs:List Int)(q n:Int),H st=some (.lst [.ref ga,.int q,.ref ca,.int n])/\H ga=some (.lst (gs.map V.int))/\H ca=some (.lst (cs.map V.int))/\
  gs.length<=63/\(∀x∈gs,0<x)/\0<=q/\0<=n/\n<=N
 gc:ga≠ca
 sg:st≠ga
 sc:st≠ca
theorem StAt.nin{H:Hp}{st ga ca:Addr}{N:Nat}(S:StAt H st ga ca N){p:Addr}(h:H p=none):p∉[st,ga]:=by
 obtain⟨gs,cs,q,n,h1,h2,_⟩:=S.ex;intro z;rcases mem_cons.mp z with rfl|z
 ·rw[h1]at h;cases h
 ·rcases mem_cons.mp z with rfl|z
  ·rw[h2]at h;cases h
  ·cases z
theorem StAt.mono{H:Hp}{st ga ca:Addr}{N M:Nat}(S:StAt H st ga ca N)(h:N<=M):StAt H st ga ca M:=by
 obtain⟨gs,cs,q,n,h1,h2,h3,h4,h5,h6,h7,h8⟩:=S.ex;exact⟨⟨gs,cs,q,n,h1,h2,h3,h4,h5,h6,h7,by omega⟩,S.gc,S.sg,S.sc⟩
theorem StAt.same{H H':Hp}{st ga ca:Addr}{N:Nat}(S:StAt H st ga ca N)(h:Same H H'):StAt H' st ga ca N:=by
 obtain⟨gs,cs,q,n,h1,h2,h3,r⟩:=S.ex;exact⟨⟨gs,cs,q,n,h _ _ h1,h _ _ h2,h _ _ h3,r⟩,S.gc,S.sg,S.sc⟩
theorem Same.new{H:Hp}{p:Addr}{o:HO}(h:H p=none):Same H (upd H p o):=fun b u e=>by rw[zh (zt e h)];exact e
theorem Keep.at{S:List Addr}{H H':Hp}(k:Keep S H H'){b:Addr}{o:HO}(h:H b=some o)(n:b∉S):H' b=some o:=k b o h n
theorem Keep.free{S:List Addr}{H H':Hp}(k:Keep S H H'){b:Addr}(h:H' b=none)(n:b∉S):H b=none:=by
 cases q:H b with
 |none=>rfl
 |some o=>rw[k b o q n]at h;cases h
theorem yI{ns:List Int}{i:Nat}{x:V}(h:(ns.map V.int)[i]? =some x):∃z,ns[i]? =some z/\x= .int z:=by
 rw[getElem?_map]at h;cases hn:ns[i]? with
 |none=>rw[hn]at h;cases h
 |some z=>rw[hn]at h;exact⟨z,rfl,(Option.some.inj h).symm⟩
def lies(ns ms:List Int):Bool:=ns.all fun x=>decide (ns.count x<=ms.count x)
theorem all_take{α:Type}{p:α->Bool}{l:List α}{i:Nat}{x:α}(hx:l[i]? =some x):(l.take (i+1)).all p=((l.take i).all p&&p x):=by
 have hi:=(List.getElem?_eq_some_iff.mp hx).1;have ex:=(List.getElem?_eq_some_iff.mp hx).2;rw[take_succ_eq_append_getElem hi,List.all_append,ex];simp
theorem all_false{α:Type}{p:α->Bool}{l:List α}{x:α}(hx:x∈l)(h:p x=false):l.all p=false:=by
 rw[List.all_eq_false];exact⟨x,hx,by simp[h]⟩
theorem StAt.nin3{H:Hp}{st ga ca:Addr}{N:Nat}(S:StAt H st ga ca N){p:Addr}(h:H p=none):p∉[st,ga,ca]:=by
 obtain⟨gs,cs,q,n,h1,h2,h3,_⟩:=S.ex;intro z;simp only[mem_cons,not_mem_nil,or_false]at z;rcases z with rfl|rfl|rfl
 ·rw[h1]at h;cases h
 ·rw[h2]at h;cases h
 ·rw[h3]at h;cases h
theorem nin2{st ga ca p:Addr}(h:p∉[st,ga,ca]):p∉[st,ga]:=fun z=>h (by
 simp only[mem_cons,not_mem_nil,or_false]at z ⊢;rcases z with z|z
 ·exact .inl z
 ·exact .inr (.inl z))
theorem map_erase:∀(ms:List Int)(j:Nat),(ms.map V.int).eraseIdx j=(ms.eraseIdx j).map V.int
 | [],_=>rfl
 | _::_,0=>rfl
 |x::r,j+1=>by
  show V.int x::(r.map V.int).eraseIdx j=V.int x::(r.eraseIdx j).map V.int;rw[map_erase r j]
def EqK(X:Cx)(α:Type)[DecidableEq α](R:α->V->Hp->Prop)(n:Nat):Prop :=
 ∀(pins:List (Addr×Obj))(σ:St)(H:Hp)(s:Shared)(A:Around)(a b:α)(v w:V)(u u':Value),Inv X pins σ H s->A.units+n<cLine->R a v H->R b w H->RelV v u->RelV w u'->SeqAt.EqAt A s u u' (decide (a=b))
inductive All2{α:Type}(R:α->V->Hp->Prop)(H:Hp):List α->List V->Prop
 |nil:All2 R H [] []
 |cons {a:α} {v:V} {l:List α} {xs:List V}:R a v H->All2 R H l xs->All2 R H (a::l) (v::xs)
theorem All2.length{α:Type}{R:α->V->Hp->Prop}{H:Hp}:∀{l:List α}{xs:List V},All2 R H l xs->l.length=xs.length
 | _,_,.nil=>rfl
 | _,_,.cons _ t=>by simp[t.length]
theorem All2.get{α:Type}{R:α->V->Hp->Prop}{H:Hp}:∀{l:List α}{xs:List V}{i:Nat}{x:V},All2 R H l xs->xs[i]? =some x-> ∃a,l[i]? =some a/\R a x H
 | _,_,_,_,.nil,e=>by simp at e
 | _,_,0,_,.cons r _,e=>by simp at e;subst e;exact⟨_,rfl,r⟩
 | _,_,i+1,x,.cons _ t,e=>by
  obtain⟨u,h1,h2⟩:=All2.get (i:=i) (x:=x) t (by simpa using e);exact⟨u,by simpa using h1,h2⟩
theorem All2.append{α:Type}{R:α->V->Hp->Prop}{H:Hp}:∀{l l':List α}{xs xs':List V},All2 R H l xs->All2 R H l' xs'->All2 R H (l++l') (xs++xs')
 | _,_,_,_,.nil,s=>s
 | _,_,_,_,.cons r t,s=>.cons r (t.append s)
theorem All2.imp{α:Type}{R:α->V->Hp->Prop}{H H':Hp}(f:∀a v,R a v H->R a v H'):∀{l:List α}{xs:List V},All2 R H l xs->All2 R H' l xs
 | _,_,.nil=>.nil
 | _,_,.cons r t=>.cons (f _ _ r) (t.imp f)
def RInt:Int->V->Hp->Prop:=fun i v _=>v= .int i
theorem all2_ints{H:Hp}:∀(ns:List Int),All2 RInt H ns (ns.map V.int)
 | []=>.nil
 | _::r=>.cons rfl (all2_ints r)
def RTup(K:W.Frag){α:Type}(R:α->V->Hp->Prop):List α->V->Hp->Prop:=fun l v H=>∃ p xs,v= .ref p/\SqT K H p xs/\All2 R H l xs
def RLst(K:W.Frag){α:Type}(R:α->V->Hp->Prop):List α->V->Hp->Prop:=fun l v H=>∃ p xs,v= .ref p/\SqL K H p xs/\All2 R H l xs
theorem all_range_eq{α:Type}[DecidableEq α]{l m:List α}{e:Nat->Bool}(h:∀j a b,l[j]? =some a->m[j]? =some b->e j=decide (a=b)):((List.range (min l.length m.length)).all e&&l.length==m.length)=decide (l=m):=by
 rw[Bool.eq_iff_iff];simp only[and_eq_true,all_eq_true,mem_range,beq_iff_eq,decide_eq_true_eq];constructor
 ·rintro⟨h1,h2⟩;refine List.ext_getElem h2 fun j j1 j2=>?_;have:=h1 j (by omega);rw[h j _ _ (getElem?_eq_getElem j1) (getElem?_eq_getElem j2)]at this;exact of_decide_eq_true this
 ·rintro rfl;refine⟨fun j hj=>?_,rfl⟩;have hj':j<l.length:=by omega
  rw[h j _ _ (getElem?_eq_getElem hj') (getElem?_eq_getElem hj')];exact decide_eq_true rfl
section
variable{X:Cx}
theorem eqk_int:EqK X Int RInt 0:=fun pins σ H s A a b v w u u' I hu r1 r2 q1 q2=>by
 unfold RInt at r1 r2;subst r1 r2;obtain⟨t,rfl⟩:=q1;obtain⟨t',rfl⟩:=q2;have:=SeqAt.EqAt.int_int (A:=A) (s:=s) a t b t'
 rwa [show(a==b)=decide (a=b)from rfl]at this
variable{α:Type}[DecidableEq α]{R:α->V->Hp->Prop}{n:Nat}
theorem eqk_items(h:EqK X α R n){pins:List (Addr×Obj)}{σ:St}{H:Hp}{s:Shared}{A:Around}{l m:List α}{xs ys:List V}{us ws:List Value}(I:Inv X pins σ H s)(hu:A.units+(n+1)<cLine)(r1:All2 R H l xs)(r2:All2 R H m ys)(q1:Vals xs us)(q2:Vals ys ws) :
  ∃e:Nat->Bool,(∀j (h1:j<us.toArray.size) (h2:j<ws.toArray.size),SeqAt.EqAt A.in1 s us.toArray[j] ws.toArray[j] (e j))/\(∀j a b,l[j]? =some a->m[j]? =some b->e j=decide (a=b)):=by
 refine⟨fun j=>match l[j]?,m[j]? with|some a,some b=>decide (a=b)| _,_=>false,fun j h1 h2=>?_,fun j a b e1 e2=>by simp only[e1,e2]⟩;have l1:=q1.length;have l2:=q2.length;have l3:=r1.length;have l4:=r2.length;simp only[size_toArray]at h1 h2;have hx:xs[j]? =some xs[j]:=getElem?_eq_getElem (by omega);have hy:ys[j]? =some ys[j]:=getElem?_eq_getElem (by omega);obtain⟨a,ea,ra⟩:=r1.get hx;obtain⟨b,eb,rb⟩:=r2.get hy;obtain⟨u,eu,ru⟩:=q1.get hx;obtain⟨w,ew,rw'⟩:=q2.get hy;have e1:us.toArray[j]'(by simpa using h1)=u:=by
  have:=(List.getElem?_eq_some_iff.mp eu).2;simpa using this
 have e2:ws.toArray[j]'(by simpa using h2)=w:=by
  have:=(List.getElem?_eq_some_iff.mp ew).2;simpa using this
 rw[e1,e2];simp only[ea,eb];exact h pins σ H s A.in1 a b _ _ u w I (by show A.units+1+n<cLine;omega) ra rb ru rw'
theorem rc_tup(h:EqK X α R n){pins:List (Addr×Obj)}{σ:St}{H:Hp}{s:Shared}{A:Around}{l m:List α}{p q:Addr}(I:Inv X pins σ H s)(hu:A.units+(n+1)<cLine)(r1:RTup X.K R l (.ref p) H)(r2:RTup X.K R m (.ref q) H) :
  SeqAt.RcAt A s (.ref p) (.ref q) (decide (l=m)):=by
 obtain⟨_,xs,e1,h1,a1⟩:=r1;obtain⟨_,ys,e2,h2,a2⟩:=r2;cases e1;cases e2;obtain⟨us,v1,t1,z1⟩:=I.tuple h1;obtain⟨ws,v2,t2,z2⟩:=I.tuple h2;obtain⟨e,he,hd⟩:=eqk_items h I hu a1 a2 v1 v2;have:=SeqAt.RcAt.tuples (e:=e) t1 t2 (by omega) he;rw[size_toArray,size_toArray,<-v1.length,<-v2.length,<-a1.length,<-a2.length,all_range_eq hd]at this;exact this
theorem rc_lst(h:EqK X α R n){pins:List (Addr×Obj)}{σ:St}{H:Hp}{s:Shared}{A:Around}{l m:List α}{p q:Addr}(I:Inv X pins σ H s)(hu:A.units+(n+1)<cLine)(r1:RLst X.K R l (.ref p) H)(r2:RLst X.K R m (.ref q) H) :
  SeqAt.RcAt A s (.ref p) (.ref q) (decide (l=m)):=by
 obtain⟨_,xs,e1,h1,a1⟩:=r1;obtain⟨_,ys,e2,h2,a2⟩:=r2;cases e1;cases e2;obtain⟨us,v1,t1,z1⟩:=I.list h1;obtain⟨ws,v2,t2,z2⟩:=I.list h2;obtain⟨e,he,hd⟩:=eqk_items h I hu a1 a2 v1 v2;have ee:=all_range_eq hd;have s1:us.toArray.size=l.length:=by rw[size_toArray,<-v1.length,<-a1.length]
 have s2:ws.toArray.size=m.length:=by rw[size_toArray,<-v2.length,<-a2.length]
 by_cases hl:l.length=m.length
 ·have:=SeqAt.RcAt.lists (e:=e) t1.isList t2.isList (by rw[s1,s2,hl]) (by omega) he;rw[s1]at this;rw[hl,Nat.min_self,beq_self_eq_true,Bool.and_true,<-hl]at ee
  rwa [ee]at this
 ·have:=SeqAt.RcAt.lists_lengths t1.isList t2.isList (by rw[s1,s2];simpa using hl) (show A.units<cLine by omega);have hne:¬l=m:=fun e=>hl (by rw[e]);rw[decide_eq_false hne];exact this
theorem eqk_tup(h:EqK X α R n)(det:∀(pins:List (Addr×Obj)) (σ:St) (H:Hp) (s:Shared) (a b:α) (v:V),Inv X pins σ H s->R a v H->R b v H->a=b):EqK X (List α) (RTup X.K R) (n+1):=fun pins σ H s A a b v w u u' I hu r1 r2 q1 q2=>by
 obtain⟨p,xs,rfl,h1,a1⟩:=id r1;obtain⟨q,ys,rfl,h2,a2⟩:=id r2;cases q1;cases q2;by_cases hpq:p=q
 ·subst hpq;have e:=I.tuple_inj h1 h2;subst e;have:a=b:=by
   clear r1 r2 h1 h2 hu
   induction a1 generalizing b with
   |nil=>cases a2;rfl
   |cons r t ih =>
    cases a2 with
    |cons r' t'=>rw[det pins σ H s _ _ _ I r r',ih _ t']
  rw[decide_eq_true this];exact SeqAt.EqAt.same _
 ·exact SeqAt.EqAt.of_refs hpq (rc_tup h I hu r1 r2)
theorem det_int(pins:List (Addr×Obj))(σ:St)(H:Hp)(s:Shared)(a b:Int)(v:V)(I:Inv X pins σ H s)(h1:RInt a v H)(h2:RInt b v H):a=b:=by
 unfold RInt at h1 h2;rw[h1]at h2;cases h2;rfl
theorem op_eqL'(h:EqK X α R n)(hu:X.A.units+(n+1)<cLine):OpR X (compareOp .Eq) (fun x y H Q=>∃ l m,RLst X.K R l x H/\RLst X.K R m y H/\Q (.bl (decide (l=m))) H):=by
 intro pins s σ H x y v u Q I rx ry hq;obtain⟨l,m,r1,r2,q⟩:=hq;obtain⟨p,xs,rfl,_⟩:=id r1;obtain⟨p',ys,rfl,_⟩:=id r2;cases rx;cases ry;exact rc_lst h I hu r1 r2 X.prog X.w X.xe _ ⟨.bl _,H,I,rfl,q⟩
end
theorem RTup.ints{K:W.Frag}{H:Hp}{p:Addr}{ns:List Int}(h:SqT K H p (ns.map V.int)):RTup K RInt ns (.ref p) H:=⟨p,_,rfl,h,all2_ints ns⟩
theorem huR{A:Around}{k n:Nat}{cm:Bool}(hr:Room k A cm)(h:n<=64:=by decide):A.units+n<cLine:=lt_of_le_of_lt (Nat.add_le_add_left h _) hr.units
end L2
namespace HT
open PySem PySem.Spec PyProof.Rows
section
variable{prog:Program}{w:World}{A:Around}{E:Value->Shared->Prop}{s:Shared}
theorem getItem_tuple_whole{t sl:Addr}{items:Array Value}{vl vu:Value}{lo hi:Option Int}{Q:Value->Shared->Prop}(ht:IsTup s.heap t items)(hs:s.heap.IsSliceOf sl vl vu .none)(pl:IsPart vl lo)(pu:IsPart vu hi)(hw:sIx items.size 0 lo=0/\sIx items.size items.size hi=items.size)(h:Q (.ref t) s):wpAny (model prog w) A (getItem (.ref t) (.ref sl)) Q E s:=by
 obtain⟨os,hos,hcs,hds⟩:=id hs;have hTs:s.TypeIs (.ref sl) "slice" :=⟨os,hos,hcs⟩;unfold getItem
 try with_reducible refine wpAny_holding ?_
 first|refine wpAny_bind (wpAny_pure ?_)|skip
 refine wpAny_bind (wpAny_sequenceKey ht.typeIs (by decide) ?_);refine wpAny_bind (wpAny_callSpecial?_slot (name:=Str.ofString "__getitem__") ht.typeIs PyProof.Rows.slot_tuple_getitem
  (wpAny_call_entry PyProof.Rows.slot_tuple_getitem ht.typeIs entry_tuple_getitem ?_ (args_tuple_getitem _ _)))
 show wpAny _ _ (Builtin.Tuple.tupleItemsOf (.ref t) >>= _) _ _ s;refine wpAny_bind (tupleItemsOf_ ht ?_);refine wpAny_bind (wpAny_typeOf hTs ?_);rw[if_pos (by decide)];refine wpAny_bind (sliceApplied_gen hs pl pu ?_);have hyes:(((sIx items.size 0 lo:Nat):Int)==0&&(1:Int)==1&&(sIx items.size items.size hi-sIx items.size 0 lo)==items.size)=true:=by
  rw[hw.1,hw.2];simp
 show wpAny _ _ (if(((sIx items.size 0 lo:Nat):Int)==0&&(1:Int)==1&&(sIx items.size items.size hi-sIx items.size 0 lo)==items.size)=true then _ else _) _ _ s;rw[if_pos hyes];refine wpAny_bind ?_;unfold Builtin.Tuple.tupleIsExact;refine wpAny_bind (wpAny_typeOf ht.typeIs (wpAny_pure ?_));rw[if_pos (by decide)]
 first
  |exact wpAny_bind (wpAny_rule (wpAny_bind (wpAny_pure (wpAny_pure ⟨_,rfl,wpAny_pure h⟩))))
  |exact wpAny_bind (wpAny_rule (wpAny_pure ⟨_,rfl,wpAny_pure h⟩))
end
end HT
namespace L2
open PySem PySem.Spec PyProof.Rows
section
variable{X:Cx}
theorem sl_tupW:SlR X (fun x lo hi H Q=>∃ a xs,x= .ref a/\SqT X.K H a xs/\(HT.sIx xs.length 0 lo=0/\HT.sIx xs.length xs.length hi=xs.length)/\Q (.ref a) H):=by
 intro pins s σ H x v vl vu lo hi sl Q I rx hs pl pu h;obtain⟨a,xs,rfl,hx,hw,q⟩:=h;cases rx;obtain⟨its,r,ht,hz⟩:=I.tuple hx;have hlen:its.toArray.size=xs.length:=by rw[size_toArray];exact r.length.symm
 refine⟨"tuple",_,PyProof.Rows.slot_tuple_getitem.lookup,ht.typeIs,?_⟩;exact HT.getItem_tuple_whole ht hs pl pu (by rw[hlen];exact hw) ⟨.ref a,H,I,rfl,q⟩
def rSlTA(K:W.Frag):V->Option Int->Option Int->Hp->VK->Prop:=fun x lo hi H Q=>(∃a xs,x= .ref a/\SqT K H a xs/\(HT.sIx xs.length 0 lo=0/\HT.sIx xs.length xs.length hi=xs.length)/\Q (.ref a) H)\/rSlT K x lo hi H Q
theorem sl_tupA:SlR X (rSlTA X.K):=sl_tupW.or sl_tup
end
section
variable{X:Cx}
theorem call_all_bools(hc:X.calm=true):CallR X (.builtin "all") (fun xs H Q=>∃(a:Addr)(bs:List Bool),xs=[.ref a]/\SqL X.K H a (bs.map V.bl)/\Q (.bl (bs.all id)) H):=by
 intro pins s σ H xs us Q I r h;obtain⟨a,bs,rfl,hq,q⟩:=h;obtain⟨u,rfl,ru⟩:=vals1 r;cases ru;have hh:X.A.in1.handled=none:=I.ok.hd hc;obtain⟨its,r',pl,hz⟩:=I.list hq;have hl:=r'.length;rw[length_map]at hl;have hlt:a<s.heap.objs.size:=by obtain⟨_,e,_⟩:=pl.isList;exact Heap.lt_size e
 refine call_all_walk (wpAny_pyIter_list pl.isList ⟨_,_,_,_,_,_,fun i=>bs.getD i false,rfl,Walks.list (A:=X.A.in1) hh _ a (ne_of_lt hlt) its.toArray,⟨⟨_,Heap.get?_push_size _ rfl,rfl,rfl⟩,pl.isList.push _⟩,?_,fun h' tk hk=>?_⟩)
 ·intro i v s' Q' E' hv hQ;have hv':its[i]? =some v:=by simpa using hv
  have hi:i<bs.length:=by have:=(List.getElem?_eq_some_iff.mp hv').1;omega
  have hx:(bs.map V.bl)[i]? =some (V.bl (bs.getD i false)):=by simp[hi]
  obtain⟨u,hu,ru⟩:=r'.get hx;rw[hv']at hu;cases hu;cases ru;exact wpAny_truthy_bool hQ
 ·have e:(List.range its.toArray.size).all (fun i=>bs.getD i false)=bs.all id:=by
   rw[size_toArray,<-hl,Bool.eq_iff_iff];simp only[all_eq_true,mem_range,id];constructor
   ·intro h b hb;obtain⟨i,hi,rfl⟩:=List.mem_iff_getElem.mp hb;have:=h i hi;simpa [hi]using this
   ·intro h i hi;have:=h bs[i] (getElem_mem hi);simpa [hi]using this
  rw[e];exact⟨.bl _,H,I.kept fun b o e=>hk b o (by simpa using ne_of_lt (Heap.lt_size e)) (Heap.get?_push_of_some _ e),rfl,q⟩
end
theorem mapF_dict(f:Array Value->Array Value)(o:Obj):(Obj.mapFields f o).dict=o.dict:=by
 obtain⟨c,d,dat,sl⟩:=o;cases dat <;>rfl
def TrD(h base:Heap)(e:Addr)(C:Value)(dd:Option Addr)(fl:Value):Prop :=
 ∃oe vs T oT ts,h.get? e=some oe/\(oe.cls=C/\oe.dict=dd)/\oe.data= .fields vs/\vs[1]? =some (.ref T)/\
  base.get? T=none/\T≠e/\h.get? T=some oT/\oT.data= .fields ts/\ts[3]? =some fl
def FlyD(base:Heap)(l:List Env)(e:Addr)(C:Value)(dd:Option Addr)(h:Heap):Prop:=base.StaysIn h/\base.get? e=none/\h.FunFrames base l/\TrD h base e C dd .none
def HeldD(base:Heap)(l:List Env)(e:Addr)(C:Value)(dd:Option Addr)(L:Addr)(h:Heap):Prop:=base.StaysIn h/\base.get? e=none/\h.FunFrames base l/\TrD h base e C dd (rawInt L)
def UpS(h h':Heap):Prop:=∀ b o,h.get? b=some o->(∀vs,o.data≠ .fields vs)-> ∃sl,h'.get? b=some {o with slots:=sl}
theorem UpS.same(h:Heap):UpS h h:=fun _ o q _=>⟨o.slots,q⟩
theorem UpS.trans{h1 h2 h3:Heap}(x:UpS h1 h2)(y:UpS h2 h3):UpS h1 h3:=fun b o q n=>by
 obtain⟨sl,q2⟩:=x b o q n;obtain⟨sl2,q3⟩:=y b {o with slots:=sl} q2 n;exact⟨sl2,q3⟩
section
variable{M:Model}{A:Around}{E:Value->Shared->Prop}{s:Shared}{base:Heap}{env:Env}{outer:List Env}{L e:Addr}{C:Value}{dd:Option Addr}{Q:Unit->Shared->Prop}
theorem upd_away{h:Heap}{T:Addr}{oT:Obj}{ts:Array Value}(hT:h.get? T=some oT)(hd:oT.data= .fields ts)(f:Array Value->Array Value) :
  (∀b,b≠T->(h.update T (Obj.mapFields f)).get? b=h.get? b)/\(∀b o,h.get? b=some o->(∀vs,o.data≠ .fields vs)->(h.update T (Obj.mapFields f)).get? b=some o)/\(h.update T (Obj.mapFields f)).get? T=some (Obj.mapFields f oT):=by
 have far:∀b,b≠T->(h.update T (Obj.mapFields f)).get? b=h.get? b:=fun b n=>Heap.get?_update_other _ _ (Ne.symm n);refine⟨far,fun b o q n=>?_,Heap.get?_update_self _ hT (Obj.isFreed_of_fields (Obj.data_mapFields hd _))⟩;refine(far b fun z=>?_).trans q;subst z;rw[hT]at q;cases q;exact n ts hd
theorem st_flight{l:List Env}{fl:Value}(f:Option Addr)(k1:base.StaysIn s.heap)(k2:s.heap.FunFrames base l)(k3:TrD s.heap base e C dd fl)(q:∀h',base.StaysIn h'->h'.FunFrames base l->TrD h' base e C dd (f.elim Value.none fun f=>rawInt f)->UpS s.heap h'->Q () {s with heap:=h'}):wpAny M A (setFlight (.ref e) f) Q E s:=by
 obtain⟨oe,vs,T,oT,ts,g1,g2,g3,g4,g5,g6,g7,g8,g9⟩:=k3;have z3:3<ts.size:=(Array.getElem?_eq_some_iff.mp g9).1;obtain⟨far,non,own⟩:=upd_away g7 g8 (·.setIfInBounds 3 (f.elim Value.none fun f=>rawInt f));unfold setFlight;refine wpAny_bind (wpAny_field g1 g3 g4 ?_);rw[if_pos (by simp)];refine wpAny_setField g7 g8 z3 (q _ ?_ ?_ ?_ fun b o q n=>⟨o.slots,non b o q n⟩)
 ·intro b o qb;refine(far b fun z=>?_).trans (k1 b o qb);rw[z,g5]at qb;cases qb
 ·exact k2.of_keeps fun b o qb n=>⟨o,non b o qb n,rfl⟩
 ·exact⟨oe,vs,T,_,_,(far e (Ne.symm g6)).trans g1,g2,g3,g4,g5,g6,own,Obj.data_mapFields g8 _,by simp[z3]⟩
theorem st_entry{oe:Obj}{vs:Array Value}{head:Value}{more:Bool}(fr:A.frames=some (env::outer))(k2:s.heap.FunFrames base (env::outer))(hL:env.frame=some L)(g1:s.heap.get? e=some oe)(k1:base.StaysIn s.heap)(ne:base.get? e=none)(g3:oe.data= .fields vs)(z1:1<vs.size)(q:∀h',base.StaysIn h'->h'.FunFrames base (env::outer)->TrD h' base e oe.cls oe.dict (rawInt L)->UpS s.heap h'->Q () {s with heap:=h'}) :
  wpAny M A (do
   let a <-frameOf env
   let pl <-entryPlaceOf L more
   let b <-EntryCells.newEntry head a .none (rawInt L) .none pl
   setField (.ref e) 1 b) Q E s:=by
 have nf:e∉(env::outer).filterMap (·.frame):=fun z=>by
  obtain⟨_,o,ho,n⟩:=k2.mem z;rw[g1]at ho;cases ho;exact n vs g3
 refine wpAny_bind (wpAny_frameOf_fun fr k2 hL fun h1 x1=>?_);refine wpAny_bind (wpAny_entryPlaceOf fun pl hpl=>?_);unfold EntryCells.newEntry newFields;refine wpAny_bind (wpAny_newObj_type ?_ (hpl.sizeOk5 _ _ _ _ _));have e1:h1.get? e=some oe:=by rw[x1.2.1 e nf];exact g1
 have b1:base.StaysIn h1:=fun b o qb=>by
  rw[x1.2.1 b fun z=>by rw[(k2.mem z).1]at qb;cases qb];exact k1 b o qb
 generalize hR:({cls:=.type "traceback",dict:=none,data:=.fields ([head,.ref L,.none,rawInt L,.none]++(if pl.isEmpty then replicate 6 Value.none else pl)).toArray}:Obj)=R;have dR:R.data= .fields ([head,.ref L,.none,rawInt L,.none]++(if pl.isEmpty then replicate 6 Value.none else pl)).toArray:=by rw[<-hR]
 have fR:R.isFreed=false:=Obj.isFreed_of_fields dR;have e2:(h1.push R).get? e=some oe:=Heap.get?_push_of_some _ e1;refine wpAny_setField e2 g3 z1 ?_;have nT:h1.objs.size≠e:=Nat.ne_of_gt (Heap.lt_size e1);obtain⟨far,non,own⟩:=upd_away e2 g3 (·.setIfInBounds 1 (Value.ref h1.objs.size));have keep:∀b o,b≠e->h1.get? b=some o->((h1.push R).update e (Obj.mapFields (·.setIfInBounds 1 (Value.ref h1.objs.size)))).get? b=some o:=fun b o n qb=>by
  rw[far b n];exact Heap.get?_push_of_some _ qb
 have ne':∀b o,s.heap.get? b=some o->(∀vs,o.data≠ .fields vs)->b≠e:=fun b o qb n z=>by
  rw[z,g1]at qb;cases qb;exact n vs g3
 refine q _ ?_ ?_ ?_ ?_
 ·exact fun b o qb=>keep b o (fun z=>by rw[z,ne]at qb;cases qb) (b1 b o qb)
 ·refine k2.of_keeps fun b o qb n=>?_;obtain⟨sl,y⟩:=x1.2.2 b o qb;exact⟨_,keep b _ (ne' b o qb n) y,rfl⟩
 ·refine⟨_,_,h1.objs.size,R,_,own,⟨Obj.cls_mapFields _ _,mapF_dict _ _⟩,Obj.data_mapFields g3 _,by simp[z1],b1.fresh,nT,?_,dR,?_⟩
  ·rw[far _ nT];exact Heap.get?_push_size h1 fR
  ·simp
 ·intro b o qb n;obtain⟨sl,y⟩:=x1.2.2 b o qb;exact⟨sl,keep b _ (ne' b o qb n) y⟩
theorem st_note(fr:A.frames=some (env::outer))(hL:env.frame=some L)(x:FlyD base (env::outer) e C dd s.heap)(q:∀h',HeldD base (env::outer) e C dd L h'->UpS s.heap h'->Q () {s with heap:=h'}):wpAny M A (noteFrame (.ref e) env) Q E s:=by
 obtain⟨k1,ne,k2,oe,vs,T,oT,ts,g1,⟨rfl,rfl⟩,g3,g4,g5,g6,g7,g8,g9⟩:=x;obtain⟨far,non,own⟩:=upd_away g7 g8 (·.setIfInBounds 3 Value.none);unfold noteFrame;simp only[hL];refine wpAny_bind (wpAny_field g1 g3 g4 ?_);rw[if_pos (by simp)];refine wpAny_bind (wpAny_field g7 g8 g9 ?_);rw[if_neg (by simp[rawInt])];refine wpAny_bind (wpAny_setField g7 g8 (Array.getElem?_eq_some_iff.mp g9).1 ?_);refine st_entry fr (k2.of_keeps fun b o qb n=>⟨o,non b o qb n,rfl⟩) hL ((far e (Ne.symm g6)).trans g1) (fun b o qb=>?_) ne g3 (Array.getElem?_eq_some_iff.mp g4).1 fun h' y1 y2 y3 y4=>q h' ⟨y1,ne,y2,y3⟩ fun b o qb n=>y4 b o (non b o qb n) n;refine(far b fun z=>?_).trans (k1 b o qb);rw[z,g5]at qb;cases qb
theorem st_again{fl:Value}(hL:env.frame=some L)(x:TrD s.heap base e C dd (rawInt L))(q:Q () s):wpAny M A (noteFrame (.ref e) env) Q E s:=by
 obtain⟨oe,vs,T,oT,ts,g1,g2,g3,g4,g5,g6,g7,g8,g9⟩:=x;unfold noteFrame;simp only[hL];refine wpAny_bind (wpAny_field g1 g3 g4 ?_);rw[if_pos (by simp)];refine wpAny_bind (wpAny_field g7 g8 g9 ?_);rw[if_pos (by simp)];exact wpAny_pure q
theorem st_first{oe:Obj}{vs:Array Value}(fr:A.frames=some (env::outer))(k2:s.heap.FunFrames base (env::outer))(hL:env.frame=some L)(g1:s.heap.get? e=some oe)(k1:base.StaysIn s.heap)(ne:base.get? e=none)(g3:oe.data= .fields vs)(g4:vs[1]? =some .none)(q:∀h',HeldD base (env::outer) e oe.cls oe.dict L h'->UpS s.heap h'->Q () {s with heap:=h'}):wpAny M A (noteFrame (.ref e) env) Q E s:=by
 unfold noteFrame;simp only[hL];refine wpAny_bind (wpAny_field g1 g3 g4 ?_);rw[if_neg (by decide)];exact st_entry fr k2 hL g1 k1 ne g3 (Array.getElem?_eq_some_iff.mp g4).1 fun h' y1 y2 y3 y4=>q h' ⟨y1,ne,y2,y3⟩ y4
end
structure Cov(s₀:Heap)(H₀:Hp)(fr ex:List Addr)(H':Hp)(B:Heap):Prop where
 trk:∀b u,H' b=some u-> ∃o,B.get? b=some o
 old:∀b o,s₀.get? b=some o->H₀ b=none->b∉fr->b∉ex->B.get? b=some o
 all:∀b o,s₀.get? b=some o->b∉fr->b∉ex-> ∃o',B.get? b=some o'
def CX1(P:Program)(w:World):CXT:=fun outer H s E ev s'=>∃(e:Addr)(C:Value)(dd:Option Addr)(H':Hp),ev= .ref e/\E C dd H'/\s'.os=s.os/\AllBare s'.gens/\Un (frs outer) [] H H' s.heap s'.heap/\HOk P w H' s'.heap/\H' e=none/\
 ∃B,FlyD B outer e C dd s'.heap/\Cov s.heap H (frs outer) [] H' B
inductive ExcSt(B:Heap)(l:List Env)(L e:Addr)(C:Value)(dd:Option Addr)(h:Heap):Prop where
 |made (oe:Obj) (vs:Array Value):B.StaysIn h->h.FunFrames B l->B.get? e=none->h.get? e=some oe->oe.cls=C->oe.dict=dd->oe.data= .fields vs->vs[1]? =some .none->ExcSt B l L e C dd h
 |fly:FlyD B l e C dd h->ExcSt B l L e C dd h
 |held:HeldD B l e C dd L h->ExcSt B l L e C dd h
theorem ExcSt.stays{B:Heap}{l:List Env}{L e:Addr}{C:Value}{dd:Option Addr}{h:Heap}(x:ExcSt B l L e C dd h):B.StaysIn h:=by
 cases x with
 |made oe vs a b c=>exact a
 |fly a=>exact a.1
 |held a=>exact a.1
theorem ExcSt.frames{B:Heap}{l:List Env}{L e:Addr}{C:Value}{dd:Option Addr}{h:Heap}(x:ExcSt B l L e C dd h):h.FunFrames B l:=by
 cases x with
 |made oe vs a b c=>exact b
 |fly a=>exact a.2.2.1
 |held a=>exact a.2.2.1
structure ExcAt(X:Cx)(H':Hp)(e:Addr)(C:Value)(dd:Option Addr)(s':Shared):Prop where
 os:s'.os=X.s₀.os
 bare:AllBare s'.gens
 un:Un X.fs X.ex X.H₀ H' X.s₀.heap s'.heap
 hok:HOk X.prog X.w H' s'.heap
 fe:H' e=none
 st:∃B,Cov X.s₀.heap X.H₀ (frs X.stack) X.ex H' B/\ExcSt B X.stack X.env.locals e C dd s'.heap
theorem Cov.turn{P:Program}{w:World}{s₀ h h':Heap}{H₀ H':Hp}{fr fs ex:List Addr}{B:Heap}(c:Cov s₀ H₀ fr ex H' B)(hs:∀b∈fs,b∈fr)(hnf:∀b∈fr,∃o,h.get? b=some o/\ ∀vs,o.data≠ .fields vs)(b1:B.StaysIn h)(b2:B.StaysIn h')(up:∀b o,h.get? b=some o->(∀vs,o.data≠ .fields vs)-> ∃sl,h'.get? b=some {o with slots:=sl})(un:Un fs ex H₀ H' s₀ h)(hok:HOk P w H' h)(hfs:∀b o,s₀.get? b=some o->b∈fr->b∈fs):Un fs ex H₀ H' s₀ h'/\HOk P w H' h':=by
 refine⟨⟨fun b o q n hb hx=>?_,fun b o q n hb hx=>?_,un.free,fun b o q hx=>?_,un.tups,un.frzs,un.tbls⟩,fun b u e=>?_⟩
 ·by_cases hf:b∈fr
  ·exact absurd (hfs b o q hf) hb
  ·exact b2 b o (c.old b o q n hf hx)
 ·obtain⟨sl,e1⟩:=un.slot b o q n hb hx;obtain⟨o1,e2,nf⟩:=hnf b (hs b hb);rw[e1]at e2;cases e2;obtain⟨sl',e3⟩:=up b _ e1 nf;exact⟨sl',e3⟩
 ·by_cases hf:b∈fr
  ·obtain⟨o1,e2,nf⟩:=hnf b hf;obtain⟨sl',e3⟩:=up b _ e2 nf;exact⟨_,e3⟩
  ·obtain⟨o',e⟩:=c.all b o q hf hx;exact⟨o',b2 b o' e⟩
 ·refine(hok b u e).stay (fun d v hd q=>?_) (fun _ q=>q) fun _ _ q=>q;have hd':∃u',H' d=some u':=by
   rcases hd with rfl|hd
   ·exact⟨u,e⟩
   ·exact⟨_,hd⟩
  obtain⟨u',hu'⟩:=hd';obtain⟨o,ho⟩:=c.trk d u' hu';have:=b1 d o ho;rw[q]at this;cases this;exact b2 d v ho
theorem frames_nf{B h:Heap}{l:List Env}(x:h.FunFrames B l):∀b∈frs l,∃o,h.get? b=some o/\ ∀vs,o.data≠ .fields vs:=fun b hb=>by
 obtain⟨_,o,ho,hnf⟩:=x.mem hb;exact⟨o,ho,hnf⟩
def XE(X:Cx)(E:XK):Value->Shared->Prop:=fun ev s'=>∃(e:Addr)(C:Value)(dd:Option Addr)(H':Hp),ev= .ref e/\E C dd H'/\ExcAt X H' e C dd s'
section
variable{X:Cx}{outer:List Env}
structure Own(X:Cx):Prop where
 ok:X.Ok
 top:X.stack=X.env::X.outer
 fr:X.env.frame=some X.env.locals
theorem Own.sub(o:Own X):∀b∈X.fs,b∈frs X.stack:=fun b hb=>by
 rw[o.top];unfold frs;rw[filterMap_cons,o.fr];exact mem_cons_of_mem _ hb
theorem Own.old(o:Own X):∀b ob,X.s₀.heap.get? b=some ob->b∈frs X.stack->b∈X.fs:=fun b ob q hb=>by
 rw[o.top]at hb;unfold frs at hb;rw[filterMap_cons,o.fr]at hb;rcases mem_cons.mp hb with rfl|hb
 ·exact absurd (lt_of_lt_of_le (Heap.lt_size q) o.ok.above) (lt_irrefl _)
 ·exact hb
theorem ExcAt.note{M:Model}{E':Value->Shared->Prop}{H':Hp}{e:Addr}{C:Value}{dd:Option Addr}{s':Shared}{Q:Unit->Shared->Prop}(o:Own X)(x:ExcAt X H' e C dd s')(h:∀s'',ExcAt X H' e C dd s''->(∃B,HeldD B X.stack e C dd X.env.locals s''.heap/\Cov X.s₀.heap X.H₀ (frs X.stack) X.ex H' B)->Q () s''):wpAny M X.A (noteFrame (.ref e) X.env) Q E' s':=by
 obtain⟨B,c,st⟩:=x.st;have fin:∀{h':Heap},HeldD B X.stack e C dd X.env.locals h'->UpS s'.heap h'->Q () {s' with heap:=h'}:=fun{h'} hh up=>by
  obtain⟨u,k⟩:=c.turn o.sub (frames_nf st.frames) st.stays hh.1 up x.un x.hok o.old;exact h _ ⟨x.os,x.bare,u,k,x.fe,B,c,.held hh⟩ ⟨B,hh,c⟩
 have hfr:X.A.frames=some (X.env::X.outer):=by rw[<-o.top];exact o.ok.frames
 cases st with
 |made oe vs b1 b2 b3 he hc hdd hd h1 =>
  subst hc hdd;rw[o.top]at b2;exact st_first hfr b2 o.fr he b1 b3 hd h1 fun h' hh up=>fin (by rw[o.top];exact hh) up
 |fly hf =>
  rw[o.top]at hf;exact st_note hfr o.fr hf fun h' hh up=>fin (by rw[o.top];exact hh) up
 |held hh =>
  exact st_again (fl:=.none) o.fr hh.2.2.2 (fin hh (UpS.same _))
theorem ExcAt.leave{M:Model}{E':Value->Shared->Prop}{H':Hp}{e:Addr}{C:Value}{dd:Option Addr}{s':Shared}{E:XK}(o:Own X)(hex:X.ex=[])(x:ExcAt X H' e C dd s')(hE:E C dd H') :
  wpAny M X.A (leaving X.env (.ref e)) (fun _ s''=>CX1 X.prog X.w X.outer X.H₀ X.s₀ E (.ref e) s'') E' s':=by
 unfold leaving;refine wpAny_bind (x.note o fun s2 x2 ⟨B,⟨f1,f2,f3,f4⟩,c⟩=>?_);refine st_flight none f1 f3 f4 fun h' k1 k2 k3 up=>?_;obtain⟨u,k⟩:=c.turn o.sub (frames_nf f3) f1 k1 up x2.un x2.hok o.old;rw[hex]at u c;rw[o.top]at k2;obtain⟨_,_,k2⟩:=k2;exact⟨e,C,dd,H',rfl,hE,x2.os,x2.bare,u,k,x2.fe,B,⟨k1,f2,k2,k3⟩,c.trk,fun b ob q n hb hx=>c.old b ob q n (fun z=>hb (o.old b ob q z)) hx,fun b ob q hb hx=>c.all b ob q (fun z=>hb (o.old b ob q z)) hx⟩
theorem ExcAt.come{pins:List (Addr×Obj)}{σ:St}{H:Hp}{s:Shared}{E:XK}{ev:Value}{s':Shared}(o:Own X)(I:Inv X pins σ H s)(h:CX1 X.prog X.w X.stack H s E ev s') :
  ∃(e:Addr)(C:Value)(dd:Option Addr)(H':Hp),ev= .ref e/\E C dd H'/\ExcAt X H' e C dd s':=by
 obtain⟨e,C,dd,H',rfl,hE,hos,hb,un,hok,fe,B,hf,c⟩:=h;have neL:∀b ob,X.s₀.heap.get? b=some ob->b≠X.env.locals:=fun b ob q=>ne_of_lt (lt_of_lt_of_le (Heap.lt_size q) I.ok.above);refine⟨e,C,dd,H',rfl,hE,hos.trans I.os,hb,⟨fun b ob q n hb hx=>?_,fun b ob q n hb hx=>?_,fun b ob q n hx=>?_,fun b ob q hx=>?_,fun b xs q=>un.tups b xs (I.base.tups b xs q),fun b ob u q=>un.frzs b ob u (I.base.frzs b ob u q),fun b ps q=>?_⟩,hok,fe,B,⟨c.trk,fun b ob q n hb hx=>?_,fun b ob q hb hx=>?_⟩,.fly hf⟩
 ·refine un.keep b ob (I.base.keep b ob q n hb hx) (I.base.free b ob q n hx) (fun z=>?_) (by simp);exact hb (o.old b ob q z)
 ·obtain⟨sl,e1⟩:=I.base.slot b ob q n hb hx;obtain⟨sl',e2⟩:=un.any e1 (I.base.free b ob q n hx) (by simp);exact⟨sl',e2⟩
 ·obtain⟨o',e1⟩:=I.base.there b ob q hx;exact un.free b o' e1 (I.base.free b ob q n hx) (by simp)
 ·obtain⟨o',e1⟩:=I.base.there b ob q hx;exact un.there b o' e1 (by simp)
 ·obtain⟨m1,e1⟩:=I.base.tbls b ps q;obtain⟨m2,e2⟩:=un.tbls b _ e1;exact⟨m1++m2,by rw[e2,Array.append_assoc]⟩
 ·exact c.old b ob (I.base.keep b ob q n (fun z=>hb (o.sub b z)) hx) (I.base.free b ob q n hx) hb (by simp)
 ·obtain⟨o',e1⟩:=I.base.there b ob q hx;exact c.all b o' e1 hb (by simp)
end
theorem PSs.wished{X:Cx}{E:Value->Shared->Prop}{st:List Stmt}{t:TS}(h:PSs (X.wish E) st t)(hE:X.Ok-> ∀ev s',E ev s'->X.xe ev s'):PSs X st t:=fun pins s σ H D I hw =>
 wpAny_mono (h pins s σ H D (I.wish E) hw) (fun f s' q=>q.unwish) fun ev s' q=>hE I.ok ev s' q
section
variable{P:Program}{w:World}{K:W.Frag}{mg:Str->Option Value}{base:Heap}
theorem Fun.okE{x qual:Str}{st:Stmt}{f:Addr}{fd:FuncData}{N ps:List Str}{k:Nat}{sp:Sp}{cm:Bool}(F:Fun K x qual st f fd)(S:FnScope N ps (z6 st))(len:∀vs H Q E,sp vs H Q E->vs.length=ps.length)(hbody:∀(cdv:Value) (A:Around) (outer:List Env) (s:Shared) (H:Hp) (vs:List V) (Q:VK) (E:XK),Room k (A.deeper (envOfC qual (z6 st) s.heap.objs.size f cdv)) cm->sp vs H Q E->
   ∃t,PSs ((cxOf (CX1 P w) P w K mg base N qual (z6 st) f cdv A outer s H E cm).wish (XE (cxOf (CX1 P w) P w K mg base N qual (z6 st) f cdv A outer s H E cm) E)) (yh st) t/\t {nx:=fun _ H'=>Q .non H',rt:=Q} (start N vs) H):FnOk P w K mg base (CX1 P w) (k+1) f fd ps sp cm:=by
 obtain⟨oc,od,kV,doc,pm,an,cdv,ct,osl,rfl,lk,hcd⟩:=F.ex;refine fn_of lk hcd S len fun A outer s H vs Q E hr hsp=>?_;obtain⟨t,h,q⟩:=hbody cdv A outer s H vs Q E hr hsp;refine⟨t,h.wished fun ok ev s' hx=>?_,q⟩;obtain⟨e,C,dd,H',rfl,hE,x⟩:=hx;exact ExcAt.leave (X:=cxOf (CX1 P w) P w K mg base N qual (z6 st) f cdv A outer s H E cm) ⟨ok,rfl,rfl⟩ rfl x hE
end
theorem pass1{X:Cx}{E E':XK}(top:X.stack=X.env::X.outer)(fr:X.env.frame=some X.env.locals)(h:∀C dd H',E' C dd H'->E C dd H'):Passes (CX1 X.prog X.w) (X.wish (XE X E)) E':=fun pins σ H s e s' I hx=>by
 obtain⟨e,C,dd,H',rfl,hE,x⟩:=ExcAt.come (X:=X) ⟨I.unwish.ok,top,fr⟩ I.unwish hx;exact⟨e,C,dd,H',rfl,h C dd H' hE,x⟩
theorem zS.some{P:Program}{w:World}{H:Hp}{h:Heap}{a:Addr}{o:HO}(x:zS P w H h a o):∃ob,h.get? a=some ob:=by
 induction o with
 |lst xs=>obtain⟨_,_,_,_,e⟩:=x;exact⟨_,e⟩
 |tup xs=>obtain⟨_,_,_,⟨ob,e,_⟩,_⟩:=x;exact⟨_,e⟩
 |dK kvs=>obtain⟨_,_,_,_,o,_,_,e,_⟩:=x;exact⟨_,e⟩
 |dT kvs=>obtain⟨_,_,_,_,o,_,_,e,_⟩:=x;exact⟨_,e⟩
 |set S n=>obtain⟨ob,_,_,_,e,_⟩:=x;exact⟨_,e⟩
 |ins C dx fs=>obtain⟨_,_,_,e,_⟩:=x;exact⟨_,e⟩
 |own y=>exact x
 |xd fs=>obtain⟨_,⟨ob,_,_,e,_⟩,_⟩:=x;exact⟨_,e⟩
 |rng lo hi=>obtain⟨_,_,_,e⟩:=x;exact⟨_,e⟩
 |frz ob u _=>exact⟨_,x.1⟩
 |tbl ps=>exact⟨_,x⟩
 |met f y=>exact⟨_,x⟩
 |ext φ=>exact x.2.1
def bmV:List Value:=[.type "ValueError",.type "Exception",.type "BaseException",.type "object"]
structure Lnd(X:Cx)(s:Shared)(H H':Hp)(e:Addr)(C:Value)(dd:Option Addr)(s3:Shared):Prop where
 os:s3.os=s.os
 bare:AllBare s3.gens
 un:Un (frs X.stack) [] H H' s.heap s3.heap
 hok:HOk X.prog X.w H' s3.heap
 fe:H' e=none
 st:∃B,FlyD B X.stack e C dd s3.heap/\Cov s.heap H (frs X.stack) [] H' B
def IsExc(e:Addr)(C:Value)(h:Heap):Prop:=∃ oe vs,h.get? e=some oe/\oe.cls=C/\oe.data= .fields vs
section
variable{X:Cx}{pins:List (Addr×Obj)}{σ:St}{H H':Hp}{s s3:Shared}{e:Addr}{C:Value}{dd:Option Addr}
theorem Lnd.inv(I:Inv X pins σ H s)(l:Lnd X s H H' e C dd s3):Inv X pins σ H' s3:=I.call' l.os l.un l.hok l.bare (fun b z=>nomatch z)
theorem CX1.lands{M:Model}{E:XK}{E':Value->Shared->Prop}{ev:Value}{s':Shared}{Q:Unit->Shared->Prop}(hfr:X.A.frames=some (X.env::X.outer))(top:X.stack=X.env::X.outer)(fr:X.env.frame=some X.env.locals)(h:CX1 X.prog X.w X.stack H s E ev s')(hQ:∀e C dd H' s3,ev= .ref e->E C dd H'->Lnd X s H H' e C dd s3->Q () s3):wpAny M X.A (noteFrame ev X.env) (fun _ s2=>wpAny M X.A (setFlight ev none) Q E' s2) E' s':=by
 obtain⟨e,C,dd,H',rfl,hE,hos,hb,un,hok,fe,B,hf,c⟩:=h;have hf':=hf;rw[top]at hf;refine st_note hfr fr hf fun h2 hh up=>?_;obtain⟨f1,f2,f3,f4⟩:=hh;refine st_flight none f1 f3 f4 fun h3 k1 k2 k3 up3=>?_;obtain⟨u,k⟩:=c.turn (P:=X.prog) (w:=X.w) (fs:=frs X.stack) (fun _ z=>z) (frames_nf hf'.2.2.1) hf.1 k1 (up.trans up3) un hok (fun _ _ _ z=>z);rw[<-top]at k2;exact hQ e C dd H' _ rfl hE ⟨hos,hb,u,k,fe,B,⟨k1,f2,k2,k3⟩,c⟩
theorem Lnd.again{M:Model}{A:Around}{E':Value->Shared->Prop}{Q:Unit->Shared->Prop}(l:Lnd X s H H' e C dd s3)(hQ:∀s4,Lnd X s H H' e C dd s4->Q () s4):wpAny M A (setFlight (.ref e) none) Q E' s3:=by
 obtain⟨B,⟨f1,f2,f3,f4⟩,c⟩:=l.st;refine st_flight none f1 f3 f4 fun h' k1 k2 k3 k4=>?_;obtain⟨u,k⟩:=c.turn (P:=X.prog) (w:=X.w) (fs:=frs X.stack) (fun _ z=>z) (frames_nf f3) f1 k1 k4 l.un l.hok (fun _ _ _ z=>z);exact hQ _ ⟨l.os,l.bare,u,k,l.fe,B,⟨k1,f2,k2,k3⟩,c⟩
theorem Lnd.obj(l:Lnd X s H H' e C dd s3):IsExc e C s3.heap:=by
 obtain⟨B,⟨f1,f2,f3,oe,vs,T,oT,ts,he,hc,hd,_⟩,c⟩:=l.st;exact⟨oe,vs,he,hc.1,hd⟩
theorem Lnd.new(l:Lnd X s H H' e C dd s3):s.heap.get? e=none:=by
 obtain⟨oe,vs,he,hc,hd⟩:=l.obj;obtain⟨B,⟨f1,f2,f3,f4⟩,c⟩:=l.st;cases q:s.heap.get? e with
 |none=>rfl
 |some o =>
  by_cases hm:e∈frs X.stack
  ·obtain⟨o1,e1,nf⟩:=frames_nf f3 e hm;rw[he]at e1;cases e1;exact absurd hd (nf vs)
  ·obtain⟨o',e'⟩:=c.all e o q hm (by simp);rw[f2]at e';cases e'
def IsExcD(e:Addr)(C:Value)(dd:Option Addr)(h:Heap):Prop:=∃ oe vs,h.get? e=some oe/\oe.cls=C/\oe.dict=dd/\oe.data= .fields vs
theorem Lnd.objD(l:Lnd X s H H' e C dd s3):IsExcD e C dd s3.heap:=by
 obtain⟨B,⟨f1,f2,f3,oe,vs,T,oT,ts,he,hc,hd,_⟩,c⟩:=l.st;exact⟨oe,vs,he,hc.1,hc.2,hd⟩
theorem Lnd.track(I:Inv X pins σ H s)(l:Lnd X s H H' e C dd s3){φ:Heap->Prop}(hφ:φ s3.heap)(mono:∀h h',φ h->(∀o,h.get? e=some o->h'.get? e=some o)-> φ h'):Inv X pins σ (upd H' e (.ext φ)) s3:=by
 have hnew:=l.new;have ne:∀b u,H b=some u->b≠e:=fun b u q z=>by
  obtain⟨o,ho⟩:=(I.hok b u q).some;rw[z,hnew]at ho;cases ho
 have ne':∀b o,s.heap.get? b=some o->b≠e:=fun b o q z=>by rw[z,hnew]at q;cases q
 have hn:∀b u,H' b=some u->b≠e:=fun b u q z=>by rw[z,l.fe]at q;cases q
 refine I.call' l.os ⟨l.un.keep,l.un.slot,fun b o q n hx=>?_,l.un.there,fun b xs q=>?_,fun b o u q=>?_,fun b ps q=>?_⟩ (fun b u q=>?_) l.bare (fun b z=>nomatch z)
 ·rw[zh (ne' b o q)];exact l.un.free b o q n hx
 ·rw[zh (ne b _ q)];exact l.un.tups b xs q
 ·rw[zh (ne b _ q)];exact l.un.frzs b o u q
 ·rw[zh (ne b _ q)];exact l.un.tbls b ps q
 ·by_cases hb:b=e
  ·subst hb;rw[z0]at q;cases q;obtain⟨oe,vs,he,hc,hd⟩:=l.obj;exact⟨hφ,⟨oe,he⟩,mono⟩
  ·rw[zh hb]at q;exact(l.hok b u q).stay (fun _ _ _ q=>q) (fun c q=>by rw[zh (hn c _ q)];exact q) fun c xs q=>by rw[zh (hn c _ q)];exact q
theorem Lnd.trackedD(I:Inv X pins σ H s)(l:Lnd X s H H' e C dd s3):Inv X pins σ (upd H' e (.ext (IsExcD e C dd))) s3:=l.track I l.objD fun h h' ⟨oe,vs,he,hc,h1,hd⟩ k=>⟨oe,vs,k oe he,hc,h1,hd⟩
end
abbrev Cx.inH(X:Cx)(e:Addr):Cx:={X with A:=X.A.mark (some (.ref e)),calm:=false}
section
variable{X:Cx}{pins:List (Addr×Obj)}{σ:St}{H:Hp}{s:Shared}{e:Addr}
theorem Cx.Ok.inH(ok:X.Ok)(hfr:(X.A.mark (some (.ref e))).frames=X.A.frames:=by rfl):(X.inH e).Ok :=
 ⟨ok.mod,ok.kind,ok.glob,ok.blt,ok.above,ok.inj,ok.has,ok.cab,(fun z=>nomatch z),hfr.trans ok.frames,ok.stk,ok.exf,ok.bs,ok.bsz,ok.noex,ok.exfs,ok.funs,ok.frf⟩
theorem Inv.inH(I:Inv X pins σ H s):Inv (X.inH e) pins σ H s:=⟨I.ok.inH,I.os,I.bare,I.base,I.loc,I.cell,I.free,I.freeC,I.pin,I.hok,I.len⟩
theorem Inv.ofH(ok:X.Ok)(I:Inv (X.inH e) pins σ H s):Inv X pins σ H s:=⟨ok,I.os,I.bare,I.base,I.loc,I.cell,I.free,I.freeC,I.pin,I.hok,I.len⟩
theorem goes{M:Model}{A:Around}{E:Value->Shared->Prop}{i:Nat}{n:Str}{pos:Pos}{Q:Unit->Shared->Prop}(I:Inv X pins σ H s)(hN:X.N.Nodup)(hi:X.N[i]? =some n)(hk:X.env.scope.names.lookup n=some .local)(h:∀s',Inv X pins (σ.set i none) H s'->Q () s'):wpAny M A (do bindName X.env n .none;unbindBehindTheSuite X.env n pos) Q E s:=by
 obtain⟨m,hn,hl⟩:=id I.loc;have hcls:(X.env.scope.kind== .class||(X.env.scope.kind== .module&&X.env.locals !=X.env.globals))=false:=by rw[I.ok.kind];rfl
 have hiσ:i< σ.length:=by rw[I.len];exact(List.getElem?_eq_some_iff.mp hi).1
 have cne:=I.cne;refine wpAny_nameGoes_keeps hk hn hcls fun h' v hn' hs=>?_;obtain⟨oL,_,_,hoL,_⟩:=id hn;refine h _ ⟨I.ok,I.os,I.bare,⟨fun b o e n hb hx=>?_,fun b o e n hb hx=>?_,I.base.free,fun b o e hx=>?_,I.base.tups,I.base.frzs,I.base.tbls⟩,⟨_,hn',fun j y v' e1 e2 e3=>?_⟩,fun y c e=>?_,I.free,I.freeC,fun p hp=>?_,fun b ob e=>?_,by simpa using I.len⟩
 ·exact(hs.2 b (ne_of_lt (lt_of_lt_of_le (Heap.lt_size e) I.ok.above))).trans (I.base.keep b o e n hb hx)
 ·obtain⟨sl,e1⟩:=I.base.slot b o e n hb hx;exact⟨sl,(hs.2 b (ne_of_lt (lt_of_lt_of_le (Heap.lt_size e) I.ok.above))).trans e1⟩
 ·obtain⟨o',e1⟩:=I.base.there b o e hx;exact⟨o',(hs.2 b (ne_of_lt (lt_of_lt_of_le (Heap.lt_size e) I.ok.above))).trans e1⟩
 ·by_cases hj:j=i
  ·subst hj;rw[List.getElem?_set_self hiσ]at e2;cases e2
  ·rw[List.getElem?_set_ne (Ne.symm hj)]at e2;obtain⟨u',r',q⟩:=hl j y v' e1 e2 e3;refine⟨u',r',?_⟩;rcases q with⟨k,e⟩|⟨k,c,e,z⟩
   ·refine .inl ⟨k,?_⟩;have:y≠n:=fun e=>hj (nodup_ix hN e1 (e▸hi));simp[this,e]
   ·exact .inr ⟨k,c,e,z.sameBut hs (cne y c e)⟩
 ·obtain⟨w',z⟩:=I.cell y c e;exact⟨w',z.sameBut hs (cne y c e)⟩
 ·obtain⟨e,n,ne,nf,d⟩:=I.pin p hp;exact⟨(hs.2 p.1 ne).trans e,n,ne,nf,d⟩
 ·refine(I.hok b ob e).stay (fun c w' hc q=>(hs.2 c ?_).trans q) (fun _ q=>q) fun _ _ q=>q;rintro rfl;rcases hc with rfl|hc
  ·rw[I.free]at e;cases e
  ·rw[I.free]at hc;cases hc
end
end L2
namespace L2
open PySem PySem.Spec PyProof.Rows PySem.W PySem.Calls PySem.Builtin PySem.Builtin.ObjectAttr PySem.Builtin.Getset_descriptor
def ClsAt(e D:Addr)(h:Heap):Prop:=∃ oe,h.get? e=some oe/\oe.cls= .ref D
theorem ClsAt.looks{M:Model}{e D:Addr}{h:Heap}(p:ClsAt e D h):Looks M h (typeOf (.ref e)) (.ref D):=by
 obtain⟨oe,a,b⟩:=p;exact b▸(Looks.ld a).andThen .now
structure ClsE(K:Frag)(D:Addr):Prop where
 ga:findIn K (.ref D) "__getattribute__"=some (some (.builtin "BaseException.__getattribute__"))
 gn:findIn K (.ref D) "__getattr__"=some none
 fd:findIn K (.ref D) "__class__"=some (some (.builtin "object.__class__"))
 sp:specialIn K (.builtin "object.__class__") "__get__"=some (some (.builtin "getset_descriptor.__get__"))
 tk:takesIn K (.builtin "object.__class__")=some true
 ob:mroIn K D (.type "object")=some true
 be:mroIn K D (.type "BaseException")=some true
theorem cls_of_mro{K:Frag}{D:Addr}{v:Value}{b:Bool}(h:mroIn K D v=some b):(clsIn K D).isSome=true:=by
 unfold mroIn at h;obtain⟨cd,e,_⟩:=Option.bind_eq_some_iff.mp h;rw[e];rfl
theorem ClsE.cl{K:Frag}{D:Addr}(c:ClsE K D):(clsIn K D).isSome=true:=cls_of_mro c.ob
theorem ClsE.find{K:Frag}{D e:Addr}{M:Model}{h:Heap}(c:ClsE K D)(X:K.In h):Looks M h (find (.ref e) (.ref D) "__class__") (.bind (.builtin "getset_descriptor.__get__") (.builtin "object.__class__")):=by
 have a1:=looks_findIn (M:=M) X c.fd;have a2:Looks M h (getOf (some (.builtin "object.__class__"))) (some (.builtin "getset_descriptor.__get__")):=looks_specialIn X c.sp;have a3:=looks_takesIn (M:=M) X c.tk;have a4:Looks M h (dataDescriptor? (some (.builtin "object.__class__")) (some (.builtin "getset_descriptor.__get__"))) (some (.builtin "getset_descriptor.__get__",.builtin "object.__class__")):=a3.andThen .now;exact a1.andThen (a2.andThen (a4.andThen (Looks.tag .now)))
theorem ClsE.kit{K:Frag}{D e:Addr}(c:ClsE K D):KitX K (.ref e) (.ref D) (ClsAt e D) where
 ty:=fun _ _ _ p=>p.looks
 it:=fun _ _ X _=>by
  have z:=c.cl;unfold clsIn at z;split at z
  ·rename_i ho;intro A' Q' E' s' k q;unfold isType loadHead;exact wpAny_bind (wpAny_loadPart (k _ _ (X _ _ ho)) (wpAny_pure q))
  ·cases z
 ne:=fun h tp dd its n sl X htp=>by
  have z:=c.cl;refine Bool.eq_false_iff.mpr fun q=>?_;obtain rfl:D=tp:=Value.ref.inj (beq_iff_eq.mp q);unfold clsIn at z;split at z
  ·rename_i ho;cases(X _ _ ho).symm.trans htp
  ·cases z
 ca:=fun{prog w A E Q s} X p hq=>by
  obtain⟨hh,g,d,t,os⟩:=s;have T:=p.looks (M:=model prog w);have G:=looks_findIn (M:=model prog w) X c.ga;have N:=looks_findIn (M:=model prog w) X c.gn;have F1:=c.find (e:=e) (M:=model prog w) X;have O:=looks_mroIn (M:=model prog w) X c.ob;unfold getAttr? getAttrBy? getAttrBy;refine wpAny_bind (wpAny_mkText (wpAny_bind (wpAny_attempt (wpAny_holding (wpAny_bind (T.at (wpAny_bind (G.at ?_))))))));have hx2:(Value.builtin "BaseException.__getattribute__"==Value.builtin "object.__getattribute__")=false:=by decide+kernel
  have hx1:¬(onTheHeap (Value.ref D)&&Value.builtin "BaseException.__getattribute__"==Value.builtin "object.__getattribute__")=true:=by rw[hx2,Bool.and_false];exact Bool.false_ne_true
  have Bx:=looks_mroIn (M:=model prog w) X c.be;dsimp only;rw[if_neg hx1];unfold getAttrByItsOwn hookBefore callGetattribute boundAndCalled;refine wpAny_bind (N.at ?_);refine wpAny_bind (wpAny_attempt (wpAny_holding ?_));show wpAny _ _ (bindSpecial (.builtin "BaseException.__getattribute__") (.ref e) >>= _) _ _ _;refine wpAny_bind (wpAny_of_eq (PySem.F.attrBase_ValueError.ga.bind _) ?_);refine wpAny_call (codeAny_call_builtin PySem.F.attrBase_ValueError.ga.plain PySem.F.entry_bexc_ga ?_);have hk:builtinKind "BaseException.__getattribute__"=some .slot:=by decide+kernel
  have hsplit:splitId "BaseException.__getattribute__"=some ("BaseException","__getattribute__"):=by decide+kernel
  have hag:=PySem.F.args_bexc_ga (.ref e) (.str "__class__" t);simp only[checkBuiltinCall,hk,hsplit];unfold isInstance
  repeat ((fail_if_success (with_reducible show wpAny _ _ (call _ _) _ _ _));(first|lk|wp_step))
  refine wpAny_call ?_;refine codeAny_call_builtin KF.slot_gs.plain KF.entry_gs (KF.slot_gs.check _ _ _ _ _ _ _ _ KF.type_class (KF.args_gs _ _ _) ?_);unfold Builtin.«getset_descriptor.__get__» descrGet;rw[dga_obj];refine wpAny_bind (wpAny_pure ?_);unfold descrGetter descrCheckInstance descrNameAndClass isInstance;simp only[KF.owner_class]
  repeat lk
  refine⟨Code.quiet_builtin _ (by decide+kernel),codeAny_builtin KF.entry_class ?_⟩;unfold Builtin.«object.__class__» shownTypeOf
  repeat lk
  exact hq
theorem matches_own{M:Model}{A:Around}{E:Value->Shared->Prop}{nm q nm' q':Str}{C N S N':Addr}{bs bm bs' bm':List Value}{hdct hdct':Bool}{sn sn':List Str}{sub sub':List Value}{ab ab':Bool}{col col':Option Bool}{dd dd':Option Addr}{k0 k1 k2 k3 k5 k0' k1' k2' k3' k5':Option Value}{newId newId':String}{h:Heap}{g:Array GenState}{d:Drawn}{t:Nat}{os:OsState}{e:Addr}{oe:Obj}{Q:Bool->Shared->Prop}(hC:h.get? C=some (excClassObj nm q C N bs bm hdct sn sub ab col dd k0 k1 k2 k3 k5 newId))(hS:h.get? S=some (excClassObj nm' q' S N' bs' bm' hdct' sn' sub' ab' col' dd' k0' k1' k2' k3' k5' newId'))(he:h.get? e=some oe)(hcls:oe.cls= .ref C)(hb:bm'.contains (.type "BaseException")=true)(hm:(Value.ref C::bm).contains (.ref S)=true)(hq:Q true ⟨h,g,d,t,os⟩):wpAny M A (excMatches (.ref e) (.ref S)) Q E ⟨h,g,d,t,os⟩:=by
 have hB:(Value.ref S::bm').contains (.type "BaseException")=true:=by rw[List.contains_cons,hb,Bool.or_true]
 have f:=tc_notTuple;unfold excMatches
 repeat (first|(with_reducible refine wpAny_loadPart_at he ?_;rw[hcls])|with_reducible refine wpAny_loadPart_at hS ?_|(with_reducible refine wpAny_isSubtype_exc hS ?_;rw[hB])|(with_reducible refine wpAny_isSubtype_exc hC ?_;rw[hm])|wp_step)
 exact hq
end L2
namespace L2
open PySem PySem.Spec PyProof.Rows PySem.W
abbrev TX:=St->Hp->VK->XK->Prop
def PX(X:Cx)(e:Expr)(t:TX):Prop:=∀(pins:List (Addr×Obj))(s:Shared)(σ:St)(H:Hp)(Q:VK)(E:XK),Inv X pins σ H s->t σ H Q E->
 wpAny (model X.prog X.w) X.A (eval e X.env) (EP X pins σ Q) (fun ev s'=>∃ H1 s1,Inv X pins σ H1 s1/\CX1 X.prog X.w X.stack H1 s1 E ev s') s
def xCall(sp:Sp)(dvs:List V)(t:TA):TX:=fun σ H Q E=>t σ H fun vs H1=>sp (vs++dvs) H1 Q E
section
variable{X:Cx}{k:Nat}{f:Addr}{fd:FuncData}{ps:List Str}{sp:Sp}{dvs:List V}{ds:List Value}{x:Str}{p pos:Pos}{e:Expr}{es:List Expr}{t:TA}{cm:Bool}
theorem px_call(F:FnOk X.prog X.w X.K X.mg X.base (CX1 X.prog X.w) k f fd ps sp cm)(hr:Room k X.A cm)(hg:Gl X x)(hm:X.mg x=some (.ref f))(hk:keepIn X.K (.ref f)=true)(hb:Binds X.K fd ps ds)(hd:Vals dvs ds)(ha:PA X.nox (e::es) t)(hdb:(x==("__debug__" : Str))=false:=by decide)(he:starEach (e::es) X.env=(false,eval e X.env)::starEach es X.env:=by rfl)(hpl:(backTo pos (starEach es X.env)).any (·.1)=false:=by rfl) :
  PX X (.Call (.Name x p) (e::es) [] pos) (xCall sp dvs t):=by
 intro pins s σ H Q E I h;refine wpAny_Call_Name_kw (ld_glob I hg hm ?_ hdb);have hA:=wpAny_mono (ha pos pins s σ H _ (I.wish _) h) (fun us s1 q=>q) (E':=fun ev s'=>∃ H1 s1,Inv X pins σ H1 s1/\CX1 X.prog X.w X.stack H1 s1 E ev s') fun _ _ z=>False.elim z;refine callWith_K (h₀:=X.base) I.ok.mod.kin hk (thn hA fun us s1 ⟨vs,H1,I1,r,q⟩=>⟨I1.kIn,?_⟩) he hpl;have I1':=I1.unwish;have r2:Vals (vs++dvs) (us++ds):=r.append hd;have hl:(us++ds).length=ps.length:=by rw[<-r2.length];exact F.len _ _ _ _ q
 refine wpAny_call (codeAny_mono (F.run X.A X.stack s1 H1 ⟨us,[]⟩ (us++ds) (vs++dvs) Q E hr I1'.env0 (hb s1 us I1'.kIn hl) r2 q) fun r s' hq=>?_);cases r with
 |error e=>exact⟨H1,s1,I1',hq⟩
 |ok fl=>cases fl with
  |ret u=>exact I1'.after hq
  | _=>exact False.elim hq
end
def IsXC(K:Frag)(c:Addr)(bm:List Value):Prop:=∃(nm q:Str)(N:Addr)(bs:List Value)(hdct:Bool)(sn:List Str)(sub:List Value)(ab:Bool)(col:Option Bool)(dd:Option Addr)(k0 k1 k2 k3 k5:Option Value)(newId:String),
 K.lookup c=some (excClassObj nm q c N bs bm hdct sn sub ab col dd k0 k1 k2 k3 k5 newId)
structure Takes(K:Frag)(c S:Addr):Prop where
 ex:∃bm bm',IsXC K c bm/\IsXC K S bm'/\bm'.contains (.type "BaseException")=true/\(Value.ref c::bm).contains (.ref S)=true
theorem boot_ValueError:bootBuiltins "ValueError"=some (.type "ValueError"):=by first|rfl|decide+kernel|(unfold bootBuiltins;rfl)
theorem pass01{X:Cx}{P:Program}{w:World}:Passes (CX1 P w) X E0:=fun _ _ _ _ _ _ _ ⟨_,_,_,_,_,h,_⟩=>h.elim
theorem passE{X:Cx}{E:XK}(top:X.stack=X.env::X.outer:=by rfl)(fr:X.env.frame=some X.env.locals:=by rfl):Passes (CX1 X.prog X.w) (X.wish (XE X E)) E:=pass1 top fr fun _ _ _ h=>h
end L2
namespace L2
open PySem PySem.Spec PyProof.Rows
def itName:Bool->String
 |true => "tuple_iterator"
 |false => "list_iterator"
def IterAt(k:Bool)(h:Heap)(it l:Addr)(i:Nat):Prop:=∃ o,h.get? it=some o/\o.cls= .type (itName k)/\o.data= .fields #[.ref l,.int i 0]
def SeqIs(k:Bool)(h:Heap)(l:Addr)(items:Array Value):Prop :=
 match k with
 |true=>h.IsTuple l items
 |false=>h.IsList l items
theorem IterAt.kept{k:Bool}{h h':Heap}{it l:Addr}{i:Nat}(x:IterAt k h it l i)(f:∀o,h.get? it=some o->h'.get? it=some o):IterAt k h' it l i :=
 let⟨o,e,r⟩:=x;⟨o,f o e,r⟩
theorem IterAt.lt{k:Bool}{h:Heap}{it l:Addr}{i:Nat}(x:IterAt k h it l i):it<h.objs.size:=let⟨_,e,_⟩:=x;Heap.lt_size e
theorem SeqIs.kept{k:Bool}{h h':Heap}{l:Addr}{items:Array Value}(x:SeqIs k h l items)(f:∀o,h.get? l=some o->h'.get? l=some o):SeqIs k h' l items:=by
 cases k
 ·obtain⟨o,e,r⟩:=x;exact⟨o,f o e,r⟩
 ·obtain⟨o,e,r⟩:=x;exact⟨o,f o e,r⟩
theorem SeqIs.lt{k:Bool}{h:Heap}{l:Addr}{items:Array Value}(x:SeqIs k h l items):l<h.objs.size:=by
 cases k
 ·obtain⟨o,e,_⟩:=x;exact Heap.lt_size e
 ·obtain⟨o,e,_⟩:=x;exact Heap.lt_size e
section
variable{prog:Program}{w:World}{A:Around}{E:Value->Shared->Prop}{s:Shared}
theorem nextOf_tup{it l:Addr}{i:Nat}{items:Array Value}{Q:Value->Shared->Prop}(hit:s.heap.IsTupleIter it l i)(ht:s.heap.IsTuple l items)(h:match items[i]? with
   |some x=>∀ h',h'.IsTupleIter it l (i+1)->Heap.SameBut it s.heap h'->Q x {s with heap:=h'}
   |none=>A.handled=none/\ ∀h' e,Heap.ExtBut it s.heap h'->(∃o,h'.get? e=some o/\o.cls= .type "StopIteration")->E (.ref e) {s with heap:=h'}) :
  wpAny (model prog w) A (Builtin.SmallTypes.nextOf (.ref it)) Q E s:=by
 obtain⟨oi,e1,c1,d1⟩:=id hit;obtain⟨ot,e2,_,m2,d2⟩:=ht;unfold Builtin.SmallTypes.nextOf;refine wpAny_bind (wpAny_callSpecial?_slot (name:=Str.ofString "__next__") hit.typeIs F.slot_tuple_iterator_next (wpAny_call_entry F.slot_tuple_iterator_next hit.typeIs F.entry_tuple_iterator_next ?_ (F.args_tuple_iterator_next_1 _)));show wpAny _ _ (field (.ref it) 0 >>= _) _ _ s;refine wpAny_bind (wpAny_field e1 d1 (x:=.ref l) rfl ?_);show wpAny _ _ (if(Value.ref l==Value.none)=true then _ else _) _ _ s;rw[if_neg (show ¬((Value.ref l==Value.none)=true)from Bool.false_ne_true)];show wpAny _ _ (field (.ref it) 1 >>= _) _ _ s;refine wpAny_bind (wpAny_field e1 d1 (x:=.int i 0) rfl ?_);show wpAny _ _ (seqItems? (.ref l) >>= _) _ _ s;refine wpAny_bind (wpAny_seqItems e2 d2 ?_);cases hx:items[i]? with
 |some x =>
  rw[hx]at h;simp only[toNat_natCast,hx];refine wpAny_bind (wpAny_setField e1 d1 (by simp) (wpAny_pure ⟨x,rfl,wpAny_pure (h _ ?_ (Heap.SameBut.update ..))⟩));refine⟨_,Heap.get?_update_self _ e1 (Obj.isFreed_of_fields (Obj.data_mapFields d1 _)),(Obj.cls_mapFields ..).trans c1,?_⟩;rw[Obj.data_mapFields d1];simp[rawInt]
 |none =>
  rw[hx]at h;obtain⟨hh,h⟩:=h;simp only[toNat_natCast,hx];refine wpAny_bind (wpAny_rule (wpAny_bind (wpAny_setField e1 d1 (by simp) ?_)));show wpAny _ _ (newExc (.type "StopIteration") [] >>= _) _ _ _;refine wpAny_bind ?_;simp only[newExc,newTuple];refine wpAny_bind (wpAny_newObj_type ?_ (by size_fits));refine wpAny_bind (m:=firstArgMember _ _) (wpAny_of_eq (a:=Value.none) (by first|rfl|(simp only[firstArgMember];rfl)) ?_);refine wpAny_newObj_type ?_ (by size_fits);simp only[raiseNew];refine wpAny_bind (wpAny_handled ?_)
  first|rw[show A.in1.handled=none from hh]|rw[hh]
  exact wpAny_bind (wpAny_pure (wpAny_throw (h _ _ (((Heap.SameBut.update ..).extBut.push _).push _) ⟨_,Heap.get?_push_size _ rfl,rfl⟩)))
theorem nextS{k:Bool}{it l:Addr}{i:Nat}{items:Array Value}{x:Value}{Q:Value->Shared->Prop}(hit:IterAt k s.heap it l i)(hl:SeqIs k s.heap l items)(hx:items[i]? =some x)(hQ:∀h',IterAt k h' it l (i+1)->Heap.SameBut it s.heap h'->Q x {s with heap:=h'}):wpAny (model prog w) A (Builtin.SmallTypes.nextOf (.ref it)) Q E s:=by
 cases k
 ·exact wpAny_nextOf_list_item hit hl hx hQ
 ·exact nextOf_tup hit hl (by rw[hx];exact hQ)
theorem endS{k:Bool}{it l:Addr}{i:Nat}{items:Array Value}{Q:Value->Shared->Prop}(hh:A.handled=none)(hit:IterAt k s.heap it l i)(hl:SeqIs k s.heap l items)(hx:items[i]? =none)(hE:∀h' e,Heap.ExtBut it s.heap h'->(∃o,h'.get? e=some o/\o.cls= .type "StopIteration")->E (.ref e) {s with heap:=h'}):wpAny (model prog w) A (Builtin.SmallTypes.nextOf (.ref it)) Q E s:=by
 cases k
 ·exact wpAny_nextOf_list_end hh hit hl hx hE
 ·exact nextOf_tup hit hl (by rw[hx];exact⟨hh,hE⟩)
theorem pyIterS{k:Bool}{l:Addr}{items:Array Value}{Q:Value->Shared->Prop}(hl:SeqIs k s.heap l items)(hQ:Q (.ref s.heap.objs.size) {s with heap:=s.heap.push {cls:=.type (itName k),data:=.fields #[.ref l,.int 0 0]}}):wpAny (model prog w) A (pyIter (.ref l)) Q E s:=by
 cases k
 ·exact wpAny_pyIter_list hl hQ
 ·exact wpAny_pyIter_tuple hl hQ
structure ZipAt(k1 k2:Bool)(h:Heap)(z TI TO i1 i2 l1 l2:Addr)(f0:Value)(j1 j2:Nat):Prop where
 zz:IsZip h z TI TO f0
 ti:IsPair h TI (.ref i1) (.ref i2)
 tO:∃a b,IsPair h TO a b
 a1:IterAt k1 h i1 l1 j1
 a2:IterAt k2 h i2 l2 j2
theorem ZipAt.kept{k1 k2:Bool}{h h':Heap}{z TI TO i1 i2 l1 l2:Addr}{f0:Value}{j1 j2:Nat}(x:ZipAt k1 k2 h z TI TO i1 i2 l1 l2 f0 j1 j2)(f:∀b∈[z,TI,TO,i1,i2],∀o,h.get? b=some o->h'.get? b=some o) :
  ZipAt k1 k2 h' z TI TO i1 i2 l1 l2 f0 j1 j2:=by
 obtain⟨a,b,⟨c,d,e⟩,p,q⟩:=x;exact⟨f z (by simp) _ a,f TI (by simp) _ b,⟨c,d,f TO (by simp) _ e⟩,p.kept (f i1 (by simp)),q.kept (f i2 (by simp))⟩
theorem zip_item{k1 k2:Bool}{z TI TO i1 i2 l1 l2:Addr}{j1 j2:Nat}{xs ys:Array Value}{x y:Value}{Q:Value->Shared->Prop}(D:ZipApart z TI TO i1 i2 l1 l2)(Z:ZipAt k1 k2 s.heap z TI TO i1 i2 l1 l2 .none j1 j2)(b1:SeqIs k1 s.heap l1 xs)(b2:SeqIs k2 s.heap l2 ys)(hx:xs[j1]? =some x)(hy:ys[j2]? =some y)(hQ:∀h',ZipAt k1 k2 h' z TI TO i1 i2 l1 l2 (rawInt s.heap.objs.size) (j1+1) (j2+1)->IsPair h' s.heap.objs.size x y->(∀c o,c∉[z,TO,i1,i2]->s.heap.get? c=some o->h'.get? c=some o)->Q (.ref s.heap.objs.size) {s with heap:=h'}) :
  wpAny (model prog w) A (Builtin.«zip.__next__» ⟨[.ref z],[]⟩) (fun fin s'=>∃ v,fin= .done (.ret v)/\Q v s') E s:=by
 obtain⟨g0,g1,⟨oa,ob,g2⟩,p1,p2⟩:=Z;show wpAny _ _ (field (.ref z) 2 >>= _) _ _ _;refine wpAny_bind (wpAny_field g0 rfl (x:=.bool false) rfl ?_);show wpAny _ _ (field (.ref z) 3 >>= _) _ _ _;refine wpAny_bind (wpAny_field g0 rfl (x:=.ref TI) rfl ?_);refine wpAny_bind (wpAny_seqItems g1 rfl ?_);show wpAny _ _ (Builtin.SmallTypes.ownedTupleIsFree (.ref z) >>= _) _ _ _;refine wpAny_bind ?_;unfold Builtin.SmallTypes.ownedTupleIsFree;refine wpAny_bind (wpAny_field g0 rfl (x:=.none) rfl (wpAny_pure ?_));simp only[if_true];refine wpAny_bind (wpAny_rule ?_);refine wpAny_bind (wpAny_field g0 rfl (x:=.ref TO) rfl ?_);refine wpAny_bind (wpAny_setField_rec g0 (by simp) fun ha za sa=>?_)
 replace za:IsZip ha z TI TO .ellipsis:=za
 refine wpAny_bind ?_;simp only[List.zipIdx_cons,List.zipIdx_nil,List.forIn_cons,List.forIn_nil];refine wpAny_bind (wpAny_bind (wpAny_onRaise ?_));show wpAny _ _ (Builtin.SmallTypes.nextOf (.ref i1) >>= _) _ _ _;refine wpAny_bind (nextS (p1.kept fun o e=>sa.extBut _ _ D.i1z e) (b1.kept fun o e=>sa.extBut _ _ D.l1z e) hx fun hb p1b sb=>wpAny_pure ?_);have t2:IsPair hb TO oa ob:=sb.extBut _ _ D.TOi1 (sa.extBut _ _ D.TOz g2);refine wpAny_bind (wpAny_seqItems t2 rfl ?_);refine wpAny_bind (wpAny_updateSeq_pair t2 fun hc t3 sc=>?_)
 replace t3:IsPair hc TO x ob:=t3
 refine wpAny_bind (wpAny_letGo (wpAny_pure ?_));refine wpAny_bind (wpAny_bind (wpAny_onRaise ?_));show wpAny _ _ (Builtin.SmallTypes.nextOf (.ref i2) >>= _) _ _ _;refine wpAny_bind (nextS (p2.kept fun o e=>sc.extBut _ _ D.TOi2.symm (sb.extBut _ _ D.i12.symm (sa.extBut _ _ D.i2z e))) (b2.kept fun o e=>sc.extBut _ _ D.l2TO (sb.extBut _ _ D.l2i1 (sa.extBut _ _ D.l2z e))) hy fun hd p2d sd=>wpAny_pure ?_);have t4:IsPair hd TO x ob:=sd.extBut _ _ D.TOi2 t3;refine wpAny_bind (wpAny_seqItems t4 rfl ?_);refine wpAny_bind (wpAny_updateSeq_pair t4 fun he t5 se=>?_)
 replace t5:IsPair he TO x y:=t5
 refine wpAny_bind (wpAny_letGo (wpAny_pure (wpAny_pure ?_)));refine wpAny_bind (wpAny_seqItems t5 rfl ?_);refine wpAny_bind (wpAny_newTuple ?_);have size:he.objs.size=s.heap.objs.size:=by rw[se.1,sd.1,sc.1,sb.1,sa.1]
 have ze:IsZip he z TI TO .ellipsis:=se.extBut _ _ D.TOz.symm (sd.extBut _ _ D.i2z.symm (sc.extBut _ _ D.TOz.symm (sb.extBut _ _ D.i1z.symm za)));have ke:∀c o,c∉[z,TO,i1,i2]->s.heap.get? c=some o->he.get? c=some o:=fun c o n e=>by
  simp only[mem_cons,not_mem_nil,or_false,not_or]at n;exact se.extBut _ _ n.2.1 (sd.extBut _ _ n.2.2.2 (sc.extBut _ _ n.2.1 (sb.extBut _ _ n.2.2.1 (sa.extBut _ _ n.1 e))))
 have q1:IterAt k1 he i1 l1 (j1+1):=p1b.kept fun o e=>se.extBut _ _ D.TOi1.symm (sd.extBut _ _ D.i12 (sc.extBut _ _ D.TOi1.symm e));have q2:IterAt k2 he i2 l2 (j2+1):=p2d.kept fun o e=>se.extBut _ _ D.TOi2.symm e;have tie:IsPair he TI (.ref i1) (.ref i2):=se.extBut _ _ D.TITO (sd.extBut _ _ D.TIi2 (sc.extBut _ _ D.TITO (sb.extBut _ _ D.TIi1 (sa.extBut _ _ D.TIz g1))));have zlt:z<he.objs.size:=Heap.lt_size ze;show wpAny _ _ (Builtin.SmallTypes.ownedTupleHandOut (.ref z) (.ref he.objs.size) >>= _) _ _ _;refine wpAny_bind ?_;unfold Builtin.SmallTypes.ownedTupleHandOut;have zf:IsZip (he.push {cls:=.type "tuple",data:=.seq #[x,y]}) z TI TO .ellipsis:=Heap.get?_push_of_some _ ze;refine wpAny_bind (wpAny_setField_rec zf (by simp) fun hg zg sg=>?_)
 replace zg:IsZip hg z TI TO (rawInt he.objs.size):=zg
 refine wpAny_setField_rec zg (by simp) fun hn zn sn=>?_
 replace zn:IsZip hn z TI TO (rawInt he.objs.size):=zn
 have up:∀c o,c≠z->he.get? c=some o->hn.get? c=some o:=fun c o n e=>sn.extBut _ _ n (sg.extBut _ _ n (Heap.get?_push_of_some _ e));have tn:IsPair hn he.objs.size x y:=sn.extBut _ _ (Nat.ne_of_gt zlt) (sg.extBut _ _ (Nat.ne_of_gt zlt) (Heap.get?_push_size _ rfl));rw[size]at zn tn;refine wpAny_pure ⟨_,rfl,?_⟩;show Q (.ref he.objs.size) _;rw[size];refine hQ hn ⟨zn,up _ _ D.TIz tie,⟨_,_,up _ _ D.TOz t5⟩,q1.kept fun o e=>up _ _ D.i1z e,q2.kept fun o e=>up _ _ D.i2z e⟩ tn fun c o n e=>up c o (fun z=>n (by simp[z])) (ke c o n e)
theorem zip_end{k1 k2:Bool}{z TI TO i1 i2 l1 l2:Addr}{j1 j2:Nat}{xs ys:Array Value}{Q:Fin->Shared->Prop}(hh:A.handled=none)(D:ZipApart z TI TO i1 i2 l1 l2)(Z:ZipAt k1 k2 s.heap z TI TO i1 i2 l1 l2 .none j1 j2)(b1:SeqIs k1 s.heap l1 xs)(b2:SeqIs k2 s.heap l2 ys)(hend:xs[j1]? =none\/ys[j2]? =none)(hE:∀h' e,(∀c o,c∉[z,TO,i1,i2]->s.heap.get? c=some o->h'.get? c=some o)->(∃o,h'.get? e=some o/\o.cls= .type "StopIteration")->E (.ref e) {s with heap:=h'}) :
  wpAny (model prog w) A (Builtin.«zip.__next__» ⟨[.ref z],[]⟩) Q E s:=by
 obtain⟨g0,g1,⟨oa,ob,g2⟩,p1,p2⟩:=Z;show wpAny _ _ (field (.ref z) 2 >>= _) _ _ _;refine wpAny_bind (wpAny_field g0 rfl (x:=.bool false) rfl ?_);show wpAny _ _ (field (.ref z) 3 >>= _) _ _ _;refine wpAny_bind (wpAny_field g0 rfl (x:=.ref TI) rfl ?_);refine wpAny_bind (wpAny_seqItems g1 rfl ?_);show wpAny _ _ (Builtin.SmallTypes.ownedTupleIsFree (.ref z) >>= _) _ _ _;refine wpAny_bind ?_;unfold Builtin.SmallTypes.ownedTupleIsFree;refine wpAny_bind (wpAny_field g0 rfl (x:=.none) rfl (wpAny_pure ?_));simp only[if_true];refine wpAny_bind (wpAny_rule ?_);refine wpAny_bind (wpAny_field g0 rfl (x:=.ref TO) rfl ?_);refine wpAny_bind (wpAny_setField_rec g0 (by simp) fun ha za sa=>?_)
 replace za:IsZip ha z TI TO .ellipsis:=za
 refine wpAny_bind ?_;simp only[List.zipIdx_cons,List.zipIdx_nil,List.forIn_cons,List.forIn_nil];refine wpAny_bind (wpAny_bind (wpAny_onRaise ?_));show wpAny _ _ (Builtin.SmallTypes.nextOf (.ref i1) >>= _) _ _ _;cases hx:xs[j1]? with
 |none =>
  refine wpAny_bind (endS hh (p1.kept fun o e=>sa.extBut _ _ D.i1z e) (b1.kept fun o e=>sa.extBut _ _ D.l1z e) hx fun hb e sb te=>?_);obtain⟨oe,e1,e2⟩:=te;have zb:IsZip hb z TI TO .ellipsis:=sb _ _ D.i1z.symm za;have nez:e≠z:=fun q=>by subst q;rw[zb]at e1;cases e1;simp at e2
  refine wpAny_setField_rec zb (by simp) fun hc _ sc=>hE hc e (fun c o n q=>?_) ⟨oe,sc.extBut _ _ nez e1,e2⟩;simp only[mem_cons,not_mem_nil,or_false,not_or]at n;exact sc.extBut _ _ n.1 (sb _ _ n.2.2.1 (sa.extBut _ _ n.1 q))
 |some x =>
  have hy:ys[j2]? =none:=hend.resolve_left (by rw[hx];intro q;cases q);refine wpAny_bind (nextS (p1.kept fun o e=>sa.extBut _ _ D.i1z e) (b1.kept fun o e=>sa.extBut _ _ D.l1z e) hx fun hb p1b sb=>wpAny_pure ?_);have t2:IsPair hb TO oa ob:=sb.extBut _ _ D.TOi1 (sa.extBut _ _ D.TOz g2);refine wpAny_bind (wpAny_seqItems t2 rfl ?_);refine wpAny_bind (wpAny_updateSeq_pair t2 fun hc t3 sc=>?_);refine wpAny_bind (wpAny_letGo (wpAny_pure ?_));refine wpAny_bind (wpAny_bind (wpAny_onRaise ?_));show wpAny _ _ (Builtin.SmallTypes.nextOf (.ref i2) >>= _) _ _ _;refine wpAny_bind (endS hh (p2.kept fun o e=>sc.extBut _ _ D.TOi2.symm (sb.extBut _ _ D.i12.symm (sa.extBut _ _ D.i2z e))) (b2.kept fun o e=>sc.extBut _ _ D.l2TO (sb.extBut _ _ D.l2i1 (sa.extBut _ _ D.l2z e))) hy fun hd e sd te=>?_);obtain⟨oe,e1,e2⟩:=te;have zd:IsZip hd z TI TO .ellipsis:=sd _ _ D.i2z.symm (sc.extBut _ _ D.TOz.symm (sb.extBut _ _ D.i1z.symm za));have nez:e≠z:=fun q=>by subst q;rw[zd]at e1;cases e1;simp at e2
  refine wpAny_setField_rec zd (by simp) fun he _ se=>hE he e (fun c o n q=>?_) ⟨oe,se.extBut _ _ nez e1,e2⟩;simp only[mem_cons,not_mem_nil,or_false,not_or]at n;exact se.extBut _ _ n.1 (sd _ _ n.2.2.2 (sc.extBut _ _ n.2.1 (sb.extBut _ _ n.2.2.1 (sa.extBut _ _ n.1 q))))
theorem pyNext_zip{k1 k2:Bool}{z TI TO i1 i2 l1 l2:Addr}{j1 j2:Nat}{xs ys:Array Value}{x y:Value}{Q:Option Value->Shared->Prop}(D:ZipApart z TI TO i1 i2 l1 l2)(Z:ZipAt k1 k2 s.heap z TI TO i1 i2 l1 l2 .none j1 j2)(b1:SeqIs k1 s.heap l1 xs)(b2:SeqIs k2 s.heap l2 ys)(hx:xs[j1]? =some x)(hy:ys[j2]? =some y)(hQ:∀h',ZipAt k1 k2 h' z TI TO i1 i2 l1 l2 (rawInt s.heap.objs.size) (j1+1) (j2+1)->IsPair h' s.heap.objs.size x y->(∀c o,c∉[z,TO,i1,i2]->s.heap.get? c=some o->h'.get? c=some o)->Q (some (.ref s.heap.objs.size)) {s with heap:=h'}) :
  wpAny (model prog w) A (pyNext (.ref z)) Q E s:=by
 have ty:s.TypeIs (.ref z) "zip" :=⟨_,Z.zz,rfl⟩;unfold pyNext;exact wpAny_bind (wpAny_attempt (wpAny_callSpecial?_slot (name:=Str.ofString "__next__") ty F.slot_zip_next (wpAny_call_entry F.slot_zip_next ty F.entry_zip_next (zip_item D Z b1 b2 hx hy fun h' r1 r2 r3=>wpAny_pure (hQ h' r1 r2 r3)) (F.args_zip_next_1 _))))
theorem pyNext_zipEnd{k1 k2:Bool}{z TI TO i1 i2 l1 l2:Addr}{j1 j2:Nat}{xs ys:Array Value}{Q:Option Value->Shared->Prop}(hh:A.handled=none)(D:ZipApart z TI TO i1 i2 l1 l2)(Z:ZipAt k1 k2 s.heap z TI TO i1 i2 l1 l2 .none j1 j2)(b1:SeqIs k1 s.heap l1 xs)(b2:SeqIs k2 s.heap l2 ys)(hend:xs[j1]? =none\/ys[j2]? =none)(hQ:∀h',(∀c o,c∉[z,TO,i1,i2]->s.heap.get? c=some o->h'.get? c=some o)->Q none {s with heap:=h'}):wpAny (model prog w) A (pyNext (.ref z)) Q E s:=by
 have ty:s.TypeIs (.ref z) "zip" :=⟨_,Z.zz,rfl⟩;unfold pyNext;refine wpAny_bind (wpAny_attempt (wpAny_callSpecial?_slot (name:=Str.ofString "__next__") ty F.slot_zip_next (wpAny_call_entry F.slot_zip_next ty F.entry_zip_next (zip_end hh D Z b1 b2 hend fun h' e hk he=>?_) (F.args_zip_next_1 _))));obtain⟨o,e1,e2⟩:=he;exact wpAny_bind (wpAny_isInstance (T :="StopIteration") (b:=true) ⟨o,e1,e2⟩ isSubtype_stop (wpAny_pure (hQ _ hk)))
end
def zH1(k1:Bool)(h:Heap)(l1:Addr):Heap:=h.push {cls:=.type (itName k1),data:=.fields #[.ref l1,.int 0 0]}
def zH2(k1 k2:Bool)(h:Heap)(l1 l2:Addr):Heap:=(zH1 k1 h l1).push {cls:=.type (itName k2),data:=.fields #[.ref l2,.int 0 0]}
def zH3(k1 k2:Bool)(h:Heap)(l1 l2:Addr):Heap:=(zH2 k1 k2 h l1 l2).push {cls:=.type "tuple",data:=.seq #[.ref h.objs.size,.ref (zH1 k1 h l1).objs.size]}
def zH4(k1 k2:Bool)(h:Heap)(l1 l2:Addr):Heap:=(zH3 k1 k2 h l1 l2).push {cls:=.type "tuple",data:=.seq #[.none,.none]}
def zH5(k1 k2:Bool)(h:Heap)(l1 l2:Addr):Heap:=(zH4 k1 k2 h l1 l2).push {cls:=.type "zip",data:=.fields #[.none,.bool false,.bool false,.ref (zH2 k1 k2 h l1 l2).objs.size,.ref (zH3 k1 k2 h l1 l2).objs.size]}
theorem zip_new_meets(k1 k2:Bool)(l1 l2:Addr)(xs ys:Array Value) :
  Meets (Builtin.«zip.__new__» ⟨[.type "zip",.ref l1,.ref l2],[]⟩) (fun _ R s=>SeqIs k1 s.heap l1 xs/\SeqIs k2 s.heap l2 ys/\R (.ok (.ret (.ref (zH4 k1 k2 s.heap l1 l2).objs.size))) {s with heap:=zH5 k1 k2 s.heap l1 l2}) :=
 .of_wp fun prog w A R s h=>by
  obtain⟨hp,gn,dr,tk,os⟩:=s;obtain⟨q1,q2,h⟩:=h;have hsub:=sub_zip;have r1:SeqIs k1 (Shared.heap ⟨hp,gn,dr,tk,os⟩) l1 xs:=q1;have r2:SeqIs k2 (Shared.heap ⟨hp.push {cls:=.type (itName k1),data:=.fields #[.ref l1,.int 0 0]},gn,dr,tk,os⟩) l2 ys:=SeqIs.kept q2 fun o e=>Heap.get?_push_of_some _ e
  wp_walk using pyIterS r1,pyIterS r2
  exact⟨_,rfl,h⟩
section
variable{prog:Program}{w:World}{A:Around}{E:Value->Shared->Prop}{s:Shared}
theorem call_zip{k1 k2:Bool}{l1 l2:Addr}{xs ys:Array Value}{Q:Value->Shared->Prop}(b1:SeqIs k1 s.heap l1 xs)(b2:SeqIs k2 s.heap l2 ys)(hQ:∀h',ZipAt k1 k2 h' (s.heap.objs.size+4) (s.heap.objs.size+2) (s.heap.objs.size+3) s.heap.objs.size (s.heap.objs.size+1) l1 l2 .none 0 0->(∀c o,s.heap.get? c=some o->h'.get? c=some o)->Q (.ref (s.heap.objs.size+4)) {s with heap:=h'}) :
  wpAny (model prog w) A (call (.type "zip") [.ref l1,.ref l2]) Q E s:=by
 refine callType_new F.called_zip (by decide) (F.typeCall_zip_2 _ _) (F.newCall_zip_2 _ _) (fun obj=>F.args_object_init_3 obj _ _) F.entry_zip_new (zip_new_meets k1 k2 l1 l2 xs ys) ⟨b1,b2,?_⟩;have n1:(zH1 k1 s.heap l1).objs.size=s.heap.objs.size+1:=Heap.size_push ..;have n2:(zH2 k1 k2 s.heap l1 l2).objs.size=s.heap.objs.size+2:=by unfold zH2;rw[Heap.size_push,n1]
 have n3:(zH3 k1 k2 s.heap l1 l2).objs.size=s.heap.objs.size+3:=by unfold zH3;rw[Heap.size_push,n2]
 have n4:(zH4 k1 k2 s.heap l1 l2).objs.size=s.heap.objs.size+4:=by unfold zH4;rw[Heap.size_push,n3]
 have f5:(zH5 k1 k2 s.heap l1 l2).get? (zH4 k1 k2 s.heap l1 l2).objs.size=some _:=Heap.get?_push_size _ rfl;have f4:(zH5 k1 k2 s.heap l1 l2).get? (zH3 k1 k2 s.heap l1 l2).objs.size=some _:=Heap.get?_push_of_some _ (Heap.get?_push_size _ rfl);have f3:(zH5 k1 k2 s.heap l1 l2).get? (zH2 k1 k2 s.heap l1 l2).objs.size=some _:=Heap.get?_push_of_some _ (Heap.get?_push_of_some _ (Heap.get?_push_size _ rfl));have f2:(zH5 k1 k2 s.heap l1 l2).get? (zH1 k1 s.heap l1).objs.size=some _:=Heap.get?_push_of_some _ (Heap.get?_push_of_some _ (Heap.get?_push_of_some _ (Heap.get?_push_size _ rfl)));have f1:(zH5 k1 k2 s.heap l1 l2).get? s.heap.objs.size=some _:=Heap.get?_push_of_some _ (Heap.get?_push_of_some _ (Heap.get?_push_of_some _ (Heap.get?_push_of_some _ (Heap.get?_push_size _ rfl))));show _/\_;rw[n2,n3,n4]at f5;rw[n1,n2]at f3;rw[n3]at f4;rw[n1]at f2;rw[n4];exact⟨⟨_,f5,rfl⟩,hQ _ ⟨f5,f3,⟨_,_,f4⟩,⟨_,f1,rfl,rfl⟩,⟨_,f2,rfl,rfl⟩⟩ fun c o e=>Heap.get?_push_of_some _ (Heap.get?_push_of_some _ (Heap.get?_push_of_some _ (Heap.get?_push_of_some _ (Heap.get?_push_of_some _ e))))⟩
end
section
variable{X:Cx}{pins:List (Addr×Obj)}{σ:St}{H:Hp}{s:Shared}{h':Heap}
theorem Inv.turnedL{t':Nat}{ch:List Addr}(I:Inv X pins σ H s)(hf:∀b∈ch,FpOk X pins H b)(k:∀b o,b∉ch->s.heap.get? b=some o->h'.get? b=some o):Inv X pins σ H {s with heap:=h',toks:=t'}:=by
 have nch:∀b u,H b=some u->b∉ch:=fun b u e z=>by rw[(hf b z).1]at e;cases e
 refine I.step (g':=s.gens) (d':=s.drawn) (ch:=ch) (fun b hb=>⟨(hf b hb).2.2.2.1,(hf b hb).2.1,(hf b hb).2.2.2.2.1,(hf b hb).2.2.2.2.2⟩) (fun b o _ _ hc e _=>k b o hc e) (fun b o _ _ hc e _=>⟨o.slots,k b o hc e⟩) (fun _ _ _ _ n=>n)
  (fun b o hc e=>⟨o,k b o hc e⟩) (fun _ _ e=>e) (fun _ _ _ e=>e) (fun b ps e=>⟨#[],by rw[e];simp⟩) (fun m hm=>?_) (fun b u e=>?_) I.bare
 ·obtain⟨o,es,ep,ho,r⟩:=hm;exact⟨o,es,ep,k _ o (fun z=>(hf _ z).2.1 rfl) ho,r⟩
 ·refine(I.hok b u e).stay (fun c v hc q=>k c v ?_ q) (fun _ q=>q) fun _ _ q=>q;rcases hc with z|z
  ·rw[z];exact nch b u e
  ·exact nch c _ z
theorem Inv.turnedN{t':Nat}{ch:List Addr}{T:Addr}{o:HO}(I:Inv X pins σ H s)(hf:∀b∈ch,FpOk X pins H b)(k:∀b o,b∉ch->s.heap.get? b=some o->h'.get? b=some o)(hT:s.heap.objs.size<=T)(new:zS X.prog X.w (upd H T o) h' T o):Inv X pins σ (upd H T o) {s with heap:=h',toks:=t'}:=by
 have nch:∀b u,H b=some u->b∉ch:=fun b u e z=>by rw[(hf b z).1]at e;cases e
 have hn:H T=none:=I.hok.fresh hT;refine I.step (g':=s.gens) (d':=s.drawn) (ch:=ch) (fun b hb=>⟨(hf b hb).2.2.2.1,(hf b hb).2.1,(hf b hb).2.2.2.2.1,(hf b hb).2.2.2.2.2⟩) (fun b o _ _ hc e _=>k b o hc e) (fun b o _ _ hc e _=>⟨o.slots,k b o hc e⟩)
  (fun b u _ e n=>by rw[zh (ne_of_lt (lt_of_lt_of_le (Heap.lt_size e) hT))];exact n)
  (fun b o hc e=>⟨o,k b o hc e⟩) (fun b xs e=>by rw[zh (zt e hn)];exact e) (fun b u xs e=>by rw[zh (zt e hn)];exact e) (fun b ps e=>⟨#[],by rw[zh (zt e hn),e];simp⟩) (fun m hm=>?_) (fun b u e=>?_) I.bare
 ·obtain⟨o,es,ep,ho,r⟩:=hm;exact⟨o,es,ep,k _ o (fun z=>(hf _ z).2.1 rfl) ho,r⟩
 ·by_cases hb:b=T
  ·subst hb;rw[z0]at e;cases e;exact new
  ·rw[zh hb]at e;refine(I.hok b u e).stay (fun c v hc q=>k c v ?_ q) (fun c q=>by rw[zh (zt q hn)];exact q) fun c xs q=>by rw[zh (zt q hn)];exact q
   rcases hc with z|z
   ·rw[z];exact nch b u e
   ·exact nch c _ z
end
def Sq(k:Bool)(K:W.Frag)(H:Hp)(a:Addr)(xs:List V):Prop :=
 match k with
 |true=>SqT K H a xs
 |false=>SqL K H a xs
theorem Inv.sq{X:Cx}{pins:List (Addr×Obj)}{σ:St}{H:Hp}{s:Shared}{k:Bool}{a:Addr}{xs:List V}(I:Inv X pins σ H s)(h:Sq k X.K H a xs):∃its:List Value,Vals xs its/\SeqIs k s.heap a its.toArray/\xs.length<=sizeLine:=by
 cases k
 ·obtain⟨its,r,p,z⟩:=I.list h;exact⟨its,r,p.isList,z⟩
 ·exact I.tuple h
theorem Inv.sq_inj{X:Cx}{pins:List (Addr×Obj)}{σ:St}{H:Hp}{s:Shared}{k:Bool}{a:Addr}{xs ys:List V}(I:Inv X pins σ H s)(h:Sq k X.K H a xs)(h':Sq k X.K H a ys):xs=ys:=by
 cases k
 ·exact I.list_inj h h'
 ·exact I.tuple_inj h h'
def Itz(K:W.Frag)(k1 k2:Bool)(a b:Addr):It :=
 ⟨fun i H=>∃ xs ys x y,Sq k1 K H a xs/\Sq k2 K H b ys/\xs[i]? =some x/\ys[i]? =some y,
  fun i H v H'=>∃ T x y,H T=none/\v= .ref T/\H'=upd H T (.tup [x,y])/\(∀xs,Sq k1 K H a xs->xs[i]? =some x)/\ ∀ys,Sq k2 K H b ys->ys[i]? =some y,
  fun i H=>∃ xs ys,Sq k1 K H a xs/\Sq k2 K H b ys/\(xs.length<=i\/ys.length<=i)⟩
theorem pair_ok{P:Program}{w:World}{H:Hp}{h:Heap}{T:Addr}{x y:V}{u v:Value}(r1:RelV x u)(r2:RelV y v)(e:IsPair h T u v):zS P w H h T (.tup [x,y]):=by
 refine⟨by show 2<=sizeLine;decide,[u,v],.cons r1 (.cons r2 .nil),⟨_,e,rfl,_,rfl⟩,fun o q=>?_⟩;rw[e]at q;cases q;rfl
theorem turn_zip{P:Program}{w:World}{K:W.Frag}{elts:List Expr}{x1:Nat}{pos:Pos}(k1 k2:Bool)(a b z TI TO i1 i2:Addr)(D:ZipApart z TI TO i1 i2 a b) :
  Turn P w K (.Tuple elts x1 pos) (Itz K k1 k2 a b) [z,TI,TO,i1,i2] z (fun i h=>ZipAt k1 k2 h z TI TO i1 i2 a b .none i i) where
 mem:=by simp
 obj:=fun i h st c hc=>by
  obtain⟨g0,g1,⟨oa,ob,g2⟩,⟨o1,e1,_,d1⟩,⟨o2,e2,_,d2⟩⟩:=st;simp only[mem_cons,not_mem_nil,or_false]at hc;rcases hc with rfl|rfl|rfl|rfl|rfl
  ·exact⟨_,g0,fun v q=>by cases q⟩
  ·exact⟨_,g1,fun v q=>by cases q⟩
  ·exact⟨_,g2,fun v q=>by cases q⟩
  ·exact⟨_,e1,fun v q=>by rw[d1]at q;cases q⟩
  ·exact⟨_,e2,fun v q=>by rw[d2]at q;cases q⟩
 keep:=fun i h h' st k=>st.kept k
 item:=by
  intro X hP hw hK hc i pins s σ H E I hf st hg;subst hP hw hK;obtain⟨xs,ys,x,y,hq1,hq2,hx,hy⟩:=hg;obtain⟨us,rv1,p1,_⟩:=I.sq hq1;obtain⟨ws,rv2,p2,_⟩:=I.sq hq2;obtain⟨u,hu,ru⟩:=rv1.get hx;obtain⟨v,hv,rv⟩:=rv2.get hy;refine pyNext_zip D st p1 p2 (x:=u) (y:=v) (by simpa using hu) (by simpa using hv) fun h' st' tp kk=>⟨_,rfl,?_⟩;refine wpAny_letOwnedTupleGo_zip st'.zz fun h2 hz2 sb=>?_;have up:∀c o,c≠z->h'.get? c=some o->h2.get? c=some o:=fun c o n e=>(sb.2 c n).trans e;have lt:z<s.heap.objs.size:=Heap.lt_size st.zz;have tp2:IsPair h2 s.heap.objs.size u v:=up _ _ (Nat.ne_of_gt lt) tp;have I1:Inv X pins σ (upd H s.heap.objs.size (.tup [x,y])) {s with heap:=h2}:=I.turnedN (t':=s.toks) (ch:=[z,TI,TO,i1,i2]) hf (fun c o n e=>up c o (fun q=>n (by simp[q])) (kk c o (fun q=>n (by
   simp only[mem_cons,not_mem_nil,or_false]at q ⊢;rcases q with q|q|q|q <;>simp[q])) e)) (le_refl _) (pair_ok ru rv tp2)
  refine⟨.ref s.heap.objs.size,_,I1,rfl,⟨_,x,y,I.hok.fresh (le_refl _),rfl,rfl,fun xs' h=>by rw[I.sq_inj h hq1];exact hx,fun ys' h=>by rw[I.sq_inj h hq2];exact hy⟩,
   ⟨hz2,up _ _ D.TIz st'.ti,?_,st'.a1.kept (fun o e=>up _ _ D.i1z e),st'.a2.kept fun o e=>up _ _ D.i2z e⟩,fun c hc=>?_⟩
  ·obtain⟨oa,ob,e⟩:=st'.tO;exact⟨oa,ob,up _ _ D.TOz e⟩
  ·have hlt:c<s.heap.objs.size:=by
    obtain⟨g0,g1,⟨oa,ob,g2⟩,⟨o1,e1,_,d1⟩,⟨o2,e2,_,d2⟩⟩:=st;simp only[mem_cons,not_mem_nil,or_false]at hc;rcases hc with rfl|rfl|rfl|rfl|rfl
    ·exact Heap.lt_size g0
    ·exact Heap.lt_size g1
    ·exact Heap.lt_size g2
    ·exact Heap.lt_size e1
    ·exact Heap.lt_size e2
   rw[zh (ne_of_lt hlt)];exact(hf c hc).1
 done:=by
  intro X hP hw hK hc i pins s σ H E I hf st hg;subst hP hw hK;obtain⟨xs,ys,hq1,hq2,hend⟩:=hg;obtain⟨us,rv1,p1,_⟩:=I.sq hq1;obtain⟨ws,rv2,p2,_⟩:=I.sq hq2;have l1:=rv1.length;have l2:=rv2.length;refine pyNext_zipEnd (I.ok.hd hc) D st p1 p2 ?_ fun h' kk=>⟨rfl,I.turnedL (t':=s.toks) (ch:=[z,TI,TO,i1,i2]) hf fun c o n e=>kk c o (fun q=>n (by
   simp only[mem_cons,not_mem_nil,or_false]at q ⊢;rcases q with q|q|q|q <;>simp[q])) e⟩
  rcases hend with q|q
  ·exact .inl (by simp;omega)
  ·exact .inr (by simp;omega)
 self:=fun _ _ _ _ _ st h=>wpAny_pyIter_zip st.zz h
section
variable{X:Cx}{elts:List Expr}{x1:Nat}{tpos:Pos}
def iZip(K:W.Frag)(k1 k2:Bool)(ta:TA):TI:=fun σ H R=>ta σ H fun vs H1=>∃ a b,vs=[.ref a,.ref b]/\(∃xs,Sq k1 K H1 a xs)/\(∃ys,Sq k2 K H1 b ys)/\R (Itz K k1 k2 a b) H1
theorem pi_zip(k1 k2:Bool){a b:Expr}{ta:TA}{p pos:Pos}(hg:Gl X "zip")(hm:X.mg "zip"=none)(ha:PA X [a,b] ta)(hs:starEach [a,b] X.env=[(false,eval a X.env),(false,eval b X.env)]:=by rfl)(hs2:starEach [b] X.env=[(false,eval b X.env)]:=by rfl) :
  PI X (.Tuple elts x1 tpos) (.Call (.Name "zip" p) [a,b] [] pos) (iZip X.K k1 k2 ta):=by
 intro pins s σ H R I h;refine Call_ (ld_blt I hg hm boot_zip (PyProof.Rows.callWith_type1 (thn (ha pos pins s σ H _ I h) fun us s1 ⟨vs,H1,I1,r1,q1⟩=>?_) (by rw[hs,hs2]) (by rw[hs2];rfl)));obtain⟨a,b,e,⟨xs,hq1⟩,⟨ys,hq2⟩,q⟩:=q1;subst e;cases r1 with
 |cons r rr =>
  cases rr with
  |cons r' rr =>
   cases rr;cases r;cases r';obtain⟨us,rv1,p1,_⟩:=I1.sq hq1;obtain⟨ws,rv2,p2,_⟩:=I1.sq hq2;refine call_zip p1 p2 fun h' Z kk=>?_;have D:=PyProof.Rows.zipApart_new p1.lt p2.lt;have I2:Inv X pins σ H1 {s1 with heap:=h'}:=I1.kept (t':=s1.toks) kk;refine wpAny_pyIter_zip (s:={s1 with heap:=h'}) Z.zz ⟨_,[s1.heap.objs.size+4,s1.heap.objs.size+2,s1.heap.objs.size+3,s1.heap.objs.size,s1.heap.objs.size+1],_,_,H1,rfl,I2,turn_zip k1 k2 a b _ _ _ _ _ D,Z,fun c hc=>?_,q⟩;have hle:s1.heap.objs.size<=c:=by
    simp only[mem_cons,not_mem_nil,or_false]at hc;have hc':c=s1.heap.objs.size+4\/c=s1.heap.objs.size+2\/c=s1.heap.objs.size+3\/c=s1.heap.objs.size\/c=s1.heap.objs.size+1:=hc;rcases hc' with e|e|e|e|e <;>rw[e] <;>first|exact le_refl _|exact Nat.le_add_right _ _
   exact I1.fpOk hle (I1.hok.fresh hle)
end
theorem comp_zip{K:W.Frag}{k1 k2:Bool}{a b:Addr}{xs ys:List V}{g:TG}{tf:TT}{te:TE}{σ:St}{H:Hp}{Q:VK}(Pv:Nat->List V->St->Hp->Prop)(h0:Pv 0 [] σ H)(hl:∀i zs σ H,i<=min xs.length ys.length->Pv i zs σ H->Sq k1 K H a xs/\Sq k2 K H b ys/\zs.length<=sizeLine)(hs:∀i x y zs σ H T,xs[i]? =some x->ys[i]? =some y->Pv i zs σ H->H T=none->g (.ref T) σ (upd H T (.tup [x,y])) fun σ2 H2=>tf σ2 H2 fun b H3=>if b=true then te σ2 H3 fun v H4=>Pv (i+1) (zs++[v]) σ2 H4 else Pv (i+1) zs σ2 H3)(hd:∀zs σ H,Pv (min xs.length ys.length) zs σ H-> ∀p,H p=none->Q (.ref p) (upd H p (.lst zs))):tCompK g tf te σ (Itz K k1 k2 a b) H Q:=by
 refine⟨fun i m zs σ H=>m=min xs.length ys.length-i/\i<=min xs.length ys.length/\Pv i zs σ H,⟨_,(Nat.sub_zero _).symm,zero_le _,h0⟩,?_⟩;rintro i m zs σ H ⟨rfl,hi,p⟩;obtain⟨q1,q2,hz⟩:=hl i zs σ H hi p;by_cases hlt:i<min xs.length ys.length
 ·have l1:i<xs.length:=by omega
  have l2:i<ys.length:=by omega
  refine .inr ⟨⟨xs,ys,xs[i],ys[i],q1,q2,by simp[l1],by simp[l2]⟩,hz,Pv (i+1),fun ys' σ' H' p'=>⟨min xs.length ys.length-(i+1),by omega,rfl,hlt,p'⟩,fun x H' y=>?_⟩;obtain⟨T,u,v,hT,rfl,rfl,e1,e2⟩:=y;exact hs i u v zs σ H T (e1 xs q1) (e2 ys q2) p hT
 ·have e:i=min xs.length ys.length:=by omega
  rw[e]at p;exact .inl ⟨⟨xs,ys,q1,q2,by omega⟩,hz,hd zs σ H p⟩
theorem for_zip{K:W.Frag}{k1 k2:Bool}{a b:Addr}{xs ys:List V}{g:TG}{tb:TS}{D:Ends}{σ:St}{H:Hp}(Pv:Nat->St->Hp->Prop)(h0:Pv 0 σ H)(hl:∀i σ H,i<=min xs.length ys.length->Pv i σ H->Sq k1 K H a xs/\Sq k2 K H b ys)(hs:∀i x y σ H T,xs[i]? =some x->ys[i]? =some y->Pv i σ H->H T=none->g (.ref T) σ (upd H T (.tup [x,y])) fun σ2 H2=>tb {D with nx:=Pv (i+1),ct:=Pv (i+1),bk:=D.nx} σ2 H2)(hd:∀ σ H,Pv (min xs.length ys.length) σ H->D.nx σ H) :
  ∃W0:Nat->Nat->St->Hp->Prop,(∃m,W0 0 m σ H)/\ ∀i m σ H,W0 i m σ H->
   ((Itz K k1 k2 a b).stop i H/\D.nx σ H)\/((Itz K k1 k2 a b).go i H/\ ∃N:St->Hp->Prop,(∀ σ' H',N σ' H'-> ∃m',m'<m/\W0 (i+1) m' σ' H')/\ ∀x H',(Itz K k1 k2 a b).yld i H x H'->g x σ H' fun σ2 H2=>tb {D with nx:=N,ct:=N,bk:=D.nx} σ2 H2):=by
 refine⟨fun i m σ H=>m=min xs.length ys.length-i/\i<=min xs.length ys.length/\Pv i σ H,⟨_,(Nat.sub_zero _).symm,zero_le _,h0⟩,?_⟩;rintro i m σ H ⟨rfl,hi,p⟩;obtain⟨q1,q2⟩:=hl i σ H hi p;by_cases hlt:i<min xs.length ys.length
 ·have l1:i<xs.length:=by omega
  have l2:i<ys.length:=by omega
  refine .inr ⟨⟨xs,ys,xs[i],ys[i],q1,q2,by simp[l1],by simp[l2]⟩,Pv (i+1),fun σ' H' p'=>⟨min xs.length ys.length-(i+1),by omega,rfl,hlt,p'⟩,fun x H' y=>?_⟩;obtain⟨T,u,v,hT,rfl,rfl,e1,e2⟩:=y;exact hs i u v σ H T (e1 xs q1) (e2 ys q2) p hT
 ·have e:i=min xs.length ys.length:=by omega
  rw[e]at p;exact .inl ⟨⟨xs,ys,q1,q2,by omega⟩,hd σ H p⟩
section
variable{prog:Program}{w:World}{A:Around}{E:Value->Shared->Prop}{s:Shared}
theorem call_tree_kw{id:String}{b:Builtin}{args:List Value}{kw:List (Str×Value)}{Q:Value->Shared->Prop}(hk:builtinKind id=none)(hp:plainId id=true)(hb:entryFor table id=some b)(ha:argsOk id ⟨args,kw⟩)(hc:wpAny (model prog w) A.in1 (b ⟨args,kw⟩) (fun fin s'=>match fin with
   | .done f=>(match(Except.ok f:Result)with| .ok (.ret v)=>Q v s'| .ok _=>False| .error e=>E e s')
   | .again c'=>c'.quiet=true/\codeAny (model prog w) A c' (fun r s'=>match r with| .ok (.ret v)=>Q v s'| .ok _=>False| .error e=>E e s') s') E s):wpAny (model prog w) A (call (.builtin id) args kw) Q E s:=by
 refine wpAny_call (codeAny_call_builtin hp hb ?_);simp only[checkBuiltinCall,hk];cases hsig:Manifest.signature? id with
 |none=>exact wpAny_pure hc
 |some sig =>
  have ha':Bind.checkArgs id sig ⟨args,kw⟩=pure ():=by simpa only[argsOk,hsig]using ha
  simp only[ha'];exact wpAny_pure hc
end
theorem best_le{val:Nat->Int}:∀n j:Nat,j<=n->val j<=val (argBest (fun i j=>decide (val i>val j)) n)
 | 0,j,h=>by
  have:j=0:=by omega
  subst this;exact Int.le_refl _
 |n+1,j,h=>by
  unfold argBest;by_cases c:val (n+1)>val (argBest (fun i j=>decide (val i>val j)) n)
  ·simp only[decide_eq_true c,if_true];by_cases e:j=n+1
   ·rw[e];exact Int.le_refl _
   ·have:=best_le (val:=val) n j (by omega);omega
  ·simp only[decide_eq_false c,false_eq_true,if_false];by_cases e:j=n+1
   ·rw[e];omega
   ·exact best_le n j (by omega)
theorem best_ge{val:Nat->Int}:∀n j:Nat,j<=n->val (argBest (fun i j=>decide (val i<val j)) n)<=val j
 | 0,j,h=>by
  have:j=0:=by omega
  subst this;exact Int.le_refl _
 |n+1,j,h=>by
  unfold argBest;by_cases c:val (n+1)<val (argBest (fun i j=>decide (val i<val j)) n)
  ·simp only[decide_eq_true c,if_true];by_cases e:j=n+1
   ·rw[e];exact Int.le_refl _
   ·have:=best_ge (val:=val) n j (by omega);omega
  ·simp only[decide_eq_false c,false_eq_true,if_false];by_cases e:j=n+1
   ·rw[e];omega
   ·exact best_ge n j (by omega)
theorem best_lt(bt:Nat->Nat->Bool):∀n:Nat,argBest bt n<=n
 | 0=>le_refl _
 |n+1=>by
  unfold argBest;split
  ·exact le_refl _
  ·exact le_trans (best_lt bt n) (le_succ n)
section
variable{X:Cx}
def Ismax(m:Int)(ns:List Int):Prop:=m∈ns/\ ∀x∈ns,x<=m
theorem ismax_of{ns:List Int}(hn:0<ns.length):Ismax (ns.getD (argBest (fun i j=>decide (ns.getD i 0>ns.getD j 0)) (ns.length-1)) 0) ns:=by
 have hb:=best_lt (fun i j=>decide (ns.getD i 0>ns.getD j 0)) (ns.length-1);have at':∀j,j<ns.length->ns.getD j 0=ns[j]!:=fun j h=>by simp[h]
 refine⟨?_,fun x hx=>?_⟩
 ·have hl:argBest (fun i j=>decide (ns.getD i 0>ns.getD j 0)) (ns.length-1)<ns.length:=by omega
  generalize argBest (fun i j=>decide (ns.getD i 0>ns.getD j 0)) (ns.length-1)=k at hl;have:ns.getD k 0=ns[k]:=by simp[hl]
  rw[this];exact getElem_mem hl
 ·obtain⟨j,hj,rfl⟩:=List.mem_iff_getElem.mp hx;have h1:=best_le (val:=fun i=>ns.getD i 0) (ns.length-1) j (by omega);have h2:ns.getD j 0=ns[j]:=by simp[hj]
  rw[<-h2];exact h1
theorem call_max_ints(hc:X.calm=true):CallR X (.builtin "max") (fun xs H Q=>∃(a:Addr)(ns:List Int),xs=[.ref a]/\SqL X.K H a (ns.map V.int)/\ns≠[]/\ ∀m,Ismax m ns->Q (.int m) H):=by
 intro pins s σ H xs us Q I r h;obtain⟨a,ns,rfl,hq,hne,q⟩:=h;obtain⟨u,rfl,ru⟩:=vals1 r;cases ru;have hh:X.A.in1.handled=none:=I.ok.hd hc;obtain⟨its,rv,p,hz⟩:=I.list hq;have hl:=rv.length;rw[length_map]at hl;have hlt:a<s.heap.objs.size:=by obtain⟨_,e,_⟩:=p.isList;exact Heap.lt_size e
 have hn:0<ns.length:=List.length_pos_iff.mpr hne;refine call_max_walk (wpAny_pyIter_list p.isList ⟨_,_,_,_,_,_,_,rfl,Walks.list (A:=X.A.in1) hh _ a (ne_of_lt hlt) its.toArray,⟨⟨_,Heap.get?_push_size _ rfl,rfl,rfl⟩,p.isList.push _⟩,fun b hb=>?_,by rw[size_toArray,<-hl];exact hn,CmpOf.ints_gt (fun i=>ns.getD i 0) (yD rv),fun v h' tk p1 kk=>?_⟩)
 ·show b<(s.heap.push _).objs.size;rw[Heap.size_push];rcases mem_cons.mp hb with rfl|hb
  ·exact Nat.lt_succ_self _
  ·rcases mem_cons.mp hb with rfl|hb
   ·exact lt_succ_of_lt hlt
   ·cases hb
 ·rw[size_toArray,<-hl]at p1;obtain⟨t,e⟩:=yD rv _ v p1;exact⟨.int _,H,I.kept fun b o e=>kk b o (by simpa using ne_of_lt (Heap.lt_size e)) (Heap.get?_push_of_some _ e),⟨t,e⟩,q _ (ismax_of hn)⟩
end
section
variable{prog:Program}{w:World}{A:Around}{R:Result->Shared->Prop}{I:Addr}{fp wr:List Addr}{n:Nat}{P:Nat->Value->Prop}{St:Nat->Heap->Prop}
theorem args_min_default(a v:Value):argsOk "min" ⟨[a],[(Str.ofString "default",v)]⟩:=by unfold argsOk;kernel_rfl
theorem min_loopK{kw:List (Str×Value)}(W0:Walks prog w A.in1 I fp wr n P St)(bt:Nat->Nat->Bool)(hc:CmpOf prog w A.in1 .Lt P bt)(S:Addr)(hSf:S∉fp):∀(k j:Nat)(s:Shared)(vb:Value)(c:Nat),n-(j+1)=k->j+1<=n->St (j+1) s.heap->P (argBest bt j) vb->
  s.heap.get? S=some {cls:=.type "list",dict:=none,data:=.seq #[vb,vb] c,slots:=#[]}->
  (∀v h' tk,P (argBest bt (n-1)) v->(∀b o,b∉wr->b≠S->s.heap.get? b=some o->h'.get? b=some o)->R (.ok (.ret v)) {s with heap:=h',toks:=tk})->
  codeAny (model prog w) A (.builtin "min.loop" ⟨[.ref I,.none,.ref S],kw⟩) R s:=by
 have hSw:S∉wr:=fun h=>hSf (W0.sub _ h);have nm:(toString "min"++toString ".loop" : String)="min.loop" :=by decide
 intro k
 induction k with
 |zero =>
  intro j s vb c hk hj st hP hS hR;have hn:j+1=n:=by omega
  refine codeAny_builtin F.entry_min_loop ?_;rw[Around.under_plainId F.plain_min_loop _];show wpAny _ A.in1 (seqItems? (.ref S) >>= _) _ _ s;refine wpAny_bind (wpAny_seqItems hS rfl ?_);show wpAny _ A.in1 (tryCatch (pyNext (.ref I)) _ >>= _) _ _ s;refine wpAny_bind (wpAny_tryCatch (W0.done s _ _ (hn▸st) fun h' tk kk=>?_));have hS':=kk S _ hSw hS;show wpAny _ A.in1 (updateSeq S (fun _=>#[]) >>= _) _ _ _;refine wpAny_bind (wpAny_updateSeq hS' rfl (wpAny_bind (wpAny_letGo (wpAny_pure ?_))));exact hR vb _ tk (by rw[<-hn];exact hP) fun b o n1 n2 e=>(Heap.get?_update_other _ _ (Ne.symm n2)).trans (kk b o n1 e)
 |succ k ih =>
  intro j s vb c hk hj st hP hS hR;have hlt:j+1<n:=by omega
  refine codeAny_builtin F.entry_min_loop ?_;rw[Around.under_plainId F.plain_min_loop _];show wpAny _ A.in1 (seqItems? (.ref S) >>= _) _ _ s;refine wpAny_bind (wpAny_seqItems hS rfl ?_);show wpAny _ A.in1 (tryCatch (pyNext (.ref I)) _ >>= _) _ _ s;refine wpAny_bind (wpAny_tryCatch (W0.item (j+1) s _ _ hlt st fun v h' tk hPv st' kk=>?_));have hS':=kk S _ hSw hS;show wpAny _ A.in1 (tryCatch (holding [v,v] (richCompare .Lt v vb >>= _)) _ >>= _) _ _ _;refine wpAny_bind (wpAny_tryCatch (wpAny_holding (wpAny_bind (hc (j+1) (argBest bt j) v vb _ _ _ hPv hP ?_))));refine wpAny_bind (wpAny_holding (wpAny_truthy_bool ?_));refine wpAny_bind (wpAny_letGo (wpAny_pure ?_));cases hb:bt (j+1) (argBest bt j)with
  |true =>
   simp only[if_true];refine wpAny_bind (wpAny_updateSeq hS' rfl (wpAny_bind (wpAny_letGo ?_)));rw[nm];refine wpAny_pure ⟨plainId_quiet F.plain_min_loop _,ih (j+1) _ v _ (by omega) hlt (W0.frame _ _ _ st' fun b q o e=>?_) (by simp only[argBest,hb,if_true];exact hPv) (Heap.get?_update_self _ hS' rfl) fun v2 h2 t2 p2 k2=>?_⟩
   ·exact(Heap.get?_update_other _ _ (fun h:S=b=>hSf (by rw[h];exact q))).trans e
   ·exact hR v2 h2 t2 p2 fun b o n1 n2 e=>k2 b o n1 n2 ((Heap.get?_update_other _ _ (Ne.symm n2)).trans (kk b o n1 e))
  |false =>
   simp only[false_eq_true,if_false];refine wpAny_bind (wpAny_letGo ?_);rw[nm];refine wpAny_pure ⟨plainId_quiet F.plain_min_loop _,ih (j+1) _ vb c (by omega) hlt st' (by simp only[argBest,hb,false_eq_true,if_false];exact hP) hS' fun v2 h2 t2 p2 k2=>?_⟩;exact hR v2 h2 t2 p2 fun b o n1 n2 e=>k2 b o n1 n2 (kk b o n1 e)
theorem min_loop0{d:Value}{s:Shared}{c:Nat}(W0:Walks prog w A.in1 I fp wr n P St)(bt:Nat->Nat->Bool)(hc:CmpOf prog w A.in1 .Lt P bt)(S:Addr)(hSf:S∉fp)(st:St 0 s.heap)(hS:s.heap.get? S=some {cls:=.type "list",dict:=none,data:=.seq #[] c,slots:=#[]})(hR:∀v h' tk,(0<n->P (argBest bt (n-1)) v)->(n=0->v=d)->(∀b o,b∉wr->b≠S->s.heap.get? b=some o->h'.get? b=some o)->R (.ok (.ret v)) {s with heap:=h',toks:=tk}) :
  codeAny (model prog w) A (.builtin "min.loop" ⟨[.ref I,.none,.ref S],[(Str.ofString "default",d)]⟩) R s:=by
 have hSw:S∉wr:=fun h=>hSf (W0.sub _ h);have nm:(toString "min"++toString ".loop" : String)="min.loop" :=by decide
 refine codeAny_builtin F.entry_min_loop ?_;rw[Around.under_plainId F.plain_min_loop _];show wpAny _ A.in1 (seqItems? (.ref S) >>= _) _ _ s;refine wpAny_bind (wpAny_seqItems hS rfl ?_);show wpAny _ A.in1 (tryCatch (pyNext (.ref I)) _ >>= _) _ _ s;by_cases h0:n=0
 ·refine wpAny_bind (wpAny_tryCatch (W0.done s _ _ (h0▸st) fun h' tk kk=>?_));show wpAny _ A.in1 (rule _ >>= _) _ _ _;refine wpAny_bind (wpAny_rule (wpAny_pure ?_));exact hR d h' tk (fun z=>absurd h0 (Nat.ne_of_gt z)) (fun _=>rfl) fun b o n1 _ e=>kk b o n1 e
 ·have hn:0<n:=Nat.pos_of_ne_zero h0;refine wpAny_bind (wpAny_tryCatch (W0.item 0 s _ _ hn st fun v h' tk hPv st' kk=>?_));have hS':=kk S _ hSw hS;show wpAny _ A.in1 (updateSeq S (fun _=>#[v,v]) >>= _) _ _ _;refine wpAny_bind (wpAny_updateSeq hS' rfl ?_);rw[nm];refine wpAny_pure ⟨plainId_quiet F.plain_min_loop _,min_loopK W0 bt hc S hSf _ 0 _ v _ rfl hn (W0.frame _ _ _ st' fun b q o e=>?_) hPv (Heap.get?_update_self _ hS' rfl) fun v2 h2 t2 p2 k2=>?_⟩
  ·exact(Heap.get?_update_other _ _ (fun h:S=b=>hSf (by rw[h];exact q))).trans e
  ·exact hR v2 h2 t2 (fun _=>p2) (fun z=>absurd z h0) fun b o n1 n2 e=>k2 b o n1 n2 ((Heap.get?_update_other _ _ (Ne.symm n2)).trans (kk b o n1 e))
end
section
variable{prog:Program}{w:World}{A:Around}{E:Value->Shared->Prop}{s:Shared}
theorem call_min_default{x d:Value}{Q:Value->Shared->Prop}(h:wpAny (model prog w) A.in1 (pyIter x) (fun it s2=>∃ I fp wr n P St bt,it= .ref I/\Walks prog w A.in1 I fp wr n P St/\St 0 s2.heap/\(∀b∈fp,b<s2.heap.objs.size)/\CmpOf prog w A.in1 .Lt P bt/\
   ∀v h' tk,(0<n->P (argBest bt (n-1)) v)->(n=0->v=d)->(∀b o,b∉wr->s2.heap.get? b=some o->h'.get? b=some o)->Q v {s2 with heap:=h',toks:=tk}) E s) :
  wpAny (model prog w) A (call (.builtin "min") [x] [(Str.ofString "default",d)]) Q E s:=by
 have nm:(toString "min"++toString ".loop" : String)="min.loop" :=by decide
 refine call_tree_kw F.kind_min F.plain_min F.entry_min (args_min_default _ _) ?_;show wpAny _ A.in1 (Builtin.Builtins.bindParams "min" ["key","default"] 0 ⟨[],[(Str.ofString "default",d)]⟩ >>= _) _ _ s;refine wpAny_bind (wpAny_of_eq (show Builtin.Builtins.bindParams "min" ["key","default"] 0 ⟨[],[(Str.ofString "default",d)]⟩=pure [none,some d]from rfl) ?_);refine wpAny_bind (wpAny_pure ?_);refine wpAny_bind (wpAny_mono h (fun it s2 h2=>?_) fun _ _ e=>e);obtain⟨I,fp,wr,n,P,St,bt,rfl,W0,st,hfp,hc,hQ⟩:=h2;refine wpAny_bind (wpAny_newObj_type ?_);have hSf:s2.heap.objs.size∉fp:=fun hm=>lt_irrefl _ (hfp _ hm);rw[nm];refine wpAny_pure ⟨plainId_quiet F.plain_min_loop _,min_loop0 W0 bt hc s2.heap.objs.size hSf (W0.frame _ _ _ st fun b _ o e=>Heap.get?_push_of_some _ e) (Heap.get?_push_size _ rfl) fun v h' tk p1 p2 kk=>?_⟩;exact hQ v h' tk p1 p2 fun b o n1 e=>kk b o n1 (ne_of_lt (Heap.lt_size e)) (Heap.get?_push_of_some _ e)
end
section
variable{X:Cx}
def Ismin(m:Int)(ns:List Int):Prop:=m∈ns/\ ∀x∈ns,m<=x
theorem ismin_of{ns:List Int}(hn:0<ns.length):Ismin (ns.getD (argBest (fun i j=>decide (ns.getD i 0<ns.getD j 0)) (ns.length-1)) 0) ns:=by
 have hb:=best_lt (fun i j=>decide (ns.getD i 0<ns.getD j 0)) (ns.length-1);have at':∀j,j<ns.length->ns.getD j 0=ns[j]!:=fun j h=>by simp[h]
 refine⟨?_,fun x hx=>?_⟩
 ·have hl:argBest (fun i j=>decide (ns.getD i 0<ns.getD j 0)) (ns.length-1)<ns.length:=by omega
  generalize argBest (fun i j=>decide (ns.getD i 0<ns.getD j 0)) (ns.length-1)=k at hl;have:ns.getD k 0=ns[k]:=by simp[hl]
  rw[this];exact getElem_mem hl
 ·obtain⟨j,hj,rfl⟩:=List.mem_iff_getElem.mp hx;have h1:=best_ge (val:=fun i=>ns.getD i 0) (ns.length-1) j (by omega);have h2:ns.getD j 0=ns[j]:=by simp[hj]
  rw[<-h2];exact h1
theorem min_walkI{pins:List (Addr×Obj)}{σ:St}{H:Hp}{s:Shared}{k:Bool}{a:Addr}{ns:List Int}{E:Value->Shared->Prop}{d:Value}{Q:Value->Shared->Prop}(hc:X.calm=true)(I:Inv X pins σ H s)(hq:Sq k X.K H a (ns.map V.int))(h:∀h' tk v,(∀b o,s.heap.get? b=some o->h'.get? b=some o)->(0<ns.length-> ∃m t,v= .int m t/\Ismin m ns)->(ns.length=0->v=d)->Q v {s with heap:=h',toks:=tk}) :
  wpAny (model X.prog X.w) X.A (call (.builtin "min") [.ref a] [(Str.ofString "default",d)]) Q E s:=by
 have hh:X.A.in1.handled=none:=I.ok.hd hc;obtain⟨its,rv,p,hz⟩:=I.sq hq;have hl:=rv.length;rw[length_map]at hl;have hlt:=p.lt;have fin:∀(h':Heap)(tk:Nat)(v:Value),(∀b o,s.heap.get? b=some o->h'.get? b=some o)->(0<its.toArray.size->its.toArray[argBest (fun i j=>decide (ns.getD i 0<ns.getD j 0)) (its.toArray.size-1)]? =some v)->(its.toArray.size=0->v=d)->Q v {s with heap:=h',toks:=tk}:=fun h' tk v kk p1 p2=>by
  rw[size_toArray,<-hl]at p1 p2;refine h h' tk v kk (fun hn=>?_) p2;obtain⟨t,e⟩:=yD rv _ v (p1 hn);exact⟨_,t,e,ismin_of hn⟩
 have apart:∀b∈[s.heap.objs.size,a],b<s.heap.objs.size+1:=fun b hb=>by
  rcases mem_cons.mp hb with rfl|hb
  ·exact Nat.lt_succ_self _
  ·rcases mem_cons.mp hb with rfl|hb
   ·exact lt_succ_of_lt hlt
   ·cases hb
 cases k
 ·refine call_min_default (wpAny_pyIter_list p ⟨_,_,_,_,_,_,_,rfl,Walks.list (A:=X.A.in1) hh _ a (ne_of_lt hlt) its.toArray,⟨⟨_,Heap.get?_push_size _ rfl,rfl,rfl⟩,Heap.IsList.push p _⟩,fun b hb=>?_,CmpOf.ints_lt (fun i=>ns.getD i 0) (yD rv),fun v h' tk p1 p2 kk=>?_⟩)
  ·show b<(s.heap.push _).objs.size;rw[Heap.size_push];exact apart b hb
  ·exact fin h' tk v (fun b o e=>kk b o (by simpa using ne_of_lt (Heap.lt_size e)) (Heap.get?_push_of_some _ e)) p1 p2
 ·refine call_min_default (wpAny_pyIter_tuple p ⟨_,_,_,_,_,_,_,rfl,Walks.tuple (A:=X.A.in1) hh _ a (ne_of_lt hlt) its.toArray,⟨⟨_,Heap.get?_push_size _ rfl,rfl,rfl⟩,Heap.IsTuple.push p _⟩,fun b hb=>?_,CmpOf.ints_lt (fun i=>ns.getD i 0) (yD rv),fun v h' tk p1 p2 kk=>?_⟩)
  ·show b<(s.heap.push _).objs.size;rw[Heap.size_push];exact apart b hb
  ·exact fin h' tk v (fun b o e=>kk b o (by simpa using ne_of_lt (Heap.lt_size e)) (Heap.get?_push_of_some _ e)) p1 p2
def rminD(K:W.Frag)(k:Bool)(x d:V)(H:Hp)(Q:VK):Prop:=∃ a ns,x= .ref a/\Sq k K H a (ns.map V.int)/\ ∀v,((ns=[]/\v=d)\/ ∃m,v= .int m/\Ismin m ns)->Q v H
def tminD(K:W.Frag)(k:Bool)(te td:TE):TE:=fun σ H Q=>te σ H fun x H1=>td σ H1 fun d H2=>rminD K k x d H2 Q
theorem pe_minD(k:Bool){e dE:Expr}{te td:TE}{p kp pos:Pos}(hc:X.calm=true)(hg:Gl X "min")(hm:X.mg "min"=none)(he:PE X e te)(hd:PE X dE td)(hse:starEach [e] X.env=[(false,eval e X.env)]:=by rfl):PE X (.Call (.Name "min" p) [e] [⟨some "default",dE,kp⟩] pos) (tminD X.K k te td):=by
 intro pins s σ H Q I h;refine wpAny_Call_Name_kw (ld_blt I hg hm boot_min ?_ (by decide) (by decide));refine callWith_kw (thn (pa_cons he yt hse pos pins s σ H (fun vs H1=>match vs with| [x]=>td σ H1 fun d H2=>rminD X.K k x d H2 Q| _=>False) I h) fun us s1 ⟨vs,H1,I1,r1,q1⟩=>?_) (by rw[hse];rfl) (by rw[hse];rfl)
 match vs,r1,q1 with
 | [x],r1,q =>
  obtain⟨u,rfl,ru⟩:=vals1 r1;refine kws_cons (thn (hd pins s1 σ H1 _ I1 q) fun dv s2 ⟨d,H2,I2,r2,q2⟩=>kws_nil ?_);obtain⟨a,ns,rfl,hq,q3⟩:=q2;cases ru;show wpAny _ _ (call (.builtin "min") [.ref a] [(Str.ofString "default",dv)]) _ _ _;refine min_walkI hc I2 hq fun h' tk v kk p1 p2=>?_;by_cases hn:0<ns.length
  ·obtain⟨m,t,rfl,hm⟩:=p1 hn;exact⟨.int m,H2,I2.kept kk,⟨t,rfl⟩,q3 _ (.inr ⟨m,rfl,hm⟩)⟩
  ·have e0:ns.length=0:=by omega
   rw[p2 e0];exact⟨d,H2,I2.kept kk,r2,q3 _ (.inl ⟨List.length_eq_zero_iff.mp e0,rfl⟩)⟩
end
theorem noFill_tuple_mul:fillsNumberSlot (.type "tuple") "mul"=pure false :=
 PySem.fillsNumberSlot_seq (id :="tuple.__mul__") (r:=some (.builtin "tuple.__rmul__")) F.slot_tuple_mul.lookup (by decide+kernel) F.slot_tuple_rmul.lookup (by decide+kernel)
theorem repeat_tuple:seqRepeat? (.type "tuple")=pure (some (.builtin "tuple.__mul__")):=by
 unfold seqRepeat?;rw[PySem.seqSlot_of (T :="tuple") (name :="__mul__") (id :="tuple.__mul__") F.slot_tuple_mul.lookup (by decide+kernel),PySem.seqSlot_of (T :="tuple") (name :="__rmul__") (id :="tuple.__rmul__") F.slot_tuple_rmul.lookup (by decide+kernel)];rfl
theorem rmul_tuple(a:Int)(t:Tok)(l:Addr)(its:Array Value)(n:Nat)(dd:Option Addr)(sl:Array (Option Value)) :
  Meets (Builtin.«int.__rmul__» ⟨[.int a t,.ref l],[]⟩) (fun _ R s=>s.heap.get? l=some {cls:=.type "tuple",dict:=dd,data:=.seq its n,slots:=sl}/\R (.ok (.ret Value.notImplemented)) s) :=
 .of_wp fun prog w A R s h=>by obtain⟨hp,g,d,tk,os⟩:=s;obtain⟨hl,h⟩:=h;wp_walk;exact⟨_,rfl,h⟩
theorem mul_tuple_meets(l:Addr)(its:Array Value)(n:Nat)(dd:Option Addr)(sl:Array (Option Value))(x:Int)(u:Tok)(h0:¬(x< -(2^63)||x>=2^63)=true)(h1:¬(its.isEmpty||x==1)=true)(h2:¬(x<=0||its.isEmpty)=true)(h3:¬((its.size:Nat):Int)*x>(2^63-1) / 8)(h4:¬Builtin.Tuple.tupleTooMany (((its.size:Nat):Int)*x)=true)(h5:(List.foldl (fun x1 x2=>x1++x2) #[] (replicate x.toNat its)).size<=sizeLine) :
  Meets (Builtin.«tuple.__mul__» ⟨[.ref l,.int x u],[]⟩) (fun _ R s=>s.heap.get? l=some {cls:=.type "tuple",dict:=dd,data:=.seq its n,slots:=sl}/\R (.ok (.ret (Value.ref s.heap.objs.size))) {s with heap:=s.heap.push {cls:=Value.type "tuple",data:=Data.seq (List.foldl (fun x1 x2=>x1++x2) #[] (replicate x.toNat its))},toks:=s.toks}) :=
 .of_wp fun prog w A R s h=>by
  obtain⟨hp,g,d,tk,os⟩:=s;obtain⟨hl,h⟩:=h
  wp_walk
  refine wpAny_ite_false (decide_eq_false h0) ?_
  wp_walk
  refine wpAny_ite_false (decide_eq_false h3) ?_
  wp_walk
  exact⟨_,rfl,h⟩
def rRepT(K:W.Frag):R2:=fun x y H Q=>∃ l k xs,x= .ref l/\y= .int k/\SqT K H l xs/\xs≠[]/\2<=k/\k<2^59/\xs.length*k.toNat<=sizeLine/\ ∀p,H p=none->Q (.ref p) (upd H p (.tup (replicate k.toNat xs).flatten))
theorem op_repT{X:Cx}:OpR X (binaryOp .Mult) (rRepT X.K):=by
 intro pins s σ H x y v u Q I rx ry h;obtain⟨l,k,xs,rfl,rfl,hq,hne,k2,k3,hz,q⟩:=h;cases rx;obtain⟨t,rfl⟩:=ry;obtain⟨its,r,pl,_⟩:=I.tuple hq;have hlen:=r.length;obtain⟨o,ho,hc,n,hd⟩:=pl;obtain⟨c,dd,dt,sl⟩:=o;cases hc;cases hd;have hpos:its≠[]:=fun e=>hne (by rw[e]at hlen;exact List.length_eq_zero_iff.mp hlen);have hemp:its.toArray.isEmpty=false:=by simp[hpos]
 have hfold:List.foldl (fun x1 x2=>x1++x2) #[] (replicate k.toNat its.toArray)=(replicate k.toNat its).flatten.toArray:=by
  have:=foldl_rep its k.toNat [];rw[List.nil_append]at this;exact this
 have hsz:((its.toArray.size:Nat):Int)*k=((xs.length*k.toNat:Nat):Int):=by
  rw[size_toArray,<-hlen,Int.natCast_mul,Int.toNat_of_nonneg (by omega)]
 have hl2:(xs.length*k.toNat:Nat)<=2^59:=le_trans hz (by decide);refine wpAny_binaryOp_repeat_ref (T :="tuple") (U :="int") (by decide) ⟨_,ho,rfl⟩ (fun s'=>typeIs_int s' k t) noFill_tuple_mul F.fills_int_mul F.slot_int_rmul repeat_tuple F.slot_int_index.lookup
  (call_meets F.slot_int_rmul (typeIs_int s k t) F.entry_int_rmul (F.args_int_rmul_2 _ _) (rmul_tuple k t l its.toArray n dd sl)
   ⟨ho,rfl,⟨_,ho,rfl⟩,call_meets F.slot_tuple_mul ⟨_,ho,rfl⟩ F.entry_tuple_mul (F.args_tuple_mul_2 _ _) (mul_tuple_meets l its.toArray n dd sl k t ?_ ?_ ?_ ?_ ?_ ?_) ⟨ho,?_⟩⟩)
 ·simp only[Bool.or_eq_true,decide_eq_true_eq,not_or];omega
 ·rw[hemp,Bool.false_or,beq_iff_eq];omega
 ·rw[hemp,Bool.or_false,decide_eq_true_eq];omega
 ·rw[hsz];omega
 ·rw[hsz];show ¬decide (_>(sizeLine:Int))=true;rw[decide_eq_true_eq];omega
 ·rw[hfold,size_toArray,len_rep,<-hlen,Nat.mul_comm];exact hz
 ·rw[hfold];refine⟨.ref _,_,I.laid (t':=s.toks) (fun b o e=>Heap.get?_push_of_some _ e) (le_refl _) (show zS X.prog X.w _ _ _ (.tup (replicate k.toNat xs).flatten)from⟨by rw[len_rep,Nat.mul_comm];exact hz,_,r.rep k.toNat,⟨_,Heap.get?_push_size _ rfl,rfl,_,rfl⟩,tup_nodict⟩),rfl,q _ (I.hok.fresh (le_refl _))⟩
theorem pg_tupC{X:Cx}{scope:Scope}{N:List Str}{C:Addr}{s:Shared}{H:Hp}{ex:List Addr}{es:List Expr}{k:Nat}{t:TGs}{pos:Pos}(n:Nat)(hc:X.calm=true)(h:PGs (cxC X scope N C s H ex) es t)(hn:(assignEach es (cxC X scope N C s H ex).env).length=n)(hst:(assignEach es (cxC X scope N C s H ex).env).findIdx? (·.1)=none):PG (cxC X scope N C s H ex) (.Tuple es k pos) (gTup X.K n t):=pg_tup hc h hn hst
section
variable{κ:Type}[DecidableEq κ]
def valV(kvs:List (κ×V))(k:κ):Option V:=(kvs.find? fun kv=>decide (kv.1=k)).map (·.2)
def putK(kvs:List (κ×V))(k:κ)(v:V):List (κ×V) :=
 if(kvs.any fun kv=>decide (kv.1=k))=true then kvs.map (fun kv=>if kv.1=k then(kv.1,v)else kv)else kvs++[(k,v)]
theorem valV_pos{p:κ×V}{r:List (κ×V)}{k:κ}(e:p.1=k):valV (p::r) k=some p.2:=by simp[valV,List.find?_cons,e]
theorem valV_neg{p:κ×V}{r:List (κ×V)}{k:κ}(e:¬p.1=k):valV (p::r) k=valV r k:=by simp[valV,List.find?_cons,e]
theorem valV_any(k:κ):∀kvs:List (κ×V),(kvs.any fun kv=>decide (kv.1=k))=(valV kvs k).isSome
 | []=>rfl
 |p::r=>by
  rw[any_cons];by_cases e:p.1=k
  ·simp only[valV_pos e,decide_eq_true e,Bool.true_or,Option.isSome_some]
  ·rw[valV_neg e,decide_eq_false e,Bool.false_or];exact valV_any k r
theorem length_putK(kvs:List (κ×V))(k:κ)(v:V):(putK kvs k v).length<=kvs.length+1:=by
 unfold putK;split
 ·rw[length_map];omega
 ·rw[length_append,length_cons,List.length_nil];omega
theorem putK_new{kvs:List (κ×V)}{k:κ}(v:V)(h:valV kvs k=none):putK kvs k v=kvs++[(k,v)]:=by
 unfold putK;rw[valV_any,h];exact if_neg (by decide)
theorem RelO.isSome_eq{o:Option V}{u:Option Value}(r:RelO o u):o.isSome=u.isSome:=by
 cases o with
 |none=>cases u with
  |none=>rfl
  |some _=>exact(show False from r).elim
 |some _=>cases u with
  |none=>exact(show False from r).elim
  |some _=>rfl
theorem KV.any{kvs:List (κ×V)}{vs:List (κ×Value)}(r:KV kvs vs)(k:κ):(kvs.any fun kv=>decide (kv.1=k))=vs.any fun kv=>decide (kv.1=k):=by
 unfold KV at r
 induction r with
 |nil=>rfl
 |cons h t ih=>rw[any_cons,any_cons,ih,h.1]
theorem KV.repl{kvs:List (κ×V)}{vs:List (κ×Value)}(r:KV kvs vs)(k:κ){y:V}{u:Value}(ry:RelV y u) :
  KV (kvs.map fun kv=>if kv.1=k then(kv.1,y)else kv) (vs.map fun kv=>if kv.1=k then(kv.1,u)else kv):=by
 unfold KV at r ⊢
 induction r with
 |nil=>exact .nil
 | @cons p q ps qs h t ih =>
  rw[map_cons,map_cons];refine .cons ?_ ih;obtain⟨h1,h2⟩:=h;by_cases e:p.1=k
  ·rw[if_pos e,if_pos (h1.symm.trans e)];exact⟨h1,ry⟩
  ·rw[if_neg e,if_neg (fun z=>e (h1.trans z))];exact⟨h1,h2⟩
theorem KV.put{kvs:List (κ×V)}{vs:List (κ×Value)}(r:KV kvs vs)(k:κ){y:V}{u:Value}(ry:RelV y u):KV (putK kvs k y) (stored vs k u):=by
 unfold putK stored;rw[r.any k];by_cases e:(vs.any fun kv=>decide (kv.1=k))=true
 ·rw[if_pos e,if_pos e];exact r.repl k ry
 ·rw[if_neg e,if_neg e];exact Paired.snoc r ⟨rfl,ry⟩
theorem KV.length{kvs:List (κ×V)}{vs:List (κ×Value)}(r:KV kvs vs):kvs.length=vs.length:=Paired.length r
end
theorem kV_is{P:Program}{w:World}{k:Key}{u:Value}(r:RelV (kV k) u):(yA P w).is k u=true:=by
 cases k with
 |inl i=>obtain⟨t,e⟩:=(show ∃t,u=Value.int i t from r);subst e;exact mixKind_int P w i t
 |inr x=>obtain⟨t,e⟩:=(show ∃t,u=Value.str x t from r);subst e;exact mixKind_str P w x t
theorem items_are{P:Program}{w:World}:∀{ks:List Key}{us:List Value},Vals (ks.map kV) us->ItemsAre (yA P w) ks us
 | [],_,r=>by rw[List.map_nil]at r;cases r;exact .nil
 |k::ks,_,r=>by
  rw[map_cons]at r;cases r with
  |cons h t=>exact .cons (kV_is h) (items_are t)
abbrev KT(H:Hp):List (List Key×V)->List (List Key×Addr×Value)->Prop:=Paired fun p q=>p.1=q.1/\H q.2.1=some (.tup (p.1.map kV))/\RelV p.2 q.2.2
theorem KT.val{H:Hp}{kvs:List (List Key×V)}{xs:List (List Key×Addr×Value)}(r:KT H kvs xs)(k:List Key):RelO (valV kvs k) ((atKey xs k).map (·.2)):=by
 induction r with
 |nil=>exact True.intro
 | @cons p q ps qs h t ih =>
  obtain⟨h1,_,h2⟩:=h;by_cases e:p.1=k
  ·have e':q.1=k:=h1.symm.trans e;have b:atKey (q::qs) k=some q.2:=by simp[atKey,List.find?_cons,e']
   rw[valV_pos e,b];exact h2
  ·have e':¬q.1=k:=fun z=>e (h1.trans z);have b:atKey (q::qs) k=atKey qs k:=by simp[atKey,List.find?_cons,e']
   rw[valV_neg e,b];exact ih
theorem KT.repl{H:Hp}{kvs:List (List Key×V)}{xs:List (List Key×Addr×Value)}(r:KT H kvs xs)(k:List Key){y:V}{u:Value}(ry:RelV y u) :
  KT H (kvs.map fun kv=>if kv.1=k then(kv.1,y)else kv) (xs.map (putAt k u)):=by
 induction r with
 |nil=>exact .nil
 | @cons p q ps qs h t ih =>
  rw[map_cons,map_cons];refine .cons ?_ ih;obtain⟨h1,h2,h3⟩:=h;unfold putAt;by_cases e:p.1=k
  ·rw[if_pos e,if_pos (h1.symm.trans e)];exact⟨h1,h2,ry⟩
  ·rw[if_neg e,if_neg (fun z=>e (h1.trans z))];exact⟨h1,h2,h3⟩
theorem KT.put{H:Hp}{kvs:List (List Key×V)}{xs:List (List Key×Addr×Value)}(r:KT H kvs xs)(k:List Key){b:Addr}{y:V}{u:Value}(hb:H b=some (.tup (k.map kV)))(ry:RelV y u) :
  KT H (putK kvs k y) (storedH xs k b u):=by
 have e:(kvs.any fun kv=>decide (kv.1=k))=(atKey xs k).isSome:=by
  rw[valV_any,(r.val k).isSome_eq,Option.isSome_map]
 unfold putK storedH;rw[e];by_cases q:(atKey xs k).isSome=true
 ·rw[if_pos q,if_pos q];exact r.repl k ry
 ·rw[if_neg q,if_neg q];exact Paired.snoc r ⟨rfl,hb,ry⟩
theorem KT.keeps{H H':Hp}{kvs:List (List Key×V)}{xs:List (List Key×Addr×Value)}(r:KT H kvs xs)(ht:∀b ys,H b=some (.tup ys)->H' b=some (.tup ys)):KT H' kvs xs :=
 Paired.mapP r fun _ _ z=>⟨z.1,ht _ _ z.2.1,z.2.2⟩
section
variable{P:Program}{w:World}{H:Hp}{h:Heap}{a:Addr}
theorem rd_of{u:HO}(ok:HOk P w H h)(e:Rd H a u):zS P w H h a u:=e.ok ok
theorem dk_rd{kvs:List (Key×V)}(ok:HOk P w H h)(e:Rd H a (.dK kvs)):kvs.length<=sizeLine/\(a==sysModules)=false/\ ∃vs,KV kvs vs/\h.DictOf (yA P w) a vs :=
 show zS P w H h a (.dK kvs)from rd_of ok e
theorem dk_of{kvs:List (Key×V)}(ok:HOk P w H h)(e:H a=some (.dK kvs)):kvs.length<=sizeLine/\(a==sysModules)=false/\ ∃vs,KV kvs vs/\h.DictOf (yA P w) a vs:=dk_rd ok (.inl e)
theorem key_of{ks:List Key}(ok:HOk P w H h)(e:H a=some (.tup (ks.map kV))):(tupleKind (yA P w)).is h ks a:=by
 obtain⟨_,its,r,⟨o,h1,h2,n,h3⟩,_⟩:=(show zS P w H h a (.tup (ks.map kV))from ok a _ e);exact⟨o,its.toArray,n,h1,h2,h3,by simpa using items_are r⟩
theorem dt_rd{kvs:List (List Key×V)}(ok:HOk P w H h)(e:Rd H a (.dT kvs)):kvs.length<=sizeLine/\(a==sysModules)=false/\
  ∃xs,KT H kvs xs/\h.DictOfH (tupleKind (yA P w)) a xs:=by
 obtain⟨z,y,xs,r,o,es,ep,h1,h2,h3,h4,h5⟩:=(show zS P w H h a (.dT kvs)from rd_of ok e);refine⟨z,y,xs,r,o,es,ep,h1,h2,h3,h4,fun x hx=>?_,h5⟩;have all:∀{l:List (List Key×V)}{m:List (List Key×Addr×Value)},KT H l m-> ∀x∈m,(tupleKind (yA P w)).is h x.1 x.2.1:=by
  intro l m q
  induction q with
  |nil=>intro x hx;exact nomatch hx
  | @cons p q ps qs hq t ih =>
   intro x hx;rcases mem_cons.mp hx with e|hx
   ·subst e;exact key_of ok (by rw[<-hq.1];exact hq.2.1)
   ·exact ih x hx
 exact all r x hx
theorem dt_of{kvs:List (List Key×V)}(ok:HOk P w H h)(e:H a=some (.dT kvs)):kvs.length<=sizeLine/\(a==sysModules)=false/\
  ∃xs,KT H kvs xs/\h.DictOfH (tupleKind (yA P w)) a xs:=dt_rd ok (.inl e)
end
def DPut(H:Hp)(a:Addr)(y v:V)(H':Hp):Prop :=
 (∃kvs k,H a=some (.dK kvs)/\y=kV k/\kvs.length<sizeLine/\H'=upd H a (.dK (putK kvs k v)))\/
 ∃kvs k b,H a=some (.dT kvs)/\y= .ref b/\H b=some (.tup (k.map kV))/\kvs.length<sizeLine/\H'=upd H a (.dT (putK kvs k v))
theorem DPut.k{H:Hp}{a:Addr}{kvs:List (Key×V)}{k:Key}{v:V}(e:H a=some (.dK kvs))(hl:kvs.length<sizeLine):DPut H a (kV k) v (upd H a (.dK (putK kvs k v))):=.inl ⟨kvs,k,e,rfl,hl,rfl⟩
section
variable{X:Cx}{pins:List (Addr×Obj)}{σ:St}{H:Hp}{s:Shared}{a:Addr}{y v:V}{u r:Value}{o:Option V}{A:Around}{E:Value->Shared->Prop}
theorem Inv.big(I:Inv X pins σ H s):sysModules<s.heap.objs.size:=by
 have h:mainGlobals<s.heap.objs.size:=(I.mod.glob.keeps I.bk).lt;exact Nat.lt_trans (by decide) h
theorem d_write{h':Heap}{t':Nat}{ob:HO}(I:Inv X pins σ H s)(mu:Mut (H a))(hs:Heap.SameBut a s.heap h')(he:∃q,h'.get? a=some q)(new:zS X.prog X.w (upd H a ob) h' a ob) :
  Inv X pins σ (upd H a ob) {s with heap:=h',toks:=t'} :=
 I.write (x:=a) (e:=a) mu (.inl rfl) (fun b q hb z=>(hs.2 b hb).trans z) he new
theorem dk_new{P:Program}{w:World}{H':Hp}{h':Heap}{kvs:List (Key×V)}{vs:List (Key×Value)}(z:kvs.length<=sizeLine)(hd:(a==sysModules)=false)(rel:KV kvs vs)(dd:h'.DictOf (yA P w) a vs) :
  zS P w H' h' a (.dK kvs):=⟨z,hd,vs,rel,dd⟩
theorem d_setItem{H':Hp}{Q:Unit->Shared->Prop}(hu:A.units+1<cLine)(I:Inv X pins σ H s)(g:DPut H a y v H')(ry:RelV y u)(rv:RelV v r)(h:∀s',Inv X pins σ H' s'->Q () s') :
  wpAny (model X.prog X.w) A (setItem (.ref a) u r) Q E s:=by
 rcases g with⟨kvs,k,e,ey,l,eH⟩|⟨kvs,k,b,e,ey,eb,l,eH⟩
 ·subst ey eH;obtain⟨z,hd,vs,rel,dd⟩:=dk_of I.hok e;have hz:vs.length<=sizeLine:=by rw[<-rel.length];exact z
  have hl:(putK kvs k v).length<=sizeLine:=by have:=length_putK kvs k v;omega
  refine wpAny_setItem_pairs (hsz:=hz) (kV_is ry) dd fun h' dd' hs=>h _ ?_;have he:∃q,h'.get? a=some q:=let⟨q,_,_,hq,_⟩:=dd';⟨q,hq⟩
  exact d_write I (by rw[e];exact True.intro) hs he (dk_new hl hd (rel.put k rv) dd')
 ·subst ey eH;cases(show u=Value.ref b from ry);obtain⟨z,hd,xs,rel,dd⟩:=dt_of I.hok e;have hz:xs.length<=sizeLine:=by rw[<-Paired.length rel];exact z
  have hl:(putK kvs k v).length<=sizeLine:=by have:=length_putK kvs k v;omega
  refine wpAny_setItem_heap (hsz:=hz) (tupleKind_room_in1 hu) (key_of I.hok eb) dd fun h' dd' hs=>h _ ?_;obtain⟨q,es,ep,hq,h2,h3,h4,_,h5⟩:=dd';refine d_write I (by rw[e];exact True.intro) hs ⟨q,hq⟩ ⟨hl,hd,_,(rel.put k eb rv).keeps fun c ys ec=>?_,q,es,ep,hq,h2,h3,h4,h5⟩;rw[zh (ne_of ec e (fun z=>nomatch z))];exact ec
end
def sDPut(td ty tv:TE):TS:=fun D σ H=>tv σ H fun v H1=>td σ H1 fun x H2=>ty σ H2 fun y H3=>∃ a H4,x= .ref a/\DPut H3 a y v H4/\D.nx σ H4
section
variable{X:Cx}{o i e value:Expr}{pos pos' tpos:Pos}{td ty tv:TE}
theorem ps_dput(hu:X.A.units+1<cLine)(ho:PE X o td)(hi:PE X i ty)(hv:PE X value tv)(hs:swapsWith value (some (.Subscript o i pos')) pos.line X.env=pure false) :
  PS X (.Assign [.Subscript o i pos'] value pos) (sDPut td ty tv):=by
 intro pins s σ H D I h;refine wpAny_Assign_Subscript (thn (hv pins s σ H _ I h) fun r s1 ⟨v,H1,I1,rv,q1⟩=>thn (ho pins s1 σ H1 _ I1 q1) fun u s2 ⟨x,H2,I2,rx,q2⟩=>thn (hi pins s2 σ H2 _ I2 q2) fun iv s3 ⟨y,H3,I3,ry,a,H4,ex,g,q3⟩=>?_) hs;subst ex;obtain rfl:u=Value.ref a:=rx;exact d_setItem hu I3 g ry rv fun s4 I4=>⟨σ,H4,I4,q3⟩
end
theorem dk_empty{P:Program}{w:World}{H:Hp}(h:Heap)(hb:sysModules<h.objs.size):zS P w H (h.push {cls:=.type "dict",data:=.dict #[]}) h.objs.size (.dK []) :=
 ⟨zero_le _,beq_eq_false_iff_ne.mpr (Ne.symm (ne_of_lt hb)),[],.nil,Heap.DictOf.new h⟩
def tDNewK:TE:=fun _ H Q=>∀ p,H p=none->Q (.ref p) (upd H p (.dK []))
section
variable{X:Cx}{pos:Pos}
theorem pe_dnewK:PE X (.Dict [] [] pos) tDNewK:=fun pins s σ H Q I h =>
 wpAny_Dict_empty ⟨.ref s.heap.objs.size,_,I.laid (a:=s.heap.objs.size) (o:=.dK []) (t':=s.toks) (fun _ _ q=>Heap.get?_push_of_some _ q) (le_refl _) (dk_empty s.heap I.big),rfl,h _ (I.hok.fresh (le_refl _))⟩
end
structure M1(X:Cx)(o:Expr)(m:Str)(apos:Pos)(e:Expr)(cpos:Pos):Prop where
 base:attributeBase o m X.env (eval o X.env)=eval o X.env
 few:((backTo cpos (starEach [e] X.env)).all (fun x=>!x.1)&&(backToKw cpos (keywordEach [] X.env)).all (fun x=>x.1.isSome)
  &&decide (([e]:List Expr).length+([]:List Keyword).length+(if([]:List Keyword).isEmpty then 0 else 1)<30))=true
 line:(apos.endLine==cpos.line)=true
 trees:backTo cpos (starEach [e] X.env)=[(false,eval e X.env)]
structure M2(X:Cx)(o:Expr)(m:Str)(apos:Pos)(e f:Expr)(cpos:Pos):Prop where
 base:attributeBase o m X.env (eval o X.env)=eval o X.env
 few:((backTo cpos (starEach [e,f] X.env)).all (fun x=>!x.1)&&(backToKw cpos (keywordEach [] X.env)).all (fun x=>x.1.isSome)
  &&decide (([e,f]:List Expr).length+([]:List Keyword).length+(if([]:List Keyword).isEmpty then 0 else 1)<30))=true
 line:(apos.endLine==cpos.line)=true
 trees:backTo cpos (starEach [e,f] X.env)=[(false,eval e X.env),(false,eval f X.env)]
section
variable{κ:Type}[DecidableEq κ]
theorem valV_not{kvs:List (κ×V)}{k:κ}(h:valV kvs k=none):¬k∈kvs.map (·.1):=by
 intro m;obtain⟨p,hp,e⟩:=mem_map.mp m;have q:(kvs.any fun kv=>decide (kv.1=k))=true:=List.any_eq_true.mpr ⟨p,hp,decide_eq_true e⟩;rw[valV_any,h]at q;exact absurd q (by simp)
theorem valV_in{kvs:List (κ×V)}{k:κ}{v:V}(h:valV kvs k=some v):k∈kvs.map (·.1):=by
 have q:(kvs.any fun kv=>decide (kv.1=k))=true:=by
  rw[valV_any,h]
  all_goals rfl
 obtain⟨p,hp,e⟩:=List.any_eq_true.mp q;exact mem_map.mpr ⟨p,hp,of_decide_eq_true e⟩
end
theorem paired_of{α β:Type}{R:α-> β->Prop}:∀{xs:List α}{ys:List β},xs.length=ys.length->(∀(j:Nat) x y,xs[j]? =some x->ys[j]? =some y->R x y)->Paired R xs ys
 | [],[],_,_=>.nil
 |x::xs,y::ys,hl,h=>.cons (h 0 x y rfl rfl) (paired_of (by simpa using hl) fun j a b e1 e2=>h (j+1) a b (by simpa using e1) (by simpa using e2))
theorem kv_keys{kvs:List (Key×V)}{vs:List (Key×Value)}(r:KV kvs vs):vs.map (·.1)=kvs.map (·.1):=by
 unfold KV at r
 induction r with
 |nil=>rfl
 |cons h _ ih=>rw[map_cons,map_cons,ih,h.1]
section
variable{prog:Program}{w:World}{A:Around}{E:Value->Shared->Prop}{s:Shared}
theorem sorted_collected{x:Value}{ns:List Int}{b:Bool}{Q:Value->Shared->Prop}(h64:ns.length<64)(hc:∀(R:List Value->Shared->Prop),(∀h' tk (vs:List Value),(∀b o,s.heap.get? b=some o->h'.get? b=some o)->IntsAre vs ns->R vs {s with heap:=h',toks:=tk})->wpAny (model prog w) A.in1 (collect x) R E s)(h:∀(out:List Value) (n:Nat) (h1 h':Heap) (tk:Nat) (ns':List Int),(∀b o,s.heap.get? b=some o->h1.get? b=some o)->(∀b o,h1.get? b=some o->h'.get? b=some o)->h'.get? h1.objs.size=some (seqObj "list" out.toArray n)->IntsAre out ns'->ns'.Perm ns->Ordered b ns'->Q (.ref h1.objs.size) {s with heap:=h',toks:=tk}) :
  wpAny (model prog w) A (call (.builtin "sorted") [x] [(Str.ofString "reverse",.bool b)]) Q E s:=by
 refine call_function_entry_kw kind_sorted plain_sorted entry_sorted (args_sorted_rev _ _) ?_;unfold Builtin.«sorted»;refine wpAny_bind (m:=checkCount "sorted" 1 1 _) (wpAny_pure ?_);refine wpAny_bind (hc _ fun h1 tk vs hk1 hI=>?_);have hlv:vs.length<64:=by rw[<-hI.length]at h64;exact h64
 refine wpAny_bind (wpAny_newList ?_ (le_trans (Nat.le_of_lt hlv) (by decide)));have hoL:(h1.push (seqObj "list" vs.toArray 0)).get? h1.objs.size=some (seqObj "list" vs.toArray 0):=Heap.get?_push_size _ rfl;refine wpAny_bind (wpAny_holding (wpAny_call_entry_kw slot_list_sort ⟨_,hoL,rfl⟩ entry_list_sort (list_sort_tree_rev hoL hI hlv fun out ns' a1 a2 a3=>⟨_,rfl,?_⟩) (args_list_sort_rev _ _)));obtain⟨e,he⟩:=sortedHeap_at (vs:=vs) (out:=out) hoL;refine wpAny_pure ⟨_,rfl,h out.toList e h1 _ tk ns' hk1 (fun b o hb=>?_) he a1 a2 a3⟩;have hlt:=Heap.lt_size hb;rw[sortedHeap_old (ne_of_lt hlt) (by rw[Heap.size_push];exact lt_succ_of_lt hlt)];exact Heap.get?_push_of_some _ hb
end
section
variable{X:Cx}
def rSortD(b:Bool):V->Hp->VK->Prop:=fun x H Q=>∃ a kvs ns,x= .ref a/\H a=some (.dK kvs)/\kvs.map (·.1)=(ns:List Int).map Sum.inl/\ns.length<64/\ ∀ns' p,ns.Nodup->ns'.Perm ns->Ordered b ns'->H p=none->Q (.ref p) (upd H p (.lst (ns'.map V.int)))
def tSortD(b:Bool)(te:TE):TE:=fun σ H Q=>te σ H fun x H1=>rSortD b x H1 Q
theorem pe_sortD{e:Expr}{te:TE}{b:Bool}{p kp cp pos:Pos}{j:Nat}(hcm:X.calm=true)(hg:Gl X "sorted")(hm:X.mg "sorted"=none)(he:PE X e te)(hse:starEach [e] X.env=[(false,eval e X.env)]:=by rfl):PE X (.Call (.Name "sorted" p) [e] [⟨some "reverse",.Constant (.bool b) j cp,kp⟩] pos) (tSortD b te):=by
 intro pins s σ H Q I h;refine wpAny_Call_Name_kw (ld_blt I hg hm boot_sorted ?_ (by decide) (by decide));refine callWith_kw (thn (pa_cons he yt hse pos pins s σ H (fun vs H1=>match vs with| [x]=>rSortD b x H1 Q| _=>False) I h) fun us s1 ⟨vs,H1,I1,r1,q1⟩=>?_) (by rw[hse];rfl) (by rw[hse];rfl)
 match vs,r1,q1 with
 | [x],r1,q =>
  obtain⟨u,rfl,ru⟩:=vals1 r1;refine kws_cons (Constant_bool (kws_nil ?_));obtain⟨a,kvs,ns,rfl,hq,hks,hl,q⟩:=q;cases ru;show wpAny _ _ (call (.builtin "sorted") [.ref a] [(Str.ofString "reverse",.bool b)]) _ _ _;have hh:X.A.in1.handled=none:=I1.ok.hd hcm;obtain⟨hz,lo,ws,rel,o,es,ep,ho,hex,hd,hko,hpr,hnd⟩:=dk_of I1.hok hq;have hkeys:ws.map (·.1)=ns.map Sum.inl:=by rw[kv_keys rel,hks]
  have hlen:ws.length=ns.length:=by
   have:=congrArg length hkeys;simpa using this
  have hdup:ns.Nodup:=by
   rw[hkeys]at hnd;exact(List.Pairwise.of_map (S:=fun a b=>a≠b) Sum.inl (fun a b h z=>h (by rw[z])) hnd)
  refine sorted_collected hl (fun R hR=>W.kdu_collect (A:=X.A.in1) (W.kdl_dict (knd:=yA X.prog X.w) (kvs:=ws) (ep:=ep) lo) hh ⟨o,es,ho,hex,hd,hko,hpr,hnd⟩ (by rw[hlen];exact yj hl) fun h' tk acc hk hacc=>hR h' tk acc.toList hk ?_) fun out n h1 h' tk ns' k1 k2 e a1 a2 a3=>?_
  ·have hla:acc.toList.length=ns.length:=by rw[Array.length_toList,hacc.1,hlen]
   refine intsAre_of (paired_of (by rw[length_map,hla]) fun j x y e1 e2=>?_);obtain⟨z,hz,rfl⟩:=yI e1;obtain⟨kk,xx,hkk,his⟩:=hacc.2 j y (by rw[<-Array.getElem?_toList];exact e2);have e3:(ws.map (·.1))[j]? =some kk:=by rw[getElem?_map,hkk];rfl
   rw[hkeys,getElem?_map,hz]at e3;have e4:Sum.inl z=kk:=Option.some.inj e3;subst e4;rcases y8 (show keyIs (Sum.inl z) y=true from his)with⟨i,t,e5,e6⟩|⟨i,t,e5,e6⟩
   ·cases e5;exact⟨t,e6⟩
   ·cases e5
  ·have hz':(ns'.map V.int).length<=sizeLine:=by rw[length_map,a2.length_eq];exact yj hl
   have I2:Inv X pins σ H1 {s1 with heap:=h1}:=I1.kept (t':=s1.toks) k1;exact⟨.ref _,_,I2.laid (t':=tk) k2 (le_refl _) (show zS X.prog X.w _ _ _ (.lst (ns'.map V.int))from⟨hz',out,n,vals_ints a1,by simpa [seqObj]using e⟩),rfl,q ns' _ hdup a2 a3 (I2.hok.fresh (le_refl _))⟩
end
section
variable{X:Cx}
def rCatA(K:W.Frag):R2:=fun x y H Q=>∃ a b xs ys,x= .ref a/\y= .ref b/\SqT K H a xs/\SqT K H b ys/\xs.length+ys.length<=sizeLine/\
 (xs=[]->Q (.ref b) H)/\(xs≠[]->ys=[]->Q (.ref a) H)/\(xs≠[]->ys≠[]-> ∀p,H p=none->Q (.ref p) (upd H p (.tup (xs++ys))))
theorem op_catA:OpR X (binaryOp .Add) (rCatA X.K):=by
 intro pins s σ H x y v u Q I rx ry h;obtain⟨a,b,xs,ys,rfl,rfl,ha,hb,hz,q0,q1,q2⟩:=h;by_cases hx:xs=[]
 ·cases rx;cases ry;obtain⟨its,r1,p1,_⟩:=I.tuple ha;obtain⟨its2,r2,p2,_⟩:=I.tuple hb;obtain⟨⟨cls,dd,data,sl⟩,ho,hc,n,hd⟩:=id p1;obtain⟨⟨cls2,dd2,data2,sl2⟩,ho2,hc2,n2,hd2⟩:=id p2;simp only at hc hd hc2 hd2;subst hc hd hc2 hd2;have e0:its.toArray.isEmpty=true:=by
   have:=r1.nil_iff.mpr hx;simp[this]
  exact concat_meets ⟨_,ho,rfl⟩ ⟨_,ho2,rfl⟩ noFill_tuple_add seq_tuple_add PySem.F.slot_tuple_add PySem.F.entry_tuple_add (PySem.F.args_tuple_add_2 _ _)
   (tuple_addW0 a b its.toArray its2.toArray n n2 dd dd2 sl sl2 e0) ⟨ho,ho2,⟨.ref b,H,I,rfl,q0 hx⟩⟩
 ·exact op_catT pins s σ H (.ref a) (.ref b) v u Q I rx ry ⟨a,b,xs,ys,rfl,rfl,ha,hb,hx,hz,q1 hx,q2 hx⟩
def tRng1(ta:TA):TE:=fun σ H Q=>ta σ H fun vs H1=>∃ j:Int,vs=[.int j]/\ ∀p,H1 p=none->Q (.ref p) (upd H1 p (.rng 0 j))
theorem pe_rng1{a:Expr}{ta:TA}{p pos:Pos}(hg:Gl X "range")(hm:X.mg "range"=none)(ha:PA X [a] ta)(hs:starEach [a] X.env=[(false,eval a X.env)]:=by rfl):PE X (.Call (.Name "range" p) [a] [] pos) (tRng1 ta):=by
 intro pins s σ H Q I h;refine Call_ (ld_blt I hg hm boot_range (PyProof.Rows.callWith_type1 (thn (ha pos pins s σ H _ I h) fun us s1 ⟨vs,H1,I1,r1,q1⟩=>?_) hs rfl));obtain⟨j,e,q⟩:=q1;subst e;cases r1 with
 |cons r rr =>
  cases rr;obtain⟨t,rfl⟩:=r;refine call_range_1 ?_;exact⟨.ref _,_,I1.laid (o:=.rng 0 j) (fun b o e=>Heap.get?_push_of_some _ e) (le_refl _) ⟨_,_,_,Heap.get?_push_size _ rfl⟩,rfl,q _ (I1.hok.fresh (le_refl _))⟩
theorem call_list_rng(hc:X.calm=true):CallR X (.type "list") (fun xs H Q=>∃(p:Addr)(hi:Int),xs=[.ref p]/\H p=some (.rng 0 hi)/\0<=hi/\hi<=100000/\ ∀l,H l=none->Q (.ref l) (upd H l (.lst (((List.range hi.toNat).map fun(k:Nat)=>(k:Int)).map V.int)))):=by
 intro pins s σ H xs us Q I r h;obtain⟨p,hi,rfl,hq,h0,h1,q⟩:=h;obtain⟨u,rfl,ru⟩:=vals1 r;cases ru;obtain⟨t1,t2,t3,e⟩:=I.hok p _ hq;have hn:Builtin.Range.rangeSize 0 hi 1=((hi.toNat:Nat):Int):=by rw[rangeSize_one];split <;>omega
 refine call_list_range (I.ok.hd hc) e (small_one (by decide) (by decide) (by omega) (by omega)) hn (by omega) fun h' tk acc c kk hS hacc=>?_;refine⟨.ref _,_,I.laid (t':=tk) (o:=.lst (((List.range hi.toNat).map fun(k:Nat)=>(k:Int)).map V.int)) kk (le_refl _) ⟨?_,acc.toList,c,paired_of ?_ (fun j x y e1 e2=>?_),by simpa using hS⟩,rfl,q _ (I.hok.fresh (le_refl _))⟩
 ·rw[length_map,length_map,List.length_range];have:(100000:Nat)<=sizeLine:=by decide
  omega
 ·rw[length_map,length_map,List.length_range,Array.length_toList,hacc.1]
 ·obtain⟨z,hz,rfl⟩:=yI e1;obtain⟨tk,rfl⟩:=hacc.2 j y (by rw[<-Array.getElem?_toList];exact e2);rw[getElem?_map]at hz;cases hr:(List.range hi.toNat)[j]? with
  |none=>rw[hr]at hz;cases hz
  |some k =>
   rw[hr]at hz;have ek:j=k:=by
    obtain⟨h1,h2⟩:=List.getElem?_eq_some_iff.mp hr;rw[List.getElem_range]at h2;exact h2
   have:(k:Int)=z:=Option.some.inj hz;refine⟨tk,?_⟩;rw[<-this,<-ek];simp
end
end L2
namespace L2
def cntG(ns:List Int)(k:Int):Nat:=(ns.filter fun x=>decide (k<=x)).length
def turn(ns:List Int):List Int:=(List.range (ns.headD 0).toNat).map fun(k:Nat)=>((cntG ns ((k:Int)+1):Nat):Int)
end L2
namespace L2
open PySem PySem.Spec PyProof.Rows
def Tups(H H':Hp):Prop:=∀ b xs,H b=some (.tup xs)->H' b=some (.tup xs)
theorem Tups.trans{H H1 H2:Hp}(a:Tups H H1)(b:Tups H1 H2):Tups H H2:=fun c xs h=>b c xs (a c xs h)
theorem Same.tups{H H':Hp}(h:Same H H'):Tups H H':=fun b xs e=>h b _ e
theorem Keep.tups{H H':Hp}{st ga ca:Addr}{N:Nat}(K:Keep [st,ga] H H')(S:StAt H st ga ca N):Tups H H':=fun b xs e=>K b _ e (fun z=>by
 obtain⟨gs,cs,q,n,h1,h2,_⟩:=S.ex;simp only[mem_cons,not_mem_nil,or_false]at z;rcases z with rfl|rfl
 ·rw[h1]at e;cases e
 ·rw[h2]at e;cases e)
theorem Tups.set{H:Hp}{l:Addr}{xs:List V}{o:HO}(h:H l=some (.lst xs)):Tups H (upd H l o):=fun b ys e=>by
 rw[zh (ne_of e h (by intro z;cases z))];exact e
def Tup1(hs:List Int)(v:V)(H:Hp):Prop:=∃ q,v= .ref q/\H q=some (.tup (hs.map V.int))
theorem Tup1.mv{H H':Hp}{hs:List Int}{v:V}(t:Tups H H')(h:Tup1 hs v H):Tup1 hs v H':=let⟨q,e,h⟩:=h;⟨q,e,t _ _ h⟩
theorem All2.mv{H H':Hp}{ls:List (List Int)}{xs:List V}(t:Tups H H')(h:All2 Tup1 H ls xs):All2 Tup1 H' ls xs:=h.imp fun _ _ z=>z.mv t
theorem All2.at{α:Type}{R:α->V->Hp->Prop}{H:Hp}:∀{l:List α}{xs:List V}{i:Nat}{a:α},All2 R H l xs->l[i]? =some a-> ∃x,xs[i]? =some x/\R a x H
 | _,_,_,_,.nil,e=>by simp at e
 | _,_,0,_,.cons r _,e=>by simp at e;subst e;exact⟨_,rfl,r⟩
 | _,_,i+1,a,.cons _ t,e=>by
  obtain⟨u,h1,h2⟩:=All2.at (i:=i) (a:=a) t (by simpa using e);exact⟨u,by simpa using h1,h2⟩
theorem All2.snoc{α:Type}{R:α->V->Hp->Prop}{H:Hp}{l:List α}{xs:List V}{a:α}{x:V}(h:All2 R H l xs)(r:R a x H):All2 R H (l++[a]) (xs++[x]):=h.append (.cons r .nil)
theorem All2.take{α:Type}{R:α->V->Hp->Prop}{H:Hp}:∀{l:List α}{xs:List V}(n:Nat),All2 R H l xs->All2 R H (l.take n) (xs.take n)
 | _,_,0,_=>.nil
 | _,_,_+1,.nil=>.nil
 | _,_,n+1,.cons r t=>.cons r (t.take n)
def maxC:List (List Int)->Int->Nat
 | [],_=>0
 |h::r,x=>max (h.count x) (maxC r x)
def IsJoin(ls:List (List Int))(ms:List Int):Prop:=ms.Pairwise (· >= ·)/\ ∀x,ms.count x=maxC ls x
theorem IsJoin.uniq{ls:List (List Int)}{a b:List Int}(h1:IsJoin ls a)(h2:IsJoin ls b):a=b :=
 perm_ge_eq h1.1 h2.1 (List.perm_iff_count.mpr fun x=>by rw[h1.2,h2.2])
theorem maxC_append(a b:List (List Int))(x:Int):maxC (a++b) x=max (maxC a x) (maxC b x):=by
 induction a with
 |nil=>simp[maxC]
 |cons h r ih=>rw[List.cons_append,maxC,ih,maxC];exact(Nat.max_assoc ..).symm
theorem maxC_le{ls:List (List Int)}{x:Int}{B:Nat}(h:∀l∈ls,l.count x<=B):maxC ls x<=B:=by
 induction ls with
 |nil=>exact zero_le _
 |cons a r ih =>
  have h1:=h a (by simp);have h2:=ih fun l hl=>h l (by simp[hl]);rw[maxC];exact Nat.max_le.mpr ⟨h1,h2⟩
theorem le_maxC{ls:List (List Int)}{x:Int}{l:List Int}(h:l∈ls):l.count x<=maxC ls x:=by
 induction ls with
 |nil=>cases h
 |cons a r ih =>
  rw[maxC];rcases mem_cons.mp h with rfl|h
  ·exact Nat.le_max_left _ _
  ·exact le_trans (ih h) (Nat.le_max_right _ _)
theorem maxC_flat(ls:List (List Int))(x:Int):maxC ls x<=ls.flatten.count x:=by
 induction ls with
 |nil=>exact zero_le _
 |cons a r ih=>rw[maxC,flatten_cons,List.count_append];exact Nat.max_le.mpr ⟨Nat.le_add_right _ _,le_trans ih (Nat.le_add_left _ _)⟩
theorem maxC_zero{ls:List (List Int)}{x:Int}(h:x∉ls.flatten):maxC ls x=0:=by
 have:=maxC_flat ls x;rw[List.count_eq_zero_of_not_mem h]at this;omega
theorem max_of_counts{ls:List (List Int)}{x m:Int}(h:Ismax m (ls.map fun l=>((l.count x:Nat):Int))):m=((maxC ls x:Nat):Int):=by
 obtain⟨h1,h2⟩:=h;obtain⟨l,hl,rfl⟩:=mem_map.mp h1;have a:=le_maxC (x:=x) hl;have b:maxC ls x<=l.count x:=maxC_le fun k hk=>by
  have:=h2 _ (mem_map.mpr ⟨k,hk,rfl⟩);omega
 omega
def blow(f:Int->Nat):List Int->List Int
 | []=>[]
 |u::r=>replicate (f u) u++blow f r
theorem blow_append(f:Int->Nat)(a b:List Int):blow f (a++b)=blow f a++blow f b:=by
 induction a with
 |nil=>rfl
 |cons u r ih=>rw[List.cons_append,blow,ih,blow,append_assoc]
theorem blow_mem{f:Int->Nat}{us:List Int}{x:Int}(h:x∈blow f us):x∈us:=by
 induction us with
 |nil=>exact h
 |cons u r ih =>
  rcases mem_append.mp h with h|h
  ·rw[List.eq_of_mem_replicate h];simp
  ·simp[ih h]
theorem blow_count{f:Int->Nat}{us:List Int}(hn:us.Nodup)(x:Int):(blow f us).count x=if x∈us then f x else 0:=by
 induction us with
 |nil=>rfl
 |cons u r ih =>
  obtain⟨h1,h2⟩:=nodup_cons.mp hn;rw[blow,List.count_append,ih h2,List.count_replicate];by_cases e:u=x
  ·subst e;simp[h1]
  ·have e':¬x=u:=fun z=>e z.symm;simp[e,e',mem_cons]
theorem blow_pw{f:Int->Nat}{us:List Int}(h:us.Pairwise (· >= ·)):(blow f us).Pairwise (· >= ·):=by
 induction us with
 |nil=>exact .nil
 |cons u r ih =>
  obtain⟨h1,h2⟩:=pairwise_cons.mp h;refine List.pairwise_append.mpr ⟨?_,ih h2,fun a ha b hb=>?_⟩
  ·exact List.pairwise_replicate.mpr (Or.inr (Int.le_refl _))
  ·rw[List.eq_of_mem_replicate ha];exact h1 _ (blow_mem hb)
theorem blow_join{ls:List (List Int)}{us:List Int}(hn:us.Nodup)(hp:us.Pairwise (· >= ·))(hm:∀x,x∈us↔x∈ls.flatten):IsJoin ls (blow (maxC ls) us):=by
 refine⟨blow_pw hp,fun x=>?_⟩;rw[blow_count hn];by_cases h:x∈us
 ·rw[if_pos h]
 ·rw[if_neg h,maxC_zero fun z=>h ((hm x).mpr z)]
def chG(ns:List Int):List (List Int):=ns.foldl (fun cs n=>cs++cs.map (· ++[n])) [[]]
theorem chG_snoc(ns:List Int)(n:Int):chG (ns++[n])=chG ns++(chG ns).map (· ++[n]):=by
 unfold chG;rw[List.foldl_append];rfl
theorem chG_len:∀(k:Nat)(ns:List Int),ns.length=k->(chG ns).length=2^k
 | 0,ns,h=>by rw[List.length_eq_zero_iff.mp h];rfl
 |k+1,ns,h=>by
  have hne:ns≠[]:=fun z=>by rw[z]at h;cases h
  have e:=(List.dropLast_concat_getLast hne).symm;rw[e,chG_snoc,length_append,length_map,chG_len k ns.dropLast (by rw[List.length_dropLast];omega),Nat.pow_succ];omega
theorem chG_mem:∀(k:Nat)(ns:List Int),ns.length=k-> ∀c∈chG ns,c.length<=k/\ ∀x∈c,x∈ns
 | 0,ns,h,c,hc=>by
  rw[List.length_eq_zero_iff.mp h]at hc;have:c=[]:=by simpa [chG]using hc
  rw[this];exact⟨le_refl _,fun x hx=>nomatch hx⟩
 |k+1,ns,h,c,hc=>by
  have hne:ns≠[]:=fun z=>by rw[z]at h;cases h
  have e:=(List.dropLast_concat_getLast hne).symm;rw[e,chG_snoc]at hc;have ih:=chG_mem k ns.dropLast (by rw[List.length_dropLast];omega);rcases mem_append.mp hc with hc|hc
  ·obtain⟨a,b⟩:=ih c hc;exact⟨by omega,fun x hx=>(List.dropLast_sublist ns).subset (b x hx)⟩
  ·obtain⟨d,hd,rfl⟩:=mem_map.mp hc;obtain⟨a,b⟩:=ih d hd;refine⟨by simp;omega,fun x hx=>?_⟩;rcases mem_append.mp hx with hx|hx
   ·exact(List.dropLast_sublist ns).subset (b x hx)
   ·have:x=ns.getLast hne:=by simpa using hx
    rw[this];exact List.getLast_mem hne
theorem putK_keys{κ:Type}[DecidableEq κ]{kvs:List (κ×V)}{k:κ}{v w:V}(h:valV kvs k=some v):(putK kvs k w).map (·.1)=kvs.map (·.1):=by
 unfold putK;rw[if_pos (by rw[valV_any,h];rfl),List.map_map];refine List.map_congr_left fun x _=>?_;show(if x.1=k then(x.1,w)else x).1=x.1;split <;>rfl
section
variable{X:Cx}
theorem OpR.kk{f:Value->Value->Sem Value}(K0:W.Frag)(r:W.Frag->R2)(ho:OpR X f (r X.K))(h:X.K=K0):OpR X f (r K0):=by subst h;exact ho
theorem IxR.kk(K0:W.Frag)(r:W.Frag->R2)(ho:IxR X (r X.K))(h:X.K=K0):IxR X (r K0):=by subst h;exact ho
theorem CallR.kk{f:Value}(K0:W.Frag)(r:W.Frag->List V->Hp->VK->Prop)(ho:CallR X f (r X.K))(h:X.K=K0):CallR X f (r K0):=by subst h;exact ho
theorem MtR.kk{id:String}(K0:W.Frag)(r:W.Frag->V->List V->Hp->VK->Prop)(ho:MtR X id (r X.K))(h:X.K=K0):MtR X id (r K0):=by subst h;exact ho
theorem PE.kk{e:Expr}(K0:W.Frag)(t:W.Frag->TE)(ho:PE X e (t X.K))(h:X.K=K0):PE X e (t K0):=by subst h;exact ho
theorem op_catAK(K0:W.Frag)(h:X.K=K0):OpR X (binaryOp .Add) (rCatA K0):=OpR.kk K0 rCatA op_catA h
theorem ix_tupK(K0:W.Frag)(h:X.K=K0):IxR X (rIxT K0):=IxR.kk K0 rIxT zN h
theorem mt_countTK(K0:W.Frag)(h:X.K=K0):MtR X "tuple.count" (rCount K0 SqT):=MtR.kk K0 (fun K=>rCount K SqT) mt_countT h
variable{o e:Expr}{es:List Expr}{to:TE}{t:TA}{name:Str}{apos cpos:Pos}{T id:String}{r:V->List V->Hp->VK->Prop}
theorem pe_bmK(K0:W.Frag)(h:X.K=K0)(pa:PlainAttrs T)(slot:Slot T name id)(hty:typeOf (.builtin id)=pure (.type "method_descriptor"))(hm:MtR X id r)(ho:PE X o to)(ha:PA X (e::es) t)(hbase:attributeBase o name X.env (eval o X.env)=eval o X.env:=by rfl)(hfew:((backTo cpos (starEach (e::es) X.env)).all (fun x=>!x.1)&&(backToKw cpos (keywordEach [] X.env)).all (fun x=>x.1.isSome)&&decide ((e::es).length+([]:List Keyword).length+(if([]:List Keyword).isEmpty then 0 else 1)<30))=true:=by rfl)(hline:(apos.endLine==cpos.line)=true:=by rfl)(hs:starEach (e::es) X.env=(false,eval e X.env)::starEach es X.env:=by rfl)(hplain:(backTo cpos (starEach es X.env)).any (·.1)=false:=by rfl):PE X (.Call (.Attribute o name apos) (e::es) [] cpos) (tBM K0 T r to t):=by
 subst h;exact pe_bm pa slot hty hm ho ha hbase hfew hline hs hplain
theorem pt_truthK{a:Expr}{ta:TE}(K0:W.Frag)(h:X.K=K0)(ha:PE X a ta)(he:∀whole,isTrue a X.env whole=(do let v <-whole;standAt a.pos;holding [v] (truthy v))):PT X a (fun σ H Q=>ta σ H fun x H'=>∃ k,TruV K0 x H' k/\Q k H'):=by
 subst h;exact zR ha he
def rTupOf(K:W.Frag):List V->Hp->VK->Prop:=fun xs H Q=>∃ p ys,xs=[.ref p]/\((SqL K H p ys/\ ∀l,H l=none->Q (.ref l) (upd H l (.tup ys)))\/(SqT K H p ys/\Q (.ref p) H))
theorem call_tuple_ofK(K0:W.Frag)(h:X.K=K0):CallR X (.type "tuple") (rTupOf K0):=CallR.kk K0 rTupOf zA h
end
def upto(n:Nat):List Int:=(List.range n).map fun(k:Nat)=>(k:Int)
theorem upto_succ(n:Nat):upto (n+1)=upto n++[(n:Int)]:=by unfold upto;rw[List.range_succ,map_append];rfl
theorem upto_len(n:Nat):(upto n).length=n:=by unfold upto;simp
theorem upto_mem{n:Nat}{x:Int}(h:x∈upto n):0<=x/\x<n:=by
 unfold upto at h;obtain⟨k,hk,rfl⟩:=mem_map.mp h;rw[mem_range]at hk;omega
theorem cat_one{K:W.Frag}{H:Hp}{q:Addr}{hs:List Int}{z:Int}{t:Addr}{Q:V->Hp->Prop}(hq:H q=some (.tup (hs.map V.int)))(ht:H t=some (.tup [V.int z]))(hl:hs.length<=60)(k:∀(v:V) (H':Hp),Tup1 (hs++[z]) v H'->Same H H'->Q v H'):rCatA K (.ref q) (.ref t) H Q:=by
 refine⟨q,t,_,_,rfl,rfl,SqT.of hq,SqT.of ht,?_,fun e=>?_,fun _ e=>?_,fun _ _ p hp=>?_⟩
 ·rw[length_map];exact le_trans (m:=61) (by simp;omega) (by decide)
 ·have:hs=[]:=List.map_eq_nil_iff.mp e;subst this;exact k _ _ ⟨t,rfl,ht⟩ (fun _ _ h=>h)
 ·cases e
 ·exact k _ _ ⟨p,rfl,by rw[z0,map_append];rfl⟩ (Same.new hp)
structure GoodH(n:Nat)(h:List Int):Prop where
 ln:h.length<=n
 bd:∀x∈h,1<=x/\x<=10^60
 pw:h.Pairwise (· >= ·)
structure RB(H0 H:Hp)(st ga ca l:Addr)(N i:Nat)(rule:List (List Int))(xs:List V):Prop where
 li:H l=some (.lst xs)
 h2:All2 Tup1 H rule xs
 nw:H0 l=none
 ni:l∉[st,ga,ca]
 ln:rule.length=i
 gd:∀h∈rule,GoodH (4+i) h
 sa:StAt H st ga ca N
 kp:Keep [st,ga] H0 H
def zG(rule:List (List Int))(ch:List Int):List (List Int):=ch.map fun j=>rule.getD j.toNat []
theorem pick_at{H:Hp}{rule:List (List Int)}{rs:List V}(h2:All2 Tup1 H rule rs){j:Int}(h0:0<=j)(h1:j<rule.length):∃v,atI rs j=some v/\Tup1 (rule.getD j.toNat []) v H:=by
 obtain⟨n,rfl⟩:∃n:Nat,j=(n:Int):=⟨j.toNat,by omega⟩;have hn:n<rule.length:=by omega
 obtain⟨x,hx,r⟩:=h2.at (getElem?_eq_getElem hn);refine⟨x,zo hx,?_⟩;have:rule.getD (n:Int).toNat []=rule[n]:=by simp[hn]
 rw[this];exact r
theorem flat_le{B:Nat}:∀{ls:List (List Int)},(∀l∈ls,l.length<=B)->ls.flatten.length<=B*ls.length
 | [],_=>zero_le _
 |l::r,h=>by
  have h1:=h l (by simp);have h2:=flat_le (ls:=r) fun m hm=>h m (by simp[hm]);rw[flatten_cons,length_append,length_cons,Nat.mul_succ];omega
theorem cat_front{K:W.Frag}{H:Hp}{q:Addr}{hs:List Int}{z:Int}{t:Addr}{Q:V->Hp->Prop}(hq:H q=some (.tup (hs.map V.int)))(ht:H t=some (.tup [V.int z]))(hl:hs.length<=100)(k:∀(v:V) (H':Hp),Tup1 (z::hs) v H'->Same H H'->Q v H'):rCatA K (.ref t) (.ref q) H Q:=by
 refine⟨t,q,_,_,rfl,rfl,SqT.of ht,SqT.of hq,?_,(fun e=>by cases e),fun _ e=>?_,fun _ _ p hp=>?_⟩
 ·rw[length_map];exact le_trans (m:=101) (by simp;omega) (by decide)
 ·have:hs=[]:=List.map_eq_nil_iff.mp e;subst this;exact k _ _ ⟨t,rfl,ht⟩ (fun _ _ h=>h)
 ·exact k _ _ ⟨p,rfl,by rw[z0];rfl⟩ (Same.new hp)
theorem filter_take{α:Type}(p:α->Bool){l:List α}{i:Nat}{x:α}(h:l[i]? =some x):(l.take (i+1)).filter p=(l.take i).filter p++if p x=true then [x]else []:=by
 obtain⟨hi,e⟩:=List.getElem?_eq_some_iff.mp h;rw[take_succ_eq_append_getElem hi,List.filter_append,e];by_cases c:p x=true
 ·rw[filter_cons,if_pos c,if_pos c];rfl
 ·rw[filter_cons,if_neg c,if_neg c];rfl
theorem joinStep{M c t h:Nat}(hc:c=max M (min h (M+t)))(ht:t+1<=h)(hlt:c<h):c+1=max M (min h (M+(t+1))):=by
 rcases Nat.lt_or_ge (M+t) h with g|g
 ·rw[Nat.min_eq_right (a:=h) (b:=M+(t+1)) g,Nat.max_eq_right (Nat.le_add_right _ _),hc,Nat.min_eq_right (Nat.le_of_lt g),Nat.max_eq_right (Nat.le_add_right _ _)];rfl
 ·rw[hc,Nat.min_eq_left g]at hlt;exact absurd (Nat.le_max_right M h) (Nat.not_le_of_lt hlt)
theorem joinStay{M c t h:Nat}(hc:c=max M (min h (M+t)))(ht:t+1<=h)(hlt:¬c<h):c=max M (min h (M+(t+1))):=by
 rcases Nat.lt_or_ge (M+t) h with g|g
 ·rw[hc,Nat.min_eq_right (Nat.le_of_lt g),Nat.max_eq_right (Nat.le_add_right _ _)]at hlt;exact absurd g hlt
 ·rw[Nat.min_eq_left (a:=h) (b:=M+(t+1)) (Nat.le_succ_of_le g),hc,Nat.min_eq_left g]
open AutoSeq1 (wpAny_loadPart')
theorem drawsS{prog:Program}{w:World}{A:Around}(hh:A.handled=none)(k:Bool)(it l:Addr)(hne:l≠it)(items:Array Value) :
  Draws prog w A it [it,l] items.size (fun i v=>items[i]? =some v) (fun i h=>IterAt k h it l i/\SeqIs k h l items) where
 live:=fun _ _ st=>let⟨o,ho,_⟩:=st.1;⟨o,ho⟩
 frame:=fun _ _ _ st hk=>⟨st.1.kept fun o e=>hk it (by simp) o e,st.2.kept fun o e=>hk l (by simp) o e⟩
 item:=fun i s Q E hi st hQ=>nextS st.1 st.2 (x:=items[i]) (by simp[hi]) fun h' a b=>hQ _ h' s.toks (by simp[hi]) ⟨a,st.2.kept fun o e=>b.extBut _ _ hne e⟩ b
 done:=fun s Q E st hE=>endS hh st.1 st.2 (by simp) hE
def eH1(k:Bool)(h:Heap)(l:Addr):Heap:=h.push {cls:=.type (itName k),data:=.fields #[.ref l,.int 0 0]}
def eH2(k:Bool)(h:Heap)(l:Addr):Heap:=(eH1 k h l).push {cls:=.type "enumerate",data:=.fields #[.none,.bool false,.ref h.objs.size,rawInt 0,.none,.none]}
set_option maxHeartbeats 1000000 in
theorem enum_tup_meets(l:Addr)(items:Array Value)(n:Nat)(dct:Option Addr)(sl:Array (Option Value)) :
  Meets (Builtin.«enumerate.__new__» ⟨[.type "enumerate",.ref l],[]⟩) (fun _ R s=>s.heap.get? l=some {cls:=.type "tuple",dict:=dct,data:=.seq items n,slots:=sl}/\R (.ok (.ret (.ref (eH1 true s.heap l).objs.size))) {s with heap:=eH2 true s.heap l}) :=
 .of_wp fun prog w A R s h=>by
  obtain⟨hp,g,d,tk,os⟩:=s;obtain⟨hl,h⟩:=h;have hsub:=sub_enumerate;have hL:Heap.IsTuple (Shared.heap ⟨hp,g,d,tk,os⟩) l items:=⟨_,hl,rfl,n,rfl⟩
  wp_walk using wpAny_loadPart' hl
  refine wpAny_stack_any fun st=>wpAny_pure ?_;split
  ·rename_i c _ _ _ _ _;cases(c==Value.type "enumerate")
   all_goals (wp_walk using wpAny_loadPart' hl,wpAny_pyIter_tuple hL;exact⟨_,rfl,h⟩)
  ·wp_walk using wpAny_loadPart' hl,wpAny_pyIter_tuple hL
   exact⟨_,rfl,h⟩
section
variable{prog:Program}{w:World}{A:Around}{E:Value->Shared->Prop}{s:Shared}
theorem call_enumS{k:Bool}{l:Addr}{items:Array Value}{Q:Value->Shared->Prop}(hL:SeqIs k s.heap l items)(h:∀h',IsEnum h' (s.heap.objs.size+1) s.heap.objs.size 0 .none->IterAt k h' s.heap.objs.size l 0->(∀b o,s.heap.get? b=some o->h'.get? b=some o)->Q (.ref (s.heap.objs.size+1)) {s with heap:=h'}) :
  wpAny (model prog w) A (call (.type "enumerate") [.ref l]) Q E s:=by
 cases k
 ·exact call_enumerate_list hL fun h' a b _ c=>h h' a b c
 ·obtain⟨⟨c,dct,dt,sl⟩,hl,hc,n,hd⟩:=hL
  replace hc:c= .type "tuple" :=hc
  replace hd:dt= .seq items n:=hd
  subst hc hd;refine callType_new F.called_enumerate (by decide) (F.typeCall_enumerate_1 _) (F.newCall_enumerate_1 _) (fun obj=>F.args_object_init_2 obj _) F.entry_enumerate_new (enum_tup_meets l items n dct sl) ⟨hl,?_⟩;have n1:(eH1 true s.heap l).objs.size=s.heap.objs.size+1:=Heap.size_push ..;have f2:(eH2 true s.heap l).get? (eH1 true s.heap l).objs.size=some _:=Heap.get?_push_size _ rfl;have f1:(eH2 true s.heap l).get? s.heap.objs.size=some _:=Heap.get?_push_of_some _ (Heap.get?_push_size _ rfl);show _/\_;rw[n1]at f2 ⊢;exact⟨⟨_,f2,rfl⟩,h _ f2 ⟨_,f1,rfl,rfl⟩ fun b o e=>Heap.get?_push_of_some _ (Heap.get?_push_of_some _ e)⟩
end
def Ite(K:W.Frag)(k:Bool)(a:Addr):It :=
 ⟨fun i H=>∃ xs x,Sq k K H a xs/\xs[i]? =some x,
  fun i H v H'=>∃ T x,H T=none/\v= .ref T/\H'=upd H T (.tup [.int i,x])/\ ∀xs,Sq k K H a xs->xs[i]? =some x,
  fun i H=>∃ xs,Sq k K H a xs/\xs.length=i⟩
theorem turn_enum{P:Program}{w:World}{K:W.Frag}{elts:List Expr}{x1:Nat}{pos:Pos}(k:Bool)(a e it:Addr)(hei:e≠it)(hai:a≠it)(hae:a≠e) :
  Turn P w K (.Tuple elts x1 pos) (Ite K k a) [e,it] e (fun i h=>(∃old,IsEnum h e it i old)/\IterAt k h it a i) where
 mem:=by simp
 obj:=fun i h st c hc=>by
  obtain⟨⟨old,g0⟩,⟨o1,e1,_,d1⟩⟩:=st;simp only[mem_cons,not_mem_nil,or_false]at hc;rcases hc with rfl|rfl
  ·exact⟨_,g0,fun v q=>by cases q⟩
  ·exact⟨_,e1,fun v q=>by rw[d1]at q;cases q⟩
 keep:=fun i h h' st f=>by
  obtain⟨⟨old,g0⟩,g1⟩:=st;exact⟨⟨old,f e (by simp) _ g0⟩,g1.kept (f it (by simp))⟩
 item:=by
  intro X hP hw hK hc i pins s σ H E I hf st hg;subst hP hw hK;obtain⟨xs,x,hq,hx⟩:=hg;obtain⟨us,rv,p,_⟩:=I.sq hq;obtain⟨u,hu,ru⟩:=rv.get hx;obtain⟨⟨old,g0⟩,g1⟩:=st;have hlt:i<us.toArray.size:=by
   have:=(List.getElem?_eq_some_iff.mp hu).1;simpa using this
  have hh:X.A.in1.handled=none:=I.ok.hd hc;refine wpAny_pyNext_enum_itemD (drawsS hh k it a hai us.toArray) g0 ⟨g1,p⟩ hlt hei (by simp[hei,Ne.symm hae]) fun y h' tk hy ho hst hT _ kk=>⟨_,rfl,?_⟩;have ey:y=u:=by
   have:us.toArray[i]? =some u:=by simpa using hu
   rw[this]at hy;exact(Option.some.inj hy).symm
  subst ey;refine wpAny_letOwnedTupleGo_enum (s:={s with heap:=h',toks:=tk+1}) ho fun h2 he2 sb=>?_;have up:∀c o,c≠e->h'.get? c=some o->h2.get? c=some o:=fun c o n q=>(sb.2 c n).trans q;have lt:e<s.heap.objs.size:=Heap.lt_size g0;have tp:IsPair h2 s.heap.objs.size (.int i tk) y:=up _ _ (Nat.ne_of_gt lt) hT;have I1:Inv X pins σ (upd H s.heap.objs.size (.tup [.int i,x])) {s with heap:=h2,toks:=tk+1}:=I.turnedN (t':=tk+1) (ch:=[e,it]) hf (fun c o n q=>up c o (fun z=>n (by simp[z])) (kk c o (fun z=>n (by simp[z])) (fun z=>n (by simp[z])) q)) (le_refl _) (pair_ok ⟨tk,rfl⟩ ru tp);refine⟨.ref s.heap.objs.size,_,I1,rfl,⟨_,x,I.hok.fresh (le_refl _),rfl,rfl,fun xs' h=>by rw[I.sq_inj h hq];exact hx⟩,⟨⟨y,by simpa using he2⟩,hst.1.kept fun o q=>up _ _ (Ne.symm hei) q⟩,fun c hc=>?_⟩;have hlt2:c<s.heap.objs.size:=by
   simp only[mem_cons,not_mem_nil,or_false]at hc;rcases hc with rfl|rfl
   ·exact lt
   ·exact g1.lt
  rw[zh (ne_of_lt hlt2)];exact(hf c hc).1
 done:=by
  intro X hP hw hK hc i pins s σ H E I hf st hg;subst hP hw hK;obtain⟨xs,hq,hl⟩:=hg;obtain⟨us,rv,p,_⟩:=I.sq hq;obtain⟨⟨old,g0⟩,g1⟩:=st;have hh:X.A.in1.handled=none:=I.ok.hd hc;have e1:i=us.toArray.size:=by
   have:=rv.length;rw[<-hl,this];simp
  rw[e1]at g1;exact wpAny_pyNext_enum_endD (drawsS hh k it a hai us.toArray) g0 ⟨g1,p⟩ fun h' kk=>⟨rfl,I.turnedL (t':=s.toks) (ch:=[e,it]) hf fun c o n q=>kk c o (fun z=>n (by simp[z])) q⟩
 self:=fun _ _ _ _ _ st h=>by
  obtain⟨⟨old,g0⟩,_⟩:=st;exact wpAny_pyIter_enum g0 h
section
variable{X:Cx}{elts:List Expr}{x1:Nat}{tpos:Pos}
def iEnum(K:W.Frag)(k:Bool)(ta:TA):TI:=fun σ H R=>ta σ H fun vs H1=>∃ a,vs=[.ref a]/\(∃xs,Sq k K H1 a xs)/\R (Ite K k a) H1
theorem pi_enum(k:Bool){a:Expr}{ta:TA}{p pos:Pos}(hg:Gl X "enumerate")(hm:X.mg "enumerate"=none)(ha:PA X [a] ta)(hs:starEach [a] X.env=[(false,eval a X.env)]:=by rfl):PI X (.Tuple elts x1 tpos) (.Call (.Name "enumerate" p) [a] [] pos) (iEnum X.K k ta):=by
 intro pins s σ H R I h;refine Call_ (ld_blt I hg hm boot_enumerate (PyProof.Rows.callWith_type1 (thn (ha pos pins s σ H _ I h) fun us s1 ⟨vs,H1,I1,r1,q1⟩=>?_) hs rfl));obtain⟨a,e,⟨xs,hq⟩,q⟩:=q1;subst e;cases r1 with
 |cons r rr =>
  cases rr;cases r;obtain⟨us,rv,p,_⟩:=I1.sq hq;have hlt:=p.lt;refine call_enumS p fun h' g0 g1 kk=>?_;have I2:Inv X pins σ H1 {s1 with heap:=h'}:=I1.kept (t':=s1.toks) kk;refine wpAny_pyIter_enum (s:={s1 with heap:=h'}) g0 ⟨_,[s1.heap.objs.size+1,s1.heap.objs.size],_,_,H1,rfl,I2,turn_enum k a _ _ (Nat.succ_ne_self _) (ne_of_lt hlt) (ne_of_lt (lt_succ_of_lt hlt)),⟨⟨_,g0⟩,g1⟩,fun c hc=>?_,q⟩;have hle:s1.heap.objs.size<=c:=by
   have hc':c=s1.heap.objs.size+1\/c=s1.heap.objs.size:=by simpa using hc
   rcases hc' with e|e <;>rw[e] <;>first|exact le_refl _|exact Nat.le_add_right _ _
  exact I1.fpOk hle (I1.hok.fresh hle)
end
theorem comp_enum{K:W.Frag}{k:Bool}{a:Addr}{xs:List V}{g:TG}{tf:TT}{te:TE}{σ:St}{H:Hp}{Q:VK}(Pv:Nat->List V->St->Hp->Prop)(h0:Pv 0 [] σ H)(hl:∀i zs σ H,i<=xs.length->Pv i zs σ H->Sq k K H a xs/\zs.length<=sizeLine)(hs:∀i x zs σ H T,xs[i]? =some x->Pv i zs σ H->H T=none->g (.ref T) σ (upd H T (.tup [.int i,x])) fun σ2 H2=>tf σ2 H2 fun b H3=>if b=true then te σ2 H3 fun v H4=>Pv (i+1) (zs++[v]) σ2 H4 else Pv (i+1) zs σ2 H3)(hd:∀zs σ H,Pv xs.length zs σ H-> ∀p,H p=none->Q (.ref p) (upd H p (.lst zs))):tCompK g tf te σ (Ite K k a) H Q:=by
 refine⟨fun i m zs σ H=>m=xs.length-i/\i<=xs.length/\Pv i zs σ H,⟨_,(Nat.sub_zero _).symm,zero_le _,h0⟩,?_⟩;rintro i m zs σ H ⟨rfl,hi,p⟩;obtain⟨q1,hz⟩:=hl i zs σ H hi p;by_cases hlt:i<xs.length
 ·refine .inr ⟨⟨xs,xs[i],q1,by simp[hlt]⟩,hz,Pv (i+1),fun ys' σ' H' p'=>⟨xs.length-(i+1),by omega,rfl,hlt,p'⟩,fun x H' y=>?_⟩;obtain⟨T,u,hT,rfl,rfl,e1⟩:=y;exact hs i u zs σ H T (e1 xs q1) p hT
 ·have e:i=xs.length:=by omega
  rw[e]at p;exact .inl ⟨⟨xs,q1,e.symm⟩,hz,hd zs σ H p⟩
end L2
namespace L2
open PySem PySem.Spec PyProof.Rows
def Itd(n:Nat):It:=⟨fun i _=>i<n,fun i H x H'=>H'=H/\x= .int ((n:Int)-i),fun i _=>n<=i⟩
theorem turn_down{P:Program}{w:World}{K:W.Frag}{tg:Expr}(it:Addr)(n:Nat):Turn P w K tg (Itd n) [it] it (fun i h=>IsRangeIter h it ((n:Int)+(i:Nat)*(-1)) ((n:Int)-(i:Nat)) (-1)) where
 mem:=by simp
 obj:=fun i h st b hb=>by
  have e:b=it:=by simpa using hb
  subst e;exact⟨_,st,fun v z=>by
   have z':Data.fields _=Data.cell v:=z;cases z'⟩
 keep:=fun i h h' st k=>k it (by simp) _ st
 item:=by
  intro X hP hw hK hc i pins s σ H E I hf st hg;subst hP hw hK;obtain⟨f0,f1,f2,f3,f4,f5⟩:=hf it (by simp);have W0:=Walks.range (prog:=X.prog) (w:=X.w) (I.ok.hd hc) it (n:Int) (-1) n;refine W0.item i s _ _ hg st fun v h' tk hv st' kk=>?_;obtain⟨t,rfl⟩:=hv;have I1:Inv X pins σ H {s with heap:=h',toks:=tk}:=I.turned (fun b o hb e=>kk b o (by simpa using hb) e) f0 f1 f3 f4 f5;refine⟨_,rfl,go_of (s:={s with heap:=h',toks:=tk}) (n :="range_iterator") st' rfl rfl (by decide) ⟨.int ((n:Int)-i),H,I1,⟨t,?_⟩,⟨rfl,rfl⟩,st',fun b hb=>(hf b hb).1⟩⟩;have:(n:Int)+(i:Int)*(-1)=(n:Int)-i:=by omega
  rw[this]
 done:=by
  intro X hP hw hK hc i pins s σ H E I hf st hg;subst hP hw hK;obtain⟨f0,f1,f2,f3,f4,f5⟩:=hf it (by simp);exact wpAny_pyNext_range_end (I.ok.hd hc) st (by have:n<=i:=hg;omega) fun h' eb=>⟨rfl,I.turned (t':=s.toks) (fun b o hb e=>eb b o hb e) f0 f1 f3 f4 f5⟩
 self:=fun _ _ _ _ _ st h=>wpAny_pyIter_rangeiter st h
section
variable{X:Cx}{tg:Expr}
theorem size_down(n:Nat):Builtin.Range.rangeSize (n:Int) 0 (-1)=(n:Int):=by
 unfold Builtin.Range.rangeSize;rw[if_neg (by decide)];have e:((-(-1:Int)))=1:=by decide
 split
 ·rw[e,Int.ediv_one];omega
 ·omega
theorem small_down{n:Nat}(h:n<=100000):Builtin.Range.small (n:Int) 0 (-1)=true:=by
 unfold Builtin.Range.small;rw[size_down];simp only[Builtin.Range.rangeFitsLong,and_eq_true,Bool.or_eq_true,decide_eq_true_eq,beq_iff_eq,show ¬((-1:Int)>0)by decide,if_false];omega
def iDown(ta:TA):TI:=fun σ H R=>ta σ H fun vs H1=>∃ n:Nat,vs=[.int n,.int 0,.int (-1)]/\n<=100000/\R (Itd n) H1
theorem pi_down{a b c:Expr}{ta:TA}{p pos:Pos}(hg:Gl X "range")(hm:X.mg "range"=none)(ha:PA X [a,b,c] ta)(hs:starEach [a,b,c] X.env=(false,eval a X.env)::starEach [b,c] X.env:=by rfl)(hs2:(backTo pos (starEach [b,c] X.env)).any (·.1)=false:=by rfl) :
  PI X tg (.Call (.Name "range" p) [a,b,c] [] pos) (iDown ta):=by
 intro pins s σ H R I h;refine Call_ (ld_blt I hg hm boot_range (PyProof.Rows.callWith_type1 (thn (ha pos pins s σ H _ I h) fun us s1 ⟨vs,H1,I1,r1,q1⟩=>?_) hs hs2));obtain⟨n,e,hn,q⟩:=q1;subst e;cases r1 with
 |cons r rr =>
  cases rr with
  |cons r' rr =>
   cases rr with
   |cons r'' rr =>
    cases rr;obtain⟨t,rfl⟩:=r;obtain⟨t',rfl⟩:=r';obtain⟨t'',rfl⟩:=r'';refine call_range_3 (by decide) ?_ (.inl (PyProof.noPylong_small (by decide)));refine wpAny_pyIter_range (s:={s1 with heap:=s1.heap.push {cls:=.type "range",data:=.fields #[.int n t,.int 0 t',.int (-1) t'']}}) (Heap.get?_push_size _ rfl) (small_down hn) ?_;have I2:Inv X pins σ H1 {s1 with heap:=s1.heap.push {cls:=.type "range",data:=.fields #[.int n t,.int 0 t',.int (-1) t'']}}:=I1.kept (t':=s1.toks) fun b o e=>Heap.get?_push_of_some _ e;refine⟨_,[(s1.heap.push {cls:=.type "range",data:=.fields #[.int n t,.int 0 t',.int (-1) t'']}).objs.size],_,_,H1,rfl,I2.kept (t':=s1.toks) fun b o e=>Heap.get?_push_of_some _ e,turn_down _ n,?_,fun b hb=>?_,q⟩
    ·show IsRangeIter _ _ ((n:Int)+((0:Nat):Int)*(-1)) ((n:Int)-((0:Nat):Int)) (-1);have e1:(n:Int)+((0:Nat):Int)*(-1)=n:=by simp
     have e2:(n:Int)-((0:Nat):Int)=Builtin.Range.rangeSize (n:Int) 0 (-1):=by rw[size_down];simp
     rw[e1,e2];exact Heap.get?_push_size _ rfl
    ·have e:b=(s1.heap.push {cls:=.type "range",data:=.fields #[.int n t,.int 0 t',.int (-1) t'']}).objs.size:=by simpa using hb
     subst e;exact I2.fpOk (le_refl _) (I2.hok.fresh (le_refl _))
end
theorem for_down{n:Nat}{g:TG}{tb:TS}{D:Ends}{σ:St}{H:Hp}(Pv:Nat->St->Hp->Prop)(h0:Pv 0 σ H)(hs:∀i σ H,i<n->Pv i σ H->g (.int ((n:Int)-i)) σ H fun σ2 H2=>tb {D with nx:=Pv (i+1),ct:=Pv (i+1),bk:=D.nx} σ2 H2)(hd:∀ σ H,Pv n σ H->D.nx σ H) :
  ∃W0:Nat->Nat->St->Hp->Prop,(∃m,W0 0 m σ H)/\ ∀i m σ H,W0 i m σ H->
   ((Itd n).stop i H/\D.nx σ H)\/((Itd n).go i H/\ ∃N:St->Hp->Prop,(∀ σ' H',N σ' H'-> ∃m',m'<m/\W0 (i+1) m' σ' H')/\ ∀x H',(Itd n).yld i H x H'->g x σ H' fun σ2 H2=>tb {D with nx:=N,ct:=N,bk:=D.nx} σ2 H2):=by
 refine⟨fun i m σ H=>m=n-i/\i<=n/\Pv i σ H,⟨n,by simp,zero_le _,h0⟩,?_⟩;rintro i m σ H ⟨rfl,hi,p⟩;by_cases hlt:i<n
 ·refine .inr ⟨hlt,Pv (i+1),fun σ' H' p'=>⟨n-(i+1),by omega,rfl,hlt,p'⟩,fun x H' y=>?_⟩;obtain⟨e,y⟩:=y;subst e y;exact hs i σ _ hlt p
 ·have e:i=n:=by omega
  subst e;exact .inl ⟨le_refl _,hd σ H p⟩
theorem FnOk.none{P:Program}{w:World}{K:W.Frag}{mg:Str->Option Value}{base:Heap}{CX:CXT}{k:Nat}{f:Addr}{fd:FuncData}{ps:List Str}{sp:Sp}{cm:Bool}(h:∀vs H Q E,¬sp vs H Q E):FnOk P w K mg base CX k f fd ps sp cm :=
 ⟨fun vs H Q E z=>absurd z (h vs H Q E),fun A outer s H args us vs Q E hr he hb hv hs=>absurd hs (h _ _ _ _)⟩
def partF:Nat->Nat->Nat->List (List Int)
 | 0,_,_=>[]
 |f+1,n,g=>if n=0 then [[]]else(List.range (min n g)).flatMap fun i=>(partF f (n-(min n g-i)) (min n g-i)).map (((min n g-i:Nat):Int):: ·)
def partP(f n k i:Nat):List (List Int):=(List.range i).flatMap fun i=>(partF f (n-(k-i)) (k-i)).map (((k-i:Nat):Int):: ·)
theorem yF(f n g:Nat):partF (f+1) n g=if n=0 then [[]]else partP f n (min n g) (min n g):=rfl
theorem partP_succ(f n k i:Nat):partP f n k (i+1)=partP f n k i++(partF f (n-(k-i)) (k-i)).map (((k-i:Nat):Int):: ·):=by
 unfold partP;rw[List.range_succ,List.flatMap_append];simp
theorem partP_len{f:Nat}(ih:∀n g,(partF f n g).length<=2^n){n k:Nat}(hk:k<=n):∀i,i<=k->(partP f n k i).length<=2^(n-k+i)
 | 0,_=>by simp[partP]
 |i+1,hi=>by
  have h1:=partP_len ih hk i (by omega);rw[partP_succ,length_append,length_map];have h2:=ih (n-(k-i)) (k-i);have e:n-(k-i)=n-k+i:=by omega
  rw[e]at h2;have e2:n-k+(i+1)=(n-k+i)+1:=by omega
  rw[e2,Nat.pow_succ];rw[e];omega
theorem partF_len:∀f n g,(partF f n g).length<=2^n
 | 0,n,g=>zero_le _
 |f+1,n,g=>by
  rw[yF];split
  ·rename_i h;rw[h];exact le_refl _
  ·have:=partP_len (partF_len f) (n:=n) (k:=min n g) (Nat.min_le_left _ _) (min n g) (le_refl _);have e:n-min n g+min n g=n:=by omega
   rw[e]at this;exact this
theorem partF_mem:∀f n g,∀h∈partF f n g,h.length<=n
 | 0,n,g,h,hh=>nomatch hh
 |f+1,n,g,h,hh=>by
  rw[yF]at hh;split at hh
  ·have:h=[]:=by simpa using hh
   rw[this];exact zero_le _
  ·unfold partP at hh;obtain⟨i,hi,hh⟩:=List.mem_flatMap.mp hh;rw[mem_range]at hi;obtain⟨r,hr,rfl⟩:=mem_map.mp hh;have:=partF_mem f _ _ r hr;rw[length_cons];omega
def idxP(rule:List (List Int))(hs:List Int)(i:Nat):List Int:=((List.range i).filter fun i=>lies (rule.getD i []) hs).map fun(k:Nat)=>(k:Int)
def idxG(rule:List (List Int))(hs:List Int):List Int:=idxP rule hs rule.length
theorem idxP_succ(rule:List (List Int))(hs:List Int)(i:Nat):idxP rule hs (i+1)=idxP rule hs i++if lies (rule.getD i []) hs=true then [(i:Int)]else []:=by
 unfold idxP;rw[List.range_succ,List.filter_append,map_append];by_cases h:lies (rule.getD i []) hs=true
 ·rw[filter_cons,if_pos h,if_pos h];rfl
 ·rw[filter_cons,if_neg h,if_neg h];rfl
theorem idxP_len(rule:List (List Int))(hs:List Int)(i:Nat):(idxP rule hs i).length<=i:=by
 unfold idxP;rw[length_map];exact le_trans (List.length_filter_le _ _) (by simp)
theorem idxP_lt{rule:List (List Int)}{hs:List Int}{i:Nat}{x:Int}(h:x∈idxP rule hs i):0<=x/\x<i/\lies (rule.getD x.toNat []) hs=true:=by
 unfold idxP at h;obtain⟨k,hk,rfl⟩:=mem_map.mp h;obtain⟨h1,h2⟩:=mem_filter.mp hk;rw[mem_range]at h1;refine⟨by omega,by omega,?_⟩;simpa using h2
def zD(rule:List (List Int))(hs:List Int):Option Int:=(idxG rule hs).head?
def optV:Option Int->V
 |none=>.non
 |some i=>.int i
theorem idxP_head(rule:List (List Int))(hs:List Int):∀i m,Ismin m (idxP rule hs i)->(idxP rule hs i).head? =some m
 | 0,m,h=>nomatch h.1
 |i+1,m,h=>by
  rw[idxP_succ]at h ⊢;cases e:idxP rule hs i with
  |nil =>
   rw[e]at h;by_cases c:lies (rule.getD i []) hs=true
   ·rw[if_pos c]at h ⊢;have:m=(i:Int):=by simpa using h.1
    rw[this];rfl
   ·rw[if_neg c]at h;exact nomatch h.1
  |cons y ys =>
   have ih:=idxP_head rule hs i;rw[e]at ih h;show some y=some m;have hy:y∈idxP rule hs i:=by rw[e];simp
   have hmem:m∈y::ys:=by
    rcases mem_append.mp h.1 with z|z
    ·exact z
    ·by_cases c:lies (rule.getD i []) hs=true
     ·rw[if_pos c]at z;have e1:m=(i:Int):=by simpa using z
      have:=h.2 y (by simp);have:=(idxP_lt hy).2.1;omega
     ·rw[if_neg c]at z;exact nomatch z
   exact ih m ⟨hmem,fun x hx=>h.2 x (by rcases mem_cons.mp hx with z|z <;>simp[z])⟩
theorem first_none{rule:List (List Int)}{hs:List Int}(h:idxP rule hs rule.length=[]):zD rule hs=none:=by unfold zD idxG;rw[h];rfl
theorem first_some{rule:List (List Int)}{hs:List Int}{i:Nat}(h:idxP rule hs i=[])(hi:i<rule.length)(c:lies (rule.getD i []) hs=true):zD rule hs=some (i:Int):=by
 have step:∀d,(idxP rule hs (i+1+d)).head? =some (i:Int):=by
  intro d
  induction d with
  |zero=>rw[Nat.add_zero,idxP_succ,h,if_pos c];rfl
  |succ d ih =>
   rw[<-Nat.add_assoc,idxP_succ];cases e:idxP rule hs (i+1+d)with
   |nil=>rw[e]at ih;cases ih
   |cons y ys=>rw[e]at ih;exact ih
 have:=step (rule.length-(i+1));rw[show i+1+(rule.length-(i+1))=rule.length by omega]at this;exact this
def keptG(rule:List (List Int))(n:Nat):List (List Int):=(partF 26 n n).filter fun h=>(zD rule h).isNone
theorem pow24{n:Nat}(h:n<=24):2^n<=sizeLine:=le_trans (Nat.pow_le_pow_right (by decide) h) (by decide)
theorem optV_none(o:Option Int):decide (optV o=V.non)=o.isNone:=by
 cases o with
 |none=>rfl
 |some i=>exact decide_eq_false (by intro z;cases z)
def Pair1(pc:List Int×List Int)(v:V)(H:Hp):Prop:=∃ q a b,v= .ref q/\H q=some (.tup [.ref a,.ref b])/\H a=some (.tup (pc.1.map V.int))/\H b=some (.tup (pc.2.map V.int))
theorem slice_tail{K:W.Frag}{H:Hp}{p:Addr}{hs:List Int}{Q:VK}(hp:H p=some (.tup (hs.map V.int)))(k:∀q H',H' q=some (.tup (hs.tail.map V.int))->Same H H'->Q (.ref q) H'):rSlTA K (.ref p) (some 1) none H Q:=by
 have e1:∀n d:Nat,HT.sIx n d (some 1)=min 1 n:=fun n d=>HT.sIx_nat n d 1;cases hs with
 |nil=>exact .inl ⟨p,[],rfl,SqT.of hp,⟨rfl,rfl⟩,k p H hp fun _ _ z=>z⟩
 |cons x r =>
  refine .inr ⟨p,_,rfl,SqT.of hp,?_,fun q hq=>k q _ ?_ (Same.new hq)⟩
  ·rintro⟨z,_⟩;rw[e1]at z;simp at z
  ·rw[z0];unfold cutV;rw[e1,HT.sIx_none];simp[take_of_length_le]
theorem partF_ne:∀(f n g:Nat),n<f->(n=0\/1<=g)-> ∃h,h∈partF f n g
 | 0,n,g,h,_=>absurd h (Nat.not_lt_zero _)
 |f+1,n,g,h,hg=>by
  rw[yF];by_cases h0:n=0
  ·rw[if_pos h0];exact⟨[],by simp⟩
  ·rw[if_neg h0];have hk:1<=min n g:=by omega
   obtain⟨r,hr⟩:=partF_ne f (n-1) 1 (by omega) (.inr (le_refl _));refine⟨((1:Nat):Int)::r,?_⟩;unfold partP;refine List.mem_flatMap.mpr ⟨min n g-1,mem_range.mpr (by omega),?_⟩;rw[show min n g-(min n g-1)=1 by omega];exact mem_map.mpr ⟨r,hr,rfl⟩
def sgnG(c:List Int):Int:=if c.length%2=0 then 1 else -1
def isCh(n:Nat):Int->List Int->Bool
 | _,[]=>true
 |l,x::r=>if x<l\/(n:Int)<=x then false else isCh n (x+1) r
def yd(rule:List (List Int))(pc:List Int×List Int):Bool:=isCh rule.length 0 pc.2&&pc.2.all (fun j=>lies (rule.getD j.toNat []) pc.1)
def zT(rule:List (List Int))(pc:List Int×List Int):Option (List Int×List Int):=match zD rule pc.1 with
 |none=>none
 |some m=>if m∈pc.2 then some (pc.1,pc.2.tail)else some (pc.1,m::pc.2)
theorem isCh_mem{n:Nat}:∀{l:Int}{c:List Int},isCh n l c=true-> ∀x∈c,l<=x/\x<n
 | _,[],_,_,h=>by cases h
 |l,y::r,e,x,h=>by
  rw[isCh]at e;by_cases c:y<l\/(n:Int)<=y
  ·rw[if_pos c]at e;cases e
  ·rw[if_neg c]at e;rcases mem_cons.mp h with rfl|h
   ·omega
   ·have:=isCh_mem e x h;omega
def lastC(l:Int):List Int->Int
 | []=>l
 |x::r=>lastC (x+1) r
theorem lastC_snoc(l:Int)(x:Int):∀c:List Int,lastC l (c++[x])=x+1
 | []=>rfl
 |y::r=>lastC_snoc (y+1) x r
theorem isCh_app(n:Nat):∀(l:Int)(a b:List Int),isCh n l (a++b)=(isCh n l a&&isCh n (lastC l a) b)
 |l,[],b=>by rw[List.nil_append,isCh,Bool.true_and];rfl
 |l,x::r,b=>by
  rw[List.cons_append,isCh,isCh,lastC];by_cases c:x<l\/(n:Int)<=x
  ·rw[if_pos c,if_pos c,Bool.false_and]
  ·rw[if_neg c,if_neg c,isCh_app n (x+1) r b]
theorem inV_ints(z:Int):∀ns:List Int,inV (.int z) (ns.map V.int)=decide (z∈ns):=fun ns=>by
 unfold inV;rw[List.any_map,Bool.eq_iff_iff,List.any_eq_true,decide_eq_true_eq];constructor
 ·rintro⟨x,hx,e⟩;have e':x=z:=by simpa [eqV]using e
  exact e'▸hx
 ·intro h;exact⟨z,h,by simp[eqV]⟩
section
variable{prog:Program}{w:World}{A:Around}{E:Value->Shared->Prop}{s:Shared}
theorem sorted_intsT{l:Addr}{vs:List Value}{ns:List Int}{Q:Value->Shared->Prop}(hl:IsTup s.heap l vs.toArray)(hI:IntsAre vs ns)(h64:vs.length<64)(h:∀(out:List Value) (n:Nat) (h1 h':Heap) (ns':List Int),(∀b o,s.heap.get? b=some o->h1.get? b=some o)->(∀b o,h1.get? b=some o->h'.get? b=some o)->h'.get? h1.objs.size=some (seqObj "list" out.toArray n)->IntsAre out ns'->ns'.Perm ns->ns'.Pairwise (· <= ·)->Q (.ref h1.objs.size) {s with heap:=h'}) :
  wpAny (model prog w) A (call (.builtin "sorted") [.ref l]) Q E s:=by
 refine Calls.call_function_entry kind_sorted plain_sorted entry_sorted (args_sorted1 _) ?_;unfold Builtin.«sorted»;refine wpAny_bind (m:=checkCount "sorted" 1 1 _) (wpAny_pure ?_);obtain⟨o,ho,hc,n,hd⟩:=hl;refine wpAny_bind (wpAny_collect_seq l (.inr rfl) ho hc hd (fun h1 hk1=>?_) (by simp[sizeLine_eq];omega));refine wpAny_bind (wpAny_newList ?_);have hoL:(h1.push (seqObj "list" vs.toArray 0)).get? h1.objs.size=some (seqObj "list" vs.toArray 0):=Heap.get?_push_size _ rfl;refine wpAny_bind (wpAny_holding (wpAny_call_entry slot_list_sort ⟨_,hoL,rfl⟩ entry_list_sort (list_sort_tree hoL hI h64 fun out ns' a1 a2 a3=>⟨_,rfl,?_⟩) (args_list_sort _)));obtain⟨e,he⟩:=sortedHeap_at (vs:=vs) (out:=out) hoL;refine wpAny_pure ⟨_,rfl,h out.toList e h1 _ ns' hk1 (fun b o hb=>?_) he a1 a2 a3⟩;have hlt:=Heap.lt_size hb;rw[sortedHeap_old (ne_of_lt hlt) (by rw[Heap.size_push];exact lt_succ_of_lt hlt)];exact Heap.get?_push_of_some _ hb
end
theorem call_sortT{X:Cx}:CallR X (.builtin "sorted") (fun xs H Q=>∃(a:Addr)(ns:List Int),xs=[.ref a]/\SqT X.K H a (ns.map V.int)/\ns.length<64/\ ∀(ns':List Int)(p:Addr),ns'.Perm ns->ns'.Pairwise (· <= ·)->H p=none->Q (.ref p) (upd H p (.lst (ns'.map V.int)))):=by
 intro pins s σ H xs us Q I r h;obtain⟨a,ns,rfl,hq,hl,q⟩:=h;obtain⟨u,rfl,rx⟩:=vals1 r;cases rx;obtain⟨its,r',pl,hz⟩:=I.tuple hq;have hlen:=r'.length;rw[length_map]at hlen;refine sorted_intsT pl (intsAre_of r') (by omega) fun out n h1 h' ns' k1 k2 e a1 a2 a3=>?_;have hz':(ns'.map V.int).length<=sizeLine:=by rw[length_map,a2.length_eq];exact yj hl
 have I2:Inv X pins σ H {s with heap:=h1}:=I.kept (t':=s.toks) k1;exact⟨.ref _,_,I2.laid (t':=s.toks) k2 (le_refl _) (show zS X.prog X.w _ _ _ (.lst (ns'.map V.int))from⟨hz',out,n,vals_ints a1,by simpa [seqObj]using e⟩),rfl,q ns' _ a2 a3 (I2.hok.fresh (le_refl _))⟩
theorem isCh_pw{n:Nat}:∀{l:Int}{c:List Int},isCh n l c=true->c.Pairwise (· < ·)
 | _,[],_=>.nil
 |l,y::r,e=>by
  rw[isCh]at e;by_cases c:y<l\/(n:Int)<=y
  ·rw[if_pos c]at e;cases e
  ·rw[if_neg c]at e;refine .cons (fun x hx=>?_) (isCh_pw e);have:=isCh_mem e x hx;omega
theorem isCh_of{n:Nat}{l l':Int}{c:List Int}(h:isCh n l c=true)(hl:∀x∈c,l'<=x):isCh n l' c=true:=by
 cases c with
 |nil=>rfl
 |cons y r =>
  rw[isCh]at h ⊢;by_cases d:y<l\/(n:Int)<=y
  ·rw[if_pos d]at h;cases h
  ·have:=hl y mem_cons_self;rw[if_neg d]at h;rw[if_neg (by omega)];exact h
theorem idxP_mem{rule:List (List Int)}{hs:List Int}{i k:Nat}(hk:k<i)(c:lies (rule.getD k []) hs=true):(k:Int)∈idxP rule hs i:=by
 unfold idxP;exact mem_map.mpr ⟨k,mem_filter.mpr ⟨mem_range.mpr hk,by simpa using c⟩,rfl⟩
theorem idxP_head_le{rule:List (List Int)}{hs:List Int}:∀(i:Nat)(m:Int),(idxP rule hs i).head? =some m-> ∀x∈idxP rule hs i,m<=x
 | 0,m,h,x,hx=>by cases hx
 |i+1,m,h,x,hx=>by
  rw[idxP_succ]at h hx;cases e:idxP rule hs i with
  |nil =>
   rw[e]at h hx;by_cases c:lies (rule.getD i []) hs=true
   ·rw[if_pos c]at h hx;have h1:m=(i:Int):=by simpa using h.symm
    have h2:x=(i:Int):=by simpa using hx
    omega
   ·rw[if_neg c]at hx;cases hx
  |cons y ys =>
   have ih:=idxP_head_le (rule:=rule) (hs:=hs) i;rw[e]at ih h hx;have hm:y=m:=by simpa using h
   subst hm;have hy:y∈idxP rule hs i:=by rw[e];exact mem_cons_self
   rcases mem_append.mp hx with z|z
   ·exact ih y rfl x z
   ·by_cases c:lies (rule.getD i []) hs=true
    ·rw[if_pos c]at z;have:x=(i:Int):=by simpa using z
     have:=(idxP_lt hy).2.1;omega
    ·rw[if_neg c]at z;cases z
theorem first_is{rule:List (List Int)}{hs:List Int}{m:Int}(h:zD rule hs=some m):(0<=m/\m<rule.length/\lies (rule.getD m.toNat []) hs=true)/\ ∀j:Int,0<=j->j<rule.length->lies (rule.getD j.toNat []) hs=true->m<=j:=by
 unfold zD idxG at h;refine⟨?_,fun j h0 h1 hl=>?_⟩
 ·have hm:m∈idxP rule hs rule.length:=List.mem_of_head? h;have:=idxP_lt hm;exact⟨this.1,by omega,this.2.2⟩
 ·have:=idxP_mem (i:=rule.length) (k:=j.toNat) (by omega) hl;have:=idxP_head_le _ _ h _ this;omega
structure PairF(rule:List (List Int))(pc:List Int×List Int)(m:Int):Prop where
 le:∀x∈pc.2,m<=x
 pw:pc.2.Pairwise (· < ·)
 ch:isCh rule.length 0 pc.2=true
 al:∀j∈pc.2,lies (rule.getD j.toNat []) pc.1=true
 m0:0<=m
 m1:m<rule.length
 ml:lies (rule.getD m.toNat []) pc.1=true
theorem pairF{rule:List (List Int)}{pc:List Int×List Int}{m:Int}(h:yd rule pc=true)(hf:zD rule pc.1=some m):PairF rule pc m:=by
 unfold yd at h;rw[and_eq_true,all_eq_true]at h;obtain⟨⟨a,b,c⟩,d⟩:=first_is hf;exact⟨fun x hx=>d x (isCh_mem h.1 x hx).1 (isCh_mem h.1 x hx).2 (h.2 x hx),isCh_pw h.1,h.1,h.2,a,b,c⟩
theorem PairF.head{rule:List (List Int)}{pc:List Int×List Int}{m:Int}(p:PairF rule pc m)(h:m∈pc.2):∃r,pc.2=m::r/\ ∀x∈r,m<x:=by
 have pw:=p.pw;have le:=p.le;cases e:pc.2 with
 |nil=>rw[e]at h;cases h
 |cons y r =>
  rw[e]at h pw le;have hy:=le y mem_cons_self;have hr:∀x∈r,y<x:=(pairwise_cons.mp pw).1;rcases mem_cons.mp h with rfl|h
  ·exact⟨r,rfl,hr⟩
  ·have:=hr m h;omega
theorem PairF.filt{rule:List (List Int)}{pc:List Int×List Int}{m:Int}(p:PairF rule pc m)(h:m∈pc.2):pc.2.filter (fun x=>!decide (x=m))=pc.2.tail:=by
 obtain⟨r,e,hr⟩:=p.head h;rw[e,filter_cons,if_neg (by simp),List.tail_cons];refine List.filter_eq_self.mpr fun x hx=>?_;have:=hr x hx;simp;omega
theorem PairF.sort{rule:List (List Int)}{pc:List Int×List Int}{m:Int}{s:List Int}(p:PairF rule pc m)(hp:s.Perm (pc.2++[m]))(hs:s.Pairwise (· <= ·)):s=m::pc.2:=by
 have q:s.Perm (m::pc.2):=hp.trans (List.perm_append_comm);refine q.eq_of_pairwise (le:=fun x y=>x<=y) (fun x y _ _ h1 h2=>Int.le_antisymm h1 h2) hs (.cons (fun x hx=>p.le x hx) (p.pw.imp fun h=>le_of_lt h))
theorem sgn_step(n:Nat):(if n%2=0 then(1:Int)else -1)=0-(if(n+1)%2=0 then(1:Int)else -1):=by
 rcases Nat.mod_two_eq_zero_or_one n with h|h
 ·have h2:(n+1)%2=1:=by omega
  simp[h,h2]
 ·have h2:(n+1)%2=0:=by omega
  simp[h,h2]
theorem partner_back{rule:List (List Int)}{pc pc':List Int×List Int}(h:yd rule pc=true)(hp:zT rule pc=some pc'):yd rule pc'=true/\zT rule pc'=some pc/\sgnG pc'.2=0-sgnG pc.2/\pc'.1=pc.1/\pc'.2.length<=pc.2.length+1:=by
 unfold zT at hp;cases hf:zD rule pc.1 with
 |none=>rw[hf]at hp;cases hp
 |some m =>
  rw[hf]at hp;have p:=pairF h hf;obtain⟨hd,ch⟩:=pc;by_cases c:m∈ch
  ·have hp':some (hd,ch.tail)=some pc':=by simpa [c]using hp
   cases hp';obtain⟨r,e,hr⟩:=p.head c;have e':ch=m::r:=e;subst e';have chh:=p.ch;have cc:isCh rule.length (m+1) r=true:=by
    have z:isCh rule.length 0 (m::r)=true:=chh;rw[isCh,if_neg (by have:=p.m0;have:=p.m1;omega)]at z;exact z
   refine⟨?_,?_,?_,rfl,by simp;omega⟩
   ·unfold yd;rw[and_eq_true,all_eq_true];exact⟨isCh_of cc fun x hx=>by have:=hr x hx;have:=p.m0;omega,fun j hj=>p.al j (mem_cons_of_mem _ hj)⟩
   ·have nm:m∉r:=fun z=>by have:=hr m z;omega
    unfold zT;have hf':zD rule hd=some m:=hf;simp[hf',nm]
   ·unfold sgnG;simp only[List.tail_cons,length_cons];exact sgn_step r.length
  ·have hp':some (hd,m::ch)=some pc':=by simpa [c]using hp
   cases hp';refine⟨?_,?_,?_,rfl,by simp⟩
   ·unfold yd;rw[and_eq_true,all_eq_true];refine⟨?_,fun j hj=>?_⟩
    ·show isCh rule.length 0 (m::ch)=true;rw[isCh,if_neg (by have:=p.m0;have:=p.m1;omega)];refine isCh_of p.ch fun x hx=>?_;have h1:=p.le x hx;have h2:m≠x:=fun z=>c (z▸hx);omega
    ·rcases mem_cons.mp hj with rfl|hj
     ·exact p.ml
     ·exact p.al j hj
   ·unfold zT;have hf':zD rule hd=some m:=hf;simp[hf']
   ·unfold sgnG;simp only[length_cons];rw[sgn_step ch.length];omega
theorem cat_any{K:W.Frag}{H:Hp}{q t:Addr}{hs ms:List Int}{Q:V->Hp->Prop}(hq:H q=some (.tup (hs.map V.int)))(ht:H t=some (.tup (ms.map V.int)))(hl:(hs++ms).length<=1000)(k:∀(v:V) (H':Hp),Tup1 (hs++ms) v H'->Same H H'->Q v H'):rCatA K (.ref q) (.ref t) H Q:=by
 refine⟨q,t,_,_,rfl,rfl,SqT.of hq,SqT.of ht,?_,fun e=>?_,fun _ e=>?_,fun _ _ p hp=>?_⟩
 ·rw[length_map,length_map,<-length_append];exact le_trans hl (by decide)
 ·have:hs=[]:=List.map_eq_nil_iff.mp e;subst this;exact k _ _ ⟨t,rfl,ht⟩ (fun _ _ h=>h)
 ·have:ms=[]:=List.map_eq_nil_iff.mp e;subst this;exact k _ _ ⟨q,rfl,by rw[append_nil];exact hq⟩ (fun _ _ h=>h)
 ·exact k _ _ ⟨p,rfl,by rw[z0,map_append]⟩ (Same.new hp)
end L2
namespace L2
open PySem PySem.Spec PyProof.Rows PySem.W
theorem isinst_tup{X:Cx}{pins:List (Addr×Obj)}{σ:St}{H:Hp}{s:Shared}{A:Around}{E:Value->Shared->Prop}{Q:Value->Shared->Prop}{b:Bool}{x:V}{u t:Value}{tp:Addr}{dd:Option Addr}{its:List Value}{n:Nat}{sl:Array (Option Value)}(I:Inv X pins σ H s)(rx:RelV x u)(ty:TyOf X.K H x t)(hg:s.heap.get? tp=some {cls:=Value.type "tuple",dict:=dd,data:=Data.seq its.toArray n,slots:=sl})(e:kitAny X.K t its=some b)(h:∀tk,Q (.bool b) {s with toks:=tk}) :
  wpAny (model X.prog X.w) A (call (.builtin "isinstance") [u,.ref tp]) Q E s:=by
 cases ty with
 |non=>cases(show u=Value.none from rx);exact kia_tup kitx_none I.kIn True.intro hg e (fun z=>nomatch z) h
 |bl y=>cases(show u=Value.bool y from rx);exact kia_tup kitx_bool I.kIn True.intro hg e (fun z=>nomatch z) h
 |int i=>obtain⟨t,q⟩:=(show ∃t,u=Value.int i t from rx);cases q;exact kia_tup kitx_int I.kIn True.intro hg e (fun z=>nomatch z) h
 |str y=>obtain⟨t,q⟩:=(show ∃t,u=Value.str y t from rx);cases q;exact kia_tup kitx_str I.kIn True.intro hg e (fun z=>nomatch z) h
 |flt y=>obtain⟨t,q⟩:=(show ∃t,u=Value.float y t from rx);cases q;exact kia_tup kitx_float I.kIn True.intro hg e (fun z=>nomatch z) h
 | @lst a xs ea =>
  cases(show u=Value.ref a from rx);obtain⟨_,_,n,_,h1⟩:=(show zS X.prog X.w H s.heap a (.lst xs)from I.hok a _ ea);exact kia_tup kitx_list I.kIn ⟨_,h1,rfl⟩ hg e (fun z=>nomatch z) h
 | @frz a ob xs ea =>
  cases(show u=Value.ref a from rx);obtain⟨_,_,_,n,_,h1⟩:=(show zS X.prog X.w H s.heap a (.frz ob (.lst xs))from I.hok a _ ea);exact kia_tup kitx_list I.kIn ⟨_,h1,rfl⟩ hg e (fun z=>nomatch z) h
 | @tup a xs ea =>
  cases(show u=Value.ref a from rx);obtain⟨_,_,_,p,_⟩:=(show zS X.prog X.w H s.heap a (.tup xs)from I.hok a _ ea);obtain⟨o,h1,h2,_⟩:=p;exact kia_tup kitx_tuple I.kIn ⟨o,h1,h2⟩ hg e (fun z=>nomatch z) h
 | @dK a kvs ea =>
  cases(show u=Value.ref a from rx);obtain⟨_,_,vs,_,p⟩:=(show zS X.prog X.w H s.heap a (.dK kvs)from I.hok a _ ea);obtain⟨o,es,ep,h1,h2,_⟩:=p;exact kia_tup kitx_dict I.kIn ⟨o,h1,h2.1⟩ hg e (fun z=>nomatch z) h
 | @dT a kvs ea =>
  cases(show u=Value.ref a from rx);obtain⟨_,_,xs,_,o,es,ep,h1,h2,_⟩:=(show zS X.prog X.w H s.heap a (.dT kvs)from I.hok a _ ea);exact kia_tup kitx_dict I.kIn ⟨o,h1,h2.1⟩ hg e (fun z=>nomatch z) h
 | @ins a C dx fs ea cl ha hn htk hm =>
  cases(show u=Value.ref a from rx);obtain⟨mA,O,_⟩:=ins_get I.hok ea;obtain⟨od,J,_⟩:=O.look;exact kia_tup (kitx_own (cl.get _) cl.hd ha hn htk hm) I.kIn J hg e (fun z=>nomatch z) h
theorem vals_ty{Ts:List String}{us:List Value}(h:Vals (Ts.map V.ty) us):us=Ts.map Value.type:=by
 induction Ts generalizing us with
 |nil=>cases h;rfl
 |cons a r ih =>
  cases h with
  |cons h1 h2 =>
   rw[ih h2];cases(show _=Value.type a from h1);rfl
theorem call_isiT{X:Cx}:CallR X (.builtin "isinstance") (fun xs H Q=>∃ x tp Ts t b,xs=[x,.ref tp]/\H tp=some (.tup (List.map V.ty Ts))/\TyOf X.K H x t/\kitAny X.K t (Ts.map Value.type)=some b/\Q (.bl b) H):=by
 intro pins s σ H xs us Q I r h;obtain⟨x,tp,Ts,t,b,rfl,ht,ty,hk,q⟩:=h;obtain⟨u,v,rfl,ru,rv⟩:=vals2 r;cases(show v=Value.ref tp from rv);obtain⟨_,its,r2,⟨o,h1,h2,n,h3⟩,_⟩:=(show zS X.prog X.w H s.heap tp (.tup (Ts.map V.ty))from I.hok tp _ ht);cases vals_ty r2;cases o;cases h2;cases h3;exact isinst_tup I ru ty h1 hk fun tk=>⟨.bl b,H,I.tok tk,rfl,q⟩
theorem kit_list_tuple{K:Frag}:kitOne K (.type "list") (.type "tuple")=some false:=by
 unfold kitOne;rw[if_neg (by decide+kernel)];rfl
theorem kit_tuple_list{K:Frag}:kitOne K (.type "tuple") (.type "list")=some false:=by
 unfold kitOne;rw[if_neg (by decide+kernel)];rfl
theorem kit_int_str{K:Frag}:kitOne K (.type "int") (.type "str")=some false:=by
 unfold kitOne;rw[if_neg (by decide+kernel)];rfl
theorem kit_NoneType_bool{K:Frag}:kitOne K (.type "NoneType") (.type "bool")=some false:=by
 unfold kitOne;rw[if_neg (by decide+kernel)];rfl
theorem kitA1_list{K:Frag}:kitAny K (.type "list") (["list","tuple"].map Value.type)=some true:=by rfl
theorem kitA1_tuple{K:Frag}:kitAny K (.type "tuple") (["list","tuple"].map Value.type)=some true:=by rfl
theorem kitA1_int{K:Frag}:kitAny K (.type "int") (["list","tuple"].map Value.type)=some false:=by rfl
theorem kitA1_bool{K:Frag}:kitAny K (.type "bool") (["list","tuple"].map Value.type)=some false:=by rfl
theorem kitA1_NoneType{K:Frag}:kitAny K (.type "NoneType") (["list","tuple"].map Value.type)=some false:=by rfl
theorem kitA1_str{K:Frag}:kitAny K (.type "str") (["list","tuple"].map Value.type)=some false:=by rfl
end L2
namespace L2
end L2
namespace L2
def sumN:Nat->(Nat->Int)->Int
 | 0,_=>0
 |n+1,f=>sumN n f+f n
end L2
namespace L2
open PySem PySem.Spec PyProof.Rows
def cv(a b:List Int)(k:Nat):Int:=sumN a.length fun i=>sumN b.length fun j=>if i+j=k then a.getD i 0*b.getD j 0 else 0
section
variable{X:Cx}{tg l:Expr}{t1 t2:TI}
def iOr(t1 t2:TI):TI:=fun σ H R=>t1 σ H R\/t2 σ H R
theorem pi_or(h1:PI X tg l t1)(h2:PI X tg l t2):PI X tg l (iOr t1 t2):=by
 intro pins s σ H R I h;rcases h with h|h
 ·exact h1 pins s σ H R I h
 ·exact h2 pins s σ H R I h
end
theorem inV2(x a b:Int):inV (.int x) [V.int a,V.int b]=(decide (x=a)||decide (x=b)):=by
 show inV (.int x) ([a,b].map V.int)=_;rw[inV_ints];rw[Bool.eq_iff_iff];simp
end L2
set_option exponentiation.threshold 200000
namespace L2
open PySem PySem.Spec PyProof.Rows
def hdL(T B:Nat->Int):Nat->List Int
 | 0=>[]
 |n+1=>hdL T B n++[T n-sumN n fun i=>B (i+1)*(hdL T B n).getD (n-(i+1)) 0]
def hd(T B:Nat->Int)(n:Nat):Int:=(hdL T B (n+1)).getD n 0
theorem mul_tuple_one(l:Addr)(its:Array Value)(n:Nat)(dd:Option Addr)(sl:Array (Option Value))(u:Tok) :
  Meets (Builtin.«tuple.__mul__» ⟨[.ref l,.int 1 u],[]⟩) (fun _ R s=>s.heap.get? l=some {cls:=.type "tuple",dict:=dd,data:=.seq its n,slots:=sl}/\R (.ok (.ret (Value.ref l))) s) :=
 .of_wp fun prog w A R s h=>by
  obtain⟨hp,g,d,tk,os⟩:=s;obtain⟨hl,h⟩:=h;have e1:(its.isEmpty||(1:Int)==1)=true:=by simp
  wp_walk
  exact⟨_,rfl,h⟩
def rRepA(K:W.Frag):R2:=fun x y H Q=>rRepT K x y H Q\/ ∃l xs,x= .ref l/\y= .int 1/\SqT K H l xs/\Q (.ref l) H
theorem op_repA{X:Cx}:OpR X (binaryOp .Mult) (rRepA X.K):=by
 intro pins s σ H x y v u Q I rx ry h;rcases h with h|⟨l,xs,rfl,rfl,hq,q⟩
 ·exact op_repT pins s σ H x y v u Q I rx ry h
 ·cases rx;obtain⟨t,rfl⟩:=ry;obtain⟨its,r,pl,_⟩:=I.tuple hq;obtain⟨o,ho,hc,n,hd⟩:=pl;obtain⟨c,dd,dt,sl⟩:=o;cases hc;cases hd;exact wpAny_binaryOp_repeat_ref (T :="tuple") (U :="int") (by decide) ⟨_,ho,rfl⟩ (fun s'=>typeIs_int s' 1 t) noFill_tuple_mul F.fills_int_mul F.slot_int_rmul repeat_tuple F.slot_int_index.lookup (call_meets F.slot_int_rmul (typeIs_int s 1 t) F.entry_int_rmul (F.args_int_rmul_2 _ _) (rmul_tuple 1 t l its.toArray n dd sl) ⟨ho,rfl,⟨_,ho,rfl⟩,call_meets F.slot_tuple_mul ⟨_,ho,rfl⟩ F.entry_tuple_mul (F.args_tuple_mul_2 _ _) (mul_tuple_one l its.toArray n dd sl t) ⟨ho,⟨.ref l,H,I,rfl,q⟩⟩⟩)
theorem rep_any{K:W.Frag}{H:Hp}{Q:VK}{l:Addr}{xs:List V}{k:Nat}(hl:H l=some (.tup xs))(hne:xs≠[])(hk:1<=k)(hz:xs.length*k<=100000)(h:∀(q:Addr) (H':Hp),Same H H'->H' q=some (.tup (replicate k xs).flatten)->Q (.ref q) H'):rRepA K (.ref l) (.int k) H Q:=by
 by_cases c:k=1
 ·subst c;exact .inr ⟨l,xs,rfl,rfl,SqT.of hl,h l H (fun _ _ z=>z) (by simpa using hl)⟩
 ·refine .inl ⟨l,(k:Int),xs,rfl,rfl,SqT.of hl,hne,by omega,?_,?_,fun p hp=>h p _ (Same.new hp) ?_⟩
  ·have hx:0<xs.length:=List.length_pos_iff.mpr hne;have:k<=xs.length*k:=Nat.le_mul_of_pos_left k hx;omega
  ·rw[toNat_natCast];exact le_trans hz (by decide)
  ·rw[z0,toNat_natCast]
end L2
namespace L2
end L2
namespace L2
theorem partF_le:∀(f n g:Nat),∀h∈partF f n g,∀x∈h,x<=(g:Int)
 | 0,n,g,h,hh,_,_=>by cases hh
 |f+1,n,g,h,hh,x,hx=>by
  rw[yF]at hh;by_cases c:n=0
  ·rw[if_pos c]at hh;have:h=[]:=by simpa using hh
   subst this;cases hx
  ·rw[if_neg c]at hh;unfold partP at hh;obtain⟨i,hi,hh⟩:=List.mem_flatMap.mp hh;rw[mem_range]at hi;obtain⟨r,hr,rfl⟩:=mem_map.mp hh;rcases mem_cons.mp hx with rfl|hx
   ·omega
   ·have:=partF_le f _ _ r hr x hx;omega
end L2
namespace L2
def sC(c:Nat->Nat):Nat->Nat
 | 0=>0
 |g+1=>sC c g+c (g+1)*(g+1)
theorem first_isNone(rule:List (List Int))(h:List Int):(zD rule h).isNone=(upto rule.length).all fun x=>!lies (rule.getD x.toNat []) h:=by
 unfold zD idxG idxP;rw[List.head?_map,Option.isNone_map,upto,all_map];rw[Bool.eq_iff_iff,Option.isNone_iff_eq_none,List.head?_eq_none_iff,List.filter_eq_nil_iff,all_eq_true];constructor
 ·intro z i hi;have:=z i hi;show(!lies (rule.getD ((i:Nat):Int).toNat []) h)=true;rw[toNat_natCast];simpa using this
 ·intro z i hi;have:(!lies (rule.getD ((i:Nat):Int).toNat []) h)=true:=z i hi;rw[toNat_natCast]at this;simpa using this
end L2
namespace L2
theorem ex_unlike:∀L:List Int,∃us:List Int,us.Pairwise (· > ·)/\ ∀y,y∈us↔y∈L
 | []=>⟨[],.nil,fun _=>Iff.rfl⟩
 |x::L=>by
  obtain⟨us,h1,h2⟩:=ex_unlike L;by_cases hx:x∈us
  ·refine⟨us,h1,fun y=>?_⟩;rw[mem_cons,<-h2 y];exact⟨.inr,fun h=>h.elim (fun e=>e▸hx) id⟩
  ·refine⟨us.filter (fun y=>decide (x<y))++x::us.filter (fun y=>decide (y<x)),?_,fun y=>?_⟩
   ·refine List.pairwise_append.mpr ⟨h1.sublist List.filter_sublist,pairwise_cons.mpr ⟨fun y hy=>?_,h1.sublist List.filter_sublist⟩,fun a ha b hb=>?_⟩
    ·exact of_decide_eq_true (mem_filter.mp hy).2
    ·have ha':x<a:=of_decide_eq_true (mem_filter.mp ha).2;rcases mem_cons.mp hb with rfl|hb
     ·exact ha'
     ·have hb':b<x:=of_decide_eq_true (mem_filter.mp hb).2;show b<a;omega
   ·rw[mem_append,mem_cons,mem_filter,mem_filter,mem_cons,<-h2 y];constructor
    ·rintro(h|h|h)
     ·exact .inr h.1
     ·exact .inl h
     ·exact .inr h.1
    ·rintro(h|h)
     ·exact .inr (.inl h)
     ·rcases Int.lt_trichotomy x y with z|z|z
      ·exact .inl ⟨h,decide_eq_true z⟩
      ·exact .inr (.inl z.symm)
      ·exact .inr (.inr ⟨h,decide_eq_true z⟩)
theorem ex_join(ls:List (List Int)):∃ms,IsJoin ls ms:=by
 obtain⟨us,h1,h2⟩:=ex_unlike ls.flatten;exact⟨_,blow_join (h1.imp fun h=>Int.ne_of_gt h) (h1.imp fun h=>le_of_lt h) h2⟩
noncomputable def yi(ls:List (List Int)):List Int:=Classical.choose (ex_join ls)
theorem joinX_is(ls:List (List Int)):IsJoin ls (yi ls):=Classical.choose_spec (ex_join ls)
theorem joinX_eq{ls:List (List Int)}{ms:List Int}(h:IsJoin ls ms):yi ls=ms:=(joinX_is ls).uniq h
theorem sum_rep(k:Nat)(v:Int):(replicate k v).sum=k*v:=by
 induction k with
 |zero=>simp
 |succ k ih=>rw[List.replicate_succ,List.sum_cons,ih,Int.natCast_add,Int.add_mul];simp;omega
theorem perm_sum{a b:List Int}(h:a.Perm b):a.sum=b.sum:=by
 induction h with
 |nil=>rfl
 |cons x _ ih=>rw[List.sum_cons,List.sum_cons,ih]
 |swap x y l=>simp only[List.sum_cons];omega
 |trans _ _ i1 i2=>rw[i1,i2]
theorem chG_rise:∀k,∀c∈chG (upto k),c.Pairwise (· < ·)
 | 0,c,hc=>by
  have:c=[]:=by simpa [chG,upto]using hc
  rw[this];exact .nil
 |k+1,c,hc=>by
  rw[upto_succ,chG_snoc]at hc;rcases mem_append.mp hc with hc|hc
  ·exact chG_rise k c hc
  ·obtain⟨d,hd,rfl⟩:=mem_map.mp hc;refine List.pairwise_append.mpr ⟨chG_rise k d hd,List.pairwise_singleton _ _,fun a ha b hb=>?_⟩;have h1:=upto_mem ((chG_mem k (upto k) (upto_len k) d hd).2 a ha);have:b=(k:Int):=by simpa using hb
   omega
end L2
namespace L2
open PySem PySem.Spec PyProof.Rows
structure SeenU(H0 H:Hp)(d:Addr)(L:List Int):Prop where
 ex:∃(kvs:List (Key×V))(ns:List Int),H d=some (.dK kvs)/\kvs.map (·.1)=ns.map Sum.inl/\ns.Nodup/\ns.length<=L.length/\ ∀x,x∈ns↔x∈L
 sm:∀b o,H0 b=some o->H b=some o
 nw:H0 d=none
theorem SeenU.put{H0 H:Hp}{d:Addr}{L:List Int}{z:Int}(h:SeenU H0 H d L)(hl:L.length<1000):∃H',DPut H d (.int z) (.bl true) H'/\SeenU H0 H' d (L++[z]):=by
 obtain⟨⟨kvs,ns,hd,hk,hnd,hn,hm⟩,sm,nw⟩:=h;have hlen:kvs.length=ns.length:=by
  have:=congrArg length hk;simpa using this
 refine⟨upd H d (.dK (putK kvs (Sum.inl z) (.bl true))),DPut.k (k:=Sum.inl z) hd (lt_of_lt_of_le (show kvs.length<1000 by omega) (by decide)),⟨?_,fun b o e=>by rw[zh (zt e nw)];exact sm b o e,nw⟩⟩;cases e:valV kvs (Sum.inl z)with
 |none =>
  have hz:z∉ns:=fun hz=>valV_not e (by rw[hk];exact mem_map.mpr ⟨z,hz,rfl⟩);refine⟨_,ns++[z],z0,by rw[putK_new _ e,map_append,hk,map_append];rfl,?_,by simp;omega,fun x=>by simp[hm]⟩;refine List.nodup_append.mpr ⟨hnd,by simp,fun a ha b hb e=>?_⟩;have:b=z:=by simpa using hb
  exact hz (by rw[<-this,<-e];exact ha)
 |some v =>
  have hin:=valV_in e;rw[hk]at hin;have hz:z∈ns:=by
   obtain⟨y,hy,e2⟩:=mem_map.mp hin;have:y=z:=Sum.inl.inj e2;rw[<-this];exact hy
  refine⟨_,ns,z0,?_,hnd,by simp;omega,fun x=>?_⟩
  ·have:(putK kvs (Sum.inl z) (V.bl true)).map (·.1)=kvs.map (·.1):=putK_keys e;rw[this,hk]
  ·rw[mem_append,<-hm];exact⟨Or.inl,fun h=>h.elim id fun h=>by rw[show x=z by simpa using h];exact hz⟩
theorem nodup_len:∀{a b:List Int},a.Nodup->(∀x∈a,x∈b)->a.length<=b.length
 | [],_,_,_=>zero_le _
 |x::a,b,hn,h=>by
  obtain⟨h1,h2⟩:=nodup_cons.mp hn;have hx:=h x mem_cons_self;have:=nodup_len (b:=b.erase x) h2 fun y hy=>by
   have hne:y≠x:=fun e=>h1 (by rw[<-e];exact hy);exact(List.mem_erase_of_ne hne).mpr (h y (mem_cons_of_mem _ hy))
  rw[List.length_erase_of_mem hx]at this;have:0<b.length:=List.length_pos_of_mem hx;rw[length_cons];omega
def RuleJ(rule:List (List Int)):Prop:=(∃D:List Int,D.length<64/\ ∀h∈rule,∀x∈h,x∈D)/\(∀h∈rule,h.length<=100)/\ ∀h∈rule,∀x∈h,1<=x
theorem pick_mem{rule:List (List Int)}{ch:List Int}{l:List Int}(h:l∈zG rule ch):l∈rule\/l=[]:=by
 obtain⟨j,_,rfl⟩:=mem_map.mp h;by_cases hj:j.toNat<rule.length
 ·left;rw[getD_eq_getElem?_getD,getElem?_eq_getElem hj];exact getElem_mem hj
 ·right;rw[getD_eq_getElem?_getD,List.getElem?_eq_none (by omega)];rfl
theorem RuleJ.pick{rule:List (List Int)}(h:RuleJ rule){ch:List Int}(hc:ch.length<=6):(∃D:List Int,D.length<64/\ ∀x∈(zG rule ch).flatten,x∈D)/\(zG rule ch).flatten.length<1000:=by
 obtain⟨⟨D,hD,hm⟩,hl,_⟩:=h;refine⟨⟨D,hD,fun x hx=>?_⟩,?_⟩
 ·obtain⟨l,hl,hx⟩:=List.mem_flatten.mp hx;rcases pick_mem hl with h|h
  ·exact hm l h x hx
  ·rw[h]at hx;cases hx
 ·have:(zG rule ch).flatten.length<=100*(zG rule ch).length:=flat_le fun l hl'=>by
   rcases pick_mem hl' with h|h
   ·exact hl l h
   ·rw[h];exact zero_le _
  have e:(zG rule ch).length=ch.length:=by unfold zG;rw[length_map]
  omega
open PySem.Builtin.Str (occurrences subAt)
end L2
namespace L2
open PySem PySem.Spec PyProof.Rows
theorem Same.updN{H H':Hp}{p:Addr}{o:HO}(s:Same H H')(h:H p=none):Same H (upd H' p o):=fun b u e=>by rw[zh (zt e h)];exact s b u e
abbrev Lane:=Nat×Nat
def laneT(l:Lane)(v:Nat):Nat:=v*(l.2 / Nat.gcd l.1 l.2)
abbrev natV(n:Nat):V:=V.int (n:Int)
def timesOf(z:Lane×Nat):Nat:=laneT z.1 z.2
def sumT(ls:List Lane)(row:List Nat):Nat:=((ls.zip row).map timesOf).sum
theorem nat_at{ns:List Nat}{i:Nat}{x:V}(h:(ns.map natV)[i]? =some x):∃z,ns[i]? =some z/\x= .int (z:Int):=by
 rw[getElem?_map]at h;cases e:ns[i]? with
 |none=>rw[e]at h;cases h
 |some z=>rw[e]at h;exact⟨z,rfl,(Option.some.inj h).symm⟩
theorem comp_map1L{K:W.Frag}{i:Nat}{a:Addr}{xs:List V}{nm:Str}{fr:List (Str×Nat)}{te:TE}{σ:St}{H:Hp}{Q:VK}{β:Type}(R:β->V->Hp->Prop)(bs:List β)(tl:St)(hb:bs.length=xs.length)(hle:xs.length<=sizeLine)(mono:∀b v H H',Same H H'->R b v H->R b v H')(htl:startC [nm] fr σ=none::tl)(hs:σ[i]? =some (some (.ref a)))(h:H a=some (.lst xs))(step:∀(j:Nat) (x:V) (b:β) (H':Hp) (P:VK),xs[j]? =some x->bs[j]? =some b->Same H H'->(∀v H'',Same H' H''->R b v H''->P v H'')->te (some x::tl) H' P)(hd:∀zs H' p,Same H H'->All2 R H' bs zs->H' p=none->Q (.ref p) (upd H' p (.lst zs))):tComp (iList K (tVar i)) [nm] fr (yc 0) tYes te σ H Q:=by
 refine⟨_,hs,a,rfl,⟨_,SqL.of h⟩,comp_list (xs:=xs) (fun j zs σ' H'=>Same H H'/\(∃v,σ'=v::tl)/\All2 R H' (bs.take j) zs/\j<=bs.length) ⟨Same.refl _,⟨_,htl⟩,.nil,zero_le _⟩ ?_ ?_ ?_⟩
 ·rintro j zs σ' H' hj ⟨s',_,a2,hj'⟩;refine⟨SqL.of (s' _ _ h),?_⟩;rw[<-a2.length,length_take];exact le_trans (Nat.min_le_right _ _) (by rw[hb];exact hle)
 ·rintro j x zs σ' H' hx ⟨s',⟨v,rfl⟩,a2,hj'⟩;have hj:j<bs.length:=by rw[hb];exact(List.getElem?_eq_some_iff.mp hx).1
  have hbj:bs[j]? =some bs[j]:=getElem?_eq_getElem hj;refine step j x bs[j] H' _ hx hbj s' fun v2 H2 s2 r2=>⟨s'.trans s2,⟨_,rfl⟩,?_,hj⟩;rw[take_succ,hbj];exact(a2.imp fun _ _ z=>mono _ _ _ _ s2 z).snoc r2
 ·rintro zs σ' H' ⟨s',_,a2,_⟩ p hp;rw[<-hb,take_length]at a2;exact hd zs H' p s' a2 hp
theorem cut_some(xs:List V)(s:Nat):cutV xs none (some (s:Int))=xs.take (min s xs.length):=by
 unfold cutV;rw[HT.sIx_none,HT.sIx_nat,List.drop_zero,Nat.sub_zero]
end L2
namespace L2
open PySem PySem.Spec PyProof.Rows PySem.NumText
def weight(ys:List Str):Nat:=(ys.map (·.length)).sum+ys.length
end L2
namespace L2
open PySem PySem.Spec PyProof.Rows
open PySem.StrLaws (At ChainG partsFrom)
open PySem.Builtin.Str (occurrences subAt)
theorem compK_mapL{K:W.Frag}{a:Addr}{xs:List V}{te:TE}{σ0:St}{H:Hp}{Q:VK}{β:Type}(R:β->V->Hp->Prop)(bs:List β)(tl:St)(hb:bs.length=xs.length)(hle:xs.length<=sizeLine)(mono:∀b v H H',Same H H'->R b v H->R b v H')(htl:σ0=none::tl)(h:H a=some (.lst xs))(step:∀(j:Nat) (x:V) (b:β) (H':Hp) (P:VK),xs[j]? =some x->bs[j]? =some b->Same H H'->(∀v H'',Same H' H''->R b v H''->P v H'')->te (some x::tl) H' P)(hd:∀zs H' p,Same H H'->All2 R H' bs zs->H' p=none->Q (.ref p) (upd H' p (.lst zs))):tCompK (yc 0) tYes te σ0 (Itl K a) H Q:=by
 refine comp_list (xs:=xs) (fun j zs σ' H'=>Same H H'/\(∃v,σ'=v::tl)/\All2 R H' (bs.take j) zs/\j<=bs.length) ⟨Same.refl _,⟨_,htl⟩,.nil,zero_le _⟩ ?_ ?_ ?_
 ·rintro j zs σ' H' hj ⟨s',_,a2,hj'⟩;refine⟨SqL.of (s' _ _ h),?_⟩;rw[<-a2.length,length_take];exact le_trans (Nat.min_le_right _ _) (by rw[hb];exact hle)
 ·rintro j x zs σ' H' hx ⟨s',⟨v,rfl⟩,a2,hj'⟩;have hj:j<bs.length:=by rw[hb];exact(List.getElem?_eq_some_iff.mp hx).1
  have hbj:bs[j]? =some bs[j]:=getElem?_eq_getElem hj;refine step j x bs[j] H' _ hx hbj s' fun v2 H2 s2 r2=>⟨s'.trans s2,⟨_,rfl⟩,?_,hj⟩;rw[take_succ,hbj];exact(a2.imp fun _ _ z=>mono _ _ _ _ s2 z).snoc r2
 ·rintro zs σ' H' ⟨s',_,a2,_⟩ p hp;rw[<-hb,take_length]at a2;exact hd zs H' p s' a2 hp
end L2
namespace L2
open PySem PySem.Spec PyProof.Rows
theorem maxC_mem{ls:List (List Int)}{x:Int}(h:0<maxC ls x):∃l∈ls,x∈l:=by
 induction ls with
 |nil=>simp[maxC]at h
 |cons a r ih =>
  rw[maxC]at h;by_cases ha:0<a.count x
  ·exact⟨a,by simp,List.count_pos_iff.mp ha⟩
  ·obtain⟨l,hl,hx⟩:=ih (by omega);exact⟨l,mem_cons_of_mem _ hl,hx⟩
theorem join_mem{ls:List (List Int)}{x:Int}(h:x∈yi ls):∃l∈ls,x∈l:=by
 refine maxC_mem ?_;rw[<-(joinX_is ls).2 x];exact List.count_pos_iff.mpr h
theorem sort_count(l:List Int)(x:Int):(sortD l).count x=l.count x:=(yg l).count_eq x
theorem getD_map_nil{α:Type}(f:α->List Int)(rows:List α)(j:Nat):(rows.map f).getD j []=match rows[j]? with|some r=>f r|none=>[]:=by
 rw[getD_eq_getElem?_getD,getElem?_map];cases rows[j]? <;>rfl
theorem sum_cons(a:Lane)(ls:List Lane)(m:Nat)(row:List Nat):sumT (a::ls) (m::row)=laneT a m+sumT ls row:=rfl
theorem cut_head(xs:List V)(s:Nat):cutV xs none (some (s:Int))=xs.take s:=by
 rw[cut_some];rcases Nat.le_total s xs.length with h|h
 ·rw[Nat.min_eq_left h]
 ·rw[Nat.min_eq_right h,take_length,take_of_length_le h]
def gallop':Bool->Keyed->Array Keyed->Nat->Nat->Nat->StateT SortSt Sem (Option Nat):=sortPriv%PySem.Builtin.gallop
def kn(p:Keyed):Int:=numOf p.1
def IntK(p:Keyed):Prop:=∃ n t,p.1= .int n t
section
variable{prog:Program}{w:World}{A:Around}{E:Value->Shared->Prop}{s:Shared}
theorem wpS_lt{st:SortSt}{x y:Keyed}{Q:Option Bool->SortSt->Prop}(hk:kindOf st=oneType')(hx:IntK x)(hy:IntK y)(h:Q (some (decide (kn x<kn y))) st) :
  wpS (model prog w) A E s (lt' x y) Q st:=by
 obtain⟨a,t,ha⟩:=hx;obtain⟨b,u,hb⟩:=hy;have e1:kn x=a:=by unfold kn;rw[ha];rfl
 have e2:kn y=b:=by unfold kn;rw[hb];rfl
 rw[e1,e2]at h;rw[lt'_eq];refine wpS_bind (wpS_get ?_);rw[hk,keyLt'_oneType,ha,hb];refine wpS_bind (wpS_lift (wpAny_attempt (oneLt_int ⟨rfl,?_⟩)));exact wpS_pure h
theorem zL{st:SortSt}{arr:Array Keyed}{i:Nat}{p:Keyed}{Q:Keyed->SortSt->Prop}(hi:arr[i]? =some p)(h:Q p st):wpS (model prog w) A E s (elem' arr i) Q st:=by
 rw[elem'_eq,hi];exact wpS_pure h
def bey(left:Bool)(key:Keyed)(arr:Array Keyed)(base i:Nat):Bool :=
 match arr[base+i]? with
 |some x=>if left then decide (kn x<kn key)else decide (kn x<=kn key)
 |none=>false
theorem bey_at{left:Bool}{key:Keyed}{arr:Array Keyed}{base i:Nat}{x:Keyed}(e:arr[base+i]? =some x):bey left key arr base i=if left then decide (kn x<kn key)else decide (kn x<=kn key):=by
 unfold bey;rw[e]
theorem wpS_beyond{st:SortSt}{left:Bool}{key:Keyed}{arr:Array Keyed}{base i:Nat}{f:Option Bool->Option Bool}(hf:∀b,f (some b)=some (!b)){Q:Option Bool->SortSt->Prop}(hk:kindOf st=oneType')(hy:IntK key)(ha:∀p∈arr.toList,IntK p)(hi:base+i<arr.size)(h:Q (some (bey left key arr base i)) st) :
  wpS (model prog w) A E s (elem' arr (base+i) >>= fun x=>if left=true then lt' x key else lt' key x >>= fun r=>pure (f r)) Q st:=by
 have e:arr[base+i]? =some arr[base+i]:=getElem?_pos arr (base+i) hi;have hx:IntK arr[base+i]:=ha _ (by simp);rw[bey_at e]at h;refine wpS_bind (zL e ?_);cases left with
 |true =>
  rw[if_pos rfl]at h ⊢;exact wpS_lt hk hx hy h
 |false =>
  rw[if_neg Bool.false_ne_true]at h ⊢;refine wpS_bind (wpS_lt hk hy hx (wpS_pure ?_));have:f (some (decide (kn key<kn arr[base+i])))=some (decide (kn arr[base+i]<=kn key)):=by
   rw[hf];congr 1;by_cases z:kn key<kn arr[base+i]
   ·rw[decide_eq_true z,decide_eq_false (by omega)];rfl
   ·rw[decide_eq_false z,decide_eq_true (by omega)];rfl
  rw[this];exact h
theorem wpS_gallop{st:SortSt}{left:Bool}{key:Keyed}{arr:Array Keyed}{base n hint:Nat}{Q:Option Nat->SortSt->Prop}(hk:kindOf st=oneType')(hy:IntK key)(ha:∀p∈arr.toList,IntK p)(hn:base+n<=arr.size)(hh:hint<n)(mono:∀i j,i<=j->j<n->bey left key arr base j=true->bey left key arr base i=true)(h:∀k,k<=n->(∀i,i<k->bey left key arr base i=true)->(∀i,k<=i->i<n->bey left key arr base i=false)->Q (some k) st) :
  wpS (model prog w) A E s (gallop' left key arr base n hint) Q st:=by
 have fin:∀(f:Nat->Option (Option Nat)×Nat×Nat->StateT SortSt Sem (ForInStep (Option (Option Nat)×Nat×Nat)))
   (hf:∀x lo hi (Q':ForInStep (Option (Option Nat)×Nat×Nat)->SortSt->Prop),hi<=n->(lo>=hi->Q' (.done (none,lo,hi)) st)->(lo<hi->Q' (if bey left key arr base (lo+(hi-lo) / 2)=true then .yield (none,lo+(hi-lo) / 2+1,hi)else .yield (none,lo,lo+(hi-lo) / 2)) st)->wpS (model prog w) A E s (f x (none,lo,hi)) Q' st)
   lo hi,lo<=hi->hi<=n->(∀i,i<lo->bey left key arr base i=true)->(∀i,hi<=i->i<n->bey left key arr base i=false)->
   wpS (model prog w) A E s (forIn [0:n] ((none:Option (Option Nat)),lo,hi) f) (fun c st'=>st'=st/\ ∃hi,c=(none,hi,hi)/\hi<=n/\(∀i,i<hi->bey left key arr base i=true)/\(∀i,hi<=i->i<n->bey left key arr base i=false)) st:=by
  intro f hf lo hi h1 h2 h3 h4;refine wpS_forRange (I:=fun x c st'=>st'=st/\ ∃lo hi,c=(none,lo,hi)/\lo<=hi/\hi<=n/\hi-lo<=n-x/\(∀i,i<lo->bey left key arr base i=true)/\(∀i,hi<=i->i<n->bey left key arr base i=false)) ?istep ?ifin ⟨rfl,lo,hi,rfl,h1,h2,by omega,h3,h4⟩
  case ifin =>
   rintro c st' ⟨rfl,lo,hi,rfl,a1,a2,a3,a4,a5⟩;have:lo=hi:=by omega
   subst this;exact⟨rfl,lo,rfl,a2,a4,a5⟩
  case istep =>
   rintro x c st' _ hx ⟨rfl,lo,hi,rfl,a1,a2,a3,a4,a5⟩;refine hf x lo hi _ a2 (fun z=>?_) fun z=>?_
   ·have:lo=hi:=by omega
    subst this;exact⟨rfl,lo,rfl,a2,a4,a5⟩
   ·cases hb:bey left key arr base (lo+(hi-lo) / 2)with
    |true =>
     rw[if_pos rfl];exact⟨rfl,_,hi,rfl,by omega,a2,by omega,fun i hi'=>mono i _ (by omega) (by omega) hb,a5⟩
    |false =>
     rw[if_neg Bool.false_ne_true];refine⟨rfl,lo,_,rfl,by omega,by omega,by omega,a4,fun i h1 h2=>?_⟩;cases hb':bey left key arr base i with
     |false=>rfl
     |true=>rw[mono _ i h1 h2 hb']at hb;cases hb
 refine wpS_bind (wpS_beyond (fun _=>rfl) hk hy ha (by omega) ?_);dsimp only;cases hb:bey left key arr base hint with
 |true =>
  rw[if_pos rfl];refine wpS_bind (wpS_mono (wpS_forRange (I:=fun x c st'=>st'=st/\ ∃lastofs ofs,c=(none,lastofs,ofs)/\lastofs<ofs/\x+1<=ofs/\hint+lastofs<n/\bey left key arr base (hint+lastofs)=true)
   (Q:=fun c st'=>st'=st/\ ∃lastofs ofs,c=(none,lastofs,ofs)/\lastofs<ofs/\hint+lastofs<n/\bey left key arr base (hint+lastofs)=true/\(hint+ofs<n->bey left key arr base (hint+ofs)=false)) ?istep ?ifin ⟨rfl,0,1,rfl,by omega,by omega,by omega,hb⟩) ?post)
  case ifin =>
   rintro c st' ⟨rfl,la,of,rfl,a1,a2,a3,a4⟩;exact⟨rfl,la,of,rfl,a1,a3,a4,fun z=>by omega⟩
  case istep =>
   rintro x c st' _ hx ⟨rfl,la,of,rfl,a1,a2,a3,a4⟩;dsimp only;by_cases hge:of>=n-hint
   ·rw[if_pos hge];exact wpS_pure ⟨rfl,la,of,rfl,a1,a3,a4,fun z=>by omega⟩
   ·rw[if_neg hge];refine wpS_bind (wpS_beyond (fun _=>rfl) hk hy ha (by omega) ?_);dsimp only;cases hb':bey left key arr base (hint+of)with
    |true =>
     exact wpS_pure ⟨rfl,of,2*of+1,rfl,by omega,by omega,by omega,hb'⟩
    |false =>
     exact wpS_pure ⟨rfl,la,of,rfl,a1,a3,a4,fun _=>hb'⟩
  case post =>
   rintro c st' ⟨rfl,la,of,rfl,a1,a3,a4,a5⟩;have nf:∀i,hint+min of (n-hint)<=i->i<n->bey left key arr base i=false:=fun i h1 h2=>by
    have:of<n-hint:=by omega
    cases hb':bey left key arr base i with
    |false=>rfl
    |true =>
     have:=mono (hint+of) i (by omega) h2 hb';rw[a5 (by omega)]at this;cases this
   dsimp only;refine wpS_bind (wpS_mono (fin _ (fun x lo hi Q' z1 z2 z3=>?_) (hint+la+1) (hint+min of (n-hint)) (by omega) (by omega) (fun i hi=>mono i _ (by omega) a3 a4) nf) ?_)
   ·dsimp only;by_cases hge:lo>=hi
    ·rw[if_pos hge];exact wpS_pure (z2 hge)
    ·rw[if_neg hge];refine wpS_bind (wpS_beyond (fun _=>rfl) hk hy ha (by omega) ?_);have z3:=z3 (by omega);dsimp only;cases hb':bey left key arr base (lo+(hi-lo) / 2)with
     |true=>rw[hb',if_pos rfl]at z3;exact wpS_pure z3
     |false=>rw[hb',if_neg Bool.false_ne_true]at z3;exact wpS_pure z3
   ·rintro c st'' ⟨rfl,hi,rfl,b2,b4,b5⟩;exact wpS_pure (h hi b2 b4 b5)
 |false =>
  rw[if_neg Bool.false_ne_true];refine wpS_bind (wpS_mono (wpS_forRange (I:=fun x c st'=>st'=st/\ ∃lastofs ofs,c=(none,lastofs,ofs)/\lastofs<ofs/\x+1<=ofs/\lastofs<=hint/\bey left key arr base (hint-lastofs)=false)
   (Q:=fun c st'=>st'=st/\ ∃lastofs ofs,c=(none,lastofs,ofs)/\lastofs<ofs/\lastofs<=hint/\bey left key arr base (hint-lastofs)=false/\(ofs<=hint->bey left key arr base (hint-ofs)=true)) ?istep ?ifin ⟨rfl,0,1,rfl,by omega,by omega,by omega,hb⟩) ?post)
  case ifin =>
   rintro c st' ⟨rfl,la,of,rfl,a1,a2,a3,a4⟩;exact⟨rfl,la,of,rfl,a1,a3,a4,fun z=>by omega⟩
  case istep =>
   rintro x c st' _ hx ⟨rfl,la,of,rfl,a1,a2,a3,a4⟩;dsimp only;by_cases hge:of>=hint+1
   ·rw[if_pos hge];exact wpS_pure ⟨rfl,la,of,rfl,a1,a3,a4,fun z=>by omega⟩
   ·rw[if_neg hge];refine wpS_bind (wpS_beyond (fun _=>rfl) hk hy ha (by omega) ?_);dsimp only;cases hb':bey left key arr base (hint-of)with
    |true =>
     exact wpS_pure ⟨rfl,la,of,rfl,a1,a3,a4,fun _=>hb'⟩
    |false =>
     exact wpS_pure ⟨rfl,of,2*of+1,rfl,by omega,by omega,by omega,hb'⟩
  case post =>
   rintro c st' ⟨rfl,la,of,rfl,a1,a3,a4,a5⟩;have nf:∀i,hint-la<=i->i<n->bey left key arr base i=false:=fun i h1 h2=>by
    cases hb':bey left key arr base i with
    |false=>rfl
    |true =>
     have:=mono (hint-la) i h1 h2 hb';rw[a4]at this;cases this
   dsimp only;refine wpS_bind (wpS_mono (fin _ (fun x lo hi Q' z1 z2 z3=>?_) (hint+1-min of (hint+1)) (hint-la) (by omega) (by omega) (fun i hi=>mono i (hint-of) (by omega) (by omega) (a5 (by omega))) nf) ?_)
   ·dsimp only;by_cases hge:lo>=hi
    ·rw[if_pos hge];exact wpS_pure (z2 hge)
    ·rw[if_neg hge];refine wpS_bind (wpS_beyond (fun _=>rfl) hk hy ha (by omega) ?_);have z3:=z3 (by omega);dsimp only;cases hb':bey left key arr base (lo+(hi-lo) / 2)with
     |true=>rw[hb',if_pos rfl]at z3;exact wpS_pure z3
     |false=>rw[hb',if_neg Bool.false_ne_true]at z3;exact wpS_pure z3
   ·rintro c st'' ⟨rfl,hi,rfl,b2,b4,b5⟩;exact wpS_pure (h hi b2 b4 b5)
end
structure Mg(R:Keyed->Keyed->Prop)(a b out:List Keyed)(ia ib:Nat):Prop where
 perm:out.Perm (a.take ia++b.take ib)
 srt:out.Pairwise R
 ra:∀x∈out,∀y∈a.drop ia,R x y
 rb:∀x∈out,∀y∈b.drop ib,R x y
theorem Mg.swap{R:Keyed->Keyed->Prop}{a b out:List Keyed}{ia ib:Nat}(h:Mg R a b out ia ib):Mg R b a out ib ia :=
 ⟨h.perm.trans List.perm_append_comm,h.srt,h.rb,h.ra⟩
theorem Mg.nil{R:Keyed->Keyed->Prop}{a b:List Keyed}:Mg R a b [] 0 0:=⟨by simp,.nil,(fun _ h=>by cases h),(fun _ h=>by cases h)⟩
theorem drop_cons{a:List Keyed}{i:Nat}{x:Keyed}(e:a[i]? =some x):a.drop i=x::a.drop (i+1):=by
 obtain⟨hi,e'⟩:=List.getElem?_eq_some_iff.mp e;rw[List.drop_eq_getElem_cons hi,e']
theorem Mg.pushA{R:Keyed->Keyed->Prop}{a b out:List Keyed}{ia ib:Nat}{x:Keyed}(h:Mg R a b out ia ib)(sa:a.Pairwise R)(e:a[ia]? =some x)(hx:∀y∈b.drop ib,R x y) :
  Mg R a b (out++[x]) (ia+1) ib:=by
 have hd:=drop_cons e;have hs:(a.drop ia).Pairwise R:=sa.sublist (List.drop_sublist _ _);rw[hd,pairwise_cons]at hs;refine⟨?_,?_,?_,?_⟩
 ·obtain⟨hi,e'⟩:=List.getElem?_eq_some_iff.mp e;rw[take_succ_eq_append_getElem hi,e',append_assoc];refine(h.perm.append_right [x]).trans ?_;rw[append_assoc];exact List.Perm.append_left _ List.perm_append_comm
 ·rw[List.pairwise_append];refine⟨h.srt,List.pairwise_singleton _ _,fun u hu v hv=>?_⟩;rw[List.mem_singleton]at hv;subst hv;exact h.ra u hu _ (by rw[hd];exact mem_cons_self)
 ·intro u hu y hy;rcases mem_append.mp hu with hu|hu
  ·exact h.ra u hu y (by rw[hd];exact mem_cons_of_mem _ hy)
  ·rw[List.mem_singleton]at hu;subst hu;exact hs.1 y hy
 ·intro u hu y hy;rcases mem_append.mp hu with hu|hu
  ·exact h.rb u hu y hy
  ·rw[List.mem_singleton]at hu;subst hu;exact hx y hy
theorem Mg.pushB{R:Keyed->Keyed->Prop}{a b out:List Keyed}{ia ib:Nat}{x:Keyed}(h:Mg R a b out ia ib)(sb:b.Pairwise R)(e:b[ib]? =some x)(hx:∀y∈a.drop ia,R x y) :
  Mg R a b (out++[x]) ia (ib+1):=(h.swap.pushA sb e hx).swap
theorem Mg.blockA{R:Keyed->Keyed->Prop}{a b:List Keyed}{ib:Nat}(sa:a.Pairwise R):∀(k:Nat){out:List Keyed}{ia:Nat},Mg R a b out ia ib->ia+k<=a.length->(∀i,ia<=i->i<ia+k-> ∀x,a[i]? =some x-> ∀y∈b.drop ib,R x y)->
  Mg R a b (out++(a.drop ia).take k) (ia+k) ib
 | 0,out,ia,h,_,_=>by simpa using h
 |k+1,out,ia,h,hl,hx=>by
  have e:a[ia]? =some a[ia]:=getElem?_eq_getElem (by omega);rw[drop_cons e,List.take_succ_cons,show ia+(k+1)=ia+1+k by omega];have h1:=Mg.blockA sa k (h.pushA sa e (hx ia (le_refl _) (by omega) _ e)) (by omega) (fun i h1 h2=>hx i (by omega) (by omega))
  rwa [append_assoc]at h1
theorem Mg.blockB{R:Keyed->Keyed->Prop}{a b:List Keyed}{ia:Nat}(sb:b.Pairwise R)(k:Nat){out:List Keyed}{ib:Nat}(h:Mg R a b out ia ib)(hl:ib+k<=b.length)(hx:∀i,ib<=i->i<ib+k-> ∀x,b[i]? =some x-> ∀y∈a.drop ia,R x y) :
  Mg R a b (out++(b.drop ib).take k) ia (ib+k):=(Mg.blockA sb k h.swap hl hx).swap
def Mgd(R:Keyed->Keyed->Prop)(a b r:List Keyed):Prop:=r.Perm (a++b)/\r.Pairwise R
theorem Mg.done{R:Keyed->Keyed->Prop}{a b out:List Keyed}{ia ib:Nat}(h:Mg R a b out ia ib)(sa:a.Pairwise R)(sb:b.Pairwise R)(hx:∀x∈a.drop ia,∀y∈b.drop ib,R x y) :
  Mgd R a b (out++a.drop ia++b.drop ib):=by
 refine⟨?_,?_⟩
 ·have h1:(a++b)=(a.take ia++a.drop ia)++(b.take ib++b.drop ib):=by rw[List.take_append_drop,List.take_append_drop]
  rw[h1];refine((h.perm.append_right _).append_right _).trans ?_;rw[append_assoc,append_assoc,append_assoc];refine List.Perm.append_left _ ?_;rw[<-append_assoc,<-append_assoc];exact List.perm_append_comm.append_right _
 ·rw[List.pairwise_append,List.pairwise_append];refine⟨⟨h.srt,sa.sublist (List.drop_sublist _ _),h.ra⟩,sb.sublist (List.drop_sublist _ _),fun u hu y hy=>?_⟩;rcases mem_append.mp hu with hu|hu
  ·exact h.rb u hu y hy
  ·exact hx u hu y hy
theorem Mgd.comm{R:Keyed->Keyed->Prop}{a b r:List Keyed}(h:Mgd R a b r):Mgd R b a r:=⟨h.1.trans List.perm_append_comm,h.2⟩
def mergeLo':Array Keyed->Array Keyed->StateT SortSt Sem (Array Keyed):=sortPriv%PySem.Builtin.mergeLo
def mergeHi':Array Keyed->Array Keyed->StateT SortSt Sem (Array Keyed):=sortPriv%PySem.Builtin.mergeHi
abbrev setGal(st:SortSt)(g:Nat):SortSt:=SortSt.mk' (kindOf st) (arrOf st) (pendingOf st) g (failedOf st)
def Le(x y:Keyed):Prop:=kn x<=kn y
structure SameS(st st':SortSt):Prop where
 kind:kindOf st'=kindOf st
 arr:arrOf st'=arrOf st
 pend:pendingOf st'=pendingOf st
 failed:failedOf st'=failedOf st
theorem SameS.refl(st:SortSt):SameS st st:=⟨rfl,rfl,rfl,rfl⟩
theorem SameS.gal{st st':SortSt}(h:SameS st st')(g:Nat):SameS st (setGal st' g):=⟨h.kind,h.arr,h.pend,h.failed⟩
theorem ext_end(a:Array Keyed)(i:Nat):(a.extract i a.size).toList=a.toList.drop i:=by
 rw[Array.toList_extract,List.extract_eq_take_drop,take_of_length_le (by simp)]
theorem ext_mid(a:Array Keyed)(i k:Nat):(a.extract i (i+k)).toList=(a.toList.drop i).take k:=by
 rw[Array.toList_extract,List.extract_eq_take_drop];congr 1;omega
theorem le_drop{a:List Keyed}(sa:a.Pairwise Le){i:Nat}{x z:Keyed}(e:a[i]? =some z)(hz:Le x z):∀y∈a.drop i,Le x y:=fun y hy=>by
 have hs:(a.drop i).Pairwise Le:=sa.sublist (List.drop_sublist _ _);rw[drop_cons e]at hs hy;rw[pairwise_cons]at hs;rcases mem_cons.mp hy with rfl|hy
 ·exact hz
 ·have:=hs.1 y hy;unfold Le at *;omega
theorem lo_done{a b out:Array Keyed}{ia ib:Nat}(sa:a.toList.Pairwise Le)(sb:b.toList.Pairwise Le)(m:Mg Le a.toList b.toList out.toList ia ib)(hz:ia=a.size\/ib=b.size) :
  Mgd Le a.toList b.toList (out++a.extract ia a.size++b.extract ib b.size).toList:=by
 rw[Array.toList_append,Array.toList_append,ext_end,ext_end];refine m.done sa sb fun x hx y hy=>?_;rcases hz with rfl|rfl
 ·rw[List.drop_of_length_le (by simp)]at hx;cases hx
 ·rw[List.drop_of_length_le (by simp)]at hy;cases hy
theorem lo_last{a b out:Array Keyed}{ia ib:Nat}(sa:a.toList.Pairwise Le)(sb:b.toList.Pairwise Le)(m:Mg Le a.toList b.toList out.toList ia ib)(hz:ia+1=a.size)(h2:∀x,a[a.size-1]? =some x-> ∀y∈b.toList,Le y x):Mgd Le a.toList b.toList (out++b.extract ib b.size++a.extract ia a.size).toList:=by
 rw[Array.toList_append,Array.toList_append,ext_end,ext_end];refine(m.swap.done sb sa fun x hx y hy=>?_).comm;have e:a.toList[ia]? =some (a[ia]'(by omega)):=by rw[Array.getElem?_toList];exact getElem?_pos a ia (by omega)
 rw[drop_cons e,List.drop_of_length_le (by simp;omega)]at hy;rw[List.mem_singleton]at hy;subst hy;refine h2 _ ?_ x (List.mem_of_mem_drop hx);rw[show a.size-1=ia by omega];exact getElem?_pos a ia (by omega)
structure LoI(a b:Array Keyed)(st0 st:SortSt)(n:Nat)(out:Array Keyed)(ia ib:Nat):Prop where
 same:SameS st0 st
 mg:Mg Le a.toList b.toList out.toList ia ib
 la:ia+1<a.size
 lb:ib<b.size
 far:n<=ia+ib
theorem bey_mono{left:Bool}{key:Keyed}{arr:Array Keyed}{base n:Nat}(hn:base+n<=arr.size)(hs:arr.toList.Pairwise Le):∀i j,i<=j->j<n->bey left key arr base j=true->bey left key arr base i=true:=by
 intro i j hij hj hb;by_cases e:i=j
 ·subst e;exact hb
 have e1:arr[base+i]? =some (arr[base+i]'(by omega)):=getElem?_pos arr (base+i) (by omega);have e2:arr[base+j]? =some (arr[base+j]'(by omega)):=getElem?_pos arr (base+j) (by omega);have hl:Le (arr[base+i]'(by omega)) (arr[base+j]'(by omega)):=by
  have:=List.pairwise_iff_getElem.mp hs (base+i) (base+j) (by simp;omega) (by simp;omega) (by omega);simpa using this
 rw[bey_at e2]at hb;rw[bey_at e1];unfold Le at hl;cases left <;>simp at hb ⊢ <;>omega
theorem bey_true{left:Bool}{key:Keyed}{arr:Array Keyed}{base i:Nat}(h:bey left key arr base i=true){x:Keyed}(e:arr[base+i]? =some x):Le x key:=by
 rw[bey_at e]at h;unfold Le;cases left <;>simp at h <;>omega
theorem bey_false{left:Bool}{key:Keyed}{arr:Array Keyed}{base i:Nat}(h:bey left key arr base i=false){x:Keyed}(e:arr[base+i]? =some x):Le key x:=by
 rw[bey_at e]at h;unfold Le;cases left <;>simp at h <;>omega
section
variable{prog:Program}{w:World}{A:Around}{E:Value->Shared->Prop}{s:Shared}
theorem wpS_mergeLo{st:SortSt}{a b:Array Keyed}{Q:Array Keyed->SortSt->Prop}(hk:kindOf st=oneType')(ka:∀p∈a.toList,IntK p)(kb:∀p∈b.toList,IntK p)(sa:a.toList.Pairwise Le)(sb:b.toList.Pairwise Le)(za:1<=a.size)(zb:1<=b.size)(h1:∀x,b[0]? =some x-> ∀y∈a.toList,Le x y)(h2:∀x,a[a.size-1]? =some x-> ∀y∈b.toList,Le y x)(h:∀r st',Mgd Le a.toList b.toList r.toList->SameS st st'->Q r st'):wpS (model prog w) A E s (mergeLo' a b) Q st:=by
 have ga:∀i (z:i<a.size),a[i]? =some a[i]/\a.toList[i]? =some a[i]/\IntK a[i]:=fun i z=>⟨getElem?_pos a i z,by rw[Array.getElem?_toList];exact getElem?_pos a i z,ka _ (by simp)⟩;have gb:∀i (z:i<b.size),b[i]? =some b[i]/\b.toList[i]? =some b[i]/\IntK b[i]:=fun i z=>⟨getElem?_pos b i z,by rw[Array.getElem?_toList];exact getElem?_pos b i z,kb _ (by simp)⟩;refine wpS_bind (wpS_lift (wpAny_rule ⟨rfl,?_⟩));refine wpS_bind (zL (gb 0 (by omega)).1 ?_);dsimp only;have m0:Mg Le a.toList b.toList #[b[0]].toList 0 1:=Mg.nil.pushB sb (gb 0 (by omega)).2.1 (fun y hy=>h1 _ (gb 0 (by omega)).1 y (List.mem_of_mem_drop hy));by_cases c1:1=b.size
 ·rw[if_pos (beq_iff_eq.mpr c1)];exact wpS_pure (h _ _ (lo_done sa sb m0 (.inr c1)) (.refl _))
 rw[if_neg (fun z=>c1 (beq_iff_eq.mp z))];by_cases c2:0+1=a.size
 ·rw[if_pos (beq_iff_eq.mpr c2)];exact wpS_pure (h _ _ (lo_last sa sb m0 c2 h2) (.refl _))
 rw[if_neg (fun z=>c2 (beq_iff_eq.mp z))];refine wpS_bind (wpS_get ?_);refine wpS_bind (wpS_mono (wpS_forRange (I:=fun x c st'=>∃ out ia ib g,c=(none,out,ia,ib,g)/\LoI a b st st' x out ia ib)
  (Q:=fun c st'=>∃ r u,c=(some r,u)/\Mgd Le a.toList b.toList r.toList/\SameS st st') ?step ?fin ⟨_,_,_,_,rfl,.refl _,m0,by omega,by omega,by omega⟩) ?post)
 case post =>
  rintro c st' ⟨r,u,rfl,hr,hs⟩;exact wpS_pure (h r st' hr hs)
 case fin =>
  rintro c st' ⟨out,ia,ib,g,rfl,L⟩;have:=L.la;have:=L.lb;have:=L.far;omega
 case step =>
  rintro x c st' _ hx ⟨out,ia,ib,g,rfl,L⟩;dsimp only;refine wpS_bind (wpS_mono (wpS_forRange (I:=fun y c st'=>∃ out ia ib ac bc,c=(none,out,ia,ib,ac,bc)/\LoI a b st st' (x+y) out ia ib)
   (Q:=fun c st'=>(∃out ia ib ac bc,c=(none,out,ia,ib,ac,bc)/\LoI a b st st' (x+1) out ia ib)\/(∃r u,c=(some r,u)/\Mgd Le a.toList b.toList r.toList/\SameS st st')) ?istep ?ifin ⟨_,_,_,_,_,rfl,L⟩) ?ipost)
  case ifin =>
   rintro c st' ⟨out,ia,ib,ac,bc,rfl,L⟩;have:=L.la;have:=L.lb;have:=L.far;omega
  case istep =>
   rintro y c st' _ hy ⟨out,ia,ib,ac,bc,rfl,L⟩;have la:=L.la;have lb:=L.lb;have far:=L.far;have za0:ia<a.size:=Nat.lt_of_succ_lt la;dsimp only;refine wpS_bind (zL (gb ib lb).1 (wpS_bind (zL (ga ia za0).1 (wpS_bind (wpS_lt (L.same.kind.trans hk) (gb ib lb).2.2 (ga ia za0).2.2 ?_)))));dsimp only;by_cases hw:kn b[ib]<kn (a[ia]'za0)
   ·rw[if_pos (decide_eq_true hw)];refine wpS_bind (zL (gb ib lb).1 ?_);have m1:Mg Le a.toList b.toList (out.push b[ib]).toList ia (ib+1):=by
     rw[Array.toList_push];exact L.mg.pushB sb (gb ib lb).2.1 (le_drop sa (ga ia za0).2.1 (le_of_lt hw))
    by_cases c1:ib+1=b.size
    ·rw[if_pos (beq_iff_eq.mpr c1)];exact wpS_pure (.inr ⟨_,_,rfl,lo_done sa sb m1 (.inr c1),L.same⟩)
    rw[if_neg (fun z=>c1 (beq_iff_eq.mp z))];have o1:ib+1<b.size:=Nat.lt_of_le_of_ne lb c1;split
    ·exact wpS_pure (.inl ⟨_,_,_,_,_,rfl,L.same,m1,la,o1,by omega⟩)
    ·exact wpS_pure ⟨_,_,_,_,_,rfl,L.same,m1,la,o1,by omega⟩
   ·rw[if_neg (fun z=>hw (of_decide_eq_true z))];refine wpS_bind (zL (ga ia za0).1 ?_);have m1:Mg Le a.toList b.toList (out.push (a[ia]'za0)).toList (ia+1) ib:=by
     rw[Array.toList_push];exact L.mg.pushA sa (ga ia za0).2.1 (le_drop sb (gb ib lb).2.1 (Int.not_lt.mp hw))
    by_cases c1:ia+1+1=a.size
    ·rw[if_pos (beq_iff_eq.mpr c1)];exact wpS_pure (.inr ⟨_,_,rfl,lo_last sa sb m1 c1 h2,L.same⟩)
    rw[if_neg (fun z=>c1 (beq_iff_eq.mp z))];have o1:ia+1+1<a.size:=Nat.lt_of_le_of_ne la c1;split
    ·exact wpS_pure (.inl ⟨_,_,_,_,_,rfl,L.same,m1,o1,lb,by omega⟩)
    ·exact wpS_pure ⟨_,_,_,_,_,rfl,L.same,m1,o1,lb,by omega⟩
  case ipost =>
   rintro c st1 (⟨out,ia,ib,ac,bc,rfl,L⟩|⟨r,u,rfl,hr,hs⟩)
   case inr=>exact wpS_pure ⟨_,_,rfl,hr,hs⟩
   dsimp only;refine wpS_bind (wpS_lift (wpAny_rule ⟨rfl,?_⟩));refine wpS_bind (wpS_mono (wpS_forRange (I:=fun y c st'=>∃ out ia ib g ac bc,c=(none,out,ia,ib,g,ac,bc)/\LoI a b st st' (x+1+y) out ia ib)
    (Q:=fun c st'=>(∃out ia ib g ac bc,c=(none,out,ia,ib,g,ac,bc)/\LoI a b st st' (x+1) out ia ib)\/(∃r u,c=(some r,u)/\Mgd Le a.toList b.toList r.toList/\SameS st st')) ?jstep ?jfin ⟨_,_,_,_,_,_,rfl,L⟩) ?jpost)
   case jfin =>
    rintro c st' ⟨out,ia,ib,g,ac,bc,rfl,L⟩;have:=L.la;have:=L.lb;have:=L.far;omega
   case jpost =>
    rintro c st1 (⟨out,ia,ib,g,ac,bc,rfl,L⟩|⟨r,u,rfl,hr,hs⟩)
    ·dsimp only;refine wpS_bind (wpS_modify ?_);exact wpS_pure ⟨_,_,_,_,rfl,L.same.gal _,L.mg,L.la,L.lb,L.far⟩
    ·exact wpS_pure ⟨_,_,rfl,hr,hs⟩
   case jstep =>
    rintro y c st' _ hy ⟨out,ia,ib,g,ac,bc,rfl,L⟩;have la:=L.la;have lb:=L.lb;have far:=L.far;dsimp only;refine(fun(J1:∀g2:Nat,(?B1:Nat->Prop) g2)=>?main1) ?pf1
    case main1 =>
     by_cases hg:g>1
     ·rw[if_pos hg];generalize g-1=g2;exact J1 g2
     ·rw[if_neg hg];exact J1 g
    intro g2;refine wpS_bind (wpS_modify ?_);have la0:ia<a.size:=by omega
    refine wpS_bind (zL (gb ib lb).1 (wpS_bind (wpS_gallop (L.same.kind.trans hk) (gb ib lb).2.2 ka (by omega) (by omega) (bey_mono (by omega) sa) fun k lk b1 b2=>?_)));have S2:=L.same.gal g2;dsimp only;refine(fun(J2:∀(out1:Array Keyed) (ia1:Nat),Mg Le a.toList b.toList out1.toList ia1 ib->ia1+1<a.size->(∀z,a[ia1]? =some z->Le b[ib] z)->x+1+y<=ia1+ib->(?B2:Array Keyed->Nat->Prop) out1 ia1)=>?main2) ?pf2
    case main2 =>
     have m1:Mg Le a.toList b.toList (out++a.extract ia (ia+k)).toList (ia+k) ib:=by
      rw[Array.toList_append,ext_mid];refine Mg.blockA sa k L.mg (by simp;omega) fun i i1 i2 z ez=>le_drop sb (gb ib lb).2.1 ?_;refine bey_true (b1 (i-ia) (by omega)) ?_;rw[show ia+(i-ia)=i by omega,<-Array.getElem?_toList];exact ez
     have hb1:∀z,a[ia+k]? =some z->Le b[ib] z:=fun z ez=>by
      by_cases hz:ia+k<a.size
      ·exact bey_false (b2 k (le_refl _) (by omega)) ez
      ·rw[getElem?_neg a (ia+k) hz]at ez;cases ez
     have far1:x+1+y<=ia+k+ib:=by omega
     by_cases hk0:k>0
     ·rw[if_pos hk0];by_cases c1:ia+k+1=a.size
      ·rw[if_pos (beq_iff_eq.mpr c1)];exact wpS_pure (.inr ⟨_,_,rfl,lo_last sa sb m1 c1 h2,S2.kind,S2.arr,S2.pend,S2.failed⟩)
      rw[if_neg (fun z=>c1 (beq_iff_eq.mp z))];by_cases c2:ia+k=a.size
      ·rw[if_pos (beq_iff_eq.mpr c2)];exact wpS_pure (.inr ⟨_,_,rfl,lo_done sa sb m1 (.inl c2),S2.kind,S2.arr,S2.pend,S2.failed⟩)
      rw[if_neg (fun z=>c2 (beq_iff_eq.mp z))];have la1:ia+k+1<a.size:=by omega
      generalize ho:out++a.extract ia (ia+k)=out1 at m1 ⊢;generalize hi:ia+k=ia1 at m1 la1 hb1 far1 ⊢;exact J2 out1 ia1 m1 la1 hb1 far1
     ·rw[if_neg hk0];have ek:k=0:=by omega
      rw[ek,show out++a.extract ia (ia+0)=out by simp;exact Nat.min_le_left _ _]at m1;rw[ek]at hb1 far1;exact J2 out ia m1 la hb1 far1
    intro out1 ia1 m1 la1 hb1 far1;clear far b1 b2 lk;have za1:ia1<a.size:=Nat.lt_of_succ_lt la1;refine wpS_bind (zL (gb ib lb).1 ?_);have m2:Mg Le a.toList b.toList (out1.push b[ib]).toList ia1 (ib+1):=by
     rw[Array.toList_push];exact m1.pushB sb (gb ib lb).2.1 (le_drop sa (ga ia1 za1).2.1 (hb1 _ (ga ia1 za1).1))
    by_cases c3:ib+1=b.size
    ·rw[if_pos (beq_iff_eq.mpr c3)];exact wpS_pure (.inr ⟨_,_,rfl,lo_done sa sb m2 (.inr c3),S2.kind,S2.arr,S2.pend,S2.failed⟩)
    rw[if_neg (fun z=>c3 (beq_iff_eq.mp z))];refine wpS_bind (zL (ga ia1 za1).1 (wpS_bind (wpS_gallop (L.same.kind.trans hk) (ga ia1 za1).2.2 kb (by omega) (by omega) (bey_mono (by omega) sb) fun k2 lk2 d1 d2=>?_)));generalize hp:out1.push b[ib]=outp at m2 ⊢;dsimp only;refine(fun(J3:∀(out2:Array Keyed) (ib1:Nat),Mg Le a.toList b.toList out2.toList ia1 ib1->ib1<b.size->(∀z,b[ib1]? =some z->Le (a[ia1]'za1) z)->x+1+y<=ia1+ib1->(?B3:Array Keyed->Nat->Prop) out2 ib1)=>?main3) ?pf3
    case main3 =>
     have m3:Mg Le a.toList b.toList (outp++b.extract (ib+1) (ib+1+k2)).toList ia1 (ib+1+k2):=by
      rw[Array.toList_append,ext_mid];refine Mg.blockB sb k2 m2 (by simp;omega) fun i i1 i2 z ez=>le_drop sa (ga ia1 za1).2.1 ?_;refine bey_true (d1 (i-(ib+1)) (by omega)) ?_;rw[show ib+1+(i-(ib+1))=i by omega,<-Array.getElem?_toList];exact ez
     have hb2:∀z,b[ib+1+k2]? =some z->Le (a[ia1]'za1) z:=fun z ez=>by
      by_cases hz:ib+1+k2<b.size
      ·exact bey_false (d2 k2 (le_refl _) (by omega)) ez
      ·rw[getElem?_neg b (ib+1+k2) hz]at ez;cases ez
     have far2:x+1+y<=ia1+(ib+1+k2):=by omega
     by_cases hk1:k2>0
     ·rw[if_pos hk1];by_cases c1:ib+1+k2=b.size
      ·rw[if_pos (beq_iff_eq.mpr c1)];exact wpS_pure (.inr ⟨_,_,rfl,lo_done sa sb m3 (.inr c1),S2.kind,S2.arr,S2.pend,S2.failed⟩)
      rw[if_neg (fun z=>c1 (beq_iff_eq.mp z))];have lb1:ib+1+k2<b.size:=by omega
      generalize ho2:outp++b.extract (ib+1) (ib+1+k2)=out2 at m3 ⊢;generalize hi2:ib+1+k2=ib1 at m3 lb1 hb2 far2 ⊢;exact J3 out2 ib1 m3 lb1 hb2 far2
     ·rw[if_neg hk1];have ek:k2=0:=by omega
      rw[ek,show outp++b.extract (ib+1) (ib+1+0)=outp by simp;exact Nat.min_le_left _ _]at m3;rw[ek]at hb2 far2;exact J3 outp (ib+1) m3 (by omega) hb2 far2
    intro out2 ib1 m3 lb1 hb2 far2;refine wpS_bind (zL (ga ia1 za1).1 ?_);have m4:Mg Le a.toList b.toList (out2.push (a[ia1]'za1)).toList (ia1+1) ib1:=by
     rw[Array.toList_push];exact m3.pushA sa (ga ia1 za1).2.1 (le_drop sb (gb ib1 lb1).2.1 (hb2 _ (gb ib1 lb1).1))
    by_cases c4:ia1+1+1=a.size
    ·rw[if_pos (beq_iff_eq.mpr c4)];exact wpS_pure (.inr ⟨_,_,rfl,lo_last sa sb m4 c4 h2,S2.kind,S2.arr,S2.pend,S2.failed⟩)
    rw[if_neg (fun z=>c4 (beq_iff_eq.mp z))];have o1:ia1+1+1<a.size:=by omega
    split
    ·exact wpS_pure (.inl ⟨_,_,_,_,_,_,rfl,⟨S2.kind,S2.arr,S2.pend,S2.failed⟩,m4,o1,lb1,by omega⟩)
    ·exact wpS_pure ⟨_,_,_,_,_,_,rfl,⟨S2.kind,S2.arr,S2.pend,S2.failed⟩,m4,o1,lb1,by omega⟩
end
def Ge(x y:Keyed):Prop:=kn y<=kn x
theorem ge_drop{a:List Keyed}(sa:a.Pairwise Ge){i:Nat}{x z:Keyed}(e:a[i]? =some z)(hz:Ge x z):∀y∈a.drop i,Ge x y:=fun y hy=>by
 have hs:(a.drop i).Pairwise Ge:=sa.sublist (List.drop_sublist _ _);rw[drop_cons e]at hs hy;rw[pairwise_cons]at hs;rcases mem_cons.mp hy with rfl|hy
 ·exact hz
 ·have:=hs.1 y hy;unfold Ge at *;omega
theorem rev_srt{a:List Keyed}(s:a.Pairwise Le):a.reverse.Pairwise Ge:=by
 rw[List.pairwise_reverse];exact s
theorem rvs_at{a:Array Keyed}{n:Nat}(h1:1<=n)(h2:n<=a.size):a.toList.reverse[a.size-n]? =some (a[n-1]'(by omega)):=by
 rw[List.getElem?_reverse (by simp;omega),Array.getElem?_toList,Array.length_toList,show a.size-1-(a.size-n)=n-1 by omega];exact getElem?_pos a (n-1) (by omega)
theorem rev_drop{a:Array Keyed}{n:Nat}(h2:n<=a.size):a.toList.reverse.drop (a.size-n)=(a.toList.take n).reverse:=by
 rw[List.drop_reverse,Array.length_toList,show a.size-(a.size-n)=n by omega]
theorem ext_start(a:Array Keyed)(n:Nat):(a.extract 0 n).toList=a.toList.take n:=by
 rw[Array.toList_extract,List.extract_eq_take_drop];simp
theorem ext_rev{a:Array Keyed}{k n:Nat}(h1:k<=n)(h2:n<=a.size):(a.extract k n).reverse.toList=(a.toList.reverse.drop (a.size-n)).take (n-k):=by
 rw[rev_drop h2,Array.toList_reverse,Array.toList_extract,List.extract_eq_take_drop,List.take_reverse];congr 1;rw[length_take,Array.length_toList,show min n a.size-(n-k)=k by omega,List.drop_take]
theorem Mgd.rev{a b r:List Keyed}(h:Mgd Ge a.reverse b.reverse r):Mgd Le a b r.reverse:=by
 refine⟨(List.reverse_perm r).trans (h.1.trans ?_),?_⟩
 ·exact(List.reverse_perm a).append (List.reverse_perm b)
 ·rw[List.pairwise_reverse];exact h.2
theorem hi_done{a b out:Array Keyed}{na nb:Nat}(sa:a.toList.Pairwise Le)(sb:b.toList.Pairwise Le)(la:na<=a.size)(lb:nb<=b.size)(m:Mg Ge a.toList.reverse b.toList.reverse out.toList (a.size-na) (b.size-nb))(hz:na=0\/nb=0) :
  Mgd Le a.toList b.toList (a.extract 0 na++b.extract 0 nb++out.reverse).toList:=by
 have:=(m.swap.done (rev_srt sb) (rev_srt sa) (fun x hx y hy=>by
  rw[rev_drop lb]at hx;rw[rev_drop la]at hy;rcases hz with rfl|rfl
  ·cases hy
  ·cases hx)).comm.rev
 rw[rev_drop la,rev_drop lb,List.reverse_append,List.reverse_append,List.reverse_reverse,List.reverse_reverse,<-append_assoc]at this;rw[Array.toList_append,Array.toList_append,ext_start,ext_start,Array.toList_reverse];exact this
theorem hi_first{a b out:Array Keyed}{na nb:Nat}(sa:a.toList.Pairwise Le)(sb:b.toList.Pairwise Le)(la:na<=a.size)(lb:nb<=b.size)(m:Mg Ge a.toList.reverse b.toList.reverse out.toList (a.size-na) (b.size-nb))(hz:nb=1)(h1:∀x,b[0]? =some x-> ∀y∈a.toList,Le x y):Mgd Le a.toList b.toList (b.extract 0 nb++a.extract 0 na++out.reverse).toList:=by
 have:=(m.done (rev_srt sa) (rev_srt sb) (fun x hx y hy=>by
  rw[rev_drop la,List.mem_reverse]at hx;rw[rev_drop lb,List.mem_reverse]at hy;subst hz;have e:b.toList.take 1=[b[0]'(by omega)]:=by
   have e0:b.toList[0]? =some (b[0]'(by omega)):=by rw[Array.getElem?_toList];exact getElem?_pos b 0 (by omega)
   have e1:=drop_cons e0;rw[List.drop_zero]at e1;rw[e1];rfl
  rw[e,List.mem_singleton]at hy;subst hy;exact h1 _ (getElem?_pos b 0 (by omega)) x (List.mem_of_mem_take hx))).rev
 rw[rev_drop la,rev_drop lb,List.reverse_append,List.reverse_append,List.reverse_reverse,List.reverse_reverse,<-append_assoc]at this;rw[Array.toList_append,Array.toList_append,ext_start,ext_start,Array.toList_reverse];exact this
structure HiI(a b:Array Keyed)(st0 st:SortSt)(n:Nat)(na nb:Nat)(out:Array Keyed):Prop where
 same:SameS st0 st
 mg:Mg Ge a.toList.reverse b.toList.reverse out.toList (a.size-na) (b.size-nb)
 la:na<=a.size
 lb:nb<=b.size
 pa:1<=na
 pb:2<=nb
 far:n+na+nb<=a.size+b.size
section
variable{prog:Program}{w:World}{A:Around}{E:Value->Shared->Prop}{s:Shared}
theorem wpS_mergeHi{st:SortSt}{a b:Array Keyed}{Q:Array Keyed->SortSt->Prop}(hk:kindOf st=oneType')(ka:∀p∈a.toList,IntK p)(kb:∀p∈b.toList,IntK p)(sa:a.toList.Pairwise Le)(sb:b.toList.Pairwise Le)(za:1<=a.size)(zb:1<=b.size)(h1:∀x,b[0]? =some x-> ∀y∈a.toList,Le x y)(h2:∀x,a[a.size-1]? =some x-> ∀y∈b.toList,Le y x)(h:∀r st',Mgd Le a.toList b.toList r.toList->SameS st st'->Q r st'):wpS (model prog w) A E s (mergeHi' a b) Q st:=by
 have ga:∀i (z:i<a.size),a[i]? =some a[i]/\IntK a[i]:=fun i z=>⟨getElem?_pos a i z,ka _ (by simp)⟩;have gb:∀i (z:i<b.size),b[i]? =some b[i]/\IntK b[i]:=fun i z=>⟨getElem?_pos b i z,kb _ (by simp)⟩;have sra:=rev_srt sa;have srb:=rev_srt sb;refine wpS_bind (wpS_lift (wpAny_rule ⟨rfl,?_⟩));refine wpS_bind (zL (ga (a.size-1) (by omega)).1 ?_);dsimp only;have m0:Mg Ge a.toList.reverse b.toList.reverse #[a[a.size-1]'(by omega)].toList (a.size-(a.size-1)) (b.size-b.size):=by
  have e:a.toList.reverse[0]? =some (a[a.size-1]'(by omega)):=by
   have:=rvs_at (a:=a) (n:=a.size) (by omega) (le_refl _)
   rwa [Nat.sub_self]at this
  have:=(Mg.nil (b:=b.toList.reverse)).pushA sra e (fun y hy=>h2 _ (ga (a.size-1) (by omega)).1 y (List.mem_reverse.mp (List.mem_of_mem_drop hy)));rw[show a.size-(a.size-1)=0+1 by omega,Nat.sub_self];exact this
 by_cases c1:a.size-1=0
 ·rw[if_pos (beq_iff_eq.mpr c1)];exact wpS_pure (h _ _ (hi_done sa sb (by omega) (le_refl _) m0 (.inl c1)) (.refl _))
 rw[if_neg (fun z=>c1 (beq_iff_eq.mp z))];by_cases c2:b.size=1
 ·rw[if_pos (beq_iff_eq.mpr c2)];exact wpS_pure (h _ _ (hi_first sa sb (by omega) (le_refl _) m0 c2 h1) (.refl _))
 rw[if_neg (fun z=>c2 (beq_iff_eq.mp z))];refine wpS_bind (wpS_get ?_);refine wpS_bind (wpS_mono (wpS_forRange (I:=fun x c st'=>∃ na nb out g,c=(none,na,nb,out,g)/\HiI a b st st' x na nb out)
  (Q:=fun c st'=>∃ r u,c=(some r,u)/\Mgd Le a.toList b.toList r.toList/\SameS st st') ?step ?fin ⟨_,_,_,_,rfl,.refl _,m0,by omega,by omega,by omega,by omega,by omega⟩) ?post)
 case post =>
  rintro c st' ⟨r,u,rfl,hr,hs⟩;exact wpS_pure (h r st' hr hs)
 case fin =>
  rintro c st' ⟨na,nb,out,g,rfl,L⟩;have:=L.pa;have:=L.far;omega
 case step =>
  rintro x c st' _ hx ⟨na,nb,out,g,rfl,L⟩;dsimp only;refine wpS_bind (wpS_mono (wpS_forRange (I:=fun y c st'=>∃ na nb out ac bc,c=(none,na,nb,out,ac,bc)/\HiI a b st st' (x+y) na nb out)
   (Q:=fun c st'=>(∃na nb out ac bc,c=(none,na,nb,out,ac,bc)/\HiI a b st st' (x+1) na nb out)\/(∃r u,c=(some r,u)/\Mgd Le a.toList b.toList r.toList/\SameS st st')) ?istep ?ifin ⟨_,_,_,_,_,rfl,L⟩) ?ipost)
  case ifin =>
   rintro c st' ⟨na,nb,out,ac,bc,rfl,L⟩;have:=L.pa;have:=L.far;omega
  case istep =>
   rintro y c st' _ hy ⟨na,nb,out,ac,bc,rfl,L⟩;have la:=L.la;have lb:=L.lb;have pa:=L.pa;have pb:=L.pb;have far:=L.far;have zb0:nb-1<b.size:=by omega
   have za0:na-1<a.size:=by omega
   have pb1:1<=nb:=Nat.le_of_succ_le pb;dsimp only;refine wpS_bind (zL (gb (nb-1) zb0).1 (wpS_bind (zL (ga (na-1) za0).1 (wpS_bind (wpS_lt (L.same.kind.trans hk) (gb (nb-1) zb0).2 (ga (na-1) za0).2 ?_)))));dsimp only;by_cases hw:kn (b[nb-1]'zb0)<kn (a[na-1]'za0)
   ·rw[if_pos (decide_eq_true hw)];refine wpS_bind (zL (ga (na-1) za0).1 ?_);have m1:Mg Ge a.toList.reverse b.toList.reverse (out.push (a[na-1]'za0)).toList (a.size-(na-1)) (b.size-nb):=by
     rw[Array.toList_push,show a.size-(na-1)=a.size-na+1 by omega];exact L.mg.pushA sra (rvs_at pa la) (ge_drop srb (rvs_at pb1 lb) (le_of_lt hw))
    by_cases c1:na-1=0
    ·rw[if_pos (beq_iff_eq.mpr c1)];exact wpS_pure (.inr ⟨_,_,rfl,hi_done sa sb (Nat.le_of_lt za0) lb m1 (.inl c1),L.same⟩)
    rw[if_neg (fun z=>c1 (beq_iff_eq.mp z))];split
    ·exact wpS_pure (.inl ⟨_,_,_,_,_,rfl,L.same,m1,Nat.le_of_lt za0,lb,Nat.one_le_iff_ne_zero.mpr c1,pb,by omega⟩)
    ·exact wpS_pure ⟨_,_,_,_,_,rfl,L.same,m1,Nat.le_of_lt za0,lb,Nat.one_le_iff_ne_zero.mpr c1,pb,by omega⟩
   ·rw[if_neg (fun z=>hw (of_decide_eq_true z))];refine wpS_bind (zL (gb (nb-1) zb0).1 ?_);have m1:Mg Ge a.toList.reverse b.toList.reverse (out.push (b[nb-1]'zb0)).toList (a.size-na) (b.size-(nb-1)):=by
     rw[Array.toList_push,show b.size-(nb-1)=b.size-nb+1 by omega];exact L.mg.pushB srb (rvs_at pb1 lb) (ge_drop sra (rvs_at pa la) (Int.not_lt.mp hw))
    by_cases c1:nb-1=1
    ·rw[if_pos (beq_iff_eq.mpr c1)];exact wpS_pure (.inr ⟨_,_,rfl,hi_first sa sb la (Nat.le_of_lt zb0) m1 c1 h1,L.same⟩)
    rw[if_neg (fun z=>c1 (beq_iff_eq.mp z))];have o1:2<=nb-1:=by omega
    split
    ·exact wpS_pure (.inl ⟨_,_,_,_,_,rfl,L.same,m1,la,Nat.le_of_lt zb0,pa,o1,by omega⟩)
    ·exact wpS_pure ⟨_,_,_,_,_,rfl,L.same,m1,la,Nat.le_of_lt zb0,pa,o1,by omega⟩
  case ipost =>
   rintro c st1 (⟨na,nb,out,ac,bc,rfl,L⟩|⟨r,u,rfl,hr,hs⟩)
   case inr=>exact wpS_pure ⟨_,_,rfl,hr,hs⟩
   dsimp only;refine wpS_bind (wpS_lift (wpAny_rule ⟨rfl,?_⟩));refine wpS_bind (wpS_mono (wpS_forRange (I:=fun y c st'=>∃ na nb out g ac bc,c=(none,na,nb,out,g,ac,bc)/\HiI a b st st' (x+1+y) na nb out)
    (Q:=fun c st'=>(∃na nb out g ac bc,c=(none,na,nb,out,g,ac,bc)/\HiI a b st st' (x+1) na nb out)\/(∃r u,c=(some r,u)/\Mgd Le a.toList b.toList r.toList/\SameS st st')) ?jstep ?jfin ⟨_,_,_,_,_,_,rfl,L⟩) ?jpost)
   case jfin =>
    rintro c st' ⟨na,nb,out,g,ac,bc,rfl,L⟩;have:=L.pa;have:=L.far;omega
   case jpost =>
    rintro c st1 (⟨na,nb,out,g,ac,bc,rfl,L⟩|⟨r,u,rfl,hr,hs⟩)
    ·dsimp only;refine wpS_bind (wpS_modify ?_);exact wpS_pure ⟨_,_,_,_,rfl,L.same.gal _,L.mg,L.la,L.lb,L.pa,L.pb,L.far⟩
    ·exact wpS_pure ⟨_,_,rfl,hr,hs⟩
   case jstep =>
    rintro y c st' _ hy ⟨na,nb,out,g,ac,bc,rfl,L⟩;have la:=L.la;have lb:=L.lb;have pa:=L.pa;have pb:=L.pb;have far:=L.far;dsimp only;refine(fun(J1:∀g2:Nat,(?B1:Nat->Prop) g2)=>?main1) ?pf1
    case main1 =>
     by_cases hg:g>1
     ·rw[if_pos hg];generalize g-1=g2;exact J1 g2
     ·rw[if_neg hg];exact J1 g
    intro g2;refine wpS_bind (wpS_modify ?_);have zb0:nb-1<b.size:=by omega
    refine wpS_bind (zL (gb (nb-1) zb0).1 (wpS_bind (wpS_gallop (L.same.kind.trans hk) (gb (nb-1) zb0).2 ka (by omega) (by omega) (bey_mono (by omega) sa) fun k lk b1 b2=>?_)));have S2:=L.same.gal g2;dsimp only;refine(fun(J2:∀(out1:Array Keyed) (na1:Nat),Mg Ge a.toList.reverse b.toList.reverse out1.toList (a.size-na1) (b.size-nb)->(∀z,1<=na1->a[na1-1]? =some z->Ge (b[nb-1]'zb0) z)->na1<=na-> ¬na1=0->(?B2:Array Keyed->Nat->Prop) out1 na1)=>?main2) ?pf2
    case main2 =>
     have m1:Mg Ge a.toList.reverse b.toList.reverse (out++(a.extract k na).reverse).toList (a.size-k) (b.size-nb):=by
      rw[Array.toList_append,ext_rev lk la,show a.size-k=a.size-na+(na-k)by omega];refine Mg.blockA sra (na-k) L.mg (by simp;omega) fun i i1 i2 z ez=>ge_drop srb (rvs_at (Nat.le_of_succ_le pb) lb) ?_;have e2:=rvs_at (a:=a) (n:=a.size-i) (by omega (config:={})) (by omega (config:={}));rw[show a.size-(a.size-i)=i by omega,ez]at e2;have e3:=Option.some.inj e2;subst e3;refine bey_false (b2 (a.size-i-1) (by omega) (by omega)) ?_;rw[Nat.zero_add];exact(ga (a.size-i-1) (by omega)).1
     have hb1:∀z,1<=k->a[k-1]? =some z->Ge (b[nb-1]'zb0) z:=fun z hz ez=>by
      refine bey_true (b1 (k-1) (by omega)) ?_;rw[Nat.zero_add];exact ez
     by_cases hk0:na-k>0
     ·rw[if_pos hk0];by_cases c1:k=0
      ·rw[if_pos (beq_iff_eq.mpr c1)];exact wpS_pure (.inr ⟨_,_,rfl,hi_done sa sb (le_trans lk la) lb m1 (.inl c1),S2.kind,S2.arr,S2.pend,S2.failed⟩)
      rw[if_neg (fun z=>c1 (beq_iff_eq.mp z))];have hlt:k<=na:=lk;generalize hko:na-k=k0;generalize ho:out++(a.extract k na).reverse=out1 at m1 ⊢;generalize hi:k=na1 at m1 hb1 hlt c1 ⊢;subst hko;exact J2 out1 na1 m1 hb1 hlt c1
     ·rw[if_neg hk0];have ek:k=na:=by omega
      have ee:out++(a.extract na na).reverse=out:=by simp;exact Nat.min_le_left _ _
      rw[ek,ee]at m1;rw[ek]at hb1;exact J2 out na m1 hb1 (le_refl _) (by omega)
    intro out1 na1 m1 hb1 hlt c1;clear b1 b2 lk;have la1:na1<=a.size:=le_trans hlt la;have pa1:1<=na1:=Nat.one_le_iff_ne_zero.mpr c1;have za1:na1-1<a.size:=by omega
    refine wpS_bind (zL (gb (nb-1) zb0).1 ?_);have m2:Mg Ge a.toList.reverse b.toList.reverse (out1.push (b[nb-1]'zb0)).toList (a.size-na1) (b.size-(nb-1)):=by
     rw[Array.toList_push,show b.size-(nb-1)=b.size-nb+1 by omega];exact m1.pushB srb (rvs_at (Nat.le_of_succ_le pb) lb) (ge_drop sra (rvs_at pa1 la1) (hb1 _ pa1 (ga (na1-1) za1).1))
    by_cases c3:nb-1=1
    ·rw[if_pos (beq_iff_eq.mpr c3)];exact wpS_pure (.inr ⟨_,_,rfl,hi_first sa sb la1 (Nat.le_of_lt zb0) m2 c3 h1,S2.kind,S2.arr,S2.pend,S2.failed⟩)
    rw[if_neg (fun z=>c3 (beq_iff_eq.mp z))];refine wpS_bind (zL (ga (na1-1) za1).1 (wpS_bind (wpS_gallop (L.same.kind.trans hk) (ga (na1-1) za1).2 kb (by omega) (by omega) (bey_mono (by omega) sb) fun k2 lk2 d1 d2=>?_)));generalize hp:out1.push (b[nb-1]'zb0)=outp at m2 ⊢;dsimp only;refine(fun(J3:∀(out2:Array Keyed) (nb1:Nat),Mg Ge a.toList.reverse b.toList.reverse out2.toList (a.size-na1) (b.size-nb1)->(∀z,1<=nb1->b[nb1-1]? =some z->Ge (a[na1-1]'za1) z)->nb1<=nb-1->2<=nb1->(?B3:Array Keyed->Nat->Prop) out2 nb1)=>?main3) ?pf3
    case main3 =>
     have m3:Mg Ge a.toList.reverse b.toList.reverse (outp++(b.extract k2 (nb-1)).reverse).toList (a.size-na1) (b.size-k2):=by
      rw[Array.toList_append,ext_rev lk2 (Nat.le_of_lt zb0),show b.size-k2=b.size-(nb-1)+(nb-1-k2)by omega];refine Mg.blockB srb (nb-1-k2) m2 (by simp;omega) fun i i1 i2 z ez=>ge_drop sra (rvs_at pa1 la1) ?_;have e2:=rvs_at (a:=b) (n:=b.size-i) (by omega (config:={})) (by omega (config:={}));rw[show b.size-(b.size-i)=i by omega,ez]at e2;have e3:=Option.some.inj e2;subst e3;refine bey_false (d2 (b.size-i-1) (by omega) (by omega)) ?_;rw[Nat.zero_add];exact(gb (b.size-i-1) (by omega)).1
     have hb2:∀z,1<=k2->b[k2-1]? =some z->Ge (a[na1-1]'za1) z:=fun z hz ez=>by
      refine bey_true (d1 (k2-1) (by omega)) ?_;rw[Nat.zero_add];exact ez
     by_cases hk1:nb-1-k2>0
     ·rw[if_pos hk1];by_cases c4:k2=1
      ·rw[if_pos (beq_iff_eq.mpr c4)];exact wpS_pure (.inr ⟨_,_,rfl,hi_first sa sb la1 (by omega) m3 c4 h1,S2.kind,S2.arr,S2.pend,S2.failed⟩)
      rw[if_neg (fun z=>c4 (beq_iff_eq.mp z))];by_cases c5:k2=0
      ·rw[if_pos (beq_iff_eq.mpr c5)];exact wpS_pure (.inr ⟨_,_,rfl,hi_done sa sb la1 (by omega) m3 (.inr c5),S2.kind,S2.arr,S2.pend,S2.failed⟩)
      rw[if_neg (fun z=>c5 (beq_iff_eq.mp z))];have hlt2:k2<=nb-1:=lk2;have c6:2<=k2:=by omega
      generalize hko:nb-1-k2=k0;generalize ho2:outp++(b.extract k2 (nb-1)).reverse=out2 at m3 ⊢;generalize hi2:k2=nb1 at m3 hb2 hlt2 c6 ⊢;subst hko;exact J3 out2 nb1 m3 hb2 hlt2 c6
     ·rw[if_neg hk1];have ek:k2=nb-1:=by omega
      rw[ek]at m3 hb2;have ee:outp++(b.extract (nb-1) (nb-1)).reverse=outp:=by simp;exact Nat.min_le_left _ _
      rw[ee]at m3;exact J3 outp (nb-1) m3 hb2 (le_refl _) (by omega)
    intro out2 nb1 m3 hb2 hlt2 c6;clear d1 d2 lk2;have lb1:nb1<=b.size:=by omega
    have pb1:1<=nb1:=Nat.le_of_succ_le c6;refine wpS_bind (zL (ga (na1-1) za1).1 ?_);have m4:Mg Ge a.toList.reverse b.toList.reverse (out2.push (a[na1-1]'za1)).toList (a.size-(na1-1)) (b.size-nb1):=by
     rw[Array.toList_push,show a.size-(na1-1)=a.size-na1+1 by omega];exact m3.pushA sra (rvs_at pa1 la1) (ge_drop srb (rvs_at pb1 lb1) (hb2 _ pb1 (gb (nb1-1) (by omega)).1))
    by_cases c7:na1-1=0
    ·rw[if_pos (beq_iff_eq.mpr c7)];exact wpS_pure (.inr ⟨_,_,rfl,hi_done sa sb (Nat.le_of_lt za1) lb1 m4 (.inl c7),S2.kind,S2.arr,S2.pend,S2.failed⟩)
    rw[if_neg (fun z=>c7 (beq_iff_eq.mp z))];have o1:1<=na1-1:=Nat.one_le_iff_ne_zero.mpr c7;split
    ·exact wpS_pure (.inl ⟨_,_,_,_,_,_,rfl,⟨S2.kind,S2.arr,S2.pend,S2.failed⟩,m4,Nat.le_of_lt za1,lb1,o1,c6,by omega⟩)
    ·exact wpS_pure ⟨_,_,_,_,_,_,rfl,⟨S2.kind,S2.arr,S2.pend,S2.failed⟩,m4,Nat.le_of_lt za1,lb1,o1,c6,by omega⟩
end
def zJ(xs:Array Keyed)(i j:Nat):Prop:=∀ u v,i<=u->u<=v->v<j->K xs u<=K xs v
structure SB(a₀:Array Keyed)(st:SortSt):Prop where
 perm:(arrOf st).Perm a₀
 kind:kindOf st=oneType'
 failed:failedOf st=none
theorem SB.size{a₀:Array Keyed}{st:SortSt}(h:SB a₀ st):(arrOf st).size=a₀.size:=h.perm.size_eq
theorem SB.ints{a₀:Array Keyed}{st:SortSt}(h:SB a₀ st)(h0:IntKeys a₀):∀p∈(arrOf st).toList,IntK p:=fun p hp =>
 h0 p ((Array.perm_iff_toList_perm.mp h.perm).mem_iff.mp hp)
theorem K_at{xs:Array Keyed}{i:Nat}{p:Keyed}(e:xs[i]? =some p):K xs i=kn p:=by unfold K kn;rw[e]
theorem ext_at{a:Array Keyed}{i j k:Nat}(hj:j<=a.size)(hk:i+k<j):(a.extract i j)[k]? =a[i+k]?:=by
 rw[Array.getElem?_extract,if_pos (by omega)]
theorem ext_size{a:Array Keyed}{i j:Nat}(hj:j<=a.size):(a.extract i j).size=j-i:=by
 rw[Array.size_extract];omega
theorem ext_srt{a:Array Keyed}{i j:Nat}(hj:j<=a.size)(s:zJ a i j):(a.extract i j).toList.Pairwise Le:=by
 rw[List.pairwise_iff_getElem];intro u v hu hv huv;rw[Array.length_toList,ext_size hj]at hu hv;have e1:(a.extract i j).toList[u]? =a[i+u]?:=by rw[Array.getElem?_toList];exact ext_at hj (by omega)
 have e2:(a.extract i j).toList[v]? =a[i+v]?:=by rw[Array.getElem?_toList];exact ext_at hj (by omega)
 rw[getElem?_eq_getElem (by rw[Array.length_toList,ext_size hj];exact hu)]at e1;rw[getElem?_eq_getElem (by rw[Array.length_toList,ext_size hj];exact hv)]at e2;have:=s (i+u) (i+v) (by omega) (by omega) (by omega);rw[K_at e1.symm,K_at e2.symm]at this;exact this
theorem ext_mem{a:Array Keyed}{i j:Nat}(hj:j<=a.size){z:Keyed}(h:z∈(a.extract i j).toList):∃k,i<=k/\k<j/\a[k]? =some z:=by
 obtain⟨k,hk,e⟩:=List.getElem_of_mem h;have hk':=hk;rw[Array.length_toList,ext_size hj]at hk';refine⟨i+k,by omega,by omega,?_⟩;rw[<-ext_at hj (by omega),<-Array.getElem?_toList,getElem?_eq_getElem hk,e]
def layIn(a:Array Keyed)(s:Nat)(l:List (Keyed×Nat)):Array Keyed:=l.foldl (fun a (p,j)=>a.setIfInBounds (s+j) p) a
theorem layIn_at(s:Nat):∀(l:List Keyed)(o:Nat)(a:Array Keyed),s+o+l.length<=a.size-> ∀u,(layIn a s (l.zipIdx o))[u]? =if s+o<=u/\u<s+o+l.length then l[u-(s+o)]? else a[u]?
 | [],o,a,h,u=>by
  show a[u]? =_;rw[if_neg (by rw[List.length_nil];omega)]
 |p::l,o,a,h,u=>by
  rw[length_cons]at h;show(layIn (a.setIfInBounds (s+o) p) s (l.zipIdx (o+1)))[u]? =_;rw[layIn_at s l (o+1) _ (by rw[Array.size_setIfInBounds];omega) u,length_cons];by_cases c1:u=s+o
  ·subst c1;rw[if_neg (by omega),if_pos (by omega),Nat.sub_self,Array.getElem?_setIfInBounds,if_pos rfl,if_pos (by omega)];rfl
  ·by_cases c2:s+o<=u/\u<s+o+(l.length+1)
   ·rw[if_pos (by omega),if_pos c2,show u-(s+o)=u-(s+(o+1))+1 by omega,List.getElem?_cons_succ]
   ·rw[if_neg (by omega),if_neg c2,Array.getElem?_setIfInBounds,if_neg (by omega)]
theorem layIn_perm{a:Array Keyed}{s:Nat}{l:List Keyed}(h:s+l.length<=a.size)(hp:l.Perm ((a.toList.drop s).take l.length)):(layIn a s (l.zipIdx 0)).Perm a:=by
 rw[Array.perm_iff_toList_perm];have e:(layIn a s (l.zipIdx 0)).toList=a.toList.take s++(l++a.toList.drop (s+l.length)):=by
  refine List.ext_getElem? fun u=>?_;rw[Array.getElem?_toList,layIn_at s l 0 a (by omega) u,Nat.add_zero];by_cases c1:u<s
  ·rw[if_neg (by omega),List.getElem?_append_left (by simp;omega),List.getElem?_take_of_lt c1,Array.getElem?_toList]
  ·rw[List.getElem?_append_right (by simp;omega)];have el:(a.toList.take s).length=s:=by simp;omega
   rw[el];by_cases c2:u<s+l.length
   ·rw[if_pos ⟨by omega,c2⟩,List.getElem?_append_left (by omega)]
   ·rw[if_neg (by omega),List.getElem?_append_right (by omega),List.getElem?_drop,<-Array.getElem?_toList];congr 1;omega
 have e2:a.toList=a.toList.take s++((a.toList.drop s).take l.length++a.toList.drop (s+l.length)):=by
  rw[<-List.drop_drop,List.take_append_drop,List.take_append_drop]
 rw[e];exact(List.Perm.append_left _ (hp.append_right _)).trans (by rw[<-e2])
theorem bey_monoS{left:Bool}{key:Keyed}{arr:Array Keyed}{base n:Nat}(hn:base+n<=arr.size)(hs:zJ arr base (base+n)):∀i j,i<=j->j<n->bey left key arr base j=true->bey left key arr base i=true:=by
 intro i j hij hj hb;have e1:arr[base+i]? =some (arr[base+i]'(by omega)):=getElem?_pos arr (base+i) (by omega);have e2:arr[base+j]? =some (arr[base+j]'(by omega)):=getElem?_pos arr (base+j) (by omega);have hl:=hs (base+i) (base+j) (by omega) (by omega) (by omega);rw[K_at e1,K_at e2]at hl;rw[bey_at e2]at hb;rw[bey_at e1];cases left <;>simp at hb ⊢ <;>omega
theorem mid_sorted{x z:Array Keyed}{sa sb k m:Nat}{r:List Keyed}{e:Nat}(hx:e<=x.size)(hk:sa+k<sb)(hm:sb+m<=e)(hm1:1<=m)(s1:zJ x sa sb)(s2:zJ x sb e)(b1:∀j,sa<=j->j<sa+k->K x j<=K x sb)(b2:∀j,sb+m<=j->j<e->K x (sb-1)<=K x j)(hr:Mgd Le (x.extract (sa+k) sb).toList (x.extract sb (sb+m)).toList r)(hz:∀u,z[u]? =if sa+k<=u/\u<sa+k+r.length then r[u-(sa+k)]? else x[u]?):zJ z sa e:=by
 have lr:r.length=sb-(sa+k)+m:=by
  rw[hr.1.length_eq,length_append,Array.length_toList,Array.length_toList,ext_size (by omega),ext_size (by omega)];omega
 have out:∀u,u<sa+k\/sb+m<=u->K z u=K x u:=fun u hu=>K_congr (by rw[hz,if_neg (by omega)]);have mid:∀u,sa+k<=u->u<sb+m-> ∃p,p∈r/\r[u-(sa+k)]? =some p/\K z u=kn p/\((∃j,sa+k<=j/\j<sb/\K x j=kn p)\/(∃j,sb<=j/\j<sb+m/\K x j=kn p)):=fun u h1 h2=>by
  have e1:r[u-(sa+k)]? =some (r[u-(sa+k)]'(by omega)):=getElem?_eq_getElem (by omega);have hmem:(r[u-(sa+k)]'(by omega))∈r:=getElem_mem _;refine⟨_,hmem,e1,K_at (by rw[hz,if_pos (by omega),e1]),?_⟩;rcases mem_append.mp (hr.1.mem_iff.mp hmem)with q|q
  ·obtain⟨j,j1,j2,ej⟩:=ext_mem (by omega) q;exact .inl ⟨j,j1,j2,K_at ej⟩
  ·obtain⟨j,j1,j2,ej⟩:=ext_mem (by omega) q;exact .inr ⟨j,j1,j2,K_at ej⟩
 intro u v hu huv hv;by_cases cu:u<sa+k
 ·rw[out u (.inl cu)];by_cases cv:v<sa+k
  ·rw[out v (.inl cv)];exact s1 u v hu huv (by omega)
  ·by_cases cv2:sb+m<=v
   ·rw[out v (.inr cv2)];exact Int.le_trans (b1 u hu cu) (s2 sb v (le_refl _) (by omega) hv)
   ·obtain⟨p,_,_,ep,q⟩:=mid v (by omega) (by omega);rw[ep];rcases q with⟨j,j1,j2,ej⟩|⟨j,j1,j2,ej⟩
    ·rw[<-ej];exact s1 u j hu (by omega) j2
    ·rw[<-ej];exact Int.le_trans (b1 u hu cu) (s2 sb j (le_refl _) j1 (by omega))
 ·by_cases cu2:sb+m<=u
  ·rw[out u (.inr cu2),out v (.inr (by omega))];exact s2 u v (by omega) huv hv
  ·obtain⟨p,_,gp,ep,q⟩:=mid u (by omega) (by omega);rw[ep];by_cases cv2:sb+m<=v
   ·rw[out v (.inr cv2)];rcases q with⟨j,j1,j2,ej⟩|⟨j,j1,j2,ej⟩
    ·rw[<-ej];exact Int.le_trans (s1 j (sb-1) (by omega) (by omega) (by omega)) (b2 v cv2 hv)
    ·rw[<-ej];exact s2 j v j1 (by omega) hv
   ·obtain⟨p',_,gp',ep',_⟩:=mid v (by omega) (by omega);rw[ep'];by_cases ceq:u=v
    ·subst ceq;rw[gp]at gp';cases gp';exact Int.le_refl _
    ·obtain⟨q1,q2⟩:=List.getElem?_eq_some_iff.mp gp;obtain⟨q3,q4⟩:=List.getElem?_eq_some_iff.mp gp';have:=List.pairwise_iff_getElem.mp hr.2 _ _ q1 q3 (by omega);rw[q2,q4]at this;exact this
section
variable{prog:Program}{w:World}{A:Around}{E:Value->Shared->Prop}{s:Shared}{a₀:Array Keyed}
theorem wpS_set{st st':SortSt}{Q:PUnit->SortSt->Prop}(h:Q ⟨⟩ st'):wpS (model prog w) A E s (set st':StateT SortSt Sem PUnit) Q st:=by
 unfold wpS;rw[StateT.run_set];exact wpAny_pure ⟨rfl,h⟩
def Merged(a₀:Array Keyed)(st:SortSt)(i sa na pw sb nb:Nat)(st':SortSt):Prop :=
 SB a₀ st'/\pendingOf st'=((pendingOf st).setIfInBounds i (sa,na+nb,pw)).eraseIdxIfInBounds (i+1)/\zJ (arrOf st') sa (sb+nb)/\ ∀j,(j<sa\/sb+nb<=j)->K (arrOf st') j=K (arrOf st) j
theorem wpS_mergeAt{st:SortSt}{Q:Bool->SortSt->Prop}{i sa na pw sb nb pw2:Nat}(h0:IntKeys a₀)(hB:SB a₀ st)(e1:(pendingOf st)[i]? =some (sa,na,pw))(e2:(pendingOf st)[i+1]? =some (sb,nb,pw2))(hsb:sb=sa+na)(hna:1<=na)(hnb:1<=nb)(hz:sb+nb<=a₀.size)(s1:zJ (arrOf st) sa sb)(s2:zJ (arrOf st) sb (sb+nb))(h:∀st',Merged a₀ st i sa na pw sb nb st'->Q true st'):wpS (model prog w) A E s (mergeAt' i) Q st:=by
 refine wpS_bind (wpS_get ?_);have hsz:=hB.size;have ka:=hB.ints h0;rw[e1,e2];refine wpS_bind (wpS_set ?_);have ga:∀i (z:i<(arrOf st).size),(arrOf st)[i]? =some (arrOf st)[i]/\IntK (arrOf st)[i]:=fun i z=>⟨getElem?_pos (arrOf st) i z,ka _ (by simp)⟩;have l1:sb<(arrOf st).size:=by omega
 have q1:sa+na<=(arrOf st).size:=by omega
 have q2:sb+nb<=(arrOf st).size:=by omega
 refine wpS_bind (zL (ga sb l1).1 (wpS_bind (wpS_gallop hB.kind (ga sb l1).2 ka q1 (by omega) (bey_monoS q1 (by rw[<-hsb];exact s1)) fun k lk b1 b2=>?_)));dsimp only;have c1:∀j,sa<=j->j<sa+k->K (arrOf st) j<=K (arrOf st) sb:=fun j j1 j2=>by
  have hj:j<(arrOf st).size:=by omega
  rw[K_at (ga j hj).1,K_at (ga sb l1).1];exact bey_true (b1 (j-sa) (by omega)) (by rw[show sa+(j-sa)=j by omega];exact(ga j hj).1)
 by_cases hn:na-k=0
 ·rw[if_pos (beq_iff_eq.mpr hn)];refine wpS_pure (h _ ⟨⟨hB.perm,hB.kind,hB.failed⟩,rfl,?_,fun _ _=>rfl⟩);intro u v hu huv hv;by_cases cv:v<sb
  ·exact s1 u v hu huv cv
  ·by_cases cu:u<sb
   ·exact Int.le_trans (c1 u hu (by omega)) (s2 sb v (le_refl _) (by omega) hv)
   ·exact s2 u v (by omega) huv hv
 rw[if_neg (fun z=>hn (beq_iff_eq.mp z))];have l2:sa+k+(na-k)-1<(arrOf st).size:=by omega
 have el:sa+k+(na-k)-1=sb-1:=by omega
 refine wpS_bind (zL (ga _ l2).1 (wpS_bind (wpS_gallop hB.kind (ga _ l2).2 ka q2 (by omega) (bey_monoS q2 s2) fun m lm d1 d2=>?_)));dsimp only;have c2:∀j,sb+m<=j->j<sb+nb->K (arrOf st) (sb-1)<=K (arrOf st) j:=fun j j1 j2=>by
  have hj:j<(arrOf st).size:=by omega
  rw[<-el,K_at (ga _ l2).1,K_at (ga j hj).1];exact bey_false (d2 (j-sb) (by omega) (by omega)) (by rw[show sb+(j-sb)=j by omega];exact(ga j hj).1)
 by_cases hm:m=0
 ·rw[if_pos (beq_iff_eq.mpr hm)];refine wpS_pure (h _ ⟨⟨hB.perm,hB.kind,hB.failed⟩,rfl,?_,fun _ _=>rfl⟩);intro u v hu huv hv;by_cases cv:v<sb
  ·exact s1 u v hu huv cv
  ·by_cases cu:u<sb
   ·exact Int.le_trans (s1 u (sb-1) hu (by omega) (by omega)) (c2 v (by omega) hv)
   ·exact s2 u v (by omega) huv hv
 rw[if_neg (fun z=>hm (beq_iff_eq.mp z))];have kx:∀p∈((arrOf st).extract (sa+k) sb).toList,IntK p:=fun p hp=>by
  obtain⟨j,_,_,ej⟩:=ext_mem (by omega) hp;obtain⟨q1,q2⟩:=Array.getElem?_eq_some_iff.mp ej;rw[<-q2];exact(ga j q1).2
 have ky:∀p∈((arrOf st).extract sb (sb+m)).toList,IntK p:=fun p hp=>by
  obtain⟨j,_,_,ej⟩:=ext_mem (by omega) hp;obtain⟨q1,q2⟩:=Array.getElem?_eq_some_iff.mp ej;rw[<-q2];exact(ga j q1).2
 have sx:=ext_srt (a:=arrOf st) (i:=sa+k) (j:=sb) (by omega) (fun u v h1 h2 h3=>s1 u v (by omega) h2 h3);have sy:=ext_srt (a:=arrOf st) (i:=sb) (j:=sb+m) (by omega) (fun u v h1 h2 h3=>s2 u v h1 h2 (by omega));have zx:((arrOf st).extract (sa+k) sb).size=sb-(sa+k):=ext_size (by omega);have zy:((arrOf st).extract sb (sb+m)).size=m:=by rw[ext_size (by omega)];omega
 have p1:∀x,((arrOf st).extract sb (sb+m))[0]? =some x-> ∀y∈((arrOf st).extract (sa+k) sb).toList,Le x y:=fun x ex y hy=>by
  rw[ext_at (by omega) (by omega),Nat.add_zero,(ga sb l1).1]at ex;cases ex;obtain⟨j,j1,j2,ej⟩:=ext_mem (by omega) hy;exact bey_false (b2 (j-sa) (by omega) (by omega)) (by rw[show sa+(j-sa)=j by omega];exact ej)
 have p2:∀x,((arrOf st).extract (sa+k) sb)[((arrOf st).extract (sa+k) sb).size-1]? =some x-> ∀y∈((arrOf st).extract sb (sb+m)).toList,Le y x:=fun x ex y hy=>by
  rw[zx,ext_at (by omega) (by omega),show sa+k+(sb-(sa+k)-1)=sa+k+(na-k)-1 by omega,(ga _ l2).1]at ex;cases ex;obtain⟨j,j1,j2,ej⟩:=ext_mem (by omega) hy;exact bey_true (d1 (j-sb) (by omega)) (by rw[show sb+(j-sb)=j by omega];exact ej)
 have fin:∀(r:Array Keyed)(st':SortSt),Mgd Le ((arrOf st).extract (sa+k) sb).toList ((arrOf st).extract sb (sb+m)).toList r.toList->
   SameS (SortSt.mk' (kindOf st) (arrOf st) (((pendingOf st).setIfInBounds i (sa,na+nb,pw)).eraseIdxIfInBounds (i+1)) (gallopOf st) (failedOf st)) st'->
   Merged a₀ st i sa na pw sb nb (SortSt.mk' (kindOf st') (layIn (arrOf st') (sa+k) (r.toList.zipIdx 0)) (pendingOf st') (gallopOf st') (failedOf st')):=fun r st' hr S=>by
  have lr:r.toList.length=sb+m-(sa+k):=by
   rw[hr.1.length_eq,length_append,Array.length_toList,Array.length_toList,zx,zy];omega
  have ea:arrOf st'=arrOf st:=S.arr;have hz2:=layIn_at (sa+k) r.toList 0 (arrOf st) (by omega);refine⟨⟨?_,S.kind.trans hB.kind,S.failed.trans hB.failed⟩,S.pend,?_,fun j hj=>?_⟩
  ·show(layIn (arrOf st') (sa+k) (r.toList.zipIdx 0)).Perm a₀;rw[ea];refine(layIn_perm (by omega) (hr.1.trans ?_)).trans hB.perm;rw[lr,<-ext_mid,show sa+k+(sb+m-(sa+k))=sb+m by omega];have:((arrOf st).extract (sa+k) sb).toList++((arrOf st).extract sb (sb+m)).toList=((arrOf st).extract (sa+k) (sb+m)).toList:=by
    rw[<-Array.toList_append,Array.extract_append_extract];congr 2 <;>omega
   rw[this]
  ·show zJ (layIn (arrOf st') (sa+k) (r.toList.zipIdx 0)) sa (sb+nb);rw[ea];refine mid_sorted (r:=r.toList) (by omega) (by omega) (by omega) (by omega) s1 s2 c1 c2 hr fun u=>?_;have:=hz2 u;rw[Nat.add_zero]at this;exact this
  ·show K (layIn (arrOf st') (sa+k) (r.toList.zipIdx 0)) j=_;rw[ea];refine K_congr ?_;rw[hz2 j,if_neg (by omega)]
 have z1:1<=((arrOf st).extract (sa+k) sb).size:=by omega
 have z2:1<=((arrOf st).extract sb (sb+m)).size:=by omega
 by_cases hle:na-k<=m
 ·rw[if_pos hle];refine wpS_bind (wpS_mergeLo hB.kind kx ky sx sy z1 z2 p1 p2 fun r st' hr S=>?_);refine wpS_bind (wpS_modify (wpS_bind (wpS_get ?_)));have hM:=fin r st' hr S;have hQ:=h _ hM;have ht:(failedOf st').isNone=true:=by rw[S.failed.trans hB.failed];rfl
  rw[<-ht]at hQ;exact wpS_pure hQ
 ·rw[if_neg hle];refine wpS_bind (wpS_mergeHi hB.kind kx ky sx sy z1 z2 p1 p2 fun r st' hr S=>?_);refine wpS_bind (wpS_modify (wpS_bind (wpS_get ?_)));have hM:=fin r st' hr S;have hQ:=h _ hM;have ht:(failedOf st').isNone=true:=by rw[S.failed.trans hB.failed];rfl
  rw[<-ht]at hQ;exact wpS_pure hQ
end
structure Went(a₀:Array Keyed)(st:SortSt)(lo hi:Nat)(st':SortSt):Prop where
 base:SB a₀ st'
 pend:pendingOf st'=pendingOf st
 out:∀j,(j<lo\/hi<=j)->K (arrOf st') j=K (arrOf st) j
theorem Went.refl{a₀:Array Keyed}{st:SortSt}{lo hi:Nat}(h:SB a₀ st):Went a₀ st lo hi st:=⟨h,rfl,fun _ _=>rfl⟩
theorem Went.trans{a₀:Array Keyed}{st st1 st2:SortSt}{lo hi:Nat}(h:Went a₀ st lo hi st1)(h':Went a₀ st1 lo hi st2):Went a₀ st lo hi st2 :=
 ⟨h'.base,h'.pend.trans h.pend,fun j hj=>(h'.out j hj).trans (h.out j hj)⟩
def FallOn(xs:Array Keyed)(i j:Nat):Prop:=∀ u v,i<=u->u<=v->v<j->K xs v<=K xs u
theorem FallOn.eq{xs ys:Array Keyed}{i j:Nat}(h:FallOn xs i j)(e:∀k,K ys k=K xs k):FallOn ys i j:=fun u v a b c=>by rw[e,e];exact h u v a b c
theorem FallOn.snoc{xs:Array Keyed}{i j:Nat}(h:FallOn xs i j)(hij:i<j)(e:K xs j<=K xs (j-1)):FallOn xs i (j+1):=fun u v a b c=>by
 by_cases cv:v<j
 ·exact h u v a b cv
 ·obtain rfl:v=j:=by omega
  by_cases cu:u=v
  ·subst cu;exact Int.le_refl _
  ·exact Int.le_trans e (h u (v-1) a (by omega) (by omega))
section
variable{prog:Program}{w:World}{A:Around}{E:Value->Shared->Prop}{s:Shared}{a₀:Array Keyed}
theorem wpS_ltB{st:SortSt}{i j:Nat}{Q:Option Bool->SortSt->Prop}(hB:SB a₀ st)(h0:PyProof.Rows.IntKeys a₀)(hi:i<a₀.size)(hj:j<a₀.size)(h:Q (some (decide (K (arrOf st) i<K (arrOf st) j))) st):wpS (model prog w) A E s (ltAt' i j) Q st:=by
 have hz:=hB.size;have e1:(arrOf st)[i]? =some ((arrOf st)[i]'(by omega)):=getElem?_pos (arrOf st) i (by omega);have e2:(arrOf st)[j]? =some ((arrOf st)[j]'(by omega)):=getElem?_pos (arrOf st) j (by omega);rw[K_at e1,K_at e2]at h;refine wpS_bind (wpS_get ?_);exact wpS_bind (zL e1 (wpS_bind (zL e2 (wpS_lt hB.kind (hB.ints h0 _ (by simp)) (hB.ints h0 _ (by simp)) h))))
theorem wpS_rev{st:SortSt}{i j:Nat}{Q:Unit->SortSt->Prop}(hB:SB a₀ st)(hj:j<=a₀.size)(h:∀st',SB a₀ st'->pendingOf st'=pendingOf st->(∀k,K (arrOf st') k=if i<=k/\k<j then K (arrOf st) (i+j-1-k)else K (arrOf st) k)->Q () st') :
  wpS (model prog w) A E s (reverseSlice' i j) Q st:=by
 refine wpS_modify (h _ ⟨(mirror_perm _ _ _ _).trans hB.perm,hB.kind,hB.failed⟩ rfl fun k=>?_);exact(K_mirror (by rw[hB.size];exact hj) k)
theorem wpS_count{st:SortSt}{lo nrem:Nat}{Q:Option Nat->SortSt->Prop}(h0:PyProof.Rows.IntKeys a₀)(hn:lo+nrem<=a₀.size)(h1:1<=nrem)(hB:SB a₀ st)(h:∀m st',Went a₀ st lo (lo+nrem) st'->1<=m->m<=nrem->zJ (arrOf st') lo (lo+m)->Q (some m) st') :
  wpS (model prog w) A E s (countRun' lo nrem) Q st:=by
 have asc:∀(f:Nat->Option (Option Nat)×Nat->StateT SortSt Sem (ForInStep (Option (Option Nat)×Nat)))(st1:SortSt)(n:Nat),1<=n->n<=nrem->SB a₀ st1->zJ (arrOf st1) lo (lo+n)->
   (∀x m,1<=m->m<nrem-> ∀Q',Q' (if K (arrOf st1) (lo+m)<K (arrOf st1) (lo+m-1)then ForInStep.done (none,m)else ForInStep.yield (none,m+1)) st1->wpS (model prog w) A E s (f x (none,m)) Q' st1)->
   wpS (model prog w) A E s (forIn [n:nrem] (none,n) f) (fun c st'=>st'=st1/\ ∃m,c=(none,m)/\n<=m/\m<=nrem/\zJ (arrOf st1) lo (lo+m)/\(m=nrem\/K (arrOf st1) (lo+m)<K (arrOf st1) (lo+m-1))) st1:=by
  intro f st1 n n1 n2 B1 hs hf;refine wpS_forRange (I:=fun x c st'=>st'=st1/\c=(none,x)/\zJ (arrOf st1) lo (lo+x)) ?_ ?_ ⟨rfl,rfl,hs⟩
  ·rintro x c st' x1 x2 ⟨rfl,rfl,hs'⟩;refine hf x x (by omega) x2 _ ?_;by_cases hl:K (arrOf st') (lo+x)<K (arrOf st') (lo+x-1)
   ·rw[if_pos hl];exact⟨rfl,x,rfl,x1,by omega,hs',.inr hl⟩
   ·rw[if_neg hl];refine⟨rfl,rfl,fun u v u1 uv v1=>?_⟩;by_cases c:v<lo+x
    ·exact hs' u v u1 uv c
    ·obtain rfl:v=lo+x:=by omega
     by_cases e:u=lo+x
     ·subst e;exact Int.le_refl _
     ·exact Int.le_trans (hs' u (lo+x-1) u1 (by omega) (by omega)) (Int.not_lt.mp hl)
  ·rintro c st' ⟨rfl,rfl,hs'⟩;rw[show max n nrem=nrem by omega]at hs' ⊢;exact⟨rfl,nrem,rfl,n2,le_refl _,hs',.inl rfl⟩
 refine wpS_bind (wpS_mono (asc _ st 1 (le_refl _) h1 hB ?_ ?_) ?_)
 ·intro u v u1 uv v1;obtain rfl:u=v:=by omega
  exact Int.le_refl _
 ·intro x m m1 m2 Q' q;refine wpS_bind (wpS_ltB hB h0 (by omega) (by omega) ?_);dsimp only;by_cases hl:K (arrOf st) (lo+m)<K (arrOf st) (lo+m-1)
  ·rw[if_pos hl]at q;rw[if_pos (decide_eq_true hl)];exact wpS_pure q
  ·rw[if_neg hl]at q;rw[if_neg (fun z=>hl (of_decide_eq_true z))];exact wpS_pure q
 ·rintro c st' ⟨rfl,n,rfl,n1,n2,hs,hor⟩;dsimp only;by_cases hnn:n=nrem
  ·rw[if_pos (beq_iff_eq.mpr hnn)];exact wpS_pure (h n _ (.refl hB) n1 n2 hs)
  rw[if_neg (fun z=>hnn (beq_iff_eq.mp z))];have hlt:=hor.resolve_left hnn;refine(fun(J1:∀st1:SortSt,Went a₀ st' lo (lo+nrem) st1->FallOn (arrOf st1) lo (lo+(n+1))->(?B1:SortSt->Prop) st1)=>?main1) ?pf1
  case main1 =>
   by_cases hgt:n>1
   ·rw[if_pos hgt];refine wpS_bind (wpS_ltB hB h0 (by omega) (by omega) ?_);dsimp only;by_cases hrose:K (arrOf st') lo<K (arrOf st') (lo+n-1)
    ·rw[if_pos (decide_eq_true hrose)];exact wpS_pure (h n _ (.refl hB) n1 n2 hs)
    rw[if_neg (fun z=>hrose (of_decide_eq_true z))];refine wpS_bind (wpS_rev hB (by omega) fun st1 B1 P1 k1=>?_);have all:∀k,lo<=k->k<lo+n->K (arrOf st') k=K (arrOf st') lo:=fun k q1 q2=>by
     have a1:=hs lo k (le_refl _) q1 q2;have a2:=hs k (lo+n-1) q1 (by omega) (by omega);omega
    have kk:∀k,K (arrOf st1) k=K (arrOf st') k:=fun k=>by
     rw[k1 k];by_cases c:lo<=k/\k<lo+n
     ·rw[if_pos c,all _ (by omega) (by omega),all k c.1 c.2]
     ·rw[if_neg c]
    have W1:Went a₀ st' lo (lo+nrem) st1:=⟨B1,P1,fun j _=>kk j⟩;have N1:FallOn (arrOf st1) lo (lo+(n+1)):=by
     refine FallOn.eq ?_ kk;exact FallOn.snoc (j:=lo+n) (fun u v a b c=>by rw[all u a (by omega),all v (by omega) c];exact Int.le_refl _) (by omega) (le_of_lt hlt)
    exact J1 st1 W1 N1
   ·rw[if_neg hgt];have W1:Went a₀ st' lo (lo+nrem) st':=.refl hB;have N1:FallOn (arrOf st') lo (lo+(n+1)):=by
     exact FallOn.snoc (j:=lo+n) (fun u v a b c=>by
      obtain rfl:u=v:=by omega
      exact Int.le_refl _) (by omega) (le_of_lt hlt)
    exact J1 st' W1 N1
  intro st1 W1 N1;refine wpS_bind (wpS_lift (wpAny_rule ⟨rfl,?_⟩));refine wpS_bind (wpS_mono (wpS_forRange (I:=fun x c st2=>∃ neq,c=(none,x,neq)/\Went a₀ st' lo (lo+nrem) st2/\FallOn (arrOf st2) lo (lo+x)/\neq+1<=x/\ ∀i,lo+x-(neq+1)<=i->i<lo+x->K (arrOf st2) i=K (arrOf st2) (lo+x-1))
   (Q:=fun c st2=>∃ x neq,c=(none,x,neq)/\1<=x/\x<=nrem/\Went a₀ st' lo (lo+nrem) st2/\FallOn (arrOf st2) lo (lo+x)/\neq+1<=x/\ ∀i,lo+x-(neq+1)<=i->i<lo+x->K (arrOf st2) i=K (arrOf st2) (lo+x-1)) ?dstep ?dfin ⟨0,rfl,W1,N1,by omega,fun i q1 q2=>by congr 1;omega⟩) ?dpost)
  case dfin =>
   rintro c st2 ⟨neq,rfl,W2,N2,q1,q2⟩;rw[show max (n+1) nrem=nrem by omega]at N2 q1 q2 ⊢;exact⟨nrem,neq,rfl,h1,le_refl _,W2,N2,q1,q2⟩
  case dstep =>
   rintro x c st2 x1 x2 ⟨neq,rfl,W2,N2,q1,q2⟩;dsimp only;refine wpS_bind (wpS_ltB W2.base h0 (by omega) (by omega) ?_);dsimp only;by_cases hl:K (arrOf st2) (lo+x)<K (arrOf st2) (lo+x-1)
   ·rw[if_pos (decide_eq_true hl)];have N3:=N2.snoc (by omega) (le_of_lt hl);by_cases hq:neq>0
    ·rw[if_pos hq];refine wpS_bind (wpS_rev W2.base (by omega) fun st3 B3 P3 k3=>?_);have kk:∀k,K (arrOf st3) k=K (arrOf st2) k:=fun k=>by
      rw[k3 k];by_cases c:lo+x-(neq+1)<=k/\k<lo+x
      ·rw[if_pos c,q2 _ (by omega) (by omega),q2 k c.1 c.2]
      ·rw[if_neg c]
     exact wpS_pure ⟨0,rfl,W2.trans ⟨B3,P3,fun j _=>kk j⟩,N3.eq kk,by omega,fun i z1 z2=>by congr 1;omega⟩
    ·rw[if_neg hq];exact wpS_pure ⟨0,rfl,W2,N3,by omega,fun i z1 z2=>by congr 1;omega⟩
   ·rw[if_neg (fun z=>hl (of_decide_eq_true z))];refine wpS_bind (wpS_ltB W2.base h0 (by omega) (by omega) ?_);dsimp only;by_cases hg:K (arrOf st2) (lo+x-1)<K (arrOf st2) (lo+x)
    ·rw[if_pos (decide_eq_true hg)];exact wpS_pure ⟨x,neq,rfl,by omega,by omega,W2,N2,q1,q2⟩
    ·rw[if_neg (fun z=>hg (of_decide_eq_true z))];have he:K (arrOf st2) (lo+x)=K (arrOf st2) (lo+x-1):=by omega
     refine wpS_pure ⟨neq+1,rfl,W2,N2.snoc (by omega) (by omega),by omega,fun i z1 z2=>?_⟩;rw[show lo+(x+1)-1=lo+x by omega];by_cases c:i=lo+x
     ·rw[c]
     ·rw[he];exact q2 i (by omega) (by omega)
  case dpost =>
   rintro c st2 ⟨x,neq,rfl,x1,x2,W2,N2,q1,q2⟩;dsimp only;refine(fun(J2:∀st3:SortSt,Went a₀ st' lo (lo+nrem) st3->FallOn (arrOf st3) lo (lo+x)->(?B2:SortSt->Prop) st3)=>?main2) ?pf2
   case main2 =>
    by_cases hq:neq>0
    ·rw[if_pos hq];refine wpS_bind (wpS_rev W2.base (by omega) fun st3 B3 P3 k3=>?_);have kk:∀k,K (arrOf st3) k=K (arrOf st2) k:=fun k=>by
      rw[k3 k];by_cases c:lo+x-(neq+1)<=k/\k<lo+x
      ·rw[if_pos c,q2 _ (by omega) (by omega),q2 k c.1 c.2]
      ·rw[if_neg c]
     have W3:=W2.trans ⟨B3,P3,fun j _=>kk j⟩;have N3:=N2.eq kk;exact J2 st3 W3 N3
    ·rw[if_neg hq];have W3:=W2;have N3:=N2;exact J2 st2 W3 N3
   intro st3 W3 N3;refine wpS_bind (wpS_rev W3.base (by omega) fun st4 B4 P4 k4=>?_);have W4:=W3.trans ⟨B4,P4,fun j hj=>by rw[k4 j,if_neg (by omega)]⟩;refine wpS_bind (wpS_mono (asc _ st4 x x1 x2 B4 ?_ ?_) ?_)
   ·intro u v u1 uv v1;rw[k4,k4,if_pos (by omega),if_pos (by omega)];exact N3 _ _ (by omega) (by omega) (by omega)
   ·intro y m m1 m2 Q' q;refine wpS_bind (wpS_ltB B4 h0 (by omega) (by omega) ?_);dsimp only;by_cases hl:K (arrOf st4) (lo+m)<K (arrOf st4) (lo+m-1)
    ·rw[if_pos hl]at q;rw[if_pos (decide_eq_true hl)];exact wpS_pure q
    ·rw[if_neg hl]at q;rw[if_neg (fun z=>hl (of_decide_eq_true z))];exact wpS_pure q
   ·rintro c st5 ⟨rfl,m,rfl,m1,m2,hs5,_⟩;exact wpS_pure (h m _ W4 (by omega) m2 hs5)
theorem wpS_binary{st:SortSt}{lo n ok:Nat}{Q:Bool->SortSt->Prop}(h0:PyProof.Rows.IntKeys a₀)(hn:lo+n<=a₀.size)(hok:ok<=n)(hok1:1<=ok)(hB:SB a₀ st)(hs:zJ (arrOf st) lo (lo+ok))(h:∀st',Went a₀ st lo (lo+n) st'->zJ (arrOf st') lo (lo+n)->Q true st'):wpS (model prog w) A E s (binarySort' lo n ok) Q st:=by
 refine wpS_bind (wpS_mono (wpS_forRange (I:=fun k c st'=>c=(none,())/\Went a₀ st lo (lo+n) st'/\zJ (arrOf st') lo (lo+k))
  (Q:=fun c st'=>c=(none,())/\Went a₀ st lo (lo+n) st'/\zJ (arrOf st') lo (lo+n)) ?step ?fin ⟨rfl,.refl hB,by rw[show max ok 1=ok by omega];exact hs⟩) ?post)
 case post =>
  rintro c st' ⟨rfl,W0,hs'⟩;exact wpS_pure (h st' W0 hs')
 case fin =>
  rintro c st' ⟨hc,W0,hs'⟩;refine⟨hc,W0,?_⟩
  rwa [show max (max ok 1) n=n by omega]at hs'
 case step =>
  rintro k c st' hak hkn ⟨rfl,W0,hs'⟩;dsimp only;refine wpS_bind (wpS_mono (wpS_forRange (I:=fun x c st''=>st''=st'/\ ∃l r,c=(none,l,r)/\l<=r/\r<=k/\r-l<=k-x/\
    (∀i,i<l->K (arrOf st') (lo+i)<=K (arrOf st') (lo+k))/\(∀i,r<=i->i<k->K (arrOf st') (lo+k)<K (arrOf st') (lo+i)))
   (Q:=fun c st''=>st''=st'/\ ∃l,c=(none,l,l)/\l<=k/\
    (∀i,i<l->K (arrOf st') (lo+i)<=K (arrOf st') (lo+k))/\(∀i,l<=i->i<k->K (arrOf st') (lo+k)<K (arrOf st') (lo+i))) ?istep ?ifin
    ⟨rfl,0,k,rfl,by omega,by omega,by omega,fun i hi=>by omega,fun i h1 h2=>by omega⟩) ?ipost)
  case ifin =>
   rintro c st'' ⟨rfl,l,r,rfl,a1,a2,a3,a4,a5⟩;obtain rfl:l=r:=by omega
   exact⟨rfl,l,rfl,a2,a4,a5⟩
  case istep =>
   rintro x c st'' _ hx ⟨rfl,l,r,rfl,a1,a2,a3,a4,a5⟩;dsimp only;by_cases hge:l>=r
   ·rw[if_pos hge];obtain rfl:l=r:=by omega
    exact wpS_pure ⟨rfl,l,rfl,a2,a4,a5⟩
   rw[if_neg hge];refine wpS_bind (wpS_ltB W0.base h0 (by omega) (by omega) ?_);dsimp only;by_cases hl:K (arrOf st'') (lo+k)<K (arrOf st'') (lo+(l+r) / 2)
   ·rw[if_pos (decide_eq_true hl)];exact wpS_pure ⟨rfl,l,(l+r) / 2,rfl,by omega,by omega,by omega,a4,fun i h1 h2=>Int.lt_of_lt_of_le hl (hs' _ _ (by omega) (by omega) (by omega))⟩
   ·rw[if_neg (fun z=>hl (of_decide_eq_true z))];exact wpS_pure ⟨rfl,(l+r) / 2+1,r,rfl,by omega,by omega,by omega,fun i h1=>Int.le_trans (hs' _ (lo+(l+r) / 2) (by omega) (by omega) (by omega)) (Int.not_lt.mp hl),a5⟩
  case ipost =>
   rintro c st'' ⟨rfl,l,rfl,a2,a4,a5⟩;dsimp only;have hks:lo+k<(arrOf st'').size:=by rw[W0.base.size];omega
   have kb:=fun j=>K_bubble (xs:=arrOf st'') (src:=lo+k) (d:=lo+k-(lo+l)) hks (by omega) j;rw[show lo+k-(lo+k-(lo+l))=lo+l by omega]at kb;refine wpS_bind (wpS_modify (wpS_pure ⟨rfl,W0.trans ⟨⟨(bubble_perm _ _ _).trans W0.base.perm,W0.base.kind,W0.base.failed⟩,rfl,fun j hj=>?_⟩,?_⟩))
   ·refine(kb j).trans ?_;rw[if_neg (by omega),if_neg (by omega)]
   ·intro u v u1 uv v1;show K (bubble (arrOf st'') (lo+k) (lo+k-(lo+l))) u<=K (bubble (arrOf st'') (lo+k) (lo+k-(lo+l))) v;have lo1:∀j,lo<=j->j<lo+l->K (arrOf st'') j<=K (arrOf st'') (lo+k):=fun j j1 j2=>by
     have:=a4 (j-lo) (by omega)
     rwa [show lo+(j-lo)=j by omega]at this
    have hi1:∀j,lo+l<=j->j<lo+k->K (arrOf st'') (lo+k)<K (arrOf st'') j:=fun j j1 j2=>by
     have:=a5 (j-lo) (by omega) (by omega)
     rwa [show lo+(j-lo)=j by omega]at this
    rw[kb,kb]
    repeat' split
    all_goals first
     |(exfalso;omega)
     |exact Int.le_refl _
     |exact lo1 _ (by omega) (by omega)
     |exact le_of_lt (hi1 _ (by omega) (by omega))
     |exact hs' _ _ (by omega) (by omega) (by omega)
end
def Cvr(xs:Array Keyed):Nat->List (Nat×Nat×Nat)->Nat->Prop
 |s,[],e=>s=e
 |s,t::p,e=>t.1=s/\1<=t.2.1/\zJ xs s (s+t.2.1)/\Cvr xs (s+t.2.1) p e
theorem Cvr.append{xs:Array Keyed}:∀{l r:List (Nat×Nat×Nat)}{s e:Nat},Cvr xs s (l++r) e-> ∃m,Cvr xs s l m/\Cvr xs m r e
 | [],r,s,e,h=>⟨s,rfl,h⟩
 |t::l,r,s,e,⟨h1,h2,h3,h4⟩=>by
  obtain⟨m,a,b⟩:=Cvr.append h4;exact⟨m,⟨h1,h2,h3,a⟩,b⟩
theorem Cvr.join{xs:Array Keyed}:∀{l r:List (Nat×Nat×Nat)}{s m e:Nat},Cvr xs s l m->Cvr xs m r e->Cvr xs s (l++r) e
 | [],r,s,m,e,h,h'=>by
  have:s=m:=h;subst this;exact h'
 |t::l,r,s,m,e,⟨h1,h2,h3,h4⟩,h'=>⟨h1,h2,h3,Cvr.join h4 h'⟩
theorem Cvr.le{xs:Array Keyed}:∀{l:List (Nat×Nat×Nat)}{s e:Nat},Cvr xs s l e->s+l.length<=e
 | [],s,e,h=>by
  have:s=e:=h;subst this;simp
 |t::l,s,e,⟨h1,h2,h3,h4⟩=>by
  have:=Cvr.le h4;rw[length_cons];omega
theorem Cvr.congr{xs ys:Array Keyed}:∀{l:List (Nat×Nat×Nat)}{s e:Nat},(∀j,s<=j->j<e->K ys j=K xs j)->Cvr xs s l e->Cvr ys s l e
 | [],s,e,_,h=>h
 |t::l,s,e,hk,⟨h1,h2,h3,h4⟩=>by
  have:=Cvr.le h4;refine⟨h1,h2,fun u v a b c=>?_,Cvr.congr (fun j j1 j2=>hk j (by omega) j2) h4⟩;rw[hk u a (by omega),hk v (by omega) (by omega)];exact h3 u v a b c
theorem Cvr.same{xs:Array Keyed}:∀{l r:List (Nat×Nat×Nat)}{s e:Nat},l.map (fun t=>(t.1,t.2.1))=r.map (fun t=>(t.1,t.2.1))->Cvr xs s l e->Cvr xs s r e
 | [],[],s,e,_,h=>h
 | [],_::_,s,e,q,h=>by cases q
 | _::_,[],s,e,q,h=>by cases q
 |t::l,t'::r,s,e,q,⟨h1,h2,h3,h4⟩=>by
  simp only[map_cons,List.cons.injEq,Prod.mk.injEq]at q;obtain⟨⟨q1,q2⟩,q3⟩:=q;refine⟨by rw[<-q1];exact h1,by rw[<-q2];exact h2,by rw[<-q2];exact h3,?_⟩;rw[<-q2];exact Cvr.same q3 h4
theorem modify_same{α β:Type}{g:α-> β}(f:α-> α)(h:∀x,g (f x)=g x):∀(l:List α)(i:Nat),(l.modify i f).map g=l.map g
 | [],_=>by simp
 |x::l,0=>by simp[h]
 |x::l,i+1=>by simp[modify_same f h l i]
theorem ite_less(c:Prop)[Decidable c](n:Nat):(if c then n-2-1 else n-2)<=n-2:=by split <;>omega
theorem set_erase(l r:List (Nat×Nat×Nat))(a b c:Nat×Nat×Nat):((l++a::b::r).set l.length c).eraseIdx (l.length+1)=l++c::r:=by
 induction l with
 |nil=>rfl
 |cons x l ih=>simpa using ih
theorem two_of{p:List (Nat×Nat×Nat)}{i:Nat}(h:i+1<p.length):∃l a b r,p=l++a::b::r/\l.length=i:=by
 refine⟨p.take i,p[i],p[i+1],p.drop (i+2),?_,by simp;omega⟩;rw[<-List.drop_eq_getElem_cons (i:=i+1) h,<-List.drop_eq_getElem_cons (i:=i) (by omega),List.take_append_drop]
section
variable{prog:Program}{w:World}{A:Around}{E:Value->Shared->Prop}{s:Shared}{a₀:Array Keyed}
theorem wpS_mergeC{st:SortSt}{Q:Bool->SortSt->Prop}{i e:Nat}(h0:PyProof.Rows.IntKeys a₀)(hB:SB a₀ st)(hc:Cvr (arrOf st) 0 (pendingOf st).toList e)(he:e<=a₀.size)(hi:i+1<(pendingOf st).size)(h:∀st',SB a₀ st'->Cvr (arrOf st') 0 (pendingOf st').toList e->(pendingOf st').size+1=(pendingOf st).size->(∀j,e<=j->K (arrOf st') j=K (arrOf st) j)->Q true st'):wpS (model prog w) A E s (mergeAt' i) Q st:=by
 obtain⟨l,ta,tb,r,ep,hl⟩:=two_of (p:=(pendingOf st).toList) (i:=i) (by simpa using hi);obtain⟨sa,na,pw⟩:=ta;obtain⟨sb,nb,pw2⟩:=tb;have hc0:=hc;rw[ep]at hc;obtain⟨m,c1,c2⟩:=hc.append;obtain⟨d1,d2,d3,d4,d5,d6,d7⟩:=c2;simp only at d1 d2 d3 d4 d5 d6 d7;have z:=d7.le;have e1:(pendingOf st)[i]? =some (sa,na,pw):=by
  rw[<-Array.getElem?_toList,ep,List.getElem?_append_right (by omega),hl,Nat.sub_self];rfl
 have e2:(pendingOf st)[i+1]? =some (sb,nb,pw2):=by
  rw[<-Array.getElem?_toList,ep,List.getElem?_append_right (by omega),hl,show i+1-i=1 by omega];rfl
 subst d1;refine wpS_mergeAt h0 hB e1 e2 d4 d2 d5 (by omega) (by rw[d4];exact d3) (by rw[d4];exact d6) fun st' ⟨B',P',S',K'⟩=>h st' B' ?_ ?_ (fun j hj=>K' j (.inr (by omega)))
 ·rw[P',Array.toList_eraseIdxIfInBounds,Array.toList_setIfInBounds,ep,<-hl,set_erase];refine Cvr.join (m:=sa) (c1.congr fun j j1 j2=>K' j (.inl j2)) ⟨rfl,le_trans d2 (Nat.le_add_right _ _),?_,?_⟩
  ·show zJ (arrOf st') sa (sa+(na+nb));rw[show sa+(na+nb)=sb+nb by omega];exact S'
  ·show Cvr (arrOf st') (sa+(na+nb)) r e;rw[show sa+(na+nb)=sa+na+nb by omega];exact d7.congr fun j j1 j2=>K' j (.inr (by omega))
 ·rw[<-Array.length_toList,P',Array.toList_eraseIdxIfInBounds,Array.toList_setIfInBounds,<-Array.length_toList (xs:=pendingOf st),ep,<-hl,set_erase];simp only[length_append,length_cons];omega
theorem wpS_runs{st:SortSt}{Q:Unit->SortSt->Prop}(h0:PyProof.Rows.IntKeys a₀)(hB:SBase a₀ st)(h2:2<=a₀.size)(h:∀st',(arrOf st').Perm a₀->failedOf st'=none->SortedTo (arrOf st') a₀.size->Q () st'):wpS (model prog w) A E s sortRuns' Q st:=by
 have B0:SB a₀ st:=⟨hB.perm,hB.kind,hB.failed⟩;refine wpS_bind (wpS_get ?_);have hsz:(arrOf st).size=a₀.size:=B0.size;dsimp only;rw[hsz];generalize hmr:(sortPriv%PySem.Builtin.minRun) a₀.size a₀.size 0=mr;refine wpS_bind (wpS_mono (wpS_forRange (I:=fun x c st'=>∃ lo,c=(none,lo)/\SB a₀ st'/\Cvr (arrOf st') 0 (pendingOf st').toList lo/\lo<=a₀.size/\(x<=lo\/lo=a₀.size))
  (Q:=fun c st'=>∃ lo,c=(none,lo)/\SB a₀ st'/\Cvr (arrOf st') 0 (pendingOf st').toList a₀.size) ?step ?fin ⟨0,rfl,B0,?_,by omega,.inl (le_refl _)⟩) ?post)
 case step =>
  rintro x c st' _ hx ⟨lo,rfl,B,C,l1,l2⟩;dsimp only;by_cases hge:lo>=a₀.size
  ·rw[if_pos hge];obtain rfl:lo=a₀.size:=by omega
   exact wpS_pure ⟨_,rfl,B,C⟩
  rw[if_neg hge];refine wpS_bind (wpS_count h0 (by omega) (by omega) B fun m st1 W1 m1 m2 S1=>?_);dsimp only;have C1:Cvr (arrOf st1) 0 (pendingOf st1).toList lo:=by
   rw[W1.pend];exact C.congr fun j _ j2=>W1.out j (.inl j2)
  by_cases hmm:m<mr
  case' pos =>
   rw[if_pos hmm];refine wpS_bind (wpS_lift (wpAny_rule ⟨rfl,?_⟩));refine wpS_bind (wpS_binary h0 (n:=min (a₀.size-lo) mr) (by omega) (by omega) m1 W1.base S1 fun st2 W2 S2=>?_);rw[if_neg (by decide)];have C2:Cvr (arrOf st2) 0 (pendingOf st2).toList lo:=by
    rw[W2.pend];exact C1.congr fun j _ j2=>W2.out j (.inl j2)
   have B2:=W2.base;have n1:1<=min (a₀.size-lo) mr:=by omega
   have n2:min (a₀.size-lo) mr<=a₀.size-lo:=by omega
   generalize min (a₀.size-lo) mr=n at S2 n1 n2 ⊢
  case' neg =>
   rw[if_neg hmm];have S2:=S1;have C2:=C1;have B2:=W1.base;have n1:=m1;have n2:=m2;generalize m=n at S2 n1 n2 ⊢
  all_goals
   refine wpS_bind (wpS_get ?_);have last:∀st3:SortSt,SB a₀ st3->Cvr (arrOf st3) 0 (pendingOf st3).toList lo->zJ (arrOf st3) lo (lo+n)->Cvr (arrOf st3) 0 ((pendingOf st3).push (lo,n,0)).toList (lo+n):=fun st3 B3 C3 S3=>by
    rw[Array.toList_push];exact C3.join ⟨rfl,n1,S3,rfl⟩
   have fin:∀st3:SortSt,SB a₀ st3->Cvr (arrOf st3) 0 (pendingOf st3).toList lo->zJ (arrOf st3) lo (lo+n)->
     ∃lo',(none,lo+n)=((none:Option Unit),lo')/\SB a₀ (SortSt.mk' (kindOf st3) (arrOf st3) ((pendingOf st3).push (lo,n,0)) (gallopOf st3) (failedOf st3))/\Cvr (arrOf st3) 0 ((pendingOf st3).push (lo,n,0)).toList lo'/\lo'<=a₀.size/\(x+1<=lo'\/lo'=a₀.size):=fun st3 B3 C3 S3 =>
    ⟨lo+n,rfl,⟨B3.perm,B3.kind,B3.failed⟩,last st3 B3 C3 S3,by omega,by omega⟩
   cases hb:(pendingOf _).back? with
   |none =>
    exact wpS_bind (wpS_modify (wpS_pure (fin _ B2 C2 S2)))
   |some t =>
    obtain⟨s1,k1,g1⟩:=t;dsimp only;refine wpS_bind (wpS_mono (wpS_forRange (I:=fun _ c st3=>c=((none:Option Unit),())/\SB a₀ st3/\Cvr (arrOf st3) 0 (pendingOf st3).toList lo/\zJ (arrOf st3) lo (lo+n))
     (Q:=fun c st3=>c=((none:Option Unit),())/\SB a₀ st3/\Cvr (arrOf st3) 0 (pendingOf st3).toList lo/\zJ (arrOf st3) lo (lo+n)) ?_ (fun _ _ q=>q) ⟨rfl,B2,C2,S2⟩) ?_)
    ·rintro y c st3 _ _ ⟨rfl,B3,C3,S3⟩;refine wpS_bind (wpS_get ?_);by_cases hp:(pendingOf st3).size>1
     ·rw[if_pos hp];have ep:(pendingOf st3)[(pendingOf st3).size-2]? =some ((pendingOf st3)[(pendingOf st3).size-2]'(by omega)):=getElem?_pos (pendingOf st3) _ (by omega);rw[ep];generalize(pendingOf st3)[(pendingOf st3).size-2]'(by omega)=t3;obtain⟨t31,t32,t33⟩:=t3;dsimp only;by_cases ho:t33<=(sortPriv%PySem.Builtin.power) a₀.size (2*s1+k1) (2*s1+k1+k1+n) a₀.size
      ·rw[if_pos ho];exact wpS_pure ⟨rfl,B3,C3,S3⟩
      ·rw[if_neg ho];have hp2:(pendingOf st3).size-2+1<(pendingOf st3).size:=by omega
       refine wpS_bind (wpS_mergeC h0 B3 C3 l1 hp2 fun st4 B4 C4 _ K4=>?_);rw[if_neg (by decide)];refine wpS_pure ⟨rfl,B4,C4,fun u v a b c=>?_⟩;rw[K4 u (by omega),K4 v (by omega)];exact S3 u v a b c
     ·rw[if_neg hp];exact wpS_pure ⟨rfl,B3,C3,S3⟩
    ·rintro c st3 ⟨rfl,B3,C3,S3⟩;dsimp only;refine wpS_bind (wpS_modify ?_);have B4:SB a₀ (SortSt.mk' (kindOf st3) (arrOf st3) ((pendingOf st3).modify ((pendingOf st3).size-1) fun x=>(x.1,x.2.1,(sortPriv%PySem.Builtin.power) a₀.size (2*s1+k1) (2*s1+k1+k1+n) a₀.size)) (gallopOf st3) (failedOf st3)):=⟨B3.perm,B3.kind,B3.failed⟩;refine wpS_bind (wpS_modify (wpS_pure (fin _ B4 ?_ S3)));refine Cvr.same ?_ C3;show _=((pendingOf st3).modify _ _).toList.map _;rw[Array.toList_modify];refine(modify_same (g:=fun t:Nat×Nat×Nat=>(t.1,t.2.1)) _ ?_ _ _).symm;exact fun _=>rfl
 case fin =>
  rintro c st' ⟨lo,rfl,B,C,l1,l2⟩;obtain rfl:lo=a₀.size:=by omega
  exact⟨_,rfl,B,C⟩
 case post =>
  rintro c st' ⟨lo,rfl,B,C⟩;dsimp only;have pz:=C.le;rw[Array.length_toList]at pz;refine wpS_bind (wpS_mono (wpS_forRange (I:=fun x c st2=>c=((none:Option Unit),())/\SB a₀ st2/\Cvr (arrOf st2) 0 (pendingOf st2).toList a₀.size/\((pendingOf st2).size<=1\/(pendingOf st2).size+x<=a₀.size))
   (Q:=fun c st2=>c=((none:Option Unit),())/\SB a₀ st2/\Cvr (arrOf st2) 0 (pendingOf st2).toList a₀.size/\(pendingOf st2).size<=1) ?_ ?_ ⟨rfl,B,C,.inr (by omega)⟩) ?_)
  ·rintro x c st2 _ hx ⟨rfl,B2,C2,q⟩;refine wpS_bind (wpS_get ?_);by_cases hp:(pendingOf st2).size<=1
   ·rw[if_pos hp];exact wpS_pure ⟨rfl,B2,C2,hp⟩
   rw[if_neg hp];refine wpS_bind (wpS_mergeC h0 B2 C2 (le_refl _) ?_ fun st4 B4 C4 z4 K4=>?_)
   ·refine lt_of_le_of_lt (Nat.add_le_add_right (ite_less _ _) 1) ?_;show(pendingOf st2).size-2+1<(pendingOf st2).size;omega
   ·rw[if_neg (by decide)];exact wpS_pure ⟨rfl,B4,C4,by omega⟩
  ·rintro c st2 ⟨rfl,B2,C2,q⟩;exact⟨rfl,B2,C2,by omega⟩
  ·rintro c st2 ⟨rfl,B2,C2,q⟩;refine wpS_pure (h _ B2.perm B2.failed ?_);cases ep:(pendingOf st2).toList with
   |nil =>
    rw[ep]at C2;have:0=a₀.size:=C2;omega
   |cons t r =>
    cases r with
    |cons _ _ =>
     have:=congrArg length ep;rw[Array.length_toList,length_cons,length_cons]at this;omega
    |nil =>
     rw[ep]at C2;obtain⟨_,_,S2,e2⟩:=C2;have e2:0+t.2.1=a₀.size:=e2;rw[e2]at S2;exact fun i j a b=>S2 i j (zero_le _) a b
 ·show Cvr (arrOf st) 0 (pendingOf st).toList 0;rw[hB.pend];rfl
end
section
variable{prog:Program}{w:World}{A:Around}{E:Value->Shared->Prop}{s:Shared}
theorem sort_treeR{a:Addr}{vs:List Value}{ns:List Int}{n:Nat}{b:Bool}{P:Fin->Shared->Prop}(ho:s.heap.get? a=some (seqObj "list" vs.toArray n))(hI:IntsAre vs ns)(hz:vs.length<=sizeLine)(h:∀(out:Array Value) (ns':List Int),IntsAre out.toList ns'->ns'.Perm ns->Ordered b ns'->P (.done (.ret .none)) {s with heap:=sortedHeap s.heap a vs out}) :
  wpAny (model prog w) A (Builtin.«list.sort» ⟨[.ref a],[(Str.ofString "reverse",.bool b)]⟩) P E s:=by
 by_cases h64:vs.length<64
 ·exact list_sort_tree_rev ho hI h64 h
 have lv:vs.toArray.size=vs.length:=by simp
 have zz:(vs.toArray.zip vs.toArray).size=vs.length:=by rw[Array.size_zip,lv,Nat.min_self]
 have n2:¬vs.toArray.size<2:=by omega
 have ha:a<s.heap.objs.size:=Heap.lt_size ho;have big:vs.length<=sizeLine+1:=Nat.le_succ_of_le hz;obtain⟨e1,ho1⟩:∃e1,(s.heap.update a (Obj.mapSeq fun _=>#[])).get? a=some (seqObj "list" #[] e1):=⟨_,get?_update_seq ho (fun _=>#[])⟩;have ho6:(((s.heap.update a (Obj.mapSeq fun _=>#[])).push (seqObj "tuple" vs.toArray 0)).push (seqObj "list" #[] 0)).get? a=some (seqObj "list" #[] e1):=by
  have q1:a<(s.heap.update a (Obj.mapSeq fun _=>#[])).objs.size:=by rw[Heap.size_update];exact ha
  have q2:a<((s.heap.update a (Obj.mapSeq fun _=>#[])).push (seqObj "tuple" vs.toArray 0)).objs.size:=by rw[size_push'];exact lt_succ_of_lt q1
  rw[Heap.get?_push_ne _ _ _ (ne_of_lt q2),Heap.get?_push_ne _ _ _ (ne_of_lt q1)];exact ho1
 have start:(if b=true then(vs.toArray.zip vs.toArray).reverse else vs.toArray.zip vs.toArray).Perm (pairsOf vs):=by
  cases b with
  |false=>exact .refl _
  |true=>exact Array.perm_iff_toList_perm.mpr (by rw[if_pos rfl,Array.toList_reverse];exact List.reverse_perm _)
 rw[list_sort_rev];refine wpAny_bind (listItems_at ho rfl (wpAny_bind (listUpdate_at ho rfl (wpAny_bind (seqEpoch_at ho1 rfl (wpAny_bind (wpAny_newTuple (wpAny_bind (wpAny_newList (wpAny_holding ?_))))))))));have after:∀u:Sem Fin,wpAny (model prog w) A u P E {s with heap:=((s.heap.update a (Obj.mapSeq fun _=>#[])).push (seqObj "tuple" vs.toArray 0)).push (seqObj "list" #[] 0)}->
   wpAny (model prog w) A (if b=true then rule "list.sort.reverse" >>= fun _=>u else u) P E {s with heap:=((s.heap.update a (Obj.mapSeq fun _=>#[])).push (seqObj "tuple" vs.toArray 0)).push (seqObj "list" #[] 0)}:=fun u hu=>by
  cases b with
  |true=>rw[if_pos rfl];exact wpAny_bind (wpAny_rule hu)
  |false=>rw[if_neg Bool.false_ne_true];exact hu
 dsimp only;refine after _ ?_;rw[if_neg n2,if_neg n2];obtain⟨v1,v2,r,rfl⟩:∃v1 v2 r,vs=v1::v2::r:=by
  match vs,h64 with
  | [],q=>exact absurd (by decide) q
  | [_],q=>exact absurd (by simp) q
  |v1::v2::r,_=>exact⟨v1,v2,r,rfl⟩
 rw[keyKind_ints hI];refine wpAny_bind (wpAny_pure (wpAny_bind (wpAny_mono (wpS_runs (Q:=fun _ st'=>(arrOf st').Perm (pairsOf (v1::v2::r))/\failedOf st'=none/\SortedTo (arrOf st') (pairsOf (v1::v2::r)).size)
  hI.intKeys ⟨start,rfl,rfl,rfl⟩ (by rw[pairsOf_size];simp) fun st' a1 a2 a3=>⟨a1,a2,a3⟩) (fun q s' hq=>?_) fun _ _ e=>e)))
 obtain⟨⟨⟩,st'⟩:=q;obtain⟨rfl,hp,hf,hs⟩:=hq;dsimp only;have sz:((arrOf st').map (·.2)).size<=sizeLine+1:=by
  rw[Array.size_map,hp.size_eq,pairsOf_size];exact big
 refine wpAny_bind (seqEpoch_at ho6 rfl (wpAny_bind (listUpdate_at ho6 rfl ?_ (hsz2:=by
  cases b with
  |true=>rw[if_pos rfl,Array.size_reverse];exact sz
  |false=>rw[if_neg Bool.false_ne_true];exact sz))))
 rw[hf];simp only[bne_self_eq_false,false_eq_true,if_false];obtain⟨ns',q1,q2,q3⟩:=sorted_out_rev hI hp hs b;exact wpAny_pure (h _ ns' q1 q2 q3)
theorem sorted_collB{x:Value}{ns:List Int}{b:Bool}{Q:Value->Shared->Prop}(hz:ns.length<=sizeLine)(hc:∀(R:List Value->Shared->Prop),(∀h' tk (vs:List Value),(∀b o,s.heap.get? b=some o->h'.get? b=some o)->IntsAre vs ns->R vs {s with heap:=h',toks:=tk})->wpAny (model prog w) A.in1 (collect x) R E s)(h:∀(out:List Value) (n:Nat) (h1 h':Heap) (tk:Nat) (ns':List Int),(∀b o,s.heap.get? b=some o->h1.get? b=some o)->(∀b o,h1.get? b=some o->h'.get? b=some o)->h'.get? h1.objs.size=some (seqObj "list" out.toArray n)->IntsAre out ns'->ns'.Perm ns->Ordered b ns'->Q (.ref h1.objs.size) {s with heap:=h',toks:=tk}) :
  wpAny (model prog w) A (call (.builtin "sorted") [x] [(Str.ofString "reverse",.bool b)]) Q E s:=by
 refine call_function_entry_kw kind_sorted plain_sorted entry_sorted (args_sorted_rev _ _) ?_;unfold Builtin.«sorted»;refine wpAny_bind (m:=checkCount "sorted" 1 1 _) (wpAny_pure ?_);refine wpAny_bind (hc _ fun h1 tk vs hk1 hI=>?_);have hlv:vs.length<=sizeLine:=by rw[<-hI.length]at hz;exact hz
 refine wpAny_bind (wpAny_newList ?_ hlv);have hoL:(h1.push (seqObj "list" vs.toArray 0)).get? h1.objs.size=some (seqObj "list" vs.toArray 0):=Heap.get?_push_size _ rfl;refine wpAny_bind (wpAny_holding (wpAny_call_entry_kw slot_list_sort ⟨_,hoL,rfl⟩ entry_list_sort (sort_treeR hoL hI hlv fun out ns' a1 a2 a3=>⟨_,rfl,?_⟩) (args_list_sort_rev _ _)));obtain⟨e,he⟩:=sortedHeap_at (vs:=vs) (out:=out) hoL;refine wpAny_pure ⟨_,rfl,h out.toList e h1 _ tk ns' hk1 (fun b o hb=>?_) he a1 a2 a3⟩;have hlt:=Heap.lt_size hb;rw[sortedHeap_old (ne_of_lt hlt) (by rw[Heap.size_push];exact lt_succ_of_lt hlt)];exact Heap.get?_push_of_some _ hb
end
section
variable{X:Cx}
def rSortRB(K:W.Frag)(b:Bool):V->Hp->VK->Prop:=fun x H Q=>∃ a ns,x= .ref a/\(SqL K H a (ns.map V.int)\/SqT K H a (ns.map V.int))/\ns.length<=sizeLine/\ ∀ns' p,ns'.Perm ns->Ordered b ns'->H p=none->Q (.ref p) (upd H p (.lst (ns'.map V.int)))
def tSortRB(K:W.Frag)(b:Bool)(te:TE):TE:=fun σ H Q=>te σ H fun x H1=>rSortRB K b x H1 Q
theorem pe_sortRB{e:Expr}{te:TE}{b:Bool}{p kp cp pos:Pos}{j:Nat}(hg:Gl X "sorted")(hm:X.mg "sorted"=none)(he:PE X e te)(hse:starEach [e] X.env=[(false,eval e X.env)]:=by rfl):PE X (.Call (.Name "sorted" p) [e] [⟨some "reverse",.Constant (.bool b) j cp,kp⟩] pos) (tSortRB X.K b te):=by
 intro pins s σ H Q I h;refine wpAny_Call_Name_kw (ld_blt I hg hm boot_sorted ?_ (by decide) (by decide));refine callWith_kw (thn (pa_cons he yt hse pos pins s σ H (fun vs H1=>match vs with| [x]=>rSortRB X.K b x H1 Q| _=>False) I h) fun us s1 ⟨vs,H1,I1,r1,q1⟩=>?_) (by rw[hse];rfl) (by rw[hse];rfl)
 match vs,r1,q1 with
 | [x],r1,q =>
  obtain⟨u,rfl,ru⟩:=vals1 r1;refine kws_cons (Constant_bool (kws_nil ?_));obtain⟨a,ns,rfl,hq,hl,q⟩:=q;cases ru;show wpAny _ _ (call (.builtin "sorted") [.ref a] [(Str.ofString "reverse",.bool b)]) _ _ _;have fin:∀(out:List Value)(n:Nat)(h1 h':Heap)(tk:Nat)(ns':List Int),(∀b o,s1.heap.get? b=some o->h1.get? b=some o)->(∀b o,h1.get? b=some o->h'.get? b=some o)->h'.get? h1.objs.size=some (seqObj "list" out.toArray n)->IntsAre out ns'->ns'.Perm ns->Ordered b ns'-> ∃v H',Inv X pins σ H' {s1 with heap:=h',toks:=tk}/\RelV v (.ref h1.objs.size)/\Q v H':=fun out n h1 h' tk ns' k1 k2 e a1 a2 a3=>by
   have hz':(ns'.map V.int).length<=sizeLine:=by rw[length_map,a2.length_eq];exact hl
   have I2:Inv X pins σ H1 {s1 with heap:=h1,toks:=tk}:=I1.kept (t':=tk) k1;exact⟨.ref _,_,I2.laid (t':=tk) k2 (le_refl _) (show zS X.prog X.w _ _ _ (.lst (ns'.map V.int))from⟨hz',out,n,vals_ints a1,by simpa [seqObj]using e⟩),rfl,q ns' _ a2 a3 (I2.hok.fresh (le_refl _))⟩
  rcases hq with hq|hq
  ·obtain⟨its,r',pl,hz⟩:=I1.list hq;obtain⟨o,ho,hc,n,hd⟩:=pl.isList;have hlen:=r'.length;rw[length_map]at hlen;exact sorted_collB hl (fun R hR=>wpAny_collect_seq a (.inl rfl) ho hc hd (fun h1 hk1=>hR h1 s1.toks its hk1 (intsAre_of r')) (by rw[size_toArray];omega)) fin
  ·obtain⟨its,r',pl,hz⟩:=I1.tuple hq;obtain⟨o,ho,hc,n,hd⟩:=pl;have hlen:=r'.length;rw[length_map]at hlen;exact sorted_collB hl (fun R hR=>wpAny_collect_seq a (.inr rfl) ho hc hd (fun h1 hk1=>hR h1 s1.toks its hk1 (intsAre_of r')) (by rw[size_toArray];omega)) fin
end
def SmG:Nat->Hp->V->V->Prop
 | 0,_,_,_=>False
 |n+1,H,x,y=>(∃i:Int,x= .int i/\y= .int i)\/(∃b:Bool,x= .bl b/\y= .bl b)\/(x= .non/\y= .non)\/(∃z:Str,x= .str z/\y= .str z)\/
   (∃(f d:Addr)(xs ys:List V),x= .ref f/\y= .ref d/\((H f=some (.tup xs)/\H d=some (.tup ys))\/(H f=some (.lst xs)/\H d=some (.lst ys)))/\xs.length=ys.length/\xs.length<=100000/\
    ∀(i:Nat)(x y:V),xs[i]? =some x->ys[i]? =some y->SmG n H x y)
theorem SmG.mv{H H':Hp}(s:Same H H'):∀{n:Nat}{x y:V},SmG n H x y->SmG n H' x y
 | 0,_,_,h=>h.elim
 |n+1,x,y,h=>by
  rcases h with h|h|h|h|⟨f,d,xs,ys,e1,e2,h,hl,hb,k⟩
  ·exact .inl h
  ·exact .inr (.inl h)
  ·exact .inr (.inr (.inl h))
  ·exact .inr (.inr (.inr (.inl h)))
  ·refine .inr (.inr (.inr (.inr ⟨f,d,xs,ys,e1,e2,?_,hl,hb,fun i x y hx hy=>SmG.mv s (k i x y hx hy)⟩)));rcases h with⟨h1,h2⟩|⟨h1,h2⟩
   ·exact .inl ⟨s _ _ h1,s _ _ h2⟩
   ·exact .inr ⟨s _ _ h1,s _ _ h2⟩
theorem SmG.int{n:Nat}{H:Hp}(i:Int):SmG (n+1) H (.int i) (.int i):=.inl ⟨i,rfl,rfl⟩
theorem SmG.bl{n:Nat}{H:Hp}(b:Bool):SmG (n+1) H (.bl b) (.bl b):=.inr (.inl ⟨b,rfl,rfl⟩)
theorem SmG.tup{n:Nat}{H:Hp}{f d:Addr}{xs ys:List V}(h1:H f=some (.tup xs))(h2:H d=some (.tup ys))(hl:xs.length=ys.length)(hb:xs.length<=100000)(k:∀(i:Nat) (x y:V),xs[i]? =some x->ys[i]? =some y->SmG n H x y):SmG (n+1) H (.ref f) (.ref d) :=
 .inr (.inr (.inr (.inr ⟨f,d,xs,ys,rfl,rfl,.inl ⟨h1,h2⟩,hl,hb,k⟩)))
theorem SmG.lst{n:Nat}{H:Hp}{f d:Addr}{xs ys:List V}(h1:H f=some (.lst xs))(h2:H d=some (.lst ys))(hl:xs.length=ys.length)(hb:xs.length<=100000)(k:∀(i:Nat) (x y:V),xs[i]? =some x->ys[i]? =some y->SmG n H x y):SmG (n+1) H (.ref f) (.ref d) :=
 .inr (.inr (.inr (.inr ⟨f,d,xs,ys,rfl,rfl,.inr ⟨h1,h2⟩,hl,hb,k⟩)))
theorem all2_sm{α:Type}{R S:α->V->Hp->Prop}{n:Nat}{H:Hp}{l:List α}{xs ys:List V}(a1:All2 R H l xs)(a2:All2 S H l ys)(k:∀a x y,a∈l->R a x H->S a y H->SmG n H x y):xs.length=ys.length/\ ∀(i:Nat)(x y:V),xs[i]? =some x->ys[i]? =some y->SmG n H x y:=by
 refine⟨by rw[<-a1.length,a2.length],fun i x y hx hy=>?_⟩;obtain⟨a,ha,r⟩:=a1.get hx;obtain⟨b,hb,r'⟩:=a2.get hy;rw[ha]at hb;cases hb;exact k a x y (mem_of_getElem? ha) r r'
theorem SmG.lstR{α:Type}{R S:α->V->Hp->Prop}{n:Nat}{H:Hp}{f d:Addr}{l:List α}{xs ys:List V}(h1:H f=some (.lst xs))(h2:H d=some (.lst ys))(a1:All2 R H l xs)(a2:All2 S H l ys)(hl:l.length<=100000)(k:∀a x y,a∈l->R a x H->S a y H->SmG n H x y):SmG (n+1) H (.ref f) (.ref d) :=
 .lst h1 h2 (all2_sm a1 a2 k).1 (by rw[<-a1.length];exact hl) (all2_sm a1 a2 k).2
theorem SmG.ints{H:Hp}{n:Nat}{f d:Addr}{ns:List Int}(h1:H f=some (.tup (ns.map V.int)))(h2:H d=some (.tup (ns.map V.int)))(hl:ns.length<=100000):SmG (n+2) H (.ref f) (.ref d) :=
 .tup h1 h2 rfl (by rw[length_map];exact hl) fun i x y hx hy=>by
  obtain⟨z,hz,rfl⟩:=yI hx;obtain⟨z',hz',rfl⟩:=yI hy;rw[hz]at hz';cases hz';exact .int z
def plainV:V->Prop
 | .non=>True| .bl _=>True| .int _=>True| .str _=>True| .ref _=>True
 | _=>False
theorem op_isG{X:Cx}:OpR X (compareOp .Is) (fun x y H Q=>∃ c:Bool,y= .bl c/\plainV x/\Q (.bl (decide (x= .bl c))) H):=by
 intro pins s σ H x y v u Q I rx ry h;obtain⟨c,rfl,hx,q⟩:=h;cases ry;cases x with
 |non=>cases rx;refine wpAny_is_plain rfl ⟨.bl _,H,I,?_,q⟩;rfl
 |bl b=>cases rx;refine wpAny_is_plain rfl ⟨.bl _,H,I,?_,q⟩;cases b <;>cases c <;>rfl
 |int i=>obtain⟨t,rfl⟩:=rx;refine wpAny_is_plain rfl ⟨.bl _,H,I,?_,q⟩;rfl
 |str z=>obtain⟨t,rfl⟩:=rx;refine wpAny_is_plain rfl ⟨.bl _,H,I,?_,q⟩;rfl
 |ref a=>cases rx;refine wpAny_is_plain rfl ⟨.bl _,H,I,?_,q⟩;rfl
 |byt b=>exact hx.elim
 |flt b=>exact hx.elim
 |ty b=>exact hx.elim
theorem lies_counts{a b:List Int}(h:∀x,a.count x<=b.count x):lies a b=true:=all_eq_true.mpr fun x _=>decide_eq_true (h x)
def maxL(f:Nat->Nat):List Int->Nat
 | []=>0
 |j::c=>max (f j.toNat) (maxL f c)
theorem maxL_le{f:Nat->Nat}{B:Nat}(h:∀j,f j<=B):∀c,maxL f c<=B
 | []=>zero_le _
 |j::c=>by
  have:=h j.toNat;have:=maxL_le h c;rw[maxL];omega
theorem flat_count_none{α:Type}(f:α->List Int)(x:Int):∀ds:List α,(∀d∈ds,x∉f d)->(ds.flatMap f).count x=0:=fun ds h=>List.count_eq_zero_of_not_mem fun z=>by
 obtain⟨d,hd,hx⟩:=List.mem_flatMap.mp z;exact h d hd hx
theorem flat_count_one{α:Type}(f parts:α->List Int)(x:Int)(d0:α):∀ds:List α,(ds.flatMap parts).Nodup->(∀d∈ds,∀y∈f d,y∈parts d)->d0∈ds->x∈parts d0->(ds.flatMap f).count x=(f d0).count x
 | [],_,_,h,_=>by cases h
 |d::ds,hn,hp,hd,hx=>by
  rw[List.flatMap_cons]at hn;have hn2:=(List.nodup_append.mp hn).2.1;have hdj:=(List.nodup_append.mp hn).2.2;rw[List.flatMap_cons,List.count_append];rcases mem_cons.mp hd with e|hd
  ·subst e;rw[flat_count_none f x ds fun d' hd' hx'=>hdj x hx x (List.mem_flatMap.mpr ⟨d',hd',hp d' (mem_cons_of_mem _ hd') x hx'⟩) rfl];rfl
  ·have h0:(f d).count x=0:=List.count_eq_zero_of_not_mem fun z=>hdj x (hp d (by simp) x z) x (List.mem_flatMap.mpr ⟨d0,hd,hx⟩) rfl;rw[h0,Nat.zero_add];exact flat_count_one f parts x d0 ds hn2 (fun d' hd'=>hp d' (mem_cons_of_mem _ hd')) hd hx
theorem flat_sum{α:Type}(f:α->List Int):∀ds:List α,(ds.flatMap f).sum=(ds.map fun d=>(f d).sum).sum
 | []=>rfl
 |d::ds=>by rw[List.flatMap_cons,List.sum_append,flat_sum f ds,map_cons,List.sum_cons]
theorem cols_sum{α:Type}{ds:List α}{row:α->Nat->List Int}{lev:α->Nat->Nat}{parts:α->List Int}{A:List (List Int)}(hn:(ds.flatMap parts).Nodup)(hp:∀d∈ds,∀v,∀x∈row d v,x∈parts d)(hz:∀d∈ds,row d 0=[])(hl:∀d∈ds,∀j,lev d j<=2)(hm:∀d∈ds,∀v w x,v<=w->w<=2->(row d v).count x<=(row d w).count x)(hA:∀j x,(A.getD j []).count x=(ds.flatMap fun d=>row d (lev d j)).count x)(c:List Int):(yi (zG A c)).sum=(ds.map fun d=>(row d (maxL (lev d) c)).sum).sum:=by
 rw[<-flat_sum fun d=>row d (maxL (lev d) c)];refine perm_sum (List.perm_iff_count.mpr fun x=>?_);rw[(joinX_is _).2];by_cases hx:∃d0∈ds,x∈parts d0
 ·obtain⟨d0,hd0,hx0⟩:=hx;rw[flat_count_one (fun d=>row d (maxL (lev d) c)) parts x d0 ds hn (fun d hd=>hp d hd _) hd0 hx0];unfold zG
  induction c with
  |nil =>
   show 0=(row d0 0).count x;rw[hz d0 hd0];rfl
  |cons j c ih =>
   rw[map_cons,maxC,ih,hA,flat_count_one (fun d=>row d (lev d j.toNat)) parts x d0 ds hn (fun d hd=>hp d hd _) hd0 hx0,maxL];have b1:=hl d0 hd0 j.toNat;have b2:=maxL_le (hl d0 hd0) c;rcases Nat.le_total (lev d0 j.toNat) (maxL (lev d0) c)with h|h
   ·rw[Nat.max_eq_right h];exact Nat.max_eq_right (hm d0 hd0 _ _ x h b2)
   ·rw[Nat.max_eq_left h];exact Nat.max_eq_left (hm d0 hd0 _ _ x h b1)
 ·have no:∀(g:α->Nat),(ds.flatMap fun d=>row d (g d)).count x=0:=fun g=>flat_count_none _ x ds fun d hd z=>hx ⟨d,hd,hp d hd _ x z⟩;rw[no fun d=>maxL (lev d) c];refine Nat.le_zero.mp (maxC_le fun l hl'=>?_);obtain⟨j,_,rfl⟩:=mem_map.mp hl';rw[hA,no fun d=>lev d j.toNat];exact le_refl _
structure LD where
 L:Nat
 R:Nat
 m:Nat
 k:Nat
 sp:Bool
 lev:List Nat
structure LD.Ok(d:LD):Prop where
 l1:1<=d.L
 l8:d.L<=8
 r1:1<=d.R
 r8:d.R<=8
 m8:d.m<=8
 k8:d.k<=8
 eq:d.L*d.m=d.R*d.k
 dv:d.sp=true->d.R*(d.L / d.R)=d.L/\d.R<d.L
 lv:∀v∈d.lev,v<=2
 mR:d.m<=d.R
 kL:d.k<=d.L
def LD.at(d:LD)(j:Nat):Nat:=d.lev.getD j 0
theorem LD.Ok.at{d:LD}(h:d.Ok)(j:Nat):d.at j<=2:=by
 unfold LD.at;rw[getD_eq_getElem?_getD];cases e:d.lev[j]? with
 |none=>exact zero_le _
 |some v=>exact h.lv v (mem_of_getElem? e)
def LD.cut(d:LD)(v:Nat):Nat:=if v=0 then 0 else if v=1 then 1 else 1+d.L / d.R
def LD.lrow(d:LD)(v:Nat):List Int:=if d.sp then replicate v (d.L:Int)else replicate (v*d.m) (d.L:Int)
def LD.rrow(d:LD)(v:Nat):List Int:=if d.sp then((d.L:Int)::replicate (d.L / d.R) (d.R:Int)).take (d.cut v)else replicate (v*d.k) (d.R:Int)
def LD.lparts(d:LD):List Int:=[(d.L:Int)]
def LD.rparts(d:LD):List Int:=if d.sp then [(d.R:Int),(d.L:Int)]else [(d.R:Int)]
theorem rep_mul(n:Nat)(x:Int):(replicate n x).sum=n*x:=sum_rep n x
theorem LD.sums{d:LD}(h:d.Ok){v:Nat}(hv:v<=2):(d.lrow v).sum=(d.rrow v).sum:=by
 unfold LD.lrow LD.rrow;cases hs:d.sp with
 |false =>
  rw[if_neg (by decide),if_neg (by decide),rep_mul,rep_mul];have e:=h.eq;have:((v*d.m*d.L:Nat):Int)=((v*d.k*d.R:Nat):Int):=by
   rw[Nat.mul_assoc,Nat.mul_comm d.m,e,Nat.mul_comm d.R,Nat.mul_assoc]
  simpa using this
 |true =>
  rw[if_pos rfl,if_pos rfl,rep_mul];have e:=(h.dv hs).1
  match v,hv with
  | 0,_=>simp[LD.cut]
  | 1,_=>simp[LD.cut]
  | 2,_ =>
   have ec:d.cut 2=1+d.L / d.R:=rfl;rw[ec,take_of_length_le (by simp;omega),List.sum_cons,rep_mul];have:((2*d.L:Nat):Int)=((d.L+d.L / d.R*d.R:Nat):Int):=by
    rw[Nat.mul_comm (d.L / d.R),e];omega
   simpa using this
theorem LD.lsub(d:LD)(v:Nat):∀x∈d.lrow v,x∈d.lparts:=fun x hx=>by
 unfold LD.lrow at hx;unfold LD.lparts;split at hx <;>rw[List.eq_of_mem_replicate hx] <;>simp
theorem LD.rsub(d:LD)(v:Nat):∀x∈d.rrow v,x∈d.rparts:=fun x hx=>by
 unfold LD.rrow at hx;unfold LD.rparts;cases hs:d.sp with
 |false =>
  rw[hs,if_neg (by decide)]at hx;rw[if_neg (by decide),List.eq_of_mem_replicate hx];simp
 |true =>
  rw[hs,if_pos rfl]at hx;rw[if_pos rfl];rcases mem_cons.mp (List.mem_of_mem_take hx)with h|h
  ·rw[h];simp
  ·rw[List.eq_of_mem_replicate h];simp
theorem LD.lmono(d:LD){v w:Nat}(x:Int)(h:v<=w):(d.lrow v).count x<=(d.lrow w).count x:=by
 unfold LD.lrow;split
 ·rw[List.count_replicate,List.count_replicate];split <;>omega
 ·rw[List.count_replicate,List.count_replicate];split
  ·exact Nat.mul_le_mul_right _ h
  ·exact le_refl _
theorem LD.rmono(d:LD){v w:Nat}(x:Int)(h:v<=w):(d.rrow v).count x<=(d.rrow w).count x:=by
 unfold LD.rrow;split
 ·refine List.Sublist.count_le x ?_;have hc:d.cut v<=d.cut w:=by
   unfold LD.cut;generalize d.L / d.R=q;by_cases v0:v=0
   ·rw[if_pos v0];omega
   ·by_cases w0:w=0
    ·omega
    ·rw[if_neg v0,if_neg w0];by_cases v1:v=1
     ·rw[if_pos v1];split <;>omega
     ·rw[if_neg v1,if_neg (by omega)];omega
  have e:((d.L:Int)::replicate (d.L / d.R) (d.R:Int)).take (d.cut v)=(((d.L:Int)::replicate (d.L / d.R) (d.R:Int)).take (d.cut w)).take (d.cut v):=by rw[List.take_take,Nat.min_eq_left hc]
  rw[e];exact List.take_sublist _ _
 ·rw[List.count_replicate,List.count_replicate];split
  ·exact Nat.mul_le_mul_right _ h
  ·exact le_refl _
theorem LD.lzero(d:LD):d.lrow 0=[]:=by unfold LD.lrow;split <;>simp
theorem LD.rzero(d:LD):d.rrow 0=[]:=by unfold LD.rrow;split <;>simp[LD.cut]
def lefH(ds:List LD)(j:Nat):List Int:=ds.flatMap fun d=>d.lrow (d.at j)
def rigH(ds:List LD)(j:Nat):List Int:=ds.flatMap fun d=>d.rrow (d.at j)
structure LDs(ds:List LD)(n:Nat):Prop where
 ok:∀d∈ds,d.Ok
 ln:∀d∈ds,d.lev.length=n
 l:(ds.flatMap LD.lparts).Nodup
 r:(ds.flatMap LD.rparts).Nodup
 few:ds.length<=4
def sideR(f:List LD->Nat->List Int)(ds:List LD)(n:Nat):List (List Int):=(List.range n).map fun j=>sortD (f ds j)
theorem sideR_at{f:List LD->Nat->List Int}{ds:List LD}{n:Nat}(h0:∀j,n<=j->f ds j=[])(j:Nat)(x:Int):((sideR f ds n).getD j []).count x=(f ds j).count x:=by
 unfold sideR;rw[getD_map_nil];by_cases h:j<n
 ·rw[List.getElem?_range h];exact sort_count _ x
 ·rw[List.getElem?_eq_none_iff.mpr (by rw[List.length_range];omega),h0 j (by omega)]
theorem LD.at_out{d:LD}{j:Nat}(h:d.lev.length<=j):d.at j=0:=by
 unfold LD.at;rw[getD_eq_getElem?_getD,List.getElem?_eq_none_iff.mpr h];rfl
theorem sides_match{ds:List LD}{n:Nat}(h:LDs ds n)(c:List Int):(yi (zG (sideR lefH ds n) c)).sum=(yi (zG (sideR rigH ds n) c)).sum:=by
 have out:∀(g:LD->Nat->List Int),(∀d,g d 0=[])-> ∀j,n<=j->(ds.flatMap fun d=>g d (d.at j))=[]:=fun g hg j hj=>by
  refine List.flatMap_eq_nil_iff.mpr fun d hd=>?_;rw[LD.at_out (by rw[h.ln d hd];exact hj),hg]
 rw[cols_sum (row:=LD.lrow) (lev:=LD.at) h.l (fun d _=>d.lsub) (fun d _=>d.lzero) (fun d hd=>(h.ok d hd).at) (fun d _ v w x hv _=>d.lmono x hv) (fun j x=>sideR_at (f:=lefH) (out LD.lrow LD.lzero) j x) c,
  cols_sum (row:=LD.rrow) (lev:=LD.at) h.r (fun d _=>d.rsub) (fun d _=>d.rzero) (fun d hd=>(h.ok d hd).at) (fun d _ v w x hv _=>d.rmono x hv) (fun j x=>sideR_at (f:=rigH) (out LD.rrow LD.rzero) j x) c]
 congr 1;exact List.map_congr_left fun d hd=>LD.sums (h.ok d hd) (maxL_le (h.ok d hd).at c)
structure Matched(one other:List (List Int))(n:Nat):Prop where
 l1:one.length=n
 l2:other.length=n
 g1:∀h∈one,h.length<=64/\(∀x∈h,1<=x/\x<=8)/\h.Pairwise (· >= ·)
 g2:∀h∈other,h.length<=64/\(∀x∈h,1<=x/\x<=8)/\h.Pairwise (· >= ·)
 eq:∀c,(yi (zG one c)).sum=(yi (zG other c)).sum
theorem Matched.swap{one other:List (List Int)}{n:Nat}(h:Matched one other n):Matched other one n:=⟨h.l2,h.l1,h.g2,h.g1,fun c=>(h.eq c).symm⟩
theorem yy{α:Type}(f:α->List Int)(B:Nat):∀ds:List α,(∀d∈ds,(f d).length<=B)->(ds.flatMap f).length<=B*ds.length
 | [],_=>zero_le _
 |d::ds,h=>by
  have h1:=h d (by simp);have h2:=yy f B ds fun x hx=>h x (mem_cons_of_mem _ hx);rw[List.flatMap_cons,length_append,length_cons,Nat.mul_succ];omega
theorem LD.lrow_len{d:LD}(h:d.Ok){v:Nat}(hv:v<=2):(d.lrow v).length<=16:=by
 unfold LD.lrow;split
 ·rw[List.length_replicate];omega
 ·rw[List.length_replicate];have:=Nat.mul_le_mul hv h.m8;omega
theorem LD.rrow_len{d:LD}(h:d.Ok){v:Nat}(hv:v<=2):(d.rrow v).length<=16:=by
 unfold LD.rrow;split
 ·rw[length_take,length_cons,List.length_replicate];have:=Nat.div_le_self d.L d.R;have:=h.l8;omega
 ·rw[List.length_replicate];have:=Nat.mul_le_mul hv h.k8;omega
theorem LD.bound{d:LD}(h:d.Ok):(∀x∈d.lparts,1<=x/\x<=8)/\ ∀x∈d.rparts,1<=x/\x<=8:=by
 have a:=h.l1;have b:=h.l8;have c:=h.r1;have e:=h.r8;constructor
 ·intro x hx;unfold LD.lparts at hx;have:x=d.L:=by simpa using hx
  omega
 ·intro x hx;unfold LD.rparts at hx;split at hx
  ·have:x=d.R\/x=d.L:=by simpa using hx
   omega
  ·have:x=d.R:=by simpa using hx
   omega
theorem matched_of{ds:List LD}{n:Nat}(h:LDs ds n):Matched (sideR lefH ds n) (sideR rigH ds n) n:=by
 have ln:∀f,(sideR f ds n).length=n:=fun f=>by unfold sideR;rw[length_map,List.length_range]
 refine⟨ln _,ln _,fun x hx=>?_,fun x hx=>?_,sides_match h⟩
 ·obtain⟨j,_,rfl⟩:=mem_map.mp hx;refine⟨?_,fun y hy=>?_,sortD_pw _⟩
  ·rw[(yg _).length_eq];have:=yy (fun d:LD=>d.lrow (d.at j)) 16 ds fun d hd=>LD.lrow_len (h.ok d hd) ((h.ok d hd).at j);have:=Nat.mul_le_mul_left 16 h.few;unfold lefH;omega
  ·obtain⟨d,hd,hy'⟩:=List.mem_flatMap.mp ((yg _).mem_iff.mp hy);exact(LD.bound (h.ok d hd)).1 y (d.lsub _ y hy')
 ·obtain⟨j,_,rfl⟩:=mem_map.mp hx;refine⟨?_,fun y hy=>?_,sortD_pw _⟩
  ·rw[(yg _).length_eq];have:=yy (fun d:LD=>d.rrow (d.at j)) 16 ds fun d hd=>LD.rrow_len (h.ok d hd) ((h.ok d hd).at j);have:=Nat.mul_le_mul_left 16 h.few;unfold rigH;omega
  ·obtain⟨d,hd,hy'⟩:=List.mem_flatMap.mp ((yg _).mem_iff.mp hy);exact(LD.bound (h.ok d hd)).2 y (d.rsub _ y hy')
theorem sum2_le(f:LD->List Int)(g:LD->Nat):∀ds:List LD,(∀d∈ds,g d<=8/\(g d:Int)∈f d)->(ds.flatMap f).Nodup->(ds.map fun d=>2*g d).sum<=14*ds.length+(if(8:Int)∈ds.flatMap f then 2 else 0)
 | [],_,_=>zero_le _
 |d::ds,h,hn=>by
  obtain⟨h1,h2⟩:=h d (by simp);rw[List.flatMap_cons]at hn;obtain⟨_,n2,n3⟩:=List.nodup_append.mp hn;have ih:=sum2_le f g ds (fun x hx=>h x (mem_cons_of_mem _ hx)) n2;rw[map_cons,List.sum_cons,length_cons,List.flatMap_cons];by_cases c:g d=8
  ·have h2:(8:Int)∈f d:=by rw[c]at h2;exact h2
   have n8:(8:Int)∉ds.flatMap f:=fun z=>n3 8 h2 8 z rfl;rw[if_neg n8]at ih;rw[if_pos (List.mem_append_left _ h2)];omega
  ·by_cases c8:(8:Int)∈ds.flatMap f
   ·rw[if_pos c8]at ih;rw[if_pos (mem_append_right _ c8)];omega
   ·rw[if_neg c8]at ih;omega
theorem flat_sum_le{α:Type}(f:α->List Int)(g:α->Nat):∀ds:List α,(∀d∈ds,(f d).length<=g d)->(ds.flatMap f).length<=(ds.map g).sum
 | [],_=>zero_le _
 |d::ds,h=>by
  have h1:=h d (by simp);have h2:=flat_sum_le f g ds fun x hx=>h x (mem_cons_of_mem _ hx);rw[List.flatMap_cons,length_append,map_cons,List.sum_cons];omega
theorem rows_lt{ds:List LD}{n:Nat}(h:LDs ds n)(j:Nat):(lefH ds j).length<64/\(rigH ds j).length<64:=by
 have h1:(lefH ds j).length<=(ds.map fun d=>2*d.R).sum:=flat_sum_le _ _ ds fun d hd=>by
  have ok:=h.ok d hd;have hv:=ok.at j;unfold LD.lrow;split
  ·rw[List.length_replicate];have:=ok.r1;omega
  ·rw[List.length_replicate];exact Nat.mul_le_mul hv ok.mR
 have h2:(rigH ds j).length<=(ds.map fun d=>2*d.L).sum:=flat_sum_le _ _ ds fun d hd=>by
  have ok:=h.ok d hd;have hv:=ok.at j;unfold LD.rrow;split
  ·rw[length_take,length_cons,List.length_replicate];have:=Nat.div_le_self d.L d.R;have:=ok.l1;omega
  ·rw[List.length_replicate];exact Nat.mul_le_mul hv ok.kL
 have h3:=sum2_le LD.rparts LD.R ds (fun d hd=>⟨(h.ok d hd).r8,by unfold LD.rparts;split <;>simp⟩) h.r;have h4:=sum2_le LD.lparts LD.L ds (fun d hd=>⟨(h.ok d hd).l8,by simp[LD.lparts]⟩) h.l;have h5:=h.few;constructor
 ·split at h3 <;>omega
 ·split at h4 <;>omega
def Lst1(row:List Int)(v:V)(H:Hp):Prop:=∃ q,v= .ref q/\H q=some (.lst (row.map V.int))
theorem Lst1.mv{H H':Hp}{row:List Int}{v:V}(s:Same H H'):Lst1 row v H->Lst1 row v H'
 |⟨q,e,h⟩=>⟨q,e,s _ _ h⟩
theorem All2.mvI{H H':Hp}{rows:List (List Int)}{xs:List V}(s:Same H H')(h:All2 Lst1 H rows xs):All2 Lst1 H' rows xs:=h.imp fun _ _ z=>z.mv s
theorem rep_flat(n:Nat)(x:Int):(replicate n [V.int x]).flatten=(replicate n x).map V.int:=by simp
theorem cut_take(xs:List V)(n:Nat):cutV xs none (some (n:Int))=xs.take n:=cut_head xs n
def LstN(S:List Addr)(row:List Int)(v:V)(H:Hp):Prop:=∃ q,v= .ref q/\q∉S/\H q=some (.lst (row.map V.int))
theorem LstN.mv{S:List Addr}{H H':Hp}{row:List Int}{v:V}(k:Keep S H H'):LstN S row v H->LstN S row v H'
 |⟨q,e,n,h⟩=>⟨q,e,n,k _ _ h n⟩
theorem All2.mvN{S:List Addr}{H H':Hp}{rows:List (List Int)}{xs:List V}(k:Keep S H H')(h:All2 (LstN S) H rows xs):All2 (LstN S) H' rows xs:=h.imp fun _ _ z=>z.mv k
theorem All2.toL{S:List Addr}{H:Hp}{rows:List (List Int)}{xs:List V}(h:All2 (LstN S) H rows xs):All2 Lst1 H rows xs:=by
 induction h with
 |nil=>exact .nil
 |cons r _ ih=>obtain⟨q,e,_,h⟩:=r;exact .cons ⟨q,e,h⟩ ih
theorem nin_two{H:Hp}{a b q:Addr}{x y:HO}(ha:H a=some x)(hb:H b=some y)(hq:H q=none):q∉[a,b]:=fun z=>by
 simp only[mem_cons,not_mem_nil,or_false]at z;rcases z with rfl|rfl
 ·rw[hq]at ha;cases ha
 ·rw[hq]at hb;cases hb
theorem nin_two'{H:Hp}{a b q:Addr}{x:HO}(ha:H a=none)(hb:H b=none)(hq:H q=some x):q∉[a,b]:=fun z=>by
 simp only[mem_cons,not_mem_nil,or_false]at z;rcases z with rfl|rfl
 ·rw[hq]at ha;cases ha
 ·rw[hq]at hb;cases hb
theorem Keep.wide{S S':List Addr}{H H':Hp}(k:Keep S H H')(h:∀a∈S,a∈S'):Keep S' H H':=fun b o e n=>k b o e fun z=>n (h b z)
theorem lef_snoc(ds:List LD)(d:LD)(j:Nat):lefH (ds++[d]) j=lefH ds j++d.lrow (d.at j):=by unfold lefH;rw[List.flatMap_append];simp
theorem rig_snoc(ds:List LD)(d:LD)(j:Nat):rigH (ds++[d]) j=rigH ds j++d.rrow (d.at j):=by unfold rigH;rw[List.flatMap_append];simp
theorem LD.at_some{d:LD}{j v:Nat}(h:d.lev[j]? =some v):d.at j=v:=by unfold LD.at;rw[getD_eq_getElem?_getD,h];rfl
structure LDi(ds:List LD)(n i:Nat):Prop where
 ok:∀d∈ds,d.Ok
 ln:∀d∈ds,d.lev.length=n
 l:(ds.flatMap LD.lparts).Nodup
 r:(ds.flatMap LD.rparts).Nodup
 few:ds.length<=i
theorem LDi.nil(n:Nat):LDi [] n 0:=⟨(fun _ h=>by cases h),(fun _ h=>by cases h),List.nodup_nil,List.nodup_nil,le_refl _⟩
theorem LDi.lds{ds:List LD}{n i:Nat}(h:LDi ds n i)(hi:i<=4):LDs ds n:=⟨h.ok,h.ln,h.l,h.r,le_trans h.few hi⟩
theorem LDi.mono{ds:List LD}{n i j:Nat}(h:LDi ds n i)(hi:i<=j):LDi ds n j:=⟨h.ok,h.ln,h.l,h.r,le_trans h.few hi⟩
theorem LDi.snoc{ds:List LD}{n i:Nat}{d:LD}(h:LDi ds n i)(ok:d.Ok)(ln:d.lev.length=n)(h1:(d.L:Int)∉ds.flatMap LD.lparts)(h2:(d.R:Int)∉ds.flatMap LD.rparts)(h3:d.sp=true->(d.L:Int)∉ds.flatMap LD.rparts):LDi (ds++[d]) n (i+1):=by
 refine⟨fun x hx=>?_,fun x hx=>?_,?_,?_,by rw[length_append];exact Nat.succ_le_succ h.few⟩
 ·rcases mem_append.mp hx with hx|hx
  ·exact h.ok x hx
  ·rw[List.mem_singleton.mp hx];exact ok
 ·rcases mem_append.mp hx with hx|hx
  ·exact h.ln x hx
  ·rw[List.mem_singleton.mp hx];exact ln
 ·rw[List.flatMap_append];refine List.nodup_append.mpr ⟨h.l,by simp[LD.lparts],fun x hx y hy e=>?_⟩;have:y=d.L:=by simpa [LD.lparts]using hy
  rw[e,this]at hx;exact h1 hx
 ·rw[List.flatMap_append];have hne:d.sp=true->(d.R:Int)≠d.L:=fun z=>by have:=(ok.dv z).2;omega
  refine List.nodup_append.mpr ⟨h.r,?_,fun x hx y hy e=>?_⟩
  ·cases hs:d.sp with
   |false=>simp[LD.rparts,hs]
   |true=>simp[LD.rparts,hs];have:=hne hs;omega
  ·subst e;cases hs:d.sp with
   |false =>
    have:x=d.R:=by simpa [LD.rparts,hs]using hy
    rw[this]at hx;exact h2 hx
   |true =>
    have:x=d.R\/x=d.L:=by simpa [LD.rparts,hs]using hy
    rcases this with z|z
    ·rw[z]at hx;exact h2 hx
    ·rw[z]at hx;exact h3 hs hx
theorem lrows_len{ds:List LD}{n:Nat}(h:LDs ds n)(j:Nat):(lefH ds j).length<=64/\(rigH ds j).length<=64:=by
 have h1:=yy (fun d:LD=>d.lrow (d.at j)) 16 ds fun d hd=>LD.lrow_len (h.ok d hd) ((h.ok d hd).at j);have h2:=yy (fun d:LD=>d.rrow (d.at j)) 16 ds fun d hd=>LD.rrow_len (h.ok d hd) ((h.ok d hd).at j);have:=Nat.mul_le_mul_left 16 h.few;unfold lefH rigH;omega
theorem nil_rows(n:Nat):(List.range n).map (lefH [])=replicate n []/\(List.range n).map (rigH [])=replicate n []:=by
 constructor <;>exact List.ext_getElem (by simp) fun i h1 h2=>by simp[lefH,rigH]
def LstF(H0:Hp)(row:List Int)(v:V)(H:Hp):Prop:=∃ q,v= .ref q/\H0 q=none/\H q=some (.lst (row.map V.int))
theorem All2.mvF{H0 H H':Hp}{rows:List (List Int)}{xs:List V}(s:Same H H')(h:All2 (LstF H0) H rows xs):All2 (LstF H0) H' rows xs:=h.imp fun _ _ ⟨q,e,n,g⟩=>⟨q,e,n,s _ _ g⟩
theorem All2.toN{H0 H:Hp}{S:List Addr}{rows:List (List Int)}{xs:List V}(f:∀q o,H q=some o->H0 q=none->q∉S)(h:All2 (LstF H0) H rows xs):All2 (LstN S) H rows xs:=by
 induction h with
 |nil=>exact .nil
 |cons r _ ih=>obtain⟨q,e,n,g⟩:=r;exact .cons ⟨q,e,f q _ g n,g⟩ ih
def RuleB(rule:List (List Int)):Prop:=∀ h∈rule,h.length<=160
theorem RuleB.pick{rule:List (List Int)}(h:RuleB rule){ch:List Int}(hc:ch.length<=6):(zG rule ch).flatten.length<1000:=by
 have:(zG rule ch).flatten.length<=160*(zG rule ch).length:=flat_le fun l hl=>by
  obtain⟨j,hj,rfl⟩:=mem_map.mp hl;rw[getD_eq_getElem?_getD];cases e:rule[j.toNat]? with
  |none=>exact zero_le _
  |some x=>exact h x (mem_of_getElem? e)
 have e:(zG rule ch).length=ch.length:=by unfold zG;rw[length_map]
 rw[e]at this;omega
theorem kf_of{its:List Value}{ns:List Int}(r:Vals (ns.map V.int) its):W.kf_ints its=true:=by
 induction ns generalizing its with
 |nil=>cases r;rfl
 |cons n ns ih =>
  cases r with
  |cons r t =>
   obtain⟨tk,rfl⟩:=r;have h:=ih t;unfold W.kf_ints;exact h
theorem first_ix:∀{ns:List Int}{z:Int},z∈ns-> ∃j,ns[j]? =some z/\(∀i,i<j->ns[i]? ≠some z)/\ns.eraseIdx j=ns.erase z
 |x::ns,z,h=>by
  by_cases e:x=z
  ·subst e;exact⟨0,rfl,(fun i hi=>by omega),by simp⟩
  ·have hz:z∈ns:=by
    rcases mem_cons.mp h with h|h
    ·exact absurd h.symm e
    ·exact h
   obtain⟨j,h1,h2,h3⟩:=first_ix hz;refine⟨j+1,by simpa using h1,fun i hi=>?_,?_⟩
   ·cases i with
    |zero=>simpa using e
    |succ i=>simpa using h2 i (by omega)
   ·rw[List.eraseIdx_cons_succ,h3,List.erase_cons_tail (by simpa using e)]
theorem isInt_at{its:List Value}{ns:List Int}{i:Nat}{y z:Int}(r:Vals (ns.map V.int) its)(h:ns[i]? =some y):∃u,its[i]? =some u/\isInt z u=decide (y=z):=by
 obtain⟨u,hu,ru⟩:=r.get (i:=i) (x:=.int y) (by rw[getElem?_map,h];rfl);obtain⟨t,rfl⟩:=ru;exact⟨_,hu,rfl⟩
theorem hits{its:List Value}{ns:List Int}{j:Nat}{z:Int}(r:Vals (ns.map V.int) its)(h1:ns[j]? =some z)(h2:∀i,i<j->ns[i]? ≠some z) :
  ∃hj:j<its.toArray.size,isInt z its.toArray[j]=true/\ ∀m (hm:m<its.toArray.size),m<j->isInt z its.toArray[m]=false:=by
 have hl:ns.length=its.length:=by rw[<-r.length,length_map]
 obtain⟨u,hu,e⟩:=isInt_at (z:=z) r h1;have hj:=(List.getElem?_eq_some_iff.mp hu).1;refine⟨by simpa using hj,?_,fun m hm hlt=>?_⟩
 ·have:its.toArray[j]'(by simpa using hj)=u:=by simpa using(List.getElem?_eq_some_iff.mp hu).2
  rw[this,e];simp
 ·have hm':m<ns.length:=by simp at hm;omega
  obtain⟨u',hu',e'⟩:=isInt_at (z:=z) (i:=m) r (getElem?_eq_getElem hm');have:its.toArray[m]=u':=by simpa using(List.getElem?_eq_some_iff.mp hu').2
  rw[this,e'];refine decide_eq_false fun q=>h2 m hlt ?_;rw[getElem?_eq_getElem hm',q]
def rRemove:V->List V->Hp->VK->Prop:=fun x vs H Q=>∃(l:Addr)(ns:List Int)(z:Int),x= .ref l/\vs=[.int z]/\H l=some (.lst (ns.map V.int))/\z∈ns/\Q .non (upd H l (.lst ((ns.erase z).map V.int)))
theorem mt_remove{X:Cx}:MtR X "list.remove" rRemove:=by
 intro pins s σ H x vs v us Q I rx rv h;obtain⟨l,ns,z,rfl,rfl,hH,hz,q⟩:=h;cases rx;obtain⟨u,rfl,ru⟩:=rv.one;obtain⟨t,rfl⟩:=ru;obtain⟨zz,its,n,r,hl,e⟩:=I.lstM hH;obtain⟨j,h1,h2,h3⟩:=first_ix hz;obtain⟨hj,c1,c2⟩:=hits r h1 h2;refine call_meets PySem.F.slot_list_remove ⟨_,e,rfl⟩ PySem.F.entry_list_remove (PySem.F.args_list_remove_2 _ _)
  (MeetsSeq.list_remove l its.toArray n (.int z t) (isInt z) (fun y hy=>W.kf_eq (kf_of r) y (by simpa using hy)) j hj c1 c2 (by rw[size_toArray,<-hl];exact zz)) ⟨e,?_⟩
 have er:=r.eraseIdx j;rw[map_erase,h3]at er;refine⟨.non,_,I.lset (its':=its.eraseIdx j) hH e ?_ er ?_,rfl,q⟩
 ·show its.toArray.eraseIdxIfInBounds j=(its.eraseIdx j).toArray;rw[List.eraseIdxIfInBounds_toArray]
 ·rw[length_map];have:=List.length_erase_le (a:=z) (l:=ns);rw[length_map]at zz;omega
def zW(ns ms:List Int):List Int:=ns.foldl (fun l x=>l.erase x) ms
theorem takeOut_snoc(ns ms:List Int)(z:Int):zW (ns++[z]) ms=(zW ns ms).erase z:=by unfold zW;rw[List.foldl_append];rfl
theorem takeOut_count:∀(ns ms:List Int)(x:Int),(zW ns ms).count x=ms.count x-ns.count x
 | [],ms,x=>by simp[zW]
 |n::ns,ms,x=>by
  show(zW ns (ms.erase n)).count x=_;rw[takeOut_count ns (ms.erase n) x,List.count_erase,List.count_cons];by_cases h:n=x
  ·subst h;simp;omega
  ·have h':¬x=n:=fun e=>h e.symm;simp[h,h']
theorem takeOut_sub(ns:List Int):∀ms,(zW ns ms).Sublist ms:=by
 unfold zW
 induction ns with
 |nil=>exact fun ms=>List.Sublist.refl _
 |cons n ns ih=>exact fun ms=>(ih (ms.erase n)).trans List.erase_sublist
theorem lies_all{ns ms:List Int}:lies ns ms=true↔ ∀x,ns.count x<=ms.count x:=by
 constructor
 ·intro h x;by_cases hx:x∈ns
  ·exact of_decide_eq_true (all_eq_true.mp h x hx)
  ·rw[List.count_eq_zero_of_not_mem hx];exact zero_le _
 ·exact lies_counts
theorem take_in{ns ms:List Int}(h:lies ns ms=true){i:Nat}{z:Int}(hz:ns[i]? =some z):z∈zW (ns.take i) ms:=by
 refine List.count_pos_iff.mp ?_;rw[takeOut_count];have h1:=lies_all.mp h z;have hi:=(List.getElem?_eq_some_iff.mp hz).1;have ez:=(List.getElem?_eq_some_iff.mp hz).2;have h2:(ns.take i).count z+1<=ns.count z:=by
  have:(ns.take (i+1)).count z<=ns.count z:=List.Sublist.count_le z (List.take_sublist _ _);rw[take_succ_eq_append_getElem hi,ez,List.count_append]at this;simpa using this
 omega
abbrev Plc:=Int×List Int×List Int
def zC(pl:Plc)(v:V)(H:Hp):Prop:=∃ t h c,v= .ref t/\H t=some (.tup [.int pl.1,.ref h,.ref c])/\H h=some (.tup (pl.2.1.map V.int))/\H c=some (.tup (pl.2.2.map V.int))
theorem zC.mv{H H':Hp}{pl:Plc}{v:V}(t:Tups H H'):zC pl v H->zC pl v H'
 |⟨a,h,c,e,g1,g2,g3⟩=>⟨a,h,c,e,t _ _ g1,t _ _ g2,t _ _ g3⟩
theorem zC.sm{H:Hp}{n:Nat}{pl:Plc}{v w:V}(h1:pl.2.1.length<=100000)(h2:pl.2.2.length<=100000)(a:zC pl v H)(b:zC pl w H):SmG (n+3) H v w:=by
 obtain⟨t,h,c,rfl,g1,g2,g3⟩:=a;obtain⟨t',h',c',rfl,g1',g2',g3'⟩:=b;refine .tup g1 g1' rfl (by show 3<=100000;decide) fun i x y hx hy=>?_
 match i,hx,hy with
 | 0,hx,hy=>cases hx;cases hy;exact .int _
 | 1,hx,hy=>cases hx;cases hy;exact .ints g2 g2' h1
 | 2,hx,hy=>cases hx;cases hy;exact .ints g3 g3' h2
abbrev Rule:=List (List Int)
def onR(one other:Rule)(s:Int):Rule:=if s=1 then one else other
def isPl(one other:Rule)(pl:Plc):Bool:=(decide (pl.1=1)||decide (pl.1=2))&&yd (onR one other pl.1) (pl.2.1,pl.2.2)
noncomputable def crossG(one other:Rule)(pl:Plc):Plc:=(3-pl.1,sortD (zW (yi (zG (onR one other pl.1) pl.2.2)) pl.2.1++yi (zG (onR one other (3-pl.1)) pl.2.2)),pl.2.2)
theorem isCh_len{n:Nat}:∀{l:Int}{c:List Int},isCh n l c=true->0<=l->c.length<=n-l.toNat
 | _,[],_,_=>zero_le _
 |l,x::r,e,hl=>by
  rw[isCh]at e;by_cases c:x<l\/(n:Int)<=x
  ·rw[if_pos c]at e;cases e
  ·rw[if_neg c]at e;have:=isCh_len e (by omega);rw[length_cons];omega
theorem pair_all{rule:Rule}{h c:List Int}(hp:yd rule (h,c)=true):isCh rule.length 0 c=true/\ ∀j∈c,lies (rule.getD j.toNat []) h=true:=by
 unfold yd at hp;rw[and_eq_true]at hp;exact⟨hp.1,all_eq_true.mp hp.2⟩
theorem pair_len{rule:Rule}{h c:List Int}(hp:yd rule (h,c)=true):c.length<=rule.length:=by
 have:=isCh_len (pair_all hp).1 (Int.le_refl 0);simpa using this
theorem pick_le'{rule:Rule}{h:List Int}:∀{c:List Int},(∀j∈c,lies (rule.getD j.toNat []) h=true)-> ∀x,maxC (zG rule c) x<=h.count x
 | [],_,x=>zero_le _
 |j::c,hc,x=>by
  have h1:=lies_all.mp (hc j (by simp)) x;have h2:=pick_le' (fun i hi=>hc i (mem_cons_of_mem _ hi)) x;unfold zG at h2 ⊢;rw[map_cons,maxC];omega
theorem pair_join{rule:Rule}{h c:List Int}(hp:yd rule (h,c)=true):lies (yi (zG rule c)) h=true :=
 lies_counts fun x=>by rw[(joinX_is _).2];exact pick_le' (pair_all hp).2 x
theorem pick_in{rule:Rule}{c:List Int}{j:Int}(hj:j∈c)(x:Int):(rule.getD j.toNat []).count x<=(yi (zG rule c)).count x:=by
 rw[(joinX_is _).2];exact le_maxC (mem_map.mpr ⟨j,hj,rfl⟩)
theorem takeOut_sum{a b:List Int}(h:lies a b=true):(zW a b).sum=b.sum-a.sum:=by
 have:(zW a b++a).Perm b:=List.perm_iff_count.mpr fun x=>by
  rw[List.count_append,takeOut_count];have:=lies_all.mp h x;omega
 have:=perm_sum this;rw[List.sum_append]at this;omega
theorem onR_len{one other:Rule}(h:one.length=other.length)(s:Int):(onR one other s).length=one.length:=by unfold onR;split <;>simp[h]
theorem yk{one other:Rule}{pl:Plc}(h:isPl one other pl=true):(pl.1=1\/pl.1=2)/\yd (onR one other pl.1) (pl.2.1,pl.2.2)=true:=by
 unfold isPl at h;rw[and_eq_true,Bool.or_eq_true]at h;exact⟨h.1.imp of_decide_eq_true of_decide_eq_true,h.2⟩
theorem isPl_of{one other:Rule}{pl:Plc}(h:pl.1=1\/pl.1=2)(hp:yd (onR one other pl.1) (pl.2.1,pl.2.2)=true):isPl one other pl=true:=by
 unfold isPl;rw[hp,Bool.and_true];rcases h with h|h <;>rw[h] <;>rfl
theorem cross_is{one other:Rule}{pl:Plc}(hl:one.length=other.length)(h:isPl one other pl=true):isPl one other (crossG one other pl)=true:=by
 obtain⟨hs,hp⟩:=yk h;obtain⟨h1,h2⟩:=pair_all hp;refine isPl_of (by show 3-pl.1=1\/3-pl.1=2;omega) ?_;unfold yd;rw[and_eq_true];refine⟨?_,all_eq_true.mpr fun j hj=>lies_counts fun x=>?_⟩
 ·show isCh (onR one other (3-pl.1)).length 0 pl.2.2=true;rw[onR_len hl];rw[onR_len hl]at h1;exact h1
 ·show((onR one other (3-pl.1)).getD j.toNat []).count x<=(sortD _).count x;rw[sort_count,List.count_append];have:=pick_in (rule:=onR one other (3-pl.1)) (c:=pl.2.2) hj x;omega
theorem cross_sum{one other:Rule}{pl:Plc}(hm:∀c,(yi (zG one c)).sum=(yi (zG other c)).sum)(h:isPl one other pl=true):(crossG one other pl).2.1.sum=pl.2.1.sum:=by
 obtain⟨hs,hp⟩:=yk h;show(sortD _).sum=_;rw[perm_sum (yg _),List.sum_append,takeOut_sum (pair_join hp)];have e:(yi (zG (onR one other pl.1) pl.2.2)).sum=(yi (zG (onR one other (3-pl.1)) pl.2.2)).sum:=by
  rcases hs with e|e <;>rw[e]
  ·exact hm _
  ·exact(hm _).symm
 omega
def fl2(p q:Addr):List (Str×V):=putF "other" (.ref q) (putF "one" (.ref p) [])
theorem fl2_ne:¬(("one" : Str)="other"):=by decide+kernel
theorem fl2_one(p q:Addr):(fl2 p q).lookup ("one" : Str)=some (.ref p):=by unfold fl2;rw[yz,if_neg fl2_ne,yz,if_pos rfl]
theorem fl2_other(p q:Addr):(fl2 p q).lookup ("other" : Str)=some (.ref q):=by unfold fl2;rw[yz,if_pos rfl]
theorem fl2_no(p q:Addr){m:Str}(h1:¬m="other")(h2:¬m="one"):(fl2 p q).lookup m=none:=by
 unfold fl2;rw[yz,if_neg h1,yz,if_neg h2];rfl
structure Sided(C:Addr)(H:Hp)(x p q:Addr)(rs qs:List V)(one other:Rule):Prop where
 ob:∃dx,H x=some (.ins C dx (fl2 p q))
 hp:H p=some (.tup rs)
 h2:All2 Tup1 H one rs
 hq:H q=some (.tup qs)
 g2:All2 Tup1 H other qs
 ln:one.length=other.length
 l6:one.length<=6
 b1:∀h∈one,h.length<=64/\ ∀x∈h,1<=x
 b2:∀h∈other,h.length<=64/\ ∀x∈h,1<=x
theorem Sided.mv{C:Addr}{H H':Hp}{x p q:Addr}{rs qs:List V}{one other:Rule}(h:Sided C H x p q rs qs one other)(s:Same H H'):Sided C H' x p q rs qs one other :=
 ⟨let⟨dx,e⟩:=h.ob;⟨dx,s _ _ e⟩,s _ _ h.hp,h.h2.mv s.tups,s _ _ h.hq,h.g2.mv s.tups,h.ln,h.l6,h.b1,h.b2⟩
theorem getD_mem{rule:Rule}{j:Nat}{x:Int}(h:x∈rule.getD j []):∃hh∈rule,x∈hh:=by
 rw[getD_eq_getElem?_getD]at h;cases e:rule[j]? with
 |none=>rw[e]at h;cases h
 |some r=>rw[e]at h;exact⟨r,mem_of_getElem? e,h⟩
theorem join_pos{rule:Rule}(hb:∀h∈rule,h.length<=64/\ ∀x∈h,1<=x){c:List Int}:∀x∈yi (zG rule c),1<=x:=fun x hx=>by
 obtain⟨l,hl,hxl⟩:=join_mem hx;obtain⟨j,_,rfl⟩:=mem_map.mp hl;obtain⟨hh,h1,h2⟩:=getD_mem hxl;exact(hb hh h1).2 x h2
theorem takeOut_mem{a b:List Int}{x:Int}(h:x∈zW a b):x∈b:=(takeOut_sub a b).subset h
structure Two(H:Hp)(R p q:Addr)(rs qs:List V)(one other:Rule):Prop where
 at_:H R=some (.tup [.ref p,.ref q])
 hp:H p=some (.tup rs)
 h2:All2 Tup1 H one rs
 hq:H q=some (.tup qs)
 g2:All2 Tup1 H other qs
 ln:one.length=other.length
 l6:one.length<=6
 b1:∀h∈one,h.length<=64/\ ∀x∈h,1<=x
 b2:∀h∈other,h.length<=64/\ ∀x∈h,1<=x
theorem Two.mv{H H':Hp}{R p q:Addr}{rs qs:List V}{one other:Rule}(h:Two H R p q rs qs one other)(t:Tups H H'):Two H' R p q rs qs one other :=
 ⟨t _ _ h.at_,t _ _ h.hp,h.h2.mv t,t _ _ h.hq,h.g2.mv t,h.ln,h.l6,h.b1,h.b2⟩
theorem Two.on{H:Hp}{R p q:Addr}{rs qs:List V}{one other:Rule}(h:Two H R p q rs qs one other){s:Int}(hs:s=1\/s=2):∃(a:Addr)(rv:List V),atI [V.ref p,V.ref q] (s-1)=some (.ref a)/\H a=some (.tup rv)/\All2 Tup1 H (onR one other s) rv:=by
 rcases hs with e|e <;>subst e
 ·exact⟨p,rs,zo (j:=0) rfl,h.hp,h.h2⟩
 ·exact⟨q,qs,zo (j:=1) rfl,h.hq,h.g2⟩
theorem Two.bR{H:Hp}{R p q:Addr}{rs qs:List V}{one other:Rule}(h:Two H R p q rs qs one other)(s:Int):∀x∈onR one other s,x.length<=64/\ ∀y∈x,1<=y:=fun x hx=>by
 unfold onR at hx;split at hx
 ·exact h.b1 x hx
 ·exact h.b2 x hx
theorem ints_inj:∀{b c:List Int},b.map V.int=c.map V.int->b=c
 | [],[],_=>rfl
 | [],_::_,e=>by cases e
 | _::_,[],e=>by cases e
 |x::r,y::r',e=>by
  have e':=List.cons.inj e;rw[ints_inj e'.2];congr 1;exact V.int.inj e'.1
theorem Matched.J{one other:List (List Int)}{n:Nat}(h:Matched one other n):RuleJ one :=
 ⟨⟨[1,2,3,4,5,6,7,8],by decide,fun l hl x hx=>by
  have:=(h.g1 l hl).2.1 x hx;have key:∀k:Nat,k<9->1<=k->((k:Nat):Int)∈([1,2,3,4,5,6,7,8]:List Int):=by decide
  obtain⟨k,rfl⟩:=Int.eq_ofNat_of_zero_le (Int.le_trans (by decide) this.1);exact key k (Nat.lt_succ_of_le (Int.ofNat_le.mp this.2)) (Int.ofNat_le.mp this.1)⟩,fun l hl=>le_trans (h.g1 l hl).1 (by decide),fun l hl x hx=>((h.g1 l hl).2.1 x hx).1⟩
end L2
namespace L2
open PySem PySem.Spec PyProof.Rows PySem.W
section
variable{prog:Program}{w:World}{A:Around}{E:Value->Shared->Prop}{s:Shared}{K:Frag}{e dx C:Addr}{oe:Obj}{vs:Array Value}{mA:Str->Option Value}{name:Str}{v:Value}
theorem noCls{o:Obj}{vs:Array Value}(h:o.data= .fields vs):notCls o=true:=by
 unfold notCls;rw[h]
def onlyVE:List Value->Bool
 | .ref _::r=>onlyVE r
 |l=>l==bmV
theorem refuse_VE(self:Value):∀{l:List Value},onlyVE l=true->refuseLoop self "__setattr__" l=pure ()
 | .ref c::r,z=>by
  rw[refuseLoop_ref];exact refuse_VE self z
 | [],z=>by cases z
 | .type n::r,z=>by
  have e:Value.type n::r=bmV:=beq_iff_eq.mp z;rw[e];exact PySem.F.store_ValueError.passes self
 | .none::r,z=>by cases z
 | .bool _::r,z=>by cases z
 | .int _ _::r,z=>by cases z
 | .float _ _::r,z=>by cases z
 | .str _ _::r,z=>by cases z
 | .bytes _ _::r,z=>by cases z
 | .ellipsis::r,z=>by cases z
 | .notImplemented::r,z=>by cases z
 | .builtin _::r,z=>by cases z
def overX(K:Frag)(C:Addr):Bool:=(clsIn K C).any fun cd=>onlyVE cd.mro
structure ClsX(K:Frag)(C:Addr):Prop where
 ga:findIn K (.ref C) "__getattribute__"=some (some (.builtin "BaseException.__getattribute__"))
 gn:findIn K (.ref C) "__getattr__"=some none
 be:mroIn K C (.type "BaseException")=some true
 hd:hasDictIn K C=true
 ob:mroIn K C (.type "object")=some true
 po:overX K C=true
 sa:findIn K (.ref C) "__setattr__"=some (some (.builtin "object.__setattr__"))
theorem getX{b:Bool}{Q:Value->Shared->Prop}(X:K.In s.heap)(g:s.heap.get? e=some oe)(hc:oe.cls= .ref C)(hda:oe.data= .fields vs)(hdd:oe.dict=some dx)(n:s.heap.Ns1 dx mA)(c:ClsX K C)(hn:NoAttr K C name)(hv:mA name=some v)(hv':handedIn v=true)(h:Q v {s with toks:=s.toks+1}):wpAny (model prog w) A (getAttr (.ref e) name b) Q E s:=by
 obtain⟨od,ho,hl⟩:=lookIn_ns n;have J:InstAt s.heap e oe C (some od):=⟨g,hc,noCls hda,by rw[hdd];exact ho⟩;have hf:findObj K C (some od) name=some (.value v):=findObj_own c.hd hn rfl (by rw[hl,hv]);obtain⟨hh,gg,d,t,os⟩:=s;have T:=J.type (M:=model prog w);have G:=looks_findIn (M:=model prog w) X c.ga;have N:=looks_findIn (M:=model prog w) X c.gn;have F1:=looks_find (M:=model prog w) X J hf;have Bx:=looks_mroIn (M:=model prog w) X c.be;unfold getAttr getAttrBy;refine wpAny_bind (wpAny_mkText (wpAny_holding (wpAny_bind (T.at (wpAny_bind (G.at ?_))))));have hx2:(Value.builtin "BaseException.__getattribute__"==Value.builtin "object.__getattribute__")=false:=by decide+kernel
 have hx1:¬(onTheHeap (Value.ref C)&&Value.builtin "BaseException.__getattribute__"==Value.builtin "object.__getattribute__")=true:=by rw[hx2,Bool.and_false];exact Bool.false_ne_true
 dsimp only at G N F1 Bx T ⊢;rw[if_neg hx1];unfold getAttrByItsOwn hookBefore callGetattribute boundAndCalled;refine wpAny_bind (N.at ?_);have hx0:¬(b&&onTheHeap (Value.builtin "BaseException.__getattribute__"))=true:=by cases b <;>exact Bool.false_ne_true
 rw[if_neg hx0];refine wpAny_bind (wpAny_attempt (wpAny_holding ?_));refine wpAny_bind (wpAny_of_eq (PySem.F.attrBase_ValueError.ga.bind _) ?_);refine wpAny_call (codeAny_call_builtin PySem.F.attrBase_ValueError.ga.plain PySem.F.entry_bexc_ga ?_);have hk:builtinKind "BaseException.__getattribute__"=some .slot:=by decide+kernel
 have hsplit:splitId "BaseException.__getattribute__"=some ("BaseException","__getattribute__"):=by decide+kernel
 have hag:=PySem.F.args_bexc_ga (.ref e) (.str name t);simp only[checkBuiltinCall,hk,hsplit];unfold isInstance
 repeat (first|lk|wp_step)
 show wpAny _ _ (handedOut v) _ _ _;rw[handedOut_of hv'];exact wpAny_pure h
theorem osaX{od:Option Obj}{tk:Tok}{R:Result->Shared->Prop}(X:K.In s.heap)(J:InstAt s.heap e oe C od)(c:ClsX K C)(hn:NoAttr K C name)(h:∀b,wpAny (model prog w) A.in1 (Builtin.ObjectAttr.storeInOwnDict (.ref e) (.ref C) (.str name tk) name v b)
   (fun fin s'=>match fin with| .done f=>R (.ok f) s'| .again c'=>c'.quiet=true/\codeAny (model prog w) A c' R s') (fun e s'=>R (.error e) s') s) :
  codeAny (model prog w) A (.call (.builtin "object.__setattr__") ⟨[.ref e,.str name tk,v],[]⟩) R s:=by
 have SF:=PySem.F.store_object;obtain⟨cd,hc,ho⟩:=any_some c.po;have sub:Looks (model prog w) s.heap (isInstance (.ref e) (.type "object")) true:=J.type.andThen (looks_mroIn X c.ob);have hm:Looks (model prog w) s.heap (mroOf (.ref C)) cd.mro:=(looks_clsIn X hc).andThen .now;refine codeAny_call_builtin SF.slot.plain SF.entry
  (@check_slot (model prog w) _ _ s "object.__setattr__" "object" "__setattr__" (.ref e) [.str name tk,v] [] _ SF.kind SF.split sub
   (SF.args (.ref e) (.str name tk) v) ?_)
 rw[osa_eq,refuse_eq];refine wpAny_bind (wpAny_bind (J.type.here (wpAny_bind (hm.here ?_))));rw[refuse_VE _ ho];refine wpAny_pure (wpAny_bind (J.type.here (wpAny_bind ((looks_findIn X hn).here ?_))));have L3:Looks (model prog w) s.heap (Builtin.ObjectAttr.storeTaker? none) none:=.now;refine wpAny_bind (L3.here ?_);exact h _
theorem setX{Q:Unit->Shared->Prop}(X:K.In s.heap)(g:s.heap.get? e=some oe)(hc:oe.cls= .ref C)(hda:oe.data= .fields vs)(hdd:oe.dict=none)(c:ClsX K C)(hn:NoAttr K C name)(h:∀h' tk,h'.get? e=some {oe with dict:=some s.heap.objs.size}->h'.Ns1 s.heap.objs.size (fun y=>if y=name then some v else none)->(∀b o,b≠e->s.heap.get? b=some o->h'.get? b=some o)->s.heap.objs.size<h'.objs.size->Q () {s with heap:=h',toks:=tk}) :
  wpAny (model prog w) A (setAttr (.ref e) name v) Q E s:=by
 obtain⟨oc,od,odt,osl⟩:=oe;dsimp only at hc hda hdd;subst hc hda hdd;have J:InstAt s.heap e ⟨.ref C,none,.fields vs,osl⟩ C none:=⟨g,rfl,rfl,trivial⟩;refine set_plain X J c.sa (osaX (s:={s with toks:=s.toks+1}) X J c hn fun b=>?_);obtain⟨cd,hcd,hd'⟩:=any_some c.hd;refine wpAny_bind (wpAny_pure (wpAny_bind (wpAny_bind (wpAny_loadPart g (wpAny_bind (Looks.here (s:={s with toks:=s.toks+1}) (looks_clsIn X hcd) ?_))))));rw[hd'];rw[if_neg (by simp)];dsimp only;rw[if_neg (by simp[typeHasDict])];refine wpAny_bind (wpAny_alloc' ?_);have g1:(s.heap.push {cls:=.type "dict",data:=.dict #[]}).get? e=some ⟨.ref C,none,.fields vs,osl⟩:=Heap.get?_push_of_some _ g;have ne:e≠s.heap.objs.size:=ne_of_lt (Heap.lt_size g);refine wpAny_bind (wpAny_update' g1 ?_);refine wpAny_pure ?_;have gd:((s.heap.push {cls:=.type "dict",data:=.dict #[]}).update e fun o=>{cls:=o.cls,dict:=some s.heap.objs.size,data:=o.data,slots:=o.slots}).get? s.heap.objs.size=some {cls:=.type "dict",data:=.dict #[]}:=(Heap.get?_update_ne _ _ _ _ ne.symm).trans (Heap.get?_push_at rfl rfl);have ge:=Heap.get?_update_self (fun o=>{cls:=o.cls,dict:=some s.heap.objs.size,data:=o.data,slots:=o.slots}) g1 rfl;have far:∀b o,b≠e->s.heap.get? b=some o->((s.heap.push {cls:=.type "dict",data:=.dict #[]}).update e fun o=>{cls:=o.cls,dict:=some s.heap.objs.size,data:=o.data,slots:=o.slots}).get? b=some o:=fun b o hb q=>(Heap.get?_update_ne _ _ _ _ hb).trans (Heap.get?_push_of_some _ q);generalize((s.heap.push {cls:=.type "dict",data:=.dict #[]}).update e fun o=>{cls:=o.cls,dict:=some s.heap.objs.size,data:=o.data,slots:=o.slots})=h2 at gd ge far;have n0:h2.Ns s.heap.objs.size (fun _=>none):=⟨_,#[],_,gd,rfl,fun e he=>absurd he (by simp),fun _=>rfl⟩;show wpAny _ _ (Builtin.ObjectAttr.storeInDict s.heap.objs.size (.str name s.toks) name v) _ _ _;unfold Builtin.ObjectAttr.storeInDict Builtin.ObjectAttr.newKeyGuard;refine wpAny_bind (wpAny_pure (wpAny_bind (wpAny_nsSet1 (Heap.Ns1.of_empty n0) fun h' n1 sb=>?_)));obtain⟨oD,esD,epD,hoD,hdD,hcD⟩:=n1.count (Within.cons name v Within.nil);refine wpAny_bind (wpAny_lookBehind hoD (by rw[hdD];exact pastItsLine_dict (le_trans hcD (by rw[length_cons,List.length_nil,sizeLine_eq];omega))) ?_);exact wpAny_pure (h h' _ ((sb.2 e ne).trans ge) n1 (fun b o hb q=>(sb.2 b (ne_of_lt (Heap.lt_size q))).trans (far b o hb q)) (Heap.lt_size hoD))
end
def ExcM(e C:Addr)(dd:Option Addr)(h:Heap):Prop:=∃ t sl,h.get? e=some ⟨.ref C,dd,.fields #[.ref t,.none,.none,.none,.bool false,.none],sl⟩
theorem ExcM.ext{e C:Addr}{dd:Option Addr}:∀h1 h2:Heap,ExcM e C dd h1->(∀o,h1.get? e=some o->h2.get? e=some o)->ExcM e C dd h2:=fun _ _ ⟨t,sl,g⟩ k=>⟨t,sl,k _ g⟩
section
variable{X:Cx}{pins:List (Addr×Obj)}{σ:St}{H:Hp}{s:Shared}{e C:Addr}{f:Str}{A:Around}{E:Value->Shared->Prop}
theorem HOk.addX{P:Program}{w:World}{H:Hp}{h:Heap}{a:Addr}{o:HO}(ok:HOk P w H h)(hn:H a=none)(new:zS P w (upd H a o) h a o):HOk P w (upd H a o) h:=fun b u q=>by
 by_cases hb:b=a
 ·subst hb;rw[z0]at q;cases q;exact new
 ·rw[zh hb]at q;have ne:∀c y,H c=some y->c≠a:=fun c y r z=>by rw[z,hn]at r;cases r
  exact(ok b u q).stay (fun _ _ _ r=>r) (fun c r=>by rw[zh (ne c _ r)];exact r) fun c xs r=>by rw[zh (ne c _ r)];exact r
theorem setattrX_ok{y:V}{u:Value}{Q:Unit->Shared->Prop}(I:Inv X pins σ H s)(he:H e=some (.ext (ExcM e C none)))(c:ClsX X.K C)(n:NoAttr X.K C f)(ry:RelV y u)(h:∀dx s',H dx=none->Inv X pins σ (upd (upd H e (.ext (ExcM e C (some dx)))) dx (.xd [(f,y)])) s'->Q () s'):wpAny (model X.prog X.w) A (setAttr (.ref e) f u) Q E s:=by
 obtain⟨t,sl,g⟩:=(show zS X.prog X.w H s.heap e (.ext (ExcM e C none))from I.hok e _ he).1;refine setX I.kIn g rfl rfl rfl c n fun h' tk ge n1 far lt=>?_;have hfr:H s.heap.objs.size=none:=I.hok.fresh (le_refl _);have ne:s.heap.objs.size≠e:=fun z=>by rw[z,he]at hfr;cases hfr
 refine h s.heap.objs.size _ hfr (I.un ⟨fun b o q n hb hx=>?_,fun b o q n hb hx=>?_,fun b o q n hx=>?_,fun b o q hx=>?_,fun b xs q=>?_,fun b o w q=>?_,fun b ps q=>?_⟩ ?_)
 ·exact far b o (fun z=>by rw[z,he]at n;cases n) q
 ·exact⟨o.slots,far b o (fun z=>by rw[z,he]at n;cases n) q⟩
 ·rw[zh (ne_of_lt (Heap.lt_size q)),zh (fun z=>by rw[z,he]at n;cases n)];exact n
 ·by_cases hb:b=e
  ·subst hb;exact⟨_,ge⟩
  ·exact⟨o,far b o hb q⟩
 ·rw[zh (fun z=>by rw[z,hfr]at q;cases q),zh (fun z=>by rw[z,he]at q;cases q)];exact q
 ·rw[zh (fun z=>by rw[z,hfr]at q;cases q),zh (fun z=>by rw[z,he]at q;cases q)];exact q
 ·rw[zh (fun z=>by rw[z,hfr]at q;cases q),zh (fun z=>by rw[z,he]at q;cases q)];exact⟨#[],by rw[Array.append_empty];exact q⟩
 ·have w1:HOk X.prog X.w (upd H e (.ext (ExcM e C (some s.heap.objs.size)))) h':=I.hok.write (by rw[he];trivial) (.inl rfl) (fun b o hb q=>far b o hb q) ⟨_,ge⟩ ⟨⟨t,sl,ge⟩,⟨_,ge⟩,ExcM.ext⟩;refine w1.addX (by rw[zh ne];exact hfr) ⟨_,n1,fun g=>?_⟩;by_cases hg:g=f
  ·subst hg;rw[if_pos rfl];simp only[List.lookup,beq_self_eq_true];exact ry
  ·rw[if_neg hg];simp[List.lookup,beq_eq_false_iff_ne.mpr hg]
   trivial
end
abbrev newExcO(C t:Addr):Obj:={cls:=.ref C,data:=.fields #[.ref t,.none,.none,.none,.bool false,.none]}
abbrev newExcH(h:Heap)(C:Addr)(args:List Value):Heap:=(h.push {cls:=.type "tuple",data:=.seq args.toArray}).push (newExcO C h.objs.size)
section
variable{prog:Program}{w:World}{A:Around}{E:Value->Shared->Prop}{h:Heap}{g:Array GenState}{d:Drawn}{t:Nat}{os:OsState}
variable{nm q:Str}{C N:Addr}{bs bm bmB bmN:List Value}{hdct:Bool}{sn:List Str}{sub:List Value}{ab:Bool}{col:Option Bool}{dd:Option Addr}{k0 k1 k2 k3 k5:Option Value}{B Bn newId nid initId inN:String}
theorem typecall_init(Fn:ExcBaseFacts Bn newId inN bmN)(hBn:bmB.contains (.type Bn)=true)(F:ExcBaseFacts B nid initId bmB)(T:OwnTail h bmB bm){mN:Str->Option Value}{rest:List Value}{fI:Addr}{oI:Obj}{Q:Fin->Shared->Prop}(hC:h.get? C=some (excClassObj nm q C N bs bm hdct sn sub ab col dd k0 k1 k2 k3 k5 newId))(hn:h.Ns N mN)(hi:mN "__init__"=some (.ref fI))(gI:h.get? fI=some oI)(cI:oI.cls= .type "function")(hq:wpAny (model prog w) A (call (.ref fI) (.ref (h.objs.size+1)::rest)) (fun r s'=>r= .none/\Q (.done (.ret (.ref (h.objs.size+1)))) s') E ⟨newExcH h C rest,g,d,t,os⟩)(hl:rest.length<=sizeLine) :
  wpAny (model prog w) A (Builtin.«type.__call__» ⟨.ref C::rest,[]⟩) Q E ⟨h,g,d,t,os⟩:=by
 repeat
  first
  |with_reducible refine wpAny_loadPart_at hC ?_
  |with_reducible refine wpAny_madeBy_exc hC ?_
  |wp_step
 refine codeAny_call_builtin_code (Code.quiet_builtin _ Fn.quiet)
  (wpAny_check_new_subU Fn hBn T hC ?_)
 refine codeAny_exc_new_subU Fn hBn F T hC ?_ hl;show wpAny _ _ _ _ _ _;have kp:∀b o,h.get? b=some o->(newExcH h C rest).get? b=some o:=fun b o z=>Heap.get?_push_of_some _ (Heap.get?_push_of_some _ z);have hC1:=kp _ _ hC;have hn1:(newExcH h C rest).Ns N mN:=let⟨o,es,ep,z,r⟩:=hn;⟨o,es,ep,kp _ _ z,r⟩
 have ge:(newExcH h C rest).get? (h.objs.size+1)=some (newExcO C h.objs.size):=by heap_get
 have T1:=T.keeps kp;have own:(Value.ref C::bm).contains (.ref C)=true:=by simp
 unfold isInstance
 repeat
  first
  |with_reducible refine wpAny_loadPart_at ge ?_
  |(with_reducible refine wpAny_isSubtype_exc hC1 ?_;rw[own])
  |wp_step
 show wpAny _ _ (typeLookup (.ref C) _) _ _ _;refine wpAny_typeLookup_tail hC1 hn1 T1 F.mroIs F.init.lookup ?_;rw[hi];refine wpAny_holding (wpAny_bind ?_);unfold bindSpecial;refine wpAny_bind (wpAny_typeOf (T :="function") ⟨_,kp _ _ gI,cI⟩ ?_);rw[if_pos (by decide)];refine wpAny_pure (wpAny_bind (wpAny_mono hq (fun r s' hr=>?_) fun _ _ z=>z));obtain⟨rfl,y⟩:=hr
 wp_walk
 exact y
theorem call_init(Fn:ExcBaseFacts Bn newId inN bmN)(hBn:bmB.contains (.type Bn)=true)(F:ExcBaseFacts B nid initId bmB)(T:OwnTail h bmB bm){mN:Str->Option Value}{rest:List Value}{fI:Addr}{oI:Obj}{Q:Value->Shared->Prop}(hC:h.get? C=some (excClassObj nm q C N bs bm hdct sn sub ab col dd k0 k1 k2 k3 k5 newId))(hn:h.Ns N mN)(hi:mN "__init__"=some (.ref fI))(gI:h.get? fI=some oI)(cI:oI.cls= .type "function")(hq:wpAny (model prog w) (A.under (.builtin "type.__call__" ⟨.ref C::rest,[]⟩)) (call (.ref fI) (.ref (h.objs.size+1)::rest)) (fun r s'=>r= .none/\Q (.ref (h.objs.size+1)) s') E ⟨newExcH h C rest,g,d,t,os⟩)(hl:rest.length<=sizeLine) :
  wpAny (model prog w) A (call (.ref C) rest) Q E ⟨h,g,d,t,os⟩:=by
 have f1:=tc_lookup;have f2:=tc_bind (.ref C);have hT:(⟨h,g,d,t,os⟩:Shared).TypeIs (.ref C) "type" :=⟨_,hC,rfl⟩;refine wpAny_call (codeAny_of_tree ?_);show wpAny _ _ (callAny (.ref C) _) _ _ _
 repeat
  any_goals
   first
   |assumption
   |with_reducible refine wpAny_loadPart_at hC ?_
   |wp_step
 refine⟨rfl,?_⟩;exact codeAny_call_builtin_at (Code.quiet_builtin _ (by decide+kernel)) entry_typeCall
  (wpAny_check_type_call_sub hC (typecall_init Fn hBn F T hC hn hi gI cI hq hl))
end
section
variable{M:Model}{A:Around}{E:Value->Shared->Prop}{s:Shared}{env:Env}{nm q:Str}{C N:Addr}{bs bm:List Value}{hdct:Bool}{sn:List Str}{sub:List Value}{ab:Bool}{col:Option Bool}{dd:Option Addr}{k0 k1 k2 k3 k5:Option Value}{newId:String}
theorem raise_ref{x:Sem Value}{Q:Flow->Shared->Prop}(hb:bm.contains (.type "BaseException")=true)(hh:A.handled=none)(h:wpAny M A x (fun v s1=>∃ e dx t sl,v= .ref e/\s1.heap.get? C=some (excClassObj nm q C N bs bm hdct sn sub ab col dd k0 k1 k2 k3 k5 newId)/\
   s1.heap.get? e=some ⟨.ref C,dx,.fields #[.ref t,.none,.none,.none,.bool false,.none],sl⟩/\E (.ref e) s1) E s):wpAny M A (raiseStmt env (some x) none) Q E s:=by
 have hcB:(Value.ref C::bm).contains (.type "BaseException")=true:=by rw[List.contains_cons,hb,Bool.or_true]
 unfold raiseStmt;refine wpAny_bind (wpAny_mono h (fun v s1 ⟨e,dx,t,sl,ev,hC,ge,hE⟩=>?_) fun _ _ z=>z);subst ev;obtain⟨hp,g,d,tk,os⟩:=s1
 repeat
  first
  |with_reducible refine wpAny_loadPart_at ge ?_
  |with_reducible refine wpAny_loadPart_at hC ?_
  |(with_reducible refine wpAny_isSubtype_exc hC ?_;rw[hcB])
  |wp_step
 exact wpAny_raiseNew_none hh hE
end
def excInI(K:Frag)(C f:Addr):Bool :=
 match K.lookup C with
 |some ⟨.type "type",_,.cls cd,sl⟩ =>
  (match cd.mro,sl.toList with
  | .ref D::bm,[_,_,_,_,some (.builtin n),_] =>
   (D==C&&n=="ValueError.__new__"&& !cd.hasDel)&&(tailIn K bmV bm&&nsOkIn K cd.ns&&nsIn K cd.ns "__init__"==some (some (.ref f)))
  | _,_=>false)
 | _=>false
theorem nsSome_of{K:Frag}{h:Heap}{N:Addr}{m:Str->Option Value}{x:Str}{v:Value}(X:K.In h)(G:h.Ns N m)(q:nsIn K N x=some (some v)):m x=some v:=by
 obtain⟨o,es,ep,ho,hd,_,hf⟩:=G;unfold nsIn at q;split at q
 ·rename_i es' _ _ lk;have z:=X _ _ lk;rw[ho]at z;cases z;cases hd;split at q
  ·rename_i y hy;cases q;have:=hf x;unfold nsFind findBy at this;rw[<-Array.find?_toList,hy]at this;exact this.symm
  ·split at q <;>cases q
 ·cases q
structure ExcI(K:Frag)(C f:Addr):Prop where
 inn:excInI K C f=true
 kp:keepIn K (.ref C)=true
 fn:isFn K (.ref f)=true
theorem ExcI.obj{K:Frag}{C f:Addr}{h:Heap}(c:ExcI K C f)(X:K.In h):∃(bm:List Value)(N:Addr)(nm q:Str)(bs:List Value)(hdct:Bool)(sn:List Str)(sub:List Value)(ab:Bool)(col:Option Bool)(dd:Option Addr)(k0 k1 k2 k3 k5:Option Value)(mN:Str->Option Value),
  h.get? C=some (excClassObj nm q C N bs bm hdct sn sub ab col dd k0 k1 k2 k3 k5 "ValueError.__new__")/\h.Ns N mN/\mN "__init__"=some (.ref f)/\OwnTail h bmV bm/\K.lookup C=some (excClassObj nm q C N bs bm hdct sn sub ab col dd k0 k1 k2 k3 k5 "ValueError.__new__"):=by
 have q:=c.inn;unfold excInI at q;split at q
 ·rename_i dd cd sl ho;split at q
  ·rename_i D bm k0 k1 k2 k3 n k5 hm hs;simp only[and_eq_true,beq_iff_eq,Bool.not_eq_true']at q;obtain⟨⟨⟨rfl,rfl⟩,hdel⟩,⟨ht,hok⟩,hni⟩:=q;obtain⟨nm,bs,mro,ns,qn,hd,sn,sub,ab,col,del⟩:=cd;dsimp only at hm hdel hok hni;subst hm hdel;have hsl:sl= #[k0,k1,k2,k3,some (.builtin "ValueError.__new__"),k5]:=by
    obtain⟨l⟩:=sl;simp only at hs;rw[hs]
   subst hsl;have hN:h.Ns ns (h.nsMap ns):=.of_isNs (isNs_of_in X hok);exact⟨bm,ns,nm,qn,bs,hd,sn,sub,ab,col,dd,k0,k1,k2,k3,k5,_,X _ _ ho,hN,nsSome_of X hN hni,tail_of_in X ht,ho⟩
  ·cases q
 ·cases q
theorem ExcI.isX{K:Frag}{C f:Addr}{h:Heap}(c:ExcI K C f)(X:K.In h):∃bm,IsXC K C bm/\OwnTail h bmV bm:=by
 obtain⟨bm,N,nm,q,bs,hdct,sn,sub,ab,col,dd,k0,k1,k2,k3,k5,mN,hC,hn,hni,hT,hlk⟩:=c.obj X;exact⟨bm,⟨nm,q,N,bs,hdct,sn,sub,ab,col,dd,k0,k1,k2,k3,k5,_,hlk⟩,hT⟩
def delH(H:Hp)(a:Addr):Hp:=fun b=>if b=a then none else H b
theorem del_same{H:Hp}{a:Addr}:delH H a a=none:=by unfold delH;rw[if_pos rfl]
theorem del_ne{H:Hp}{a b:Addr}(h:b≠a):delH H a b=H b:=by unfold delH;rw[if_neg h]
theorem del_some{H:Hp}{a b:Addr}{o:HO}(h:delH H a b=some o):b≠a/\H b=some o:=by
 by_cases z:b=a
 ·subst z;rw[del_same]at h;cases h
 ·rw[del_ne z]at h;exact⟨z,h⟩
theorem ExcAt.init{X:Cx}{pins:List (Addr×Obj)}{σ:St}{H:Hp}{s:Shared}{e C:Addr}{dd:Option Addr}(I:Inv X pins σ H s)(he:H e=some (.ext (ExcM e C dd)))(hnew:X.s₀.heap.get? e=none):ExcAt X (delH H e) e (.ref C) dd s:=by
 obtain⟨t,sl,g⟩:=(show zS X.prog X.w H s.heap e (.ext (ExcM e C dd))from I.hok e _ he).1;have nf:e∉frs X.stack:=fun z=>by rw[I.stkFree e z]at he;cases he
 have ne:∀b ob,X.s₀.heap.get? b=some ob->b≠e:=fun b ob q z=>by rw[z,hnew]at q;cases q
 have sub:∀b,b∉frs X.stack->b∉X.fs:=fun b hb z=>by
  rcases I.ok.stk with e|⟨e,hf⟩
  ·rw[e]at hb;exact hb z
  ·rw[e]at hb;unfold frs at hb;rw[filterMap_cons,hf]at hb;exact hb (mem_cons_of_mem _ z)
 have out:∀b,b≠e->b∉frs X.stack->b∉e::frs X.stack:=fun b h1 h2 z=>(mem_cons.mp z).elim h1 h2;have tr:∀b u,X.H₀ b=some u->(∀ φ,u≠ .ext φ)->H b=some u->delH H e b=some u:=fun b u _ hu q=>by
  rw[del_ne (fun z=>by rw[z,he]at q;cases q;exact hu _ rfl)];exact q
 refine⟨I.os,I.bare,⟨I.base.keep,I.base.slot,fun b ob q n hx=>?_,I.base.there,fun b xs q=>?_,fun b ob u q=>?_,fun b ps q=>?_⟩,fun b u q=>?_,del_same,hideAll s.heap (e::frs X.stack),⟨fun b u q=>?_,fun b ob q n hb hx=>?_,fun b ob q hb hx=>?_⟩,?_⟩
 ·rw[del_ne (ne b ob q)];exact I.base.free b ob q n hx
 ·exact tr b _ q (fun φ z=>by cases z) (I.base.tups b xs q)
 ·exact tr b _ q (fun φ z=>by cases z) (I.base.frzs b ob u q)
 ·obtain⟨more,z⟩:=I.base.tbls b ps q;refine⟨more,?_⟩;rw[del_ne (fun y=>by rw[y,he]at z;cases z)];exact z
 ·obtain⟨hb,q'⟩:=del_some q;refine(I.hok b u q').stay (fun _ _ _ r=>r) (fun c r=>?_) fun c xs r=>?_
  ·rw[del_ne (fun y=>by rw[y,he]at r;cases r)];exact r
  ·rw[del_ne (fun y=>by rw[y,he]at r;cases r)];exact r
 ·obtain⟨hb,q'⟩:=del_some q;obtain⟨ob,e1⟩:=(I.hok b u q').some;exact⟨ob,hideAll_get _ e1 (out b hb fun z=>by rw[I.stkFree b z]at q';cases q')⟩
 ·exact hideAll_get _ (I.base.keep b ob q n (sub b hb) hx) (out b (ne b ob q) hb)
 ·obtain⟨o',e1⟩:=I.base.there b ob q hx;exact⟨o',hideAll_get _ e1 (out b (ne b ob q) hb)⟩
 ·refine .made _ _ (fun b ob q=>of_hideAll _ q) (funFrames_hide I.stack fun env hm a ha=>mem_cons_of_mem _ (List.mem_filterMap.mpr ⟨env,hm,ha⟩)) (hideAll_none _ (by simp)) g rfl rfl rfl rfl
def tRaiseI(C:Addr)(sp:Sp)(E:XK)(ta:TA):TS:=fun _ σ H=>ta σ H fun vs H1=>vs.length<=sizeLine/\ ∀e,H1 e=none->sp (.ref e::vs) (upd H1 e (.ext (ExcM e C none))) (fun v H2=>v= .non/\ ∃dd,H2 e=some (.ext (ExcM e C dd))/\E (.ref C) dd (delH H2 e)) E0
theorem ps_raiseI{X:Cx}{E:XK}{C f:Addr}{fd:FuncData}{ps:List Str}{sp:Sp}{cm:Bool}{k:Nat}{x:Str}{a:Expr}{args:List Expr}{np cpos pos:Pos}{ta:TA}(hc:X.calm=true)(c:ExcI X.K C f)(F:FnOk X.prog X.w X.K X.mg X.base CX0 k f fd ps sp cm)(hr:Room (k+1) X.A cm)(hb:Binds X.K fd ps [])(hg:Gl (X.wish (XE X E)) x)(hm:X.mg x=some (.ref C))(ha:PA (X.wish (XE X E)) (a::args) ta)(hd:(x==("__debug__" : Str))=false:=by decide)(he:starEach (a::args) X.env=(false,eval a X.env)::starEach args X.env:=by rfl)(hpl:(backTo cpos (starEach args X.env)).any (·.1)=false:=by rfl) :
  PS (X.wish (XE X E)) (.Raise (some (.Call (.Name x np) (a::args) [] cpos)) none pos) (tRaiseI C sp E ta):=by
 intro pins s σ H D I hw;obtain⟨bm,N,nm,q,bs,hdct,sn,sub,ab,col,dd,k0,k1,k2,k3,k5,mN,hC0,hn0,hi0,hT0,hlk⟩:=c.obj I.ok.mod.kin;rw[arm_exec_Raise];refine wpAny_bind (wpAny_standAt (raise_ref (C:=C) (nm:=nm) (q:=q) (N:=N) (bs:=bs) (bm:=bm) (hdct:=hdct) (sn:=sn) (sub:=sub) (ab:=ab) (col:=col) (dd:=dd) (k0:=k0) (k1:=k1) (k2:=k2) (k3:=k3) (k5:=k5) (newId :="ValueError.__new__") (hT0.hasType (by decide)) (I.ok.hd hc) (wpAny_bind (wpAny_mono ?_ (fun v s1 h1=>wpAny_bind (wpAny_standAt (wpAny_pure h1))) fun _ _ z=>z))));refine wpAny_Call_Name_kw (ld_glob I hg hm ?_ hd);refine callWith_K (h₀:=X.base) I.ok.mod.kin c.kp (thn (ha cpos pins s σ H _ I hw) fun us s1 ⟨vs,H1,I1,r,hl,q1⟩=>⟨I1.kIn,?_⟩) he hpl;have kb:∀b ob,X.base.get? b=some ob->s1.heap.get? b=some ob:=I1.bk;obtain⟨h1,g1,d1,t1,os1⟩:=s1;have fnT:typeIn X.K (.ref f)=some (.type "function"):=beq_iff_eq.mp c.fn;obtain⟨oI,lI,cI⟩:∃oI,X.K.lookup f=some oI/\oI.cls= .type "function" :=by
  unfold typeIn at fnT;exact Option.map_eq_some_iff.mp fnT
 have hfree:H1 (h1.objs.size+1)=none:=I1.hok.fresh (le_succ _);have hq:=q1 (h1.objs.size+1) hfree;have I2:Inv (X.wish (XE X E)) pins σ (upd H1 (h1.objs.size+1) (.ext (ExcM (h1.objs.size+1) C none))) ⟨newExcH h1 C us,g1,d1,t1,os1⟩:=by
  have ge:(newExcH h1 C us).get? (h1.objs.size+1)=some (newExcO C h1.objs.size):=by heap_get
  exact I1.laid (t':=t1) (fun b o z=>Heap.get?_push_of_some _ (Heap.get?_push_of_some _ z)) (le_succ _) ⟨⟨_,_,ge⟩,⟨_,ge⟩,ExcM.ext⟩
 have r2:Vals (V.ref (h1.objs.size+1)::vs) (Value.ref (h1.objs.size+1)::us):=.cons rfl r;have hlen:(Value.ref (h1.objs.size+1)::us).length=ps.length:=by
  have e:=r2.length;rw[F.len _ _ _ _ hq]at e;exact e.symm
 refine call_init PySem.F.excBase_ValueError (by decide) PySem.F.excBase_ValueError (hT0.keeps kb) (kb _ _ hC0) (hn0.keeps kb) hi0 (I1.kIn _ _ lI) cI ?_ (by show us.length<=sizeLine;rw[<-r.length];exact hl);refine wpAny_call (codeAny_mono (F.run _ X.stack _ _ ⟨Value.ref (h1.objs.size+1)::us,[]⟩ (Value.ref (h1.objs.size+1)::us) _ _ E0 (hr.make C us []) (I2.env0.make C us []) ?_ r2 hq) fun r s' hq'=>?_)
 ·have z:=hb _ (Value.ref (h1.objs.size+1)::us) I2.kIn (by rw[append_nil];exact hlen);rw[append_nil]at z;exact z
 cases r with
 |error e=>exact False.elim hq'
 |ok fl =>
  cases fl with
  |ret u =>
   obtain⟨v,H',I3,rv,ev,dd',ge,hE⟩:=I2.after hq';subst ev;obtain⟨t,sl,g⟩:=(show zS X.prog X.w H' s'.heap (h1.objs.size+1) (.ext (ExcM (h1.objs.size+1) C dd'))from I3.hok _ _ ge).1;refine⟨rv,_,_,t,sl,rfl,I3.bk _ _ hC0,g,_,_,dd',_,rfl,hE,ExcAt.init I3.unwish ge ?_⟩;exact Heap.get?_none_of_le (le_trans I1.sz (le_succ _))
  |next=>exact False.elim hq'
  |brk=>exact False.elim hq'
  |cont=>exact False.elim hq'
section
variable{X:Cx}{o e value:Expr}{f:Str}{pos pos':Pos}{ta tv:TE}
def sFldX(K:Frag)(ta tv:TE)(f:Str):TS:=fun D σ H=>tv σ H fun y H1=>ta σ H1 fun x H2=>∃ e C,x= .ref e/\H2 e=some (.ext (ExcM e C none))/\ClsX K C/\NoAttr K C f/\
 ∀dx,H2 dx=none->D.nx σ (upd (upd H2 e (.ext (ExcM e C (some dx)))) dx (.xd [(f,y)]))
theorem ps_fldX(ha:PE X o ta)(hv:PE X value tv)(hs:swapsWith value (some (.Attribute o f pos')) pos.line X.env=pure false):PS X (.Assign [.Attribute o f pos'] value pos) (sFldX X.K ta tv f):=by
 intro pins s σ H D I h;refine plainObj_wpAny_Assign_Attribute (thn (hv pins s σ H _ I h) fun u s1 ⟨y,H1,I1,ry,q⟩=>thn (ha pins s1 σ H1 _ I1 q) fun ov s2 ⟨x,H2,I2,rx,a,C,ex,ea,c,n,q2⟩=>?_) hs;subst ex;obtain rfl:ov=Value.ref a:=rx;exact setattrX_ok I2 ea c n ry fun dx s3 hx I3=>⟨σ,_,I3,q2 dx hx⟩
def tFldX(K:Frag)(ta:TE)(f:Str):TE:=fun σ H Q=>ta σ H fun x H1=>∃ a C dx fs v,x= .ref a/\H1 a=some (.ext (IsExcD a (.ref C) (some dx)))/\H1 dx=some (.xd fs)/\ClsX K C/\NoAttr K C f/\fs.lookup f=some v/\Q v H1
theorem pe_fldX{K:Frag}(hK:X.K=K)(he:PE X e ta)(hb:attributeBase e f X.env (eval e X.env)=eval e X.env):PE X (.Attribute e f pos) (tFldX K ta f):=by
 subst hK;intro pins s σ H Q I h;refine attr_of hb (thn (he pins s σ H _ I h) fun u s1 ⟨x,H1,I1,rx,a,C,dx,fs,v,ex,ea,ed,c,n,l,q⟩=>?_);subst ex;obtain rfl:u=Value.ref a:=rx;obtain⟨oe,vs,g,g1,g2,g3⟩:=(show zS X.prog X.w H1 s1.heap a (.ext (IsExcD a (.ref C) (some dx)))from I1.hok a _ ea).1;obtain⟨mA,n1,r⟩:=(show zS X.prog X.w H1 s1.heap dx (.xd fs)from I1.hok dx _ ed);obtain⟨u,hu,ru⟩:=RelO.some_of (v:=v) (o:=mA f) (by rw[<-l];exact r f);exact getX I1.kIn g g1 g3 g2 n1 c n hu (handed_of ru) ⟨v,H1,I1.tok _,ru,q⟩
end
theorem IsExcD.cls{e D:Addr}{dd:Option Addr}{h:Heap}(x:IsExcD e (.ref D) dd h):ClsAt e D h:=let⟨oe,_,a,b,_,_⟩:=x;⟨oe,a,b⟩
theorem zc{X:Cx}{K:Frag}(hK:X.K=K:=by rfl):CallR X (.builtin "isinstance") (fun xs H Q=>∃ e D dd,∃(x:V)(c:Value)(b:Bool),xs=[.ref e,x]/\(∀u,RelV x u->u=c)/\H e=some (.ext (IsExcD e (.ref D) dd))/\ClsE K D/\kitOne K (.ref D) c=some b/\Q (.bl b) H):=by
 intro pins s σ H xs us Q I r h;subst hK;obtain⟨e,D,dd,x,c,b,rfl,hx,he,hc,hk,q⟩:=h;obtain⟨u,v,rfl,ru,rv⟩:=vals2 r;obtain rfl:u=Value.ref e:=ru;obtain rfl:=hx v rv;have p:IsExcD e (.ref D) dd s.heap:=(show zS X.prog X.w H s.heap e (.ext (IsExcD e (.ref D) dd))from I.hok e _ he).1;exact kia_one hc.kit I.kIn p.cls hk (fun z=>nomatch z) fun tk=>⟨.bl b,H,I.tok tk,rfl,q⟩
def tTryX(K:Frag)(S:Addr)(i:Nat)(tx:TX)(ts:TS):TS:=fun D σ H=>tx σ H (fun _ H1=>D.nx σ H1) (fun C dd H1=>∃ c,C= .ref c/\Takes K c S/\ ∀e,H1 e=none->
 ts {nx:=fun σ' H'=>D.nx (σ'.set i none) H',rt:=D.rt,bk:=fun σ' H'=>D.bk (σ'.set i none) H',ct:=fun σ' H'=>D.ct (σ'.set i none) H'} (σ.set i (some (.ref e))) (upd H1 e (.ext (IsExcD e (.ref c) dd))))
theorem ps_tryX{X:Cx}{e:Expr}{S n:Str}{Sc:Addr}{i:Nat}{b0:Stmt}{body:List Stmt}{tx:TX}{ts:TS}{epos spos hpos pos:Pos}(top:X.stack=X.env::X.outer)(fr:X.env.frame=some X.env.locals)(hx:PX X e tx)(hg:Gl X S)(hm:X.mg S=some (.ref Sc))(hs:∀a,PSs (X.inH a).nox (b0::body) ts)(hN:X.N.Nodup)(hi:X.N[i]? =some n)(hk:X.env.scope.names.lookup n=some .local)(hd:(S==("__debug__" : Str))=false:=by decide)(hsw:swapsWith e none epos.line X.env=pure false:=by rfl) :
  PS X (.Try [.Expr e epos] [.ExceptHandler (some (.Name S spos)) (some n) (b0::body) hpos] [] [] pos) (tTryX X.K Sc i tx ts):=by
 intro pins s σ H D I h;refine wpAny_Try_except ?_;have hb:=wpAny_Expr_any (Q:=fun f s1=>f= .next/\ ∃H1,Inv X pins σ H1 s1/\D.nx σ H1) (thn (hx pins s σ H _ _ I h) fun v s1 ⟨x,H1,I1,r,q⟩=>⟨rfl,H1,I1,q⟩) I.quiet hsw;refine wpAny_execs_cons (wpAny_mono hb (fun f s1 ⟨hf,H1,I1,q⟩=>?_) fun ev s' ⟨H1,s1,I1,hc⟩=>?_)
 ·subst hf;exact wpAny_execs_nil (wpAny_execs_nil ⟨σ,H1,I1,q⟩)
 ·refine CX1.lands (by rw[<-top];exact I1.ok.frames) top fr hc fun a C dd0 H' s3 ha hE l=>?_;subst ha;obtain⟨c,rfl,⟨bm,bm',⟨nm,q,N,bs,hdct,sn,sub,ab,col,dd,k0,k1,k2,k3,k5,nid,lc⟩,⟨nm',q',N',bs',hdct',sn',sub',ab',col',dd',k0',k1',k2',k3',k5',nid',lS⟩,hB,hM⟩,hts⟩:=hE;refine wpAny_handleBy_cons (codeAny_handlers_test ?_) (by intro q;cases q);have I3:=l.inv I1;refine ld_glob (X:=X.inH a) I3.inH hg hm ?_ hd;obtain⟨oe,vs,hoe,hcl,hda⟩:=l.obj;have kC:=I3.kIn _ _ lc;have kS:=I3.kIn _ _ lS;obtain⟨h3,g3,d3,t3,os3⟩:=s3;refine matches_own kC kS hoe hcl hB hM ?_;refine codeAny_handlers_suite_as ?_;refine l.again fun s4 l4=>?_;have I4:=l4.trackedD I1;refine store_ok (X:=X.inH a) (v:=.ref a) I4.inH hN hi (.inl hk) rfl (fun s5 I5=>?_) (.inr hk);refine wpAny_mono (hs a pins s5 _ _ _ (I5.wish _) (hts a l4.fe)) (fun f s6 q=>?_) (fun _ _ z=>False.elim z);cases f with
  |next=>obtain⟨σ',H2,J,q⟩:=q;exact goes (X:=X) (J.unwish.ofH I.ok) hN hi hk fun s7 J7=>⟨_,H2,J7,q⟩
  |brk=>obtain⟨σ',H2,J,q⟩:=q;exact goes (X:=X) (J.unwish.ofH I.ok) hN hi hk fun s7 J7=>⟨_,H2,J7,q⟩
  |cont=>obtain⟨σ',H2,J,q⟩:=q;exact goes (X:=X) (J.unwish.ofH I.ok) hN hi hk fun s7 J7=>⟨_,H2,J7,q⟩
  |ret u=>obtain⟨v,σ',H2,J,r,q⟩:=q;exact goes (X:=X) (J.unwish.ofH I.ok) hN hi hk fun s7 J7=>⟨v,_,H2,J7,r,q⟩
theorem del_made{H:Hp}{e dx C:Addr}{f:Str}{y:V}{H':Hp}(he:H e=none)(hd:upd H e (.ext (ExcM e C none)) dx=none)(eH:H'=upd (upd (upd H e (.ext (ExcM e C none))) e (.ext (ExcM e C (some dx)))) dx (.xd [(f,y)])) :
  H' e=some (.ext (ExcM e C (some dx)))/\delH H' e dx=some (.xd [(f,y)])/\ ∀b o,H b=some o->delH H' e b=some o:=by
 have ne:dx≠e:=fun z=>by rw[z,z0]at hd;cases hd
 have hdx:H dx=none:=by rw[zh ne]at hd;exact hd
 subst eH;refine⟨by rw[zh ne.symm,z0],by rw[del_ne ne,z0],fun b o q=>?_⟩;have nb:b≠e:=fun z=>by rw[z,he]at q;cases q
 have nb2:b≠dx:=fun z=>by rw[z,hdx]at q;cases q
 rw[del_ne nb,zh nb2,zh nb,zh nb];exact q
theorem Takes.mkG{K:Frag}{c S:Addr}{h:Heap}(hc:∃bm,IsXC K c bm/\OwnTail h bmV bm)(hS:∃bm,IsXC K S bm/\OwnTail h bmV bm)(hm:mroIn K c (.ref S)=some true):Takes K c S:=by
 obtain⟨bm,x,_⟩:=hc;obtain⟨bm',x',t'⟩:=hS;refine⟨bm,bm',x,x',t'.hasType (by decide),?_⟩;obtain⟨nm,q,N,bs,hdct,sn,sub,ab,col,dd,k0,k1,k2,k3,k5,nid,lc⟩:=x;unfold mroIn clsIn at hm;rw[lc]at hm;simpa using hm
theorem pe_sortRK{X:Cx}(K0:W.Frag)(h0:X.K=K0){e:Expr}{te:TE}{b:Bool}{p kp cp pos:Pos}{j:Nat}(hg:Gl X "sorted")(hm:X.mg "sorted"=none)(he:PE X e te)(hse:starEach [e] X.env=[(false,eval e X.env)]:=by rfl):PE X (.Call (.Name "sorted" p) [e] [⟨some "reverse",.Constant (.bool b) j cp,kp⟩] pos) (tSortR K0 b te) :=
 PE.kk K0 (fun K=>tSortR K b te) (pe_sortR hg hm he hse) h0
def tTryR(K:Frag)(S:Addr)(j i:Nat)(tx:TX)(tr ts:TS):TS:=fun D σ H=>tx σ H (fun v H1=>tr D (σ.set j (some v)) H1) (fun C dd H1=>∃ c,C= .ref c/\Takes K c S/\ ∀e,H1 e=none->
 ts {nx:=fun σ' H'=>D.nx (σ'.set i none) H',rt:=D.rt,bk:=fun σ' H'=>D.bk (σ'.set i none) H',ct:=fun σ' H'=>D.ct (σ'.set i none) H'} (σ.set i (some (.ref e))) (upd H1 e (.ext (IsExcD e (.ref c) dd))))
theorem ps_tryR{X:Cx}{e:Expr}{S n y:Str}{Sc:Addr}{i j:Nat}{b0:Stmt}{body rest:List Stmt}{tx:TX}{tr ts:TS}{epos spos hpos pos p':Pos}(top:X.stack=X.env::X.outer)(fr:X.env.frame=some X.env.locals)(hx:PX X e tx)(hg:Gl X S)(hm:X.mg S=some (.ref Sc))(hs:∀a,PSs (X.inH a).nox (b0::body) ts)(hrs:PSs X.nox rest tr)(hN:X.N.Nodup)(hi:X.N[i]? =some n)(hk:X.env.scope.names.lookup n=some .local)(hj:X.N[j]? =some y)(hyl:Loc X.env.scope y)(hd:(S==("__debug__" : Str))=false:=by decide)(hsw:swapsWith e (some (.Name y p')) epos.line X.env=pure false:=by rfl)(hf:X.fn y=true\/X.env.scope.names.lookup y=some .local:=by first|exact .inl rfl|exact .inr rfl|assumption) :
  PS X (.Try (.Assign [.Name y p'] e epos::rest) [.ExceptHandler (some (.Name S spos)) (some n) (b0::body) hpos] [] [] pos) (tTryR X.K Sc j i tx tr ts):=by
 intro pins s σ H D I h;refine wpAny_Try_except ?_;have hb:=wpAny_Assign_Name (Q:=fun f s1=>f= .next/\ ∃v H1,Inv X pins (σ.set j (some v)) H1 s1/\tr D (σ.set j (some v)) H1) (pos:=epos) (thn (hx pins s σ H _ _ I h) fun v s1 ⟨x,H1,I1,r,q⟩=>store_ok I1 hN hj hyl r (fun s2 I2=>⟨rfl,x,H1,I2,q⟩) hf) hsw;refine wpAny_execs_cons (wpAny_mono hb (fun f s1 ⟨hf,v,H1,I1,q⟩=>?_) fun ev s' ⟨H1,s1,I1,hc⟩=>?_)
 ·subst hf;refine wpAny_mono (hrs pins s1 _ H1 D (I1.wish _) q) (fun f s2 z=>?_) (fun _ _ z=>False.elim z);have z:=z.unwish;cases f with
  |next=>obtain⟨σ',H2,J,q⟩:=z;exact wpAny_execs_nil ⟨σ',H2,J,q⟩
  |brk=>exact z
  |cont=>exact z
  |ret u=>exact z
 ·refine CX1.lands (by rw[<-top];exact I1.ok.frames) top fr hc fun a C dd0 H' s3 ha hE l=>?_;subst ha;obtain⟨c,rfl,⟨bm,bm',⟨nm,q,N,bs,hdct,sn,sub,ab,col,dd,k0,k1,k2,k3,k5,nid,lc⟩,⟨nm',q',N',bs',hdct',sn',sub',ab',col',dd',k0',k1',k2',k3',k5',nid',lS⟩,hB,hM⟩,hts⟩:=hE;refine wpAny_handleBy_cons (codeAny_handlers_test ?_) (by intro q;cases q);have I3:=l.inv I1;refine ld_glob (X:=X.inH a) I3.inH hg hm ?_ hd;obtain⟨oe,vs,hoe,hcl,hda⟩:=l.obj;have kC:=I3.kIn _ _ lc;have kS:=I3.kIn _ _ lS;obtain⟨h3,g3,d3,t3,os3⟩:=s3;refine matches_own kC kS hoe hcl hB hM ?_;refine codeAny_handlers_suite_as ?_;refine l.again fun s4 l4=>?_;have I4:=l4.trackedD I1;refine store_ok (X:=X.inH a) (v:=.ref a) I4.inH hN hi (.inl hk) rfl (fun s5 I5=>?_) (.inr hk);refine wpAny_mono (hs a pins s5 _ _ _ (I5.wish _) (hts a l4.fe)) (fun f s6 q=>?_) (fun _ _ z=>False.elim z);cases f with
  |next=>obtain⟨σ',H2,J,q⟩:=q;exact goes (X:=X) (J.unwish.ofH I.ok) hN hi hk fun s7 J7=>⟨_,H2,J7,q⟩
  |brk=>obtain⟨σ',H2,J,q⟩:=q;exact goes (X:=X) (J.unwish.ofH I.ok) hN hi hk fun s7 J7=>⟨_,H2,J7,q⟩
  |cont=>obtain⟨σ',H2,J,q⟩:=q;exact goes (X:=X) (J.unwish.ofH I.ok) hN hi hk fun s7 J7=>⟨_,H2,J7,q⟩
  |ret u=>obtain⟨v,σ',H2,J,r,q⟩:=q;exact goes (X:=X) (J.unwish.ofH I.ok) hN hi hk fun s7 J7=>⟨v,_,H2,J7,r,q⟩
end L2
namespace L2
open PySem PySem.Spec PyProof.Rows
theorem sum_ge0:∀{l:List Int},(∀x∈l,1<=x)->0<=l.sum
 | [],_=>Int.le_refl _
 |x::r,h=>by
  have h1:=h x (by simp);have h2:=sum_ge0 (l:=r) fun y hy=>h y (mem_cons_of_mem _ hy);rw[List.sum_cons];omega
theorem sum_len:∀{l:List Int},(∀x∈l,1<=x)->(l.length:Int)<=l.sum
 | [],_=>Int.le_refl _
 |x::r,h=>by
  have h1:=h x (by simp);have h2:=sum_len (l:=r) fun y hy=>h y (mem_cons_of_mem _ hy);rw[List.sum_cons,length_cons];omega
structure Hep(n:Int)(h:List Int):Prop where
 pw:h.Pairwise (· >= ·)
 pos:∀x∈h,1<=x
 sum:h.sum=n
theorem part_hep:∀(f n g:Nat)(h:List Int),n<f->h∈partF f n g->Hep (n:Int) h
 | 0,_,_,_,hf,_=>absurd hf (Nat.not_lt_zero _)
 |f+1,n,g,h,hf,hh=>by
  rw[yF]at hh;by_cases c:n=0
  ·rw[if_pos c]at hh;have:h=[]:=by simpa using hh
   subst this c;exact⟨.nil,fun x hx=>(by cases hx),rfl⟩
  ·rw[if_neg c]at hh;unfold partP at hh;obtain⟨i,hi,hh⟩:=List.mem_flatMap.mp hh;rw[mem_range]at hi;obtain⟨r,hr,rfl⟩:=mem_map.mp hh;have ih:=part_hep f _ _ r (by omega) hr;have hle:=partF_le f _ _ r hr;refine⟨pairwise_cons.mpr ⟨fun y hy=>hle y hy,ih.pw⟩,fun x hx=>?_,?_⟩
   ·rcases mem_cons.mp hx with rfl|hx
    ·omega
    ·exact ih.pos x hx
   ·rw[List.sum_cons,ih.sum];omega
def cntF:Nat->Nat->Nat->Nat
 | 0,_,_=>0
 |f+1,n,g=>if n=0 then 1 else((List.range (min n g)).map fun i=>cntF f (n-(min n g-i)) (min n g-i)).sum
theorem cntF_len:∀f n g,(partF f n g).length=cntF f n g
 | 0,_,_=>rfl
 |f+1,n,g=>by
  rw[yF,cntF];split
  ·rfl
  ·unfold partP;rw[List.length_flatMap];congr 1;apply List.map_congr_left;intro i _;rw[length_map,cntF_len f]
theorem cnt24:(List.range 25).all (fun n=>decide (cntF 26 n n<=1575))=true:=by decide+kernel
theorem part_few{n:Nat}(h:n<=24):(partF 26 n n).length<=1575:=by
 rw[cntF_len];exact of_decide_eq_true (all_eq_true.mp cnt24 n (mem_range.mpr (by omega)))
noncomputable def togG(one other:Rule)(pl:Plc):Plc:=match zT (onR one other pl.1) pl.2 with|some pc=>(pl.1,pc)|none=>pl
noncomputable def wk(one other:Rule)(h:List Int):Nat->Plc
 | 0=>(1,h,[])
 |n+1=>if n%2=0 then crossG one other (wk one other h n)else togG one other (wk one other h n)
def fstP(one other:Rule)(pl:Plc):Option Int:=zD (onR one other pl.1) pl.2.1
def Live(one other:Rule)(h:List Int)(n:Nat):Prop:=∀ i,i<n->i%2=1->fstP one other (wk one other h i)≠none
structure WP(one other:Rule)(n:Int)(i:Nat)(pl:Plc):Prop where
 ip:isPl one other pl=true
 pw:pl.2.1.Pairwise (· >= ·)
 pos:∀x∈pl.2.1,1<=x
 sum:pl.2.1.sum=n
 par:(pl.1+(pl.2.2.length:Int)+(i:Int))%2=1
structure Rul(one other:Rule):Prop where
 ln:one.length=other.length
 l6:one.length<=6
 b1:∀h∈one,h.length<=64/\ ∀x∈h,1<=x
 b2:∀h∈other,h.length<=64/\ ∀x∈h,1<=x
 eq:∀c,(yi (zG one c)).sum=(yi (zG other c)).sum
 j1:RuleJ one
 j2:RuleJ other
theorem Rul.swap{one other:Rule}(R:Rul one other):Rul other one:=⟨R.ln.symm,R.ln▸R.l6,R.b2,R.b1,fun c=>(R.eq c).symm,R.j2,R.j1⟩
theorem Rul.jR{one other:Rule}(R:Rul one other)(s:Int):RuleJ (onR one other s):=by
 unfold onR;split
 ·exact R.j1
 ·exact R.j2
theorem Rul.of{one other:Rule}{n:Nat}(m:Matched one other n)(h:n<=6):Rul one other :=
 ⟨by rw[m.l1,m.l2],by rw[m.l1];exact h,fun h hh=>⟨(m.g1 h hh).1,fun x hx=>((m.g1 h hh).2.1 x hx).1⟩,fun h hh=>⟨(m.g2 h hh).1,fun x hx=>((m.g2 h hh).2.1 x hx).1⟩,m.eq,m.J,m.swap.J⟩
theorem Rul.bR{one other:Rule}(R:Rul one other)(s:Int):∀h∈onR one other s,h.length<=64/\ ∀x∈h,1<=x:=fun h hh=>by
 unfold onR at hh;split at hh
 ·exact R.b1 h hh
 ·exact R.b2 h hh
theorem WP.hep{one other:Rule}{n:Int}{i:Nat}{pl:Plc}(w:WP one other n i pl):Hep n pl.2.1:=⟨w.pw,w.pos,w.sum⟩
theorem Hep.len{n:Int}{h:List Int}(p:Hep n h):(h.length:Int)<=n:=by rw[<-p.sum];exact sum_len p.pos
theorem WP.chl{one other:Rule}{n:Int}{i:Nat}{pl:Plc}(R:Rul one other)(w:WP one other n i pl):pl.2.2.length<=6:=by
 have:=pair_len (yk w.ip).2;rw[onR_len R.ln]at this;exact le_trans this R.l6
theorem WP.cross{one other:Rule}{n:Int}{i:Nat}{pl:Plc}(R:Rul one other)(w:WP one other n i pl):WP one other n (i+1) (crossG one other pl):=by
 refine⟨cross_is R.ln w.ip,sortD_pw _,fun y hy=>?_,(cross_sum R.eq w.ip).trans w.sum,?_⟩
 ·rcases mem_append.mp ((yg _).mem_iff.mp hy)with hy|hy
  ·exact w.pos y (takeOut_mem hy)
  ·exact join_pos (R.bR _) y hy
 ·have:=w.par;show((3-pl.1)+(pl.2.2.length:Int)+((i+1:Nat):Int))%2=1;omega
theorem WP.jlen{one other:Rule}{n:Int}{i:Nat}{pl:Plc}(R:Rul one other)(w:WP one other n i pl)(s:Int):((yi (zG (onR one other s) pl.2.2)).length:Int)<=n:=by
 have h1:=sum_len (l:=yi (zG (onR one other s) pl.2.2)) (join_pos (R.bR s));have h2:=takeOut_sum (pair_join (yk w.ip).2);have h3:0<=(zW (yi (zG (onR one other pl.1) pl.2.2)) pl.2.1).sum:=sum_ge0 fun x hx=>w.pos x (takeOut_mem hx);have e:∀s:Int,(yi (zG (onR one other s) pl.2.2)).sum=(yi (zG one pl.2.2)).sum:=fun s=>by
  unfold onR;split
  ·rfl
  ·exact(R.eq _).symm
 have:=w.sum;rw[e]at h1 h2;omega
theorem WP.clen{one other:Rule}{n:Int}{i:Nat}{pl:Plc}(R:Rul one other)(w:WP one other n i pl):((zW (yi (zG (onR one other pl.1) pl.2.2)) pl.2.1++yi (zG (onR one other (3-pl.1)) pl.2.2)).length:Int)<=n:=by
 have:=(w.cross R).hep.len;unfold crossG at this;dsimp only at this;rw[(yg _).length_eq]at this;exact this
theorem partner_none{rule:Rule}{pc:List Int×List Int}:zT rule pc=none↔zD rule pc.1=none:=by
 unfold zT;cases zD rule pc.1 with
 |none=>exact⟨fun _=>rfl,fun _=>rfl⟩
 |some m =>
  refine⟨fun h=>?_,fun h=>by cases h⟩;dsimp only at h;split at h <;>cases h
theorem tog_of{one other:Rule}{pl:Plc}{pc:List Int×List Int}(h:zT (onR one other pl.1) pl.2=some pc):togG one other pl=(pl.1,pc):=by unfold togG;rw[h]
theorem partner_of_fst{one other:Rule}{pl:Plc}(h:fstP one other pl≠none):∃pc,zT (onR one other pl.1) pl.2=some pc:=by
 cases e:zT (onR one other pl.1) pl.2 with
 |some pc=>exact⟨pc,rfl⟩
 |none=>exact absurd (partner_none.mp e) h
theorem WP.tog{one other:Rule}{n:Int}{i:Nat}{pl:Plc}(w:WP one other n i pl)(h:fstP one other pl≠none):WP one other n (i+1) (togG one other pl)/\togG one other (togG one other pl)=pl/\(togG one other pl).1=pl.1/\(togG one other pl).2.1=pl.2.1:=by
 obtain⟨pc,e⟩:=partner_of_fst h;obtain⟨hs,hp⟩:=yk w.ip;obtain⟨b1,b2,b3,b4,_⟩:=partner_back hp e;rw[tog_of e];refine⟨⟨isPl_of hs b1,?_,?_,?_,?_⟩,?_,rfl,b4⟩
 ·show pc.1.Pairwise _;rw[b4];exact w.pw
 ·show ∀x∈pc.1,1<=x;rw[b4];exact w.pos
 ·show pc.1.sum=n;rw[b4];exact w.sum
 ·have:=w.par;show(pl.1+(pc.2.length:Int)+((i+1:Nat):Int))%2=1;unfold sgnG at b3;dsimp only at b3;split at b3 <;>split at b3 <;>omega
 ·exact tog_of (pl:=(pl.1,pc)) b2
theorem wk_ok{one other:Rule}{n:Int}{h:List Int}(R:Rul one other)(hp:Hep n h):∀i,Live one other h i->WP one other n i (wk one other h i)
 | 0,_=>⟨isPl_of (.inl rfl) rfl,hp.pw,hp.pos,hp.sum,rfl⟩
 |i+1,L=>by
  have ih:=wk_ok R hp i fun j hj=>L j (by omega);rw[wk];split
  ·exact ih.cross R
  ·exact(ih.tog (L i (Nat.lt_succ_self i) (by omega))).1
theorem Live.less{one other:Rule}{h:List Int}{i j:Nat}(L:Live one other h j)(hi:i<=j):Live one other h i:=fun k hk=>L k (by omega)
theorem pair_nil{rule:Rule}{h c:List Int}(hp:yd rule (h,c)=true)(hf:zD rule h=none):c=[]:=by
 cases c with
 |nil=>rfl
 |cons j r =>
  obtain⟨h1,h2⟩:=pair_all hp;have hj:=isCh_mem h1 j (by simp);have:=idxP_mem (hs:=h) (i:=rule.length) (k:=j.toNat) (by omega) (h2 j (by simp));unfold zD idxG at hf;rw[List.head?_eq_none_iff]at hf;rw[hf]at this;cases this
def isEndB(other:Rule)(pl:Plc):Bool:=decide (pl.1=2)&&(zD other pl.2.1).isNone
theorem WP.end_iff{one other:Rule}{n:Int}{i:Nat}{pl:Plc}(w:WP one other n i pl)(h0:i%2=0->i=0\/fstP one other pl≠none):isEndB other pl=true↔i%2=1/\fstP one other pl=none:=by
 obtain⟨hs,hp⟩:=yk w.ip;have par:=w.par;unfold isEndB;rw[and_eq_true,decide_eq_true_eq,Option.isNone_iff_eq_none];constructor
 ·rintro⟨e,hf⟩;have eo:onR one other pl.1=other:=by rw[e];rfl
  have hf':fstP one other pl=none:=by unfold fstP;rw[eo];exact hf
  have hc:=pair_nil hp hf';rw[hc,e]at par;refine⟨?_,hf'⟩;simp at par;omega
 ·rintro⟨hi,hf⟩;have hc:=pair_nil hp hf;rw[hc]at par;have e:pl.1=2:=by
   simp at par;omega
  have eo:onR one other pl.1=other:=by rw[e];rfl
  refine⟨e,?_⟩;unfold fstP at hf;rw[eo]at hf;exact hf
theorem wk_even{one other:Rule}{n:Int}{h:List Int}(R:Rul one other)(hp:Hep n h){i:Nat}(L:Live one other h i)(hi:i%2=0):i=0\/fstP one other (wk one other h i)≠none:=by
 cases i with
 |zero=>exact .inl rfl
 |succ i =>
  right;have hf:=L i (Nat.lt_succ_self i) (by omega);obtain⟨_,_,h1,h2⟩:=(wk_ok R hp i (L.less (le_succ i))).tog hf;have e:wk one other h (i+1)=togG one other (wk one other h i):=by rw[wk,if_neg (by omega)]
  unfold fstP at hf ⊢;rw[e,h1,h2];exact hf
theorem wk_end{one other:Rule}{n:Int}{h:List Int}(R:Rul one other)(hp:Hep n h){i:Nat}(L:Live one other h i):isEndB other (wk one other h i)=true↔i%2=1/\fstP one other (wk one other h i)=none :=
 (wk_ok R hp i L).end_iff fun e=>wk_even R hp L e
structure EndAt(one other:Rule)(h:List Int)(m:Nat):Prop where
 lv:Live one other h m
 od:m%2=1
 no:fstP one other (wk one other h m)=none
theorem EndAt.uniq{one other:Rule}{h:List Int}{m m':Nat}(a:EndAt one other h m)(b:EndAt one other h m'):m=m':=by
 rcases Nat.lt_trichotomy m m' with c|c|c
 ·exact absurd a.no (b.lv m c a.od)
 ·exact c
 ·exact absurd b.no (a.lv m' c b.od)
theorem Live.next{one other:Rule}{h:List Int}{k:Nat}(L:Live one other h k)(hn:¬EndAt one other h k):Live one other h (k+1):=fun i hi ho z=>by
 by_cases c:i=k
 ·subst c;exact hn ⟨L,ho,z⟩
 ·exact L i (by omega) ho z
theorem EndAt.side{one other:Rule}{n:Int}{h:List Int}{k:Nat}(R:Rul one other)(hp:Hep n h)(e:EndAt one other h k):(wk one other h k).1=2/\(wk one other h k).2.2=[]/\zD other (wk one other h k).2.1=none:=by
 have w:=wk_ok R hp k e.lv;have:=(wk_end R hp e.lv).mpr ⟨e.od,e.no⟩;unfold isEndB at this;rw[and_eq_true,decide_eq_true_eq,Option.isNone_iff_eq_none]at this;exact⟨this.1,pair_nil (yk w.ip).2 e.no,this.2⟩
noncomputable def yr(one other:Rule)(h:List Int)(k:Nat):List Plc:=(List.range (k+1)).map (wk one other h)
theorem walkL_succ(one other:Rule)(h:List Int)(k:Nat):yr one other h (k+1)=yr one other h k++[wk one other h (k+1)]:=by
 unfold yr;rw[List.range_succ,map_append];rfl
theorem zX(one other:Rule)(h:List Int)(k:Nat):(yr one other h k).length=k+1:=by unfold yr;rw[length_map,List.length_range]
theorem walkL_at(one other:Rule)(h:List Int){k i:Nat}(hi:i<=k):(yr one other h k)[i]? =some (wk one other h i):=by
 unfold yr;rw[getElem?_map,List.getElem?_range (by omega)];rfl
theorem walk_last{one other:Rule}{hs:List Int}{k:Nat}{H:Hp}{xs:List V}(h:All2 zC H (yr one other hs k) xs):∃ys v,xs=ys++[v]/\ys.length=k/\zC (wk one other hs k) v H:=by
 have hl:=h.length;rw[zX]at hl;have hne:xs≠[]:=fun e=>by rw[e]at hl;cases hl
 have hd:xs.dropLast.length=k:=by rw[List.length_dropLast];omega
 refine⟨xs.dropLast,xs.getLast hne,(List.dropLast_concat_getLast hne).symm,hd,?_⟩;have e:xs[k]? =some (xs.getLast hne):=by
  rw[List.getLast_eq_getElem,getElem?_eq_getElem (by omega)];congr 2;omega
 obtain⟨a,ha,r⟩:=h.get e;rw[walkL_at one other hs (le_refl k)]at ha;cases ha;exact r
theorem walk_snoc{one other:Rule}{hs:List Int}{k:Nat}{H H':Hp}{xs:List V}{v:V}(h:All2 zC H (yr one other hs k) xs)(t:Tups H H')(hv:zC (wk one other hs (k+1)) v H'):All2 zC H' (yr one other hs (k+1)) (xs++[v]):=by
 rw[walkL_succ];exact(h.imp fun _ _ z=>z.mv t).append (.cons hv .nil)
theorem kept_hep{rule:Rule}{m:Nat}{h:List Int}(hh:h∈keptG rule m)(hm:m<=24):Hep (m:Int) h/\zD rule h=none:=by
 obtain⟨h1,h2⟩:=mem_filter.mp hh;exact⟨part_hep 26 m m h (by omega) h1,by simpa using h2⟩
abbrev Std:=List (Str×List (List Int))
def RuleV(r:List (List Int))(v:V)(H:Hp):Prop:=∃ p xs,v= .ref p/\H p=some (.tup xs)/\All2 Tup1 H r xs
inductive StdV(H:Hp):Std->List (Key×V)->Prop
 |nil:StdV H [] []
 |cons {n:Str} {r:List (List Int)} {v:V} {S:Std} {kvs:List (Key×V)}:RuleV r v H->StdV H S kvs->StdV H ((n,r)::S) ((Sum.inr n,v)::kvs)
def StdR(O:List Addr)(S:Std)(v:V)(H:Hp):Prop:=∃ d kvs,v= .ref d/\d∈O/\H d=some (.dK kvs)/\StdV H S kvs
def dkF(d pl ul:Addr):List (Str×V):=[("standing",.ref d),("past",.ref pl),("undone",.ref ul)]
structure DeskAt(C:Addr)(H:Hp)(x:Addr)(O:List Addr)(S:Std)(past undone:List Std):Prop where
 mem:x∈O
 all:∀b∈O,∃o,H b=some o
 at_:∃dx d pl ul xs ys,H x=some (.ins C dx (dkF d pl ul))/\StdR O S (.ref d) H/\H pl=some (.lst xs)/\All2 (StdR O) H past xs/\H ul=some (.lst ys)/\All2 (StdR O) H undone ys/\pl∈O/\ul∈O/\pl≠ul
def DkL(C:Addr)(H:Hp)(L:List Addr)(x:Addr)(O:List Addr)(S:Std)(past und:List Std):Prop:=DeskAt C H x O S past und/\ ∀b∈O,b∉L
structure WL(C:Addr)(H:Hp)(st ga ca x:Addr)(B:List (Addr×HO))(O:List Addr)(N:Nat)(S:Std)(past und:List Std):Prop where
 s:StAt H st ga ca N
 d:DkL C H ([st,ga,ca]++B.map (·.1)) x O S past und
 bx:∀p∈B,H p.1=some p.2/\p.1∉[st,ga,ca]
 nd:(B.map (·.1)).Nodup
namespace WL
variable{C:Addr}{H H':Hp}{st ga ca x:Addr}{B:List (Addr×HO)}{O O':List Addr}{N N':Nat}{S S':Std}{past past' und und':List Std}
end WL
inductive Walks(L:Nat):Nat->List Bool->Nat->Prop
 |nil (h:Nat):h<L->Walks L h [] h
 |again {h e:Nat} {ws:List Bool}:Walks L (h+1) ws e->Walks L h (true::ws) e
 |undo {h e:Nat} {ws:List Bool}:h+1<L->Walks L h ws e->Walks L (h+1) (false::ws) e
theorem vals3{x y z:V}{us:List Value}(h:Vals [x,y,z] us):∃u v w,us=[u,v,w]/\RelV x u/\RelV y v/\RelV z w:=by
 cases h with
 |cons r t =>
  obtain⟨v,w,rfl,r2,r3⟩:=vals2 t;exact⟨_,v,w,rfl,r,r2,r3⟩
theorem eqk_place{X:Cx}:EqK X Plc zC 2:=fun pins σ H s A a b v w u u' I hu r1 r2 q1 q2=>by
 obtain⟨t,h,c,rfl,g1,g2,g3⟩:=r1;obtain⟨t',h',c',rfl,g1',g2',g3'⟩:=r2;cases q1;cases q2;obtain⟨s1,a1,a2⟩:=a;obtain⟨s2,b1,b2⟩:=b;dsimp only at g1 g2 g3 g1' g2' g3';by_cases ht:t=t'
 ·subst ht;rw[g1]at g1';injection g1' with e
  injection e with e
  injection e with e1 e
  injection e with e2 e
  injection e with e3 e
  cases e1;cases e2;cases e3;rw[g2]at g2';rw[g3]at g3';have h1:a1=b1:=ints_inj (by injection g2' with e;injection e);have h2:a2=b2:=ints_inj (by injection g3' with e;injection e);subst h1 h2;rw[decide_eq_true rfl];exact SeqAt.EqAt.same _
 ·refine SeqAt.EqAt.of_refs ht ?_;obtain⟨us,v1,t1,z1⟩:=I.tuple (SqT.of (K:=X.K) g1);obtain⟨ws,v2,t2,z2⟩:=I.tuple (SqT.of (K:=X.K) g1');obtain⟨u1,u2,u3,rfl,k1,k2,k3⟩:=vals3 v1;obtain⟨w1,w2,w3,rfl,m1,m2,m3⟩:=vals3 v2;have E1:=eqk_int (X:=X) pins σ H s A.in1 s1 s2 _ _ _ _ I (by show A.units+1+0<cLine;omega) rfl rfl k1 m1;have E2:=eqk_tup (X:=X) eqk_int det_int pins σ H s A.in1 a1 b1 _ _ _ _ I (by show A.units+1+(0+1)<cLine;omega) (RTup.ints (SqT.of g2)) (RTup.ints (SqT.of g2')) k2 m2;have E3:=eqk_tup (X:=X) eqk_int det_int pins σ H s A.in1 a2 b2 _ _ _ _ I (by show A.units+1+(0+1)<cLine;omega) (RTup.ints (SqT.of g3)) (RTup.ints (SqT.of g3')) k3 m3;have:=SeqAt.RcAt.tuples (A:=A) (e:=fun j=>match j with| 0=>decide (s1=s2)| 1=>decide (a1=b1)| _=>decide (a2=b2)) t1 t2 (by omega) (fun j h1 h2=>by
   match j,h1,h2 with
   | 0,_,_=>exact E1
   | 1,_,_=>exact E2
   | 2,_,_=>exact E3)
  have e:decide (((s1,a1,a2):Plc)=(s2,b1,b2))=(decide (s1=s2)&&(decide (a1=b1)&&decide (a2=b2))):=by
   rw[Bool.eq_iff_iff];simp[Prod.ext_iff]
  rw[e];have e2:((List.range (min [u1,u2,u3].toArray.size [w1,w2,w3].toArray.size)).all (fun j=>match j with| 0=>decide (s1=s2)| 1=>decide (a1=b1)| _=>decide (a2=b2))&&[u1,u2,u3].toArray.size==[w1,w2,w3].toArray.size)=(decide (s1=s2)&&(decide (a1=b1)&&decide (a2=b2))):=by
   show((List.range 3).all _&&true)=_;rw[Bool.and_true];show([0,1,2]:List Nat).all _=_;simp
  rw[e2]at this;exact this
def IsW(one other:Rule)(rows:List Plc):Prop:=∃ hs k,zD one hs=none/\EndAt one other hs k/\rows=yr one other hs k
noncomputable def isWB(one other:Rule)(rows:List Plc):Bool:=@decide (IsW one other rows) (Classical.propDecidable _)
theorem walkL_head(one other:Rule)(h:List Int)(k:Nat):(yr one other h k).head? =some (1,h,[]):=by
 rw[List.head?_eq_getElem?,walkL_at one other h (zero_le k)];rfl
theorem isWB_nil(one other:Rule):isWB one other []=false:=by
 unfold isWB;refine @decide_eq_false _ (Classical.propDecidable _) ?_;rintro⟨hs,k,_,_,e⟩;have:=zX one other hs k;rw[<-e]at this;cases this
theorem isWB_no{one other:Rule}{rows:List Plc}{r:Plc}(hh:rows.head? =some r)(h0:zD one r.2.1≠none):isWB one other rows=false:=by
 unfold isWB;refine @decide_eq_false _ (Classical.propDecidable _) ?_;rintro⟨hs,k,h1,_,rfl⟩;rw[walkL_head]at hh;cases hh;exact h0 h1
theorem isWB_eq{one other:Rule}{rows:List Plc}{r:Plc}{k:Nat}(hh:rows.head? =some r)(h0:zD one r.2.1=none)(L:Live one other r.2.1 k)(hk:EndAt one other r.2.1 k\/rows.length<=k):isWB one other rows=decide (rows=yr one other r.2.1 k):=by
 unfold isWB;have e:IsW one other rows↔rows=yr one other r.2.1 k:=by
  constructor
  ·rintro⟨hs,k',h1,h2,rfl⟩;rw[walkL_head]at hh;cases hh;rcases hk with hk|hk
   ·rw[h2.uniq hk]
   ·rw[zX]at hk;exact absurd h2.no (L k' (by omega) h2.od)
  ·intro e;refine⟨r.2.1,k,h0,hk.resolve_right fun z=>?_,e⟩;rw[e,zX]at z;omega
 by_cases c:rows=yr one other r.2.1 k
 ·rw[decide_eq_true c];exact @decide_eq_true _ (Classical.propDecidable _) (e.mpr c)
 ·rw[decide_eq_false c];exact @decide_eq_false _ (Classical.propDecidable _) fun z=>c (e.mp z)
theorem All2.head{α:Type}{R:α->V->Hp->Prop}{H:Hp}{l:List α}{xs:List V}(h:All2 R H l xs){a:α}(ha:l.head? =some a):∃x,xs[0]? =some x/\R a x H:=by
 cases h with
 |nil=>cases ha
 |cons r t=>cases ha;exact⟨_,rfl,r⟩
def Rise(xs:List Nat):Prop:=xs.Pairwise (· < ·)
structure SI(b:Bool)(t:SetTable):Prop where
 led:t.led=b
 dum:t.dummies= #[]
 rise:Rise t.place.toList
theorem chG_all:∀{ns c:List Int},c.Sublist ns->c∈chG ns:=by
 intro ns;generalize hk:ns.length=k
 induction k generalizing ns with
 |zero =>
  intro c h;have:ns=[]:=List.eq_nil_of_length_eq_zero hk;subst this;rw[List.sublist_nil.mp h];simp[chG]
 |succ k ih =>
  intro c h;have hne:ns≠[]:=fun e=>by rw[e]at hk;cases hk
  rw[<-List.dropLast_concat_getLast hne]at h ⊢;have hl:ns.dropLast.length=k:=by rw[List.length_dropLast,hk];rfl
  rw[chG_snoc];obtain⟨c1,c2,rfl,h1,h2⟩:=List.sublist_append_iff.mp h;cases h2 with
  |cons _ h3 =>
   rw[List.sublist_nil.mp h3,append_nil];exact List.mem_append_left _ (ih hl h1)
  |cons_cons _ h3 =>
   rw[List.sublist_nil.mp h3];exact mem_append_right _ (mem_map.mpr ⟨c1,ih hl h1,rfl⟩)
theorem FS{N P:List Str}{sc:Scope}(kind:sc.kind= .function:=by rfl)(co:sc.isCoroutine=false:=by rfl)(gen:sc.isGenerator=false:=by rfl)(nd:N.Nodup:=by decide+kernel)(pre:N.take P.length=P:=by rfl)(par:∀x∈P,sc.names.lookup x=some .local\/sc.names.lookup x=some .cell:=by decide+kernel)(nofree:∀y∈sc.names,y.2≠ .free:=by decide+kernel):FnScope N P sc:=⟨kind,co,gen,nd,pre,par,nofree⟩
structure FB(K:W.Frag)(mg:Str->Option Value)(q:Str)(st:Stmt)(a:Addr)(fd:FuncData)(ps:List Str):Prop where
 F:Fun K q q st a fd
 b:Binds K fd ps []
 g:mg q=some (.ref a)
structure MB(K:W.Frag)(C:Addr)(m q:Str)(st:Stmt)(a:Addr)(fd:FuncData)(ps:List Str):Prop where
 F:Fun K m q st a fd
 b:Binds K fd ps []
 n:W.findIn K (.ref C) m=some (some (.ref a))
 i:W.isFn K (.ref a)=true
theorem MB.mt{K:W.Frag}{C:Addr}{m q:Str}{st:Stmt}{a:Addr}{fd:FuncData}{ps:List Str}(h:MB K C m q st a fd ps):Meth K C m a:=⟨h.n,h.i,h.F.kp⟩
def AllN:Nat->(List Value->Prop)->Prop
 | 0,p=>p []
 |n+1,p=>∀ v,AllN n fun l=>p (v::l)
theorem AllN.get:∀{n:Nat}{p:List Value->Prop},AllN n p-> ∀us:List Value,us.length=n->p us
 | 0,_,h,[],_=>h
 | _+1,_,h,v::us,e=>AllN.get (h v) us (Nat.succ.inj e)
section
variable{K:W.Frag}{h:Heap}{mg:Str->Option Value}{x q:Str}{st:Stmt}{a C:Addr}{oc:Value}{od an:Option Addr}{osl:Array (Option Value)}{kV doc pm cdv ct:Value}{ps:List Str}
def BindN(x q:Str)(st:Stmt)(ps:List Str):Prop:=∀(kV doc pm:Value)(an:Option Addr)(cdv ct:Value),AllN ps.length fun us=>bindArgs (W.fnOf x q (yx st) (yh st) (z6 st) .none kV doc pm an cdv ct) ⟨us,[]⟩=pure (ps.zip us)
theorem FB.of(X:K.In h)(G:h.Ns mainGlobals mg)(n:W.nsIn K mainGlobals q=some (some (.ref a)))(l:K.lookup a=some ⟨oc,od,.func (W.fnOf q q (yx st) (yh st) (z6 st) .none kV doc pm an cdv ct),osl⟩)(c:W.codeIn K cdv q=true)(k:W.keepIn K (.ref a)=true)(b:BindN q q st ps) :
  FB K mg q st a (W.fnOf q q (yx st) (yh st) (z6 st) .none kV doc pm an cdv ct) ps :=
 ⟨fun_mk l c k,(fun_mk l c k).binds fun _ _ _ _ _ _ us e=>(b _ _ _ _ _ _).get us e,W.mg_of X G n⟩
theorem MB.of(n:W.findIn K (.ref C) x=some (some (.ref a)))(i:W.isFn K (.ref a)=true)(l:K.lookup a=some ⟨oc,od,.func (W.fnOf x q (yx st) (yh st) (z6 st) .none kV doc pm an cdv ct),osl⟩)(c:W.codeIn K cdv q=true)(k:W.keepIn K (.ref a)=true)(b:BindN x q st ps) :
  MB K C x q st a (W.fnOf x q (yx st) (yh st) (z6 st) .none kV doc pm an cdv ct) ps :=
 ⟨fun_mk l c k,(fun_mk l c k).binds fun _ _ _ _ _ _ us e=>(b _ _ _ _ _ _).get us e,n,i⟩
end
section
variable{X:Cx}{e e2 e3:Expr}{te te2 te3:TE}{pos:Pos}
theorem pa1(ha:PE X e te)(hs:starEach [e] X.env=(false,eval e X.env)::starEach [] X.env:=by rfl):PA X [e] (tCons te tNil):=pa_cons ha yt hs
theorem pa2(ha:PE X e te)(hb:PE X e2 te2)(hs:starEach [e,e2] X.env=(false,eval e X.env)::starEach [e2] X.env:=by rfl)(h2:starEach [e2] X.env=(false,eval e2 X.env)::starEach [] X.env:=by rfl):PA X [e,e2] (tCons te (tCons te2 tNil)):=pa_cons ha (pa1 hb h2) hs
theorem pa3(ha:PE X e te)(hb:PE X e2 te2)(hc:PE X e3 te3)(hs:starEach [e,e2,e3] X.env=(false,eval e X.env)::starEach [e2,e3] X.env:=by rfl)(h2:starEach [e2,e3] X.env=(false,eval e2 X.env)::starEach [e3] X.env:=by rfl)(h3:starEach [e3] X.env=(false,eval e3 X.env)::starEach [] X.env:=by rfl):PA X [e,e2,e3] (tCons te (tCons te2 (tCons te3 tNil))):=pa_cons ha (pa2 hb hc h2 h3) hs
theorem pset(i:Nat){x:Str}{pos':Pos}(hN:X.N.Nodup)(he:PE X e te)(hi:X.N[i]? =some x:=by rfl)(hx:Loc X.env.scope x:=by first|exact Or.inl rfl|exact Or.inr rfl)(hs:swapsWith e (some (.Name x pos')) pos.line X.env=pure false:=by rfl)(hf:X.fn x=true\/X.env.scope.names.lookup x=some .local:=by first|exact .inl rfl|exact .inr rfl|assumption) :
  PS X (.Assign [.Name x pos'] e pos) (tAsg te (yc i)):=ps_set hN hi hx he hs hf
theorem pgn(i:Nat){x:Str}(hN:X.N.Nodup)(hi:X.N[i]? =some x:=by rfl)(hx:Loc X.env.scope x:=by first|exact Or.inl rfl|exact Or.inr rfl)(hf:X.fn x=true\/X.env.scope.names.lookup x=some .local:=by first|exact .inl rfl|exact .inr rfl|assumption):PG X (.Name x pos) (yc i):=pg_name hN hi hx hf
theorem pcl{cm:Bool}{j k:Nat}{f:Addr}{fd:FuncData}{ps:List Str}{sp:Sp}{x:Str}{p:Pos}{es:List Expr}{t:TA}{st:Stmt}(F:FnOk X.prog X.w X.K X.mg X.base CX0 j f fd ps sp cm)(hr:Room k X.A cm)(B:FB X.K X.mg x st f fd ps)(ha:PA X (e::es) t)(hg:Gl X x:=by rfl)(hj:j<=k:=by decide)(hdb:(x==("__debug__" : Str))=false:=by decide)(he:starEach (e::es) X.env=(false,eval e X.env)::starEach es X.env:=by rfl)(hpl:(backTo pos (starEach es X.env)).any (·.1)=false:=by rfl) :
  PE X (.Call (.Name x p) (e::es) [] pos) (tCall sp [] E0 t):=pe_call F (hr.mono hj) hg B.g B.F.kp B.b .nil pass0 ha hdb he hpl
theorem pcm{op:CmpOp}{r:R2}(ho:OpR X (compareOp op) r)(ha:PE X e te)(hb:PE X e2 te2)(h:op≠ .In:=by decide)(h2:op≠ .NotIn:=by decide):PE X (.Compare e [op] [e2] pos) (tOp r te te2):=pe_cmpR ho ha hb (zw _ h h2)
theorem pix{r:R2}(hr:IxR X r)(ha:PE X e te)(hb:PE X e2 te2)(hs:PlainIx e2:=by exact fun _ _=>rfl):PE X (.Subscript e e2 pos) (tOp r te te2):=pe_ix hr ha hb hs
theorem csf{scope:Scope}{ls:List Str}{fr:List (Str×Nat)}(sc:Scope)(N:List Str)(h1:X.env.scope=sc:=by rfl)(h2:X.N=N:=by rfl)(h:cscopeB sc N scope fr=true:=by decide+kernel):CScope X scope ls fr:=cs_of sc N h1 h2 h
end
end L2
namespace L2
section
variable{t1 t2 t3 t4 t5 t6 t7 t8 u:TS}{D:Ends}{σ:St}{H:Hp}
theorem cut1(h:∀nx,nx=u D->t1 {D with nx:=nx} σ H):tSeq t1 u D σ H:=h _ rfl
theorem cut2(h:∀nx,nx=u D->tSeq t1 t2 {D with nx:=nx} σ H):tSeq t1 (tSeq t2 u) D σ H:=h _ rfl
theorem cut4(h:∀nx,nx=u D->tSeq t1 (tSeq t2 (tSeq t3 t4)) {D with nx:=nx} σ H):tSeq t1 (tSeq t2 (tSeq t3 (tSeq t4 u))) D σ H:=h _ rfl
end
end L2
namespace L2
open PySem PySem.Spec PyProof.Rows PySem.W
abbrev TH:=Addr->Option Addr->Ends->St->Hp->Prop
end L2
namespace L2
open PySem
def own(owner:Array (Option Nat)):List Nat:=owner.toList.filterMap id
end L2
namespace L2
open PySem PySem.Spec PyProof.Rows
structure FunD(K:W.Frag)(x qual:Str)(st:Stmt)(f:Addr)(fd:FuncData):Prop where
 ex:∃(oc:Value)(od:Option Addr)(dV kV doc pm:Value)(an:Option Addr)(cdv ct:Value)(osl:Array (Option Value)),
  fd=W.fnOf x qual (yx st) (yh st) (z6 st) dV kV doc pm an cdv ct/\K.lookup f=some ⟨oc,od,.func fd,osl⟩/\W.codeIn K cdv qual=true
 kp:W.keepIn K (.ref f)=true
section
variable{P:Program}{w:World}{K:W.Frag}{mg:Str->Option Value}{base:Heap}
theorem FunD.okE{x qual:Str}{st:Stmt}{f:Addr}{fd:FuncData}{N ps:List Str}{k:Nat}{sp:Sp}{cm:Bool}(F:FunD K x qual st f fd)(S:FnScope N ps (z6 st))(len:∀vs H Q E,sp vs H Q E->vs.length=ps.length)(hbody:∀(cdv:Value) (A:Around) (outer:List Env) (s:Shared) (H:Hp) (vs:List V) (Q:VK) (E:XK),Room k (A.deeper (envOfC qual (z6 st) s.heap.objs.size f cdv)) cm->sp vs H Q E->
   ∃t,PSs ((cxOf (CX1 P w) P w K mg base N qual (z6 st) f cdv A outer s H E cm).wish (XE (cxOf (CX1 P w) P w K mg base N qual (z6 st) f cdv A outer s H E cm) E)) (yh st) t/\t {nx:=fun _ H'=>Q .non H',rt:=Q} (start N vs) H):FnOk P w K mg base (CX1 P w) (k+1) f fd ps sp cm:=by
 obtain⟨oc,od,dV,kV,doc,pm,an,cdv,ct,osl,rfl,lk,hcd⟩:=F.ex;refine fn_of lk hcd S len fun A outer s H vs Q E hr hsp=>?_;obtain⟨t,h,q⟩:=hbody cdv A outer s H vs Q E hr hsp;refine⟨t,h.wished fun ok ev s' hx=>?_,q⟩;obtain⟨e,C,dd,H',rfl,hE,x⟩:=hx;exact ExcAt.leave (X:=cxOf (CX1 P w) P w K mg base N qual (z6 st) f cdv A outer s H E cm) ⟨ok,rfl,rfl⟩ rfl x hE
end
theorem pick_ext(n:Nat)(c:List Int):∃c'∈chG (upto n),∀rule:List (List Int),rule.length=n->yi (zG rule c)=yi (zG rule c'):=by
 refine⟨(upto n).filter fun j=>c.any fun i=>decide (i.toNat=j.toNat),chG_all List.filter_sublist,fun rule hn=>?_⟩;refine joinX_eq ⟨(joinX_is _).1,fun x=>?_⟩;rw[(joinX_is _).2];refine Nat.le_antisymm (maxC_le fun l hl=>?_) (maxC_le fun l hl=>?_)
 ·obtain⟨j,hj,rfl⟩:=mem_map.mp hl;obtain⟨_,h2⟩:=mem_filter.mp hj;obtain⟨i,hi,e⟩:=List.any_eq_true.mp h2;rw[<-of_decide_eq_true e];exact le_maxC (mem_map.mpr ⟨i,hi,rfl⟩)
 ·obtain⟨i,hi,rfl⟩:=mem_map.mp hl;by_cases hr:i.toNat<n
  ·refine le_maxC (mem_map.mpr ⟨(i.toNat:Int),mem_filter.mpr ⟨?_,?_⟩,by rw[toNat_natCast]⟩)
   ·unfold upto;exact mem_map.mpr ⟨i.toNat,mem_range.mpr hr,rfl⟩
   ·exact List.any_eq_true.mpr ⟨i,hi,by rw[toNat_natCast];exact decide_eq_true rfl⟩
  ·rw[getD_eq_getElem?_getD,List.getElem?_eq_none (by omega)];exact zero_le _
def gK3{α:Type}:List α->List α->List α
 | [a,b],[c]=>[a,b,c]
 | _,_=>[]
structure FBE(K:W.Frag)(mg:Str->Option Value)(q:Str)(st:Stmt)(a:Addr)(fd:FuncData)(ps:List Str)(kw:Str)(n:Int):Prop where
 F:FunD K q q st a fd
 b:Binds K fd ps []
 g:mg q=some (.ref a)
 d:∃t,Binds K fd ps [.int n t]
 k:KBinds K fd ps [kw] gK3 gK3
theorem vals_k3{vs:List V}{us:List Value}{zs:List V}{ws:List Value}(h1:Vals vs us)(h2:Vals zs ws):Vals (gK3 vs zs) (gK3 us ws):=by
 cases h1 with
 |nil=>exact .nil
 |cons r1 h1 =>
  cases h1 with
  |nil=>exact .nil
  |cons r2 h1 =>
   cases h1 with
   |cons _ _=>exact .nil
   |nil =>
    cases h2 with
    |nil=>exact .nil
    |cons r3 h2 =>
     cases h2 with
     |nil=>exact .cons r1 (.cons r2 (.cons r3 .nil))
     |cons _ _=>exact .nil
section
variable{K:W.Frag}{mg:Str->Option Value}
theorem FBE.of{h:Heap}{q:Str}{st:Stmt}{a T:Addr}{oc:Value}{od an td:Option Addr}{osl ts:Array (Option Value)}{kV doc pm cdv ct tc:Value}{x1 x2 x3:Str}{n:Int}{t:Tok}{m:Nat}(X:K.In h)(G:h.Ns mainGlobals mg)(hn:W.nsIn K mainGlobals q=some (some (.ref a)))(l:K.lookup a=some ⟨oc,od,.func (W.fnOf q q (yx st) (yh st) (z6 st) (.ref T) kV doc pm an cdv ct),osl⟩)(lt:K.lookup T=some ⟨tc,td,.seq #[.int n t] m,ts⟩)(c:W.codeIn K cdv q=true)(k:W.keepIn K (.ref a)=true)(b:∀(s:Shared),s.heap.get? T=some ⟨tc,td,.seq #[.int n t] m,ts⟩-> ∀u1 u2 u3,BindsTo s (W.fnOf q q (yx st) (yh st) (z6 st) (.ref T) kV doc pm an cdv ct) ⟨[u1,u2,u3],[]⟩ [(x1,u1),(x2,u2),(x3,u3)])(d:∀(s:Shared),s.heap.get? T=some ⟨tc,td,.seq #[.int n t] m,ts⟩-> ∀u1 u2,BindsTo s (W.fnOf q q (yx st) (yh st) (z6 st) (.ref T) kV doc pm an cdv ct) ⟨[u1,u2],[]⟩ [(x1,u1),(x2,u2),(x3,.int n t)])(e:∀(s:Shared),s.heap.get? T=some ⟨tc,td,.seq #[.int n t] m,ts⟩-> ∀u1 u2 u3,BindsTo s (W.fnOf q q (yx st) (yh st) (z6 st) (.ref T) kV doc pm an cdv ct) ⟨[u1,u2],[(x3,u3)]⟩ [(x1,u1),(x2,u2),(x3,u3)]) :
  FBE K mg q st a (W.fnOf q q (yx st) (yh st) (z6 st) (.ref T) kV doc pm an cdv ct) [x1,x2,x3] x3 n :=
 ⟨⟨⟨oc,od,_,kV,doc,pm,an,cdv,ct,osl,rfl,l,c⟩,k⟩,
  fun s us hK e=>(by
   rw[append_nil]at e ⊢
   match us,e with
   | [u1,u2,u3],_=>exact b s (hK _ _ lt) u1 u2 u3),
  W.mg_of X G hn,
  ⟨t,fun s us hK e=>(by
   have e':us.length=2:=by simpa using e
   clear e
   match us,e' with
   | [u1,u2],_=>exact d s (hK _ _ lt) u1 u2)⟩,
  ⟨fun s us ws hK h=>(by
   match us,ws,h with
   | [u1,u2],[u3],_=>exact e s (hK _ _ lt) u1 u2 u3),fun h1 h2=>vals_k3 h1 h2⟩⟩
end
section
variable{cm:Bool}{X:Cx}{k:Nat}{f:Addr}{fd:FuncData}{ps:List Str}{sp:Sp}{x:Str}{p pos:Pos}{e:Expr}{es:List Expr}{t:TA}{n:Int}
theorem pe_callD{CX:CXT}{E:XK}(F:FnOk X.prog X.w X.K X.mg X.base CX k f fd ps sp cm)(hr:Room k X.A cm)(hg:Gl X x)(hm:X.mg x=some (.ref f))(hk:W.keepIn X.K (.ref f)=true)(hb:∃t,Binds X.K fd ps [.int n t])(hx:Passes CX X E)(ha:PA X (e::es) t)(hdb:(x==("__debug__" : Str))=false:=by decide)(he:starEach (e::es) X.env=(false,eval e X.env)::starEach es X.env:=by rfl)(hpl:(backTo pos (starEach es X.env)).any (·.1)=false:=by rfl) :
  PE X (.Call (.Name x p) (e::es) [] pos) (tCall sp [.int n] E t):=by
 obtain⟨tk,hb⟩:=hb;exact pe_call F hr hg hm hk hb (.cons ⟨tk,rfl⟩ .nil) hx ha hdb he hpl
theorem px_callD(F:FnOk X.prog X.w X.K X.mg X.base (CX1 X.prog X.w) k f fd ps sp cm)(hr:Room k X.A cm)(hg:Gl X x)(hm:X.mg x=some (.ref f))(hk:W.keepIn X.K (.ref f)=true)(hb:∃t,Binds X.K fd ps [.int n t])(ha:PA X.nox (e::es) t)(hdb:(x==("__debug__" : Str))=false:=by decide)(he:starEach (e::es) X.env=(false,eval e X.env)::starEach es X.env:=by rfl)(hpl:(backTo pos (starEach es X.env)).any (·.1)=false:=by rfl) :
  PX X (.Call (.Name x p) (e::es) [] pos) (xCall sp [.int n] t):=by
 obtain⟨tk,hb⟩:=hb;exact px_call F hr hg hm hk hb (.cons ⟨tk,rfl⟩ .nil) ha hdb he hpl
end
theorem maxC_disj:∀{ls:List (List Int)},ls.Pairwise (fun a b=>∀ x∈a,x∉b)-> ∀x,maxC ls x=ls.flatten.count x
 | [],_,_=>rfl
 |h::r,hp,x=>by
  obtain⟨h1,h2⟩:=pairwise_cons.mp hp;rw[maxC,maxC_disj h2 x,flatten_cons,List.count_append];by_cases hx:x∈h
  ·have:r.flatten.count x=0:=List.count_eq_zero.mpr fun z=>by
    obtain⟨l,hl,hz⟩:=List.mem_flatten.mp z;exact h1 l hl x hx hz
   rw[this];exact Nat.max_zero _
  ·rw[List.count_eq_zero.mpr hx,Nat.zero_add];exact Nat.zero_max _
theorem perm_sum'{a b:List Int}(h:a.Perm b):a.sum=b.sum:=by
 induction h with
 |nil=>rfl
 |cons x _ ih=>rw[List.sum_cons,List.sum_cons,ih]
 |swap x y l=>simp only[List.sum_cons];omega
 |trans _ _ h1 h2=>exact h1.trans h2
theorem join_disj{ls:List (List Int)}(hp:ls.Pairwise (fun a b=>∀ x∈a,x∉b)):(yi ls).sum=ls.flatten.sum:=by
 have:(yi ls).Perm ls.flatten:=List.perm_iff_count.mpr fun x=>by rw[(joinX_is ls).2,maxC_disj hp]
 exact perm_sum' this
def farA(m:Nat):List (List Int):=(List.range m).map fun i=>[(2:Int)^i,(2:Int)^i]
def farB(m:Nat):List (List Int):=(List.range m).map fun i=>[(2:Int)^(i+1)]
theorem pow_inj2{i j:Nat}(h:(2:Int)^i=(2:Int)^j):i=j:=by
 have:(2:Nat)^i=2^j:=by exact_mod_cast h
 exact(Nat.pow_right_inj (by decide)).mp this
theorem far_pick{m:Nat}{f:Nat->List Int}{c:List Int}(hc:∀j∈c,0<=j/\j<m):zG ((List.range m).map f) c=c.map fun j=>f j.toNat:=by
 unfold zG;refine List.map_congr_left fun j hj=>?_;obtain⟨h0,h1⟩:=hc j hj;rw[getD_eq_getElem?_getD,getElem?_map,List.getElem?_range (by omega)];rfl
theorem far_eq{m:Nat}(c:List Int):(yi (zG (farA m) c)).sum=(yi (zG (farB m) c)).sum:=by
 obtain⟨c',hc,e⟩:=pick_ext m c;have lA:(farA m).length=m:=by unfold farA;simp
 have lB:(farB m).length=m:=by unfold farB;simp
 rw[e _ lA,e _ lB];have hr:=chG_rise m c' hc;have hm:∀j∈c',0<=j/\j<m:=fun j hj=>upto_mem ((chG_mem m (upto m) (upto_len m) c' hc).2 j hj);clear e hc c lA lB;unfold farA farB;rw[far_pick hm,far_pick hm];have ne:∀{a b:Int},0<=a->a<b->a.toNat≠b.toNat:=fun h0 h=>by omega
 have hpos:∀j∈c',0<=j:=fun j hj=>(hm j hj).1;rw[join_disj,join_disj]
 ·clear hr hm hpos
  induction c' with
  |nil=>rfl
  |cons j r ih =>
   simp only[map_cons,flatten_cons,List.sum_append,ih];congr 1;show(2:Int)^j.toNat+((2:Int)^j.toNat+0)=(2:Int)^(j.toNat+1)+0;rw[Int.pow_succ];omega
 ·rw[List.pairwise_map];refine List.Pairwise.imp_of_mem ?_ hr;intro a b ha hb hab x hx hy;have e1:=List.mem_singleton.mp hx;have e2:=List.mem_singleton.mp hy;exact ne (hpos a ha) hab (by have:=pow_inj2 (e1.symm.trans e2);omega)
 ·rw[List.pairwise_map];refine List.Pairwise.imp_of_mem ?_ hr;intro a b ha hb hab x hx hy;have e1:x=(2:Int)^a.toNat:=by simpa using hx
  have e2:x=(2:Int)^b.toNat:=by simpa using hy
  exact ne (hpos a ha) hab (pow_inj2 (e1.symm.trans e2))
theorem pow_le6{i:Nat}(h:i<=6):(2:Int)^i∈([1,2,4,8,16,32,64]:List Int):=by
 have:∀i:Nat,i<7->(2:Int)^i∈([1,2,4,8,16,32,64]:List Int):=by decide
 exact this i (by omega)
theorem pow_pos1(i:Nat):1<=(2:Int)^i:=by
 have:(2:Int)^i=((2^i:Nat):Int):=by simp
 rw[this];have:=Nat.pow_pos (n:=i) (show 0<2 by decide);omega
theorem far_J{m:Nat}(hm:m<=6){f:Nat->List Int}(h1:∀i,(f i).length<=2)(h2:∀i,i<m-> ∀x∈f i,∃k,k<=6/\x=(2:Int)^k):RuleJ ((List.range m).map f)/\ ∀h∈(List.range m).map f,h.length<=64/\ ∀x∈h,1<=x:=by
 have ex:∀h∈(List.range m).map f,∃i,i<m/\h=f i:=fun h hh=>by
  obtain⟨i,hi,rfl⟩:=mem_map.mp hh;exact⟨i,mem_range.mp hi,rfl⟩
 refine⟨⟨⟨[1,2,4,8,16,32,64],by decide,fun h hh x hx=>?_⟩,fun h hh=>?_,fun h hh x hx=>?_⟩,fun h hh=>⟨?_,fun x hx=>?_⟩⟩
 ·obtain⟨i,hi,rfl⟩:=ex h hh;obtain⟨k,hk,rfl⟩:=h2 i hi x hx;exact pow_le6 hk
 ·obtain⟨i,hi,rfl⟩:=ex h hh;exact le_trans (h1 i) (by decide)
 ·obtain⟨i,hi,rfl⟩:=ex h hh;obtain⟨k,hk,rfl⟩:=h2 i hi x hx;exact pow_pos1 k
 ·obtain⟨i,hi,rfl⟩:=ex h hh;exact le_trans (h1 i) (by decide)
 ·obtain⟨i,hi,rfl⟩:=ex h hh;obtain⟨k,hk,rfl⟩:=h2 i hi x hx;exact pow_pos1 k
theorem far_rul{m:Nat}(hm:m<=6):Rul (farA m) (farB m):=by
 have a:=far_J hm (f:=fun i=>[(2:Int)^i,(2:Int)^i]) (fun _=>le_refl 2) (fun i hi x hx=>⟨i,by omega,by simpa using hx⟩);have b:=far_J hm (f:=fun i=>[(2:Int)^(i+1)]) (fun _=>by show 1<=2;decide) (fun i hi x hx=>⟨i+1,by omega,List.mem_singleton.mp hx⟩);have lA:(farA m).length=m:=by unfold farA;simp
 have lB:(farB m).length=m:=by unfold farB;simp
 exact⟨by rw[lA,lB],by rw[lA];exact hm,a.2,b.2,far_eq,a.1,b.1⟩
theorem far_first{m:Nat}{f:Nat->List Int}{K:Nat}{y:Int}(h:∀i,i<m-> ∃x∈f i,x≠y):zD ((List.range m).map f) (replicate K y)=none:=by
 have:=first_isNone ((List.range m).map f) (replicate K y);refine Option.isNone_iff_eq_none.mp (this.trans (all_eq_true.mpr fun j hj=>?_));have lj:=upto_mem hj;rw[length_map,List.length_range]at lj;rw[getD_eq_getElem?_getD,getElem?_map,List.getElem?_range (by omega)];obtain⟨x,hx,hne⟩:=h j.toNat (by omega);show(!lies (f j.toNat) (replicate K y))=true;rw[Bool.not_eq_true'];refine Bool.eq_false_iff.mpr fun z=>?_;have h1:=(lies_all.mp z) x;rw[List.count_replicate,if_neg (by simpa using fun e=>hne e.symm)]at h1;exact absurd (List.count_pos_iff.mpr hx) (by omega)
theorem farA_first{m K:Nat}:zD (farA m) (replicate K ((2:Int)^m))=none :=
 far_first fun i hi=>⟨_,mem_cons_self,fun e=>absurd (pow_inj2 e) (by omega)⟩
theorem farB_first{m K:Nat}:zD (farB m) (replicate K 1)=none :=
 far_first fun i hi=>⟨_,mem_cons_self,fun e=>absurd (pow_inj2 (i:=i+1) (j:=0) e) (by omega)⟩
theorem far_hep(K:Nat){y:Int}(hy:1<=y):Hep ((K:Int)*y) (replicate K y) :=
 ⟨List.pairwise_replicate.mpr (.inr (Int.le_refl _)),fun x hx=>by rw[(List.mem_replicate.mp hx).2];exact hy,sum_rep K y⟩
theorem far_rows{m:Nat}{d:Int}(hm:3<=m/\m<=6)(hd:0<=d/\d<10):∃K:Nat,250 / ((2:Int)^m-1)+d-2=(K:Int)/\1<=K/\(K:Int)*(2:Int)^m<=700/\K<=100:=by
 have key:∀m:Nat,m<7->3<=m-> ∀d:Nat,d<10->3<=250 / ((2:Int)^m-1)+(d:Int)/\(250 / ((2:Int)^m-1)+(d:Int)-2)*(2:Int)^m<=700/\250 / ((2:Int)^m-1)+(d:Int)<=100:=by decide+kernel
 obtain⟨e,rfl⟩:=Int.eq_ofNat_of_zero_le hd.1;obtain⟨h1,h2,h3⟩:=key m (by omega) hm.1 e (by omega);refine⟨(250 / ((2:Int)^m-1)+(e:Int)-2).toNat,by omega,by omega,?_,by omega⟩;rw[Int.toNat_of_nonneg (by omega)];exact h2
theorem cut_noW{one other:Rule}{hs:List Int}{k:Nat}(e:EndAt one other hs k)(h0:zD one hs=none){rows:List Plc}(hr:rows=(yr one other hs k).take (k-1)):isWB one other rows=false:=by
 have od:=e.od;by_cases hk:k=1
 ·subst hk;rw[hr,Nat.sub_self,List.take_zero];exact isWB_nil _ _
 ·have hl:rows.length=k-1:=by rw[hr,length_take,zX];omega
  have hh:rows.head? =some (1,hs,[]):=by
   rw[hr,List.head?_take,if_neg (by omega)];exact walkL_head one other hs k
  rw[isWB_eq hh h0 e.lv (.inl e)];refine decide_eq_false fun z=>?_;rw[z,zX]at hl;omega
end L2
namespace L2
theorem two_ways{G B:Prop}(main:B->G)(pf:B):G:=main pf
end L2
set_option maxHeartbeats 4000000
namespace My
open PySem PySem.Spec PyProof.Rows L2
local macro_rules | `(tactic| walk_at "n")=>`(tactic| (intro vs H Q E h; first | (cases h; subst_vars; rfl) | repeat first | (obtain ⟨e,_⟩:=h; cases e; rfl) | (cases h; rfl) | obtain ⟨_,h⟩:=h))
def top(i:Nat):Stmt:=PySem.Challenge.pw_shutpairs_k28_the_walk.main.body.getD i (.Pass ⟨0,0,0,0⟩)
abbrev s_often:Stmt:=top 26
abbrev s_lies_in:Stmt:=top 27
abbrev s_all_in:Stmt:=top 33
abbrev s_first_in:Stmt:=top 34
abbrev s_NotKept___init__:Stmt:=inClass (top 8) 0
abbrev s_refuse_unkept:Stmt:=top 36
abbrev s_keeps:Stmt:=top 35
abbrev s_Beside_rules:Stmt:=inClass (top 58) 1
abbrev s_is_end:Stmt:=top 50
abbrev s_heap_of:Stmt:=top 24
abbrev s_put:Stmt:=top 30
abbrev s_taken:Stmt:=top 31
abbrev s_unlike_parts:Stmt:=top 28
abbrev s_joined:Stmt:=top 29
abbrev s_joined_of:Stmt:=top 40
abbrev s_is_choice:Stmt:=top 42
abbrev s_is_pair:Stmt:=top 43
abbrev s_rule_on:Stmt:=top 46
abbrev s_crossed:Stmt:=top 47
abbrev s_partner_of:Stmt:=top 44
abbrev s_toggled:Stmt:=top 48
abbrev s_next_place:Stmt:=top 51
abbrev s_first_places:Stmt:=top 52
abbrev s_TooLong___init__:Stmt:=inClass (top 14) 0
abbrev s_walk_of:Stmt:=top 53
abbrev yo:Stmt:=top 60
abbrev s__law_mix:Stmt:=top 62
abbrev s__law_draw:Stmt:=top 61
abbrev yC:Stmt:=top 64
abbrev s__law_first:Stmt:=top 66
abbrev s__law_lane:Stmt:=top 68
abbrev s__law_rule:Stmt:=top 70
abbrev zB:Stmt:=top 69
abbrev s__law_same:Stmt:=top 71
abbrev yf:Stmt:=top 74
abbrev s__law_joined:Stmt:=top 65
abbrev s__law_put:Stmt:=top 72
abbrev s__law_less:Stmt:=top 73
abbrev zI:Stmt:=top 75
abbrev s__law_walk:Stmt:=top 76
abbrev s__law_heap:Stmt:=top 63
abbrev yn:Stmt:=top 67
abbrev y9:Stmt:=top 77
abbrev s__law_drawn:Stmt:=top 78
abbrev s__law_long:Stmt:=top 79
abbrev s__law_not_kept:Stmt:=top 80
abbrev s__law_second:Stmt:=top 81
abbrev s_is_walk:Stmt:=top 54
abbrev s__law_left_out:Stmt:=top 82
abbrev s_sum_of:Stmt:=top 25
abbrev yp:Stmt:=top 38
abbrev s_choices_of:Stmt:=top 39
abbrev s_sums_of:Stmt:=top 56
abbrev s_first_unlike:Stmt:=top 57
abbrev s_Beside___init__:Stmt:=inClass (top 58) 0
abbrev s__law_far:Stmt:=top 83
abbrev s_law:Stmt:=top 84
set_option genInjectivity false in
structure Adr where
 (a0 a1 a2 a3 a4 a5 a6 a7 a8 a9 a10 a11 a12 a13 a14 a15 a16 a17 a18 a19 a20 a21 a22 a23 a24 a25 a26 a27 a28 a29 a30 a31 a32 a33 a34 a35 a36 a37 a38 a39 a40 a41 a42 a43 a44 a45 a46 a47 a48 a49 a50 a51 a52 a53 a54 a55 a56 w0 w1 w2 w3 w4 w5 w6 w7 w8 w9 w10 w11 w12 w13 w14 w15 w16 w17 w18 w19 w20 w21:Addr)
 (f0 f1 f2 f3 f4 f5 f6 f7 f8 f9 f10 f11 f12 f13 f14 f15 f16 f17 f18 f19 f20 f21 f22 f23 f24 f25 f26 f27 f28 f29 f30 f31 f32 f33 f34 f35 f36 f37 f38 f39 f40 f41 f42 f43 f44 f45 f46 f47 f48 f49 f50 f51 f52 f53 f54 f55 f56:FuncData)
set_option genInjectivity false in
structure Txt(K:W.Frag)(mg:Str->Option Value)(A:Adr):Prop where
 x0:FB K mg "often" s_often A.a0 A.f0 ["heap","part"]
 x1:FB K mg "lies_in" s_lies_in A.a1 A.f1 ["one","other"]
 x2:FB K mg "all_in" s_all_in A.a2 A.f2 ["rule","heap"]
 x3:FB K mg "first_in" s_first_in A.a3 A.f3 ["rule","heap"]
 x5:FB K mg "refuse_unkept" s_refuse_unkept A.a5 A.f5 ["rule","heap"]
 x6:FB K mg "keeps" s_keeps A.a6 A.f6 ["rule","heap"]
 x8:FB K mg "is_end" s_is_end A.a8 A.f8 ["sided","place"]
 x9:FB K mg "heap_of" s_heap_of A.a9 A.f9 ["parts"]
 x10:FB K mg "put" s_put A.a10 A.f10 ["one","other"]
 x11:FB K mg "taken" s_taken A.a11 A.f11 ["one","other"]
 x12:FB K mg "unlike_parts" s_unlike_parts A.a12 A.f12 ["heaps"]
 x13:FB K mg "joined" s_joined A.a13 A.f13 ["heaps"]
 x14:FB K mg "joined_of" s_joined_of A.a14 A.f14 ["rule","choice"]
 x15:FB K mg "is_choice" s_is_choice A.a15 A.f15 ["rule","choice"]
 x16:FB K mg "is_pair" s_is_pair A.a16 A.f16 ["rule","pair"]
 x17:FB K mg "rule_on" s_rule_on A.a17 A.f17 ["sided","side"]
 x18:FB K mg "crossed" s_crossed A.a18 A.f18 ["sided","place"]
 x19:FB K mg "partner_of" s_partner_of A.a19 A.f19 ["rule","pair"]
 x20:FB K mg "toggled" s_toggled A.a20 A.f20 ["sided","place"]
 x21:FB K mg "next_place" s_next_place A.a21 A.f21 ["sided","walk"]
 x22:FB K mg "first_places" s_first_places A.a22 A.f22 ["sided","heap","most"]
 x24:FBE K mg "walk_of" s_walk_of A.a24 A.f24 ["sided","heap","most"] "most" 1000
 x25:FB K mg "_law_start" yo A.a25 A.f25 ["_law_script"]
 x26:FB K mg "_law_mix" s__law_mix A.a26 A.f26 ["_law_state"]
 x27:FB K mg "_law_draw" s__law_draw A.a27 A.f27 ["_law_state","_law_many"]
 x28:FB K mg "_law_lies" yC A.a28 A.f28 ["_law_one","_law_other"]
 x29:FB K mg "_law_first" s__law_first A.a29 A.f29 ["_law_rule_here","_law_heap_here"]
 x30:FB K mg "_law_lane" s__law_lane A.a30 A.f30 ["_law_left","_law_right","_law_split","_law_levels"]
 x31:FB K mg "_law_rule" s__law_rule A.a31 A.f31 ["_law_rows"]
 x32:FB K mg "_law_matched" zB A.a32 A.f32 ["_law_state","_law_top"]
 x33:FB K mg "_law_same" s__law_same A.a33 A.f33 ["_law_found","_law_due"]
 x34:FB K mg "_law_toggled" yf A.a34 A.f34 ["_law_rules","_law_place"]
 x35:FB K mg "_law_joined" s__law_joined A.a35 A.f35 ["_law_heaps"]
 x36:FB K mg "_law_put" s__law_put A.a36 A.f36 ["_law_one","_law_other"]
 x37:FB K mg "_law_less" s__law_less A.a37 A.f37 ["_law_heap_here","_law_out"]
 x38:FB K mg "_law_crossed" zI A.a38 A.f38 ["_law_rules","_law_place"]
 x39:FB K mg "_law_walk" s__law_walk A.a39 A.f39 ["_law_rules","_law_heap_here","_law_limit"]
 x40:FB K mg "_law_heap" s__law_heap A.a40 A.f40 ["_law_state","_law_size","_law_top"]
 x41:FB K mg "_law_partings" yn A.a41 A.f41 ["_law_n","_law_top"]
 x42:FB K mg "_law_keepers" y9 A.a42 A.f42 ["_law_rule_here","_law_n"]
 x43:FB K mg "_law_drawn" s__law_drawn A.a43 A.f43 ["_law_state","_law_rule_here"]
 x44:FB K mg "_law_long" s__law_long A.a44 A.f44 ["_law_sided","_law_heap_here","_law_limit"]
 x45:FB K mg "_law_not_kept" s__law_not_kept A.a45 A.f45 ["_law_sided","_law_heap_here","_law_limit"]
 x46:FB K mg "_law_second" s__law_second A.a46 A.f46 ["_law_state","_law_sided","_law_rules"]
 x47:FB K mg "is_walk" s_is_walk A.a47 A.f47 ["sided","rows"]
 x48:FB K mg "_law_left_out" s__law_left_out A.a48 A.f48 ["_law_sided","_law_heap_here"]
 x49:FB K mg "sum_of" s_sum_of A.a49 A.f49 ["heap"]
 x50:FB K mg "choices_among" yp A.a50 A.f50 ["numbers"]
 x51:FB K mg "choices_of" s_choices_of A.a51 A.f51 ["rule"]
 x52:FB K mg "sums_of" s_sums_of A.a52 A.f52 ["rule"]
 x53:FB K mg "first_unlike" s_first_unlike A.a53 A.f53 ["one","other"]
 x55:FB K mg "_law_far" s__law_far A.a55 A.f55 ["_law_state"]
 x56:FB K mg "law" s_law A.a56 A.f56 ["_law_script"]
 w0:mg "ValueError"=none
 w1:mg "all"=none
 w2:mg "bool"=none
 w3:mg "enumerate"=none
 w4:mg "int"=none
 w5:mg "isinstance"=none
 w6:mg "len"=none
 w7:mg "list"=none
 w8:mg "max"=none
 w9:mg "min"=none
 w10:mg "range"=none
 w11:mg "sorted"=none
 w12:mg "str"=none
 w13:mg "sum"=none
 w14:mg "tuple"=none
 w15:mg "zip"=none
 kin:∃h,K.In h
 w16:mg "ShutError"=some (.ref A.w0)
 w17:mg "NoHeap"=some (.ref A.w1)
 w18:mg "NotIn"=some (.ref A.w2)
 w19:mg "NoText"=some (.ref A.w3)
 w20:mg "NoRule"=some (.ref A.w4)
 w21:mg "NoSum"=some (.ref A.w5)
 w22:mg "NotKept"=some (.ref A.w6)
 w23:mg "NoPlace"=some (.ref A.w7)
 w24:mg "NoPair"=some (.ref A.w8)
 w25:mg "NotSoMany"=some (.ref A.w9)
 w26:mg "Unmatched"=some (.ref A.w10)
 w27:mg "NotPaired"=some (.ref A.w11)
 w28:mg "TooLong"=some (.ref A.w12)
 w29:mg "NotStrict"=some (.ref A.w13)
 w30:mg "LeftOver"=some (.ref A.w14)
 w31:mg "NoBottom"=some (.ref A.w15)
 w32:mg "NoLanes"=some (.ref A.w16)
 w33:mg "TooGreat"=some (.ref A.w17)
 w34:mg "NoLine"=some (.ref A.w18)
 w35:mg "NoName"=some (.ref A.w19)
 w36:mg "NothingLeft"=some (.ref A.w20)
 w37:mg "Beside"=some (.ref A.w21)
 w38:ClsE K A.w6
 w39:ClsE K A.w12
 w40:W.mroIn K A.w6 (.ref A.w6)=some true
 w41:W.mroIn K A.w12 (.ref A.w12)=some true
 w42:W.kitOne K (.ref A.w6) (.ref A.w14)=some false
 w43:W.kitOne K (.ref A.w6) (.ref A.w15)=some false
 w44:W.kitOne K (.ref A.w6) (.ref A.w1)=some false
 w45:W.kitOne K (.ref A.w6) (.ref A.w16)=some false
 w46:W.kitOne K (.ref A.w6) (.ref A.w18)=some false
 w47:W.kitOne K (.ref A.w6) (.ref A.w19)=some false
 w48:W.kitOne K (.ref A.w6) (.ref A.w8)=some false
 w49:W.kitOne K (.ref A.w6) (.ref A.w7)=some false
 w50:W.kitOne K (.ref A.w6) (.ref A.w4)=some false
 w51:W.kitOne K (.ref A.w6) (.ref A.w5)=some false
 w52:W.kitOne K (.ref A.w6) (.ref A.w3)=some false
 w53:W.kitOne K (.ref A.w6) (.ref A.w2)=some false
 w54:W.kitOne K (.ref A.w6) (.ref A.w6)=some true
 w55:W.kitOne K (.ref A.w6) (.ref A.w11)=some false
 w56:W.kitOne K (.ref A.w6) (.ref A.w9)=some false
 w57:W.kitOne K (.ref A.w6) (.ref A.w13)=some false
 w58:W.kitOne K (.ref A.w6) (.ref A.w20)=some false
 w59:W.kitOne K (.ref A.w6) (.ref A.w0)=some true
 w60:W.kitOne K (.ref A.w6) (.ref A.w17)=some false
 w61:W.kitOne K (.ref A.w6) (.ref A.w12)=some false
 w62:W.kitOne K (.ref A.w6) (.ref A.w10)=some false
 w63:W.kitOne K (.ref A.w6) (.type "ValueError")=some true
 w64:W.kitOne K (.ref A.w12) (.ref A.w14)=some false
 w65:W.kitOne K (.ref A.w12) (.ref A.w15)=some false
 w66:W.kitOne K (.ref A.w12) (.ref A.w1)=some false
 w67:W.kitOne K (.ref A.w12) (.ref A.w16)=some false
 w68:W.kitOne K (.ref A.w12) (.ref A.w18)=some false
 w69:W.kitOne K (.ref A.w12) (.ref A.w19)=some false
 w70:W.kitOne K (.ref A.w12) (.ref A.w8)=some false
 w71:W.kitOne K (.ref A.w12) (.ref A.w7)=some false
 w72:W.kitOne K (.ref A.w12) (.ref A.w4)=some false
 w73:W.kitOne K (.ref A.w12) (.ref A.w5)=some false
 w74:W.kitOne K (.ref A.w12) (.ref A.w3)=some false
 w75:W.kitOne K (.ref A.w12) (.ref A.w2)=some false
 w76:W.kitOne K (.ref A.w12) (.ref A.w6)=some false
 w77:W.kitOne K (.ref A.w12) (.ref A.w11)=some false
 w78:W.kitOne K (.ref A.w12) (.ref A.w9)=some false
 w79:W.kitOne K (.ref A.w12) (.ref A.w13)=some false
 w80:W.kitOne K (.ref A.w12) (.ref A.w20)=some false
 w81:W.kitOne K (.ref A.w12) (.ref A.w0)=some true
 w82:W.kitOne K (.ref A.w12) (.ref A.w17)=some false
 w83:W.kitOne K (.ref A.w12) (.ref A.w12)=some true
 w84:W.kitOne K (.ref A.w12) (.ref A.w10)=some false
 w85:W.kitOne K (.ref A.w12) (.type "ValueError")=some true
 x4:MB K A.w6 "__init__" "NotKept.__init__" s_NotKept___init__ A.a4 A.f4 ["self","number"]
 x7:MB K A.w21 "rules" "Beside.rules" s_Beside_rules A.a7 A.f7 ["self"]
 x23:MB K A.w12 "__init__" "TooLong.__init__" s_TooLong___init__ A.a23 A.f23 ["self","place"]
 x54:MB K A.w21 "__init__" "Beside.__init__" s_Beside___init__ A.a54 A.f54 ["self","one","other"]
 w86:Cls K A.w21
 w87:Mk K A.w21 A.a54
 w88:NoAttr K A.w21 "one"
 w89:NoAttr K A.w21 "other"
 w90:NoAttr K A.w6 "number"
 w91:NoAttr K A.w12 "place"
 w92:ExcI K A.w6 A.a4
 w93:ExcI K A.w12 A.a23
 w94:ClsX K A.w6
 w95:ClsX K A.w12
section
variable{P:Program}{w:World}{K:W.Frag}{mg:Str->Option Value}{base:Heap}{A:Adr}
def n_often:List Str:=["heap","part"]
theorem sc_often:FnScope n_often ["heap","part"] (z6 s_often):=FS
inductive sp_often(K:W.Frag)(vs:List V)(H:Hp)(Q:VK)(E:XK):Prop
 |mk (a:Addr) (ns:List Int) (y:Int):vs=[.ref a,.int y]->H a=some (.tup (ns.map V.int))->Q (.int (ns.count y:Nat)) H->sp_often K vs H Q E
theorem ok_often(T:Txt K mg A):FnOk P w K mg base CX0 1 A.a0 A.f0 ["heap","part"] (sp_often K):=by
 refine T.x0.F.ok sc_often (by walk_at "n") fun _ _ _ s H vs Q E hr h=>?_
 ·obtain⟨a,ns,y,rfl,hS,k⟩:=h;refine⟨_,(z8 (zi (pe_bm PySem.F.plainAttrs_tuple PySem.F.slot_tuple_count PySem.F.type_tuple_count mt_countT (pv 0) (pa1 (pv 1))))),?_⟩;exact⟨_,rfl,.inr (.inl ⟨rfl,.inr ⟨_,hS⟩⟩),_,rfl,a,_,_,rfl,rfl,SqT.of hS,rfl,yu _,by rw[cntV_ints];exact k⟩
def n_lies_in:List Str:=["one","other","part"]
theorem sc_lies_in:FnScope n_lies_in ["one","other"] (z6 s_lies_in):=FS
inductive sp_lies_in(vs:List V)(H:Hp)(Q:VK)(E:XK):Prop
 |mk (a b:Addr) (ns ms:List Int):vs=[.ref a,.ref b]->H a=some (.tup (ns.map V.int))->H b=some (.tup (ms.map V.int))->Q (.bl (lies ns ms)) H->sp_lies_in vs H Q E
theorem ok_lies_in(T:Txt K mg A):FnOk P w K mg base CX0 2 A.a1 A.f1 ["one","other"] sp_lies_in:=by
 refine T.x1.F.ok sc_lies_in (by walk_at "n") fun _ _ _ s H vs Q E hr h=>?_
 ·obtain⟨a,b,ns,ms,rfl,ha,hb,k⟩:=h;refine⟨_,(z5 (ps_for PassesOwn.never rfl (pi_tup (pv 0)) (pgn 2 sc_lies_in.nd)
     (z8 (zM (zk op_lt (pcl (ok_often T) hr T.x0 (pa2 (pv 1) (pv 2))) (pcl (ok_often T) hr T.x0 (pa2 (pv 0) (pv 2))) (zw _))
     (z8 (zi pe_bl)) zj)))
    (z8 (zi pe_bl))),?_⟩
  refine⟨_,rfl,a,rfl,⟨_,SqT.of ha⟩,for_tup (xs:=ns.map V.int) (fun i σ' H'=>H'=H/\(∃v,σ'=[some (.ref a),some (.ref b),v])/\(ns.take i).all (fun x=>decide (ns.count x<=ms.count x))=true) ⟨rfl,⟨_,rfl⟩,rfl⟩ ?_ ?_ ?_⟩
  ·rintro i σ' H' _ ⟨rfl,_⟩;exact SqT.of ha
  ·rintro i x σ' H' hx ⟨rfl,⟨v,rfl⟩,hall⟩;obtain⟨z,hz,rfl⟩:=yI hx;refine⟨_,rfl,_,rfl,b,ms,z,rfl,hb,?_⟩;refine⟨_,rfl,_,rfl,a,ns,z,rfl,ha,?_⟩;refine⟨_,_,rfl,rfl,_,rfl,?_⟩;refine ite2 (fun hlt=>?_) (fun hlt=>⟨rfl,⟨_,rfl⟩,?_⟩)
   ·have h1:lies ns ms=false:=all_false (mem_of_getElem? hz) (by
     have:=of_decide_eq_true hlt;exact decide_eq_false (by omega))
    rw[h1]at k;exact k
   ·rw[all_take hz,hall,Bool.true_and];refine decide_eq_true ?_;have:¬((ms.count z:Nat):Int)<((ns.count z:Nat):Int):=fun q=>hlt (decide_eq_true q);omega
  ·rintro σ' H' ⟨rfl,_,hall⟩;rw[length_map,take_length]at hall;have h1:lies ns ms=true:=hall;rw[h1]at k;exact k
def n_all_in:List Str:=["rule","heap"]
theorem sc_all_in:FnScope n_all_in ["rule","heap"] (z6 s_all_in):=FS
inductive sp_all_in(vs:List V)(H:Hp)(Q:VK)(E:XK):Prop
 |mk (p q:Addr) (rs:List V) (rule:List (List Int)) (hs:List Int):vs=[.ref p,.ref q]->H p=some (.tup rs)->All2 Tup1 H rule rs->H q=some (.tup (hs.map V.int))->rule.length<=60->(∀(l:Addr)(H':Hp),H' l=some (.lst ((idxG rule hs).map V.int))->Same H H'->H l=none->Q (.ref l) H')->sp_all_in vs H Q E
theorem ok_all_in(T:Txt K mg A):FnOk P w K mg base CX0 3 A.a2 A.f2 ["rule","heap"] sp_all_in:=by
 refine T.x2.F.ok sc_all_in (by walk_at "n") fun _ _ _ s H vs Q E hr h=>?_
 ·obtain⟨p,q,rs,rule,hs,rfl,hp,h2,hq,hln,k⟩:=h;refine⟨_,(z8 (zi (yB (ls:=["number","shut"]) (fr:=[("heap",1)]) (csf (z6 s_all_in) n_all_in) rfl (pi_enum true rfl T.w3 (pa1 (pv 0))) (fun _ _ _ _=>pg_tupC 2 rfl (zY (pgc (ls:=["number","shut"]) (fr:=[("heap",1)]) 0 (by decide+kernel) rfl rfl) (zY (pgc (ls:=["number","shut"]) (fr:=[("heap",1)]) 1 (by decide+kernel) rfl rfl) pgs_nil)) rfl rfl) (fun _ _ _ _=>pf_one (pt_truthK K rfl (pe_call (ok_lies_in T) (hr.mono (by decide)) (glc (z6 s_all_in)) T.x1.g T.x1.F.kp T.x1.b .nil pass0 (pa2 (pvc (z6 s_all_in) 1) (pvc (z6 s_all_in) 2))) (fun _=>rfl))) (fun _ _ _ _=>(pvc (z6 s_all_in) 0))))),?_⟩;refine⟨_,rfl,p,rfl,⟨_,SqT.of hp⟩,comp_enum (k:=true) (xs:=rs) (fun i zs σ' H'=>Same H H'/\(∃v w,σ'=[v,w,some (.ref q)])/\zs=(idxP rule hs i).map V.int) ⟨fun _ _ h=>h,⟨_,_,rfl⟩,rfl⟩ ?_ ?_ ?_⟩
  ·rintro i zs σ' H' hi ⟨s,_,rfl⟩;refine⟨SqT.of (s _ _ hp),?_⟩;rw[length_map];have h1:=idxP_len rule hs i;have h2:=h2.length;exact yj (by omega)
  ·rintro i x zs σ' H' T' hx ⟨s,⟨v,w',rfl⟩,rfl⟩ hT;obtain⟨hs1,hh1,q1,rfl,hq1⟩:=h2.get hx;have hi:=(List.getElem?_eq_some_iff.mp hh1).1;have e1:rule.getD i []=hs1:=by simp[hh1]
   refine⟨T',_,rfl,SqT.of z0,rfl,_,_,rfl,_,_,rfl,rfl,?_⟩;have sn:=s.trans (Same.new (o:=.tup [.int i,.ref q1]) hT);refine⟨_,rfl,_,rfl,q1,q,hs1,hs,rfl,sn _ _ hq1,sn _ _ hq,?_⟩;refine⟨_,rfl,?_⟩;refine ite2 (fun hc=>⟨_,rfl,sn,⟨_,_,rfl⟩,?_⟩) (fun hc=>⟨sn,⟨_,_,rfl⟩,?_⟩)
   ·rw[idxP_succ,e1,if_pos hc,map_append];rfl
   ·rw[idxP_succ,e1,if_neg hc,append_nil]
  ·rintro zs σ' H' ⟨s,_,rfl⟩ l hl;rw[<-h2.length];exact k l _ z0 (s.trans (Same.new hl)) (s.free hl)
def n_first_in:List Str:=["rule","heap"]
theorem sc_first_in:FnScope n_first_in ["rule","heap"] (z6 s_first_in):=FS
inductive sp_first_in(vs:List V)(H:Hp)(Q:VK)(E:XK):Prop
 |mk (p q:Addr) (rs:List V) (rule:List (List Int)) (hs:List Int):vs=[.ref p,.ref q]->H p=some (.tup rs)->All2 Tup1 H rule rs->H q=some (.tup (hs.map V.int))->rule.length<=60->(∀(H':Hp),Same H H'->Q (optV (zD rule hs)) H')->sp_first_in vs H Q E
theorem ok_first_in(T:Txt K mg A):FnOk P w K mg base CX0 4 A.a3 A.f3 ["rule","heap"] sp_first_in:=by
 refine T.x3.F.ok sc_first_in (by walk_at "n") fun _ _ _ s H vs Q E hr h=>?_
 ·obtain⟨p,q,rs,rule,hs,rfl,hp,h2,hq,hln,k⟩:=h;refine⟨_,(z8 (zi (pe_minD false rfl rfl T.w9 (pcl (ok_all_in T) hr T.x2 (pa2 (pv 0) (pv 1))) ym))),?_⟩;refine⟨_,rfl,_,rfl,p,q,rs,rule,hs,rfl,hp,h2,hq,hln,fun l H' hl s nl=>?_⟩;refine⟨l,idxG rule hs,rfl,SqL.of hl,fun v hv=>?_⟩;rcases hv with⟨e,rfl⟩|⟨m,rfl,hm⟩
  ·have:=k H' s;rw[first_none e]at this;exact this
  ·have e:zD rule hs=some m:=idxP_head rule hs rule.length m hm;have:=k H' s;rw[e]at this;exact this
def n_NotKept___init__:List Str:=["self","number"]
theorem sc_NotKept___init__:FnScope n_NotKept___init__ ["self","number"] (z6 s_NotKept___init__):=FS
inductive sp_NotKept(A:Adr)(vs:List V)(H:Hp)(Q:VK)(E:XK):Prop
 |mk (e:Addr) (v:V):vs=[.ref e,v]->H e=some (.ext (ExcM e A.w6 none))->(∀(dx:Addr)(H':Hp),H dx=none->H'=upd (upd H e (.ext (ExcM e A.w6 (some dx)))) dx (.xd [("number",v)])->Q .non H')->sp_NotKept A vs H Q E
theorem ok_NotKept___init__(T:Txt K mg A):FnOk P w K mg base CX0 1 A.a4 A.f4 ["self","number"] (sp_NotKept A):=by
 refine T.x4.F.ok sc_NotKept___init__ (by walk_at "n") fun _ _ _ s H vs Q E hr h=>?_
 ·obtain⟨e,v,rfl,he,k⟩:=h;refine⟨_,(z8 (ps_fldX (pv 0) (pv 1) rfl)),?_⟩;exact⟨_,rfl,_,rfl,e,A.w6,rfl,he,T.w94,T.w90,fun dx hdx=>k dx _ hdx rfl⟩
def n_refuse_unkept:List Str:=["rule","heap","number"]
theorem sc_refuse_unkept:FnScope n_refuse_unkept ["rule","heap"] (z6 s_refuse_unkept):=FS
inductive sp_unkept(A:Adr)(vs:List V)(H:Hp)(Q:VK)(E:XK):Prop
 |mk (p q:Addr) (rs:List V) (rule:List (List Int)) (hs:List Int):vs=[.ref p,.ref q]->H p=some (.tup rs)->All2 Tup1 H rule rs->H q=some (.tup (hs.map V.int))->rule.length<=60->(((zD rule hs=none/\ ∀(H':Hp),Same H H'->Q .non H')\/(∃z,zD rule hs=some z/\ ∀(dx:Addr)(H':Hp),H' dx=some (.xd [("number",.int z)])->Same H H'->E (.ref A.w6) (some dx) H')))->sp_unkept A vs H Q E
theorem ok_refuse_unkept(T:Txt K mg A):FnOk P w K mg base (CX1 P w) 5 A.a5 A.f5 ["rule","heap"] (sp_unkept A):=by
 refine T.x5.F.okE sc_refuse_unkept (by walk_at "n") fun _ _ _ s H vs Q E hr h=>?_
 ·obtain⟨p,q,rs,rule,hs,rfl,hp,h2,hq,hln,h⟩:=h;refine⟨_,(z5 (pset 2 sc_refuse_unkept.nd (pcl (ok_first_in T) hr T.x3 (pa2 (pv 0) (pv 1))))
    (z8 (zM (zk op_notN (pv 2) ym (zw _))
     (z8 (ps_raiseI rfl T.w92 (ok_NotKept___init__ T) (hr.mono (by decide)) T.x4.b rfl T.w22 (pa1 (pv 2)))) zj))),?_⟩
  refine⟨_,rfl,_,rfl,p,q,rs,rule,hs,rfl,hp,h2,hq,hln,fun H1 s1=>?_⟩;rcases h with⟨h0,k⟩|⟨z,h0,k⟩
  ·rw[h0];exact⟨_,rfl,rfl,_,rfl,iteF (k H1 s1)⟩
  ·rw[h0];refine⟨_,rfl,rfl,_,rfl,iteT ⟨_,rfl,by show 1<=sizeLine;decide,fun e he=>⟨e,_,rfl,z0,fun dx H' hdx eH=>?_⟩⟩⟩;obtain⟨d1,d2,d3⟩:=del_made he hdx eH;exact⟨rfl,some dx,d1,k dx _ d2 (s1.trans d3)⟩
def n_keeps:List Str:=["rule","heap"]
theorem sc_keeps:FnScope n_keeps ["rule","heap"] (z6 s_keeps):=FS
inductive sp_keeps(vs:List V)(H:Hp)(Q:VK)(E:XK):Prop
 |mk (p q:Addr) (rs:List V) (rule:List (List Int)) (hs:List Int):vs=[.ref p,.ref q]->H p=some (.tup rs)->All2 Tup1 H rule rs->H q=some (.tup (hs.map V.int))->rule.length<=60->(∀(H':Hp),Same H H'->Q (.bl (zD rule hs).isNone) H')->sp_keeps vs H Q E
theorem ok_keeps(T:Txt K mg A):FnOk P w K mg base CX0 5 A.a6 A.f6 ["rule","heap"] sp_keeps:=by
 refine T.x6.F.ok sc_keeps (by walk_at "n") fun _ _ _ s H vs Q E hr h=>?_
 ·obtain⟨p,q,rs,rule,hs,rfl,hp,h2,hq,hln,k⟩:=h;refine⟨_,(z8 (zi (pcm op_isN (pcl (ok_first_in T) hr T.x3 (pa2 (pv 0) (pv 1))) ym))),?_⟩;refine⟨_,rfl,_,rfl,p,q,rs,rule,hs,rfl,hp,h2,hq,hln,fun H' s=>⟨rfl,?_⟩⟩;rw[optV_none];exact k H' s
def n_Beside_rules:List Str:=["self"]
theorem sc_Beside_rules:FnScope n_Beside_rules ["self"] (z6 s_Beside_rules):=FS
inductive sp_bes_rules(A:Adr)(vs:List V)(H:Hp)(Q:VK)(E:XK):Prop
 |mk (x dx p q:Addr):vs=[.ref x]->H x=some (.ins A.w21 dx (fl2 p q))->(∀(t:Addr)(H':Hp),H' t=some (.tup [.ref p,.ref q])->Same H H'->Q (.ref t) H')->sp_bes_rules A vs H Q E
theorem yJ(T:Txt K mg A):FnOk P w K mg base CX0 1 A.a7 A.f7 ["self"] (sp_bes_rules A):=by
 refine T.x7.F.ok sc_Beside_rules (by walk_at "n") fun _ _ _ s H vs Q E hr h=>?_
 ·obtain⟨x,dx,p,q,rfl,hx,k⟩:=h;refine⟨_,(z8 (zi (zK (pa2 (pe_fld (pv 0) rfl) (pe_fld (pv 0) rfl))))),?_⟩;exact⟨_,rfl,x,A.w21,dx,_,_,rfl,hx,T.w86,T.w88,fl2_one _ _,_,rfl,x,A.w21,dx,_,_,rfl,hx,T.w86,T.w89,fl2_other _ _,by show 2<=sizeLine;decide,fun t ht=>k t _ z0 (Same.new ht)⟩
def n_is_end:List Str:=["sided","place"]
theorem sc_is_end:FnScope n_is_end ["sided","place"] (z6 s_is_end):=FS
inductive sp_is_end(A:Adr)(vs:List V)(H:Hp)(Q:VK)(E:XK):Prop
 |mk (x p q:Addr) (rs qs:List V) (one other:List (List Int)) (pl:Plc) (v:V):vs=[.ref x,v]->Sided A.w21 H x p q rs qs one other->zC pl v H->(∀H',Same H H'->Q (.bl (isEndB other pl)) H')->sp_is_end A vs H Q E
theorem ok_is_end(T:Txt K mg A):FnOk P w K mg base CX0 6 A.a8 A.f8 ["sided","place"] (sp_is_end A):=by
 refine T.x8.F.ok sc_is_end (by walk_at "n") fun _ _ _ s H vs Q E hr h=>?_
 ·obtain⟨x,p,q,rs,qs,one,other,pl,v,rfl,S,hv,k⟩:=h;refine⟨_,(z8 (zi (pe_and (pcm op_eq (pix zN (pv 1) z7) z7) (pe_one (pcl (ok_keeps T) hr T.x6 (pa2 (pix zN (pe_meth0 (pv 0) T.w86 T.x7.mt (yJ T) (hr.mono (by decide)) T.x7.b .nil pass0) z7) (pix zN (pv 1) z7))))))),?_⟩;obtain⟨t,hh,hc,rfl,g1,g2,g3⟩:=hv;obtain⟨sd,heap,ch⟩:=pl;dsimp only at g1 g2 g3;obtain⟨dx,hx⟩:=S.ob;refine⟨_,rfl,t,_,_,_,rfl,rfl,SqT.of g1,zo (j:=0) rfl,rfl,_,rfl,?_⟩;refine ite2 (fun h1=>?_) (fun h1=>?_)
  ·have e:sd=2:=V.int.inj (of_decide_eq_true h1);refine⟨_,rfl,x,dx,_,rfl,hx,fl2_no _ _ (by decide+kernel) (by decide+kernel),x,dx,p,q,rfl,hx,fun t2 H2 ht2 s2=>?_⟩;refine⟨t2,_,1,_,rfl,rfl,SqT.of ht2,zo (j:=1) rfl,_,rfl,t,_,_,_,rfl,rfl,SqT.of (s2 _ _ g1),zo (j:=1) rfl,?_⟩;have l6:=S.l6;have ln:=S.ln;refine⟨q,hh,qs,other,heap,rfl,s2 _ _ S.hq,S.g2.mv s2.tups,s2 _ _ g2,by omega,fun H3 s3=>?_⟩;have:=k H3 (s2.trans s3);unfold isEndB at this;rw[show decide ((sd,heap,ch).1=2)=true from decide_eq_true e,Bool.true_and]at this;exact this
  ·have e:¬sd=2:=fun z=>h1 (decide_eq_true (by rw[z]));have:=k H (Same.refl _);unfold isEndB at this;rw[show decide ((sd,heap,ch).1=2)=false from decide_eq_false e,Bool.false_and]at this;exact this
def n_heap_of:List Str:=["parts","part"]
theorem sc_heap_of:FnScope n_heap_of ["parts"] (z6 s_heap_of):=FS
inductive sp_heap_of(vs:List V)(H:Hp)(Q:VK)(E:XK):Prop
 |mk (a:Addr) (ns:List Int):vs=[.ref a]->H a=some (.tup (ns.map V.int))->ns.length<=1000->(∀x∈ns,1<=x)->(∀(p:Addr)(H':Hp),H' p=some (.tup ((sortD ns).map V.int))->Same H H'->Q (.ref p) H')->sp_heap_of vs H Q E
theorem ok_heap_of(T:Txt K mg A):FnOk P w K mg base CX0 1 A.a9 A.f9 ["parts"] sp_heap_of:=by
 refine T.x9.F.ok sc_heap_of (by walk_at "n") fun _ _ _ s H vs Q E hr h=>?_
 ·obtain⟨a,ns,rfl,ha,hl,hp,k⟩:=h;refine⟨_,(z5 (ps_for PassesOwn.never rfl (pi_tup (pv 0)) (pgn 1 sc_heap_of.nd)
     (z8 (zM (zk op_lt (pv 1) z7 (zw _))
     (z8 ps_never) zj)))
    (z8 (zi (zQ zA rfl T.w14 boot_tuple (pa1 (pe_sortRB rfl T.w11 (pv 0))))))),?_⟩
  refine⟨_,rfl,a,rfl,⟨_,SqT.of ha⟩,for_tup (xs:=ns.map V.int) (fun i σ' H'=>H'=H/\ ∃v,σ'=[some (.ref a),v]) ⟨rfl,_,rfl⟩ ?_ ?_ ?_⟩
  ·rintro i σ' H' _ ⟨rfl,_⟩;exact SqT.of ha
  ·rintro i x σ' H' hx ⟨rfl,v,rfl⟩;obtain⟨z,hz,rfl⟩:=yI hx;have h1:=hp z (mem_of_getElem? hz);refine⟨_,rfl,_,_,rfl,rfl,_,rfl,?_⟩;refine ite2 (fun hlt=>absurd (of_decide_eq_true hlt) (by omega)) (fun _=>⟨rfl,_,rfl⟩)
  ·rintro σ' H' ⟨rfl,v,rfl⟩;refine⟨_,rfl,a,ns,rfl,.inr (SqT.of ha),le_trans hl (by decide),fun ns' p4 hperm hord hp4=>?_⟩;refine⟨p4,_,rfl,.inl ⟨SqL.of z0,fun p5 hp5=>?_⟩⟩;have e:ns'=sortD ns:=sortD_eq hperm hord;subst e;exact k p5 _ z0 ((Same.new hp4).trans (Same.new hp5))
def n_put:List Str:=["one","other"]
theorem sc_put:FnScope n_put ["one","other"] (z6 s_put):=FS
inductive sp_put(vs:List V)(H:Hp)(Q:VK)(E:XK):Prop
 |mk (a b:Addr) (ns ms:List Int):vs=[.ref a,.ref b]->H a=some (.tup (ns.map V.int))->H b=some (.tup (ms.map V.int))->(ns++ms).length<=1000->(∀x∈ns++ms,1<=x)->(∀(p:Addr)(H':Hp),H' p=some (.tup ((sortD (ns++ms)).map V.int))->Same H H'->Q (.ref p) H')->sp_put vs H Q E
theorem ok_put(T:Txt K mg A):FnOk P w K mg base CX0 2 A.a10 A.f10 ["one","other"] sp_put:=by
 refine T.x10.F.ok sc_put (by walk_at "n") fun _ _ _ s H vs Q E hr h=>?_
 ·obtain⟨a,b,ns,ms,rfl,ha,hb,hl,hp,k⟩:=h;refine⟨_,(z8 (zi (pcl (ok_heap_of T) hr T.x9 (pa1 (zr op_catA (pv 0) (pv 1)))))),?_⟩;refine⟨_,rfl,_,rfl,cat_any ha hb (le_trans hl (by decide)) fun v H1 hv s1=>?_⟩;obtain⟨q,rfl,hq⟩:=hv;exact⟨q,ns++ms,rfl,hq,hl,hp,fun p H2 hp2 s2=>k p H2 hp2 (s1.trans s2)⟩
def n_taken:List Str:=["one","other","parts","part"]
theorem sc_taken:FnScope n_taken ["one","other"] (z6 s_taken):=FS
inductive sp_taken(A:Adr)(vs:List V)(H:Hp)(Q:VK)(E:XK):Prop
 |mk (a b:Addr) (ns ms:List Int):vs=[.ref a,.ref b]->H a=some (.tup (ns.map V.int))->H b=some (.tup (ms.map V.int))->ms.length<=10000->lies ns ms=true->((∀(p:Addr)(H':Hp),H' p=some (.tup ((zW ns ms).map V.int))->Same H H'->Q (.ref p) H'))->sp_taken A vs H Q E
theorem ok_taken(T:Txt K mg A):FnOk P w K mg base CX0 3 A.a11 A.f11 ["one","other"] (sp_taken A):=by
 refine T.x11.F.ok sc_taken (by walk_at "n") fun _ _ _ s H vs Q E hr h=>?_
 ·obtain⟨a,b,ns,ms,rfl,ha,hb,hl,hc,k⟩:=h;refine⟨_,(z5 (zM (pt_not (zR (pcl (ok_lies_in T) hr T.x1 (pa2 (pv 0) (pv 1))) (fun _=>rfl)))
     (z8 ps_never) zj)
    (z5 (pset 2 sc_taken.nd (zQ call_list_of rfl T.w7 boot_list (pa1 (pv 1))))
    (z5 (ps_for PassesOwn.never rfl (pi_tup (pv 0)) (pgn 3 sc_taken.nd)
     (z8 (ya (pe_bm PySem.F.plainAttrs_list PySem.F.slot_list_remove PySem.F.type_list_remove mt_remove (pv 2) (pa1 (pv 3))))))
    (z8 (zi (zQ zA rfl T.w14 boot_tuple (pa1 (pv 2)))))))),?_⟩
  refine⟨_,rfl,_,rfl,a,b,ns,ms,rfl,ha,hb,_,rfl,?_⟩;rw[hc];refine iteF ⟨_,rfl,b,_,rfl,.inr (SqT.of hb),fun l hl0=>?_⟩;have s0:=Same.new (o:=.lst (ms.map V.int)) hl0;refine⟨_,rfl,a,rfl,⟨_,SqT.of (s0 _ _ ha)⟩,for_tup (xs:=ns.map V.int) (fun i σ' H'=>(∃v,σ'=[some (.ref a),some (.ref b),some (.ref l),v])/\Same H H'/\H' l=some (.lst ((zW (ns.take i) ms).map V.int))) ⟨⟨_,rfl⟩,s0,z0⟩ ?_ ?_ ?_⟩
  ·rintro i σ' H' _ ⟨_,s',_⟩;exact SqT.of (s' _ _ ha)
  ·rintro i x σ' H' hx ⟨⟨v,rfl⟩,s',gl⟩;obtain⟨z,hz,rfl⟩:=yI hx;have hi:=(List.getElem?_eq_some_iff.mp hz).1;have ez:=(List.getElem?_eq_some_iff.mp hz).2;refine⟨_,rfl,.inl ⟨rfl,_,SqL.of gl⟩,_,rfl,l,_,z,rfl,rfl,gl,take_in hc hz,⟨_,rfl⟩,s'.updN hl0,?_⟩;rw[z0,take_succ_eq_append_getElem hi,ez,takeOut_snoc]
  ·rintro σ' H' ⟨⟨v,rfl⟩,s',gl⟩;rw[length_map,take_length]at gl;exact⟨_,rfl,l,_,rfl,.inl ⟨SqL.of gl,fun p hp=>k p _ z0 (s'.trans (Same.new hp))⟩⟩
def n_unlike_parts:List Str:=["heaps","seen","heap","part"]
theorem yP:FnScope n_unlike_parts ["heaps"] (z6 s_unlike_parts):=FS
inductive sp_unlike(vs:List V)(H:Hp)(Q:VK)(E:XK):Prop
 |mk (a:Addr) (xs:List V) (ls:List (List Int)):vs=[.ref a]->H a=some (.lst xs)->All2 Tup1 H ls xs->((∃D:List Int,D.length<64/\ ∀x∈ls.flatten,x∈D)/\ls.flatten.length<1000)->(∀(l:Addr)(us:List Int)(H':Hp),H' l=some (.lst (us.map V.int))->us.Nodup->us.Pairwise (· >= ·)->(∀x,x∈us↔x∈ls.flatten)->us.length<64->Same H H'->H l=none->Q (.ref l) H')->sp_unlike vs H Q E
theorem ok_unlike_parts(T:Txt K mg A):FnOk P w K mg base CX0 1 A.a12 A.f12 ["heaps"] sp_unlike:=by
 refine T.x12.F.ok yP (by walk_at "n") fun _ _ _ s H vs Q E hr h=>?_
 ·obtain⟨a,xs,ls,rfl,ha,h2,⟨⟨D,hD,hDm⟩,hln⟩,k⟩:=h;refine⟨_,(z5 (pset 1 yP.nd pe_dnewK)
    (z5 (ps_for PassesOwn.never rfl (pi_list (pv 0)) (pgn 2 yP.nd)
     (z8 (ps_for PassesOwn.never rfl (pi_tup (pv 2)) (pgn 3 yP.nd)
     (z8 (ps_dput (huR hr) (pv 1) (pv 3) pe_bl rfl)))))
    (z8 (zi (pe_sortD rfl rfl T.w11 (pv 1)))))),?_⟩
  refine fun d hd=>?_;have hlc:∀i j (x:List Int),ls[i]? =some x->((ls.take i).flatten++x.take j).length<1000:=fun i j x hx=>by
   have hi:=(List.getElem?_eq_some_iff.mp hx).1;have ex:=(List.getElem?_eq_some_iff.mp hx).2;have e1:ls.flatten=(ls.take i).flatten++(x++(ls.drop (i+1)).flatten):=by
    conv=>lhs;rw[<-List.take_append_drop i ls]
    rw[List.flatten_append,List.drop_eq_getElem_cons hi,ex,flatten_cons]
   rw[e1]at hln;simp only[length_append,length_take]at hln ⊢;omega
  have hlen:=h2.length;refine⟨_,rfl,a,rfl,⟨_,SqL.of (Same.new hd _ _ ha)⟩,for_list (xs:=xs) (fun i σ' H'=>SeenU H H' d (ls.take i).flatten/\ ∃v w,σ'=[some (.ref a),some (.ref d),v,w]) ⟨⟨⟨[],[],z0,rfl,.nil,le_refl _,fun x=>Iff.rfl⟩,Same.new hd,hd⟩,_,_,rfl⟩ ?_ ?_ ?_⟩
  ·rintro i σ' H' _ ⟨S,_⟩;exact SqL.of (S.sm _ _ ha)
  ·rintro i x σ' H' hx ⟨S,v,w',rfl⟩;obtain⟨hs,hhs,q,rfl,hq⟩:=h2.get hx;refine⟨_,rfl,q,rfl,⟨_,SqT.of (S.sm _ _ hq)⟩,for_tup (xs:=hs.map V.int) (fun j σ' H'=>SeenU H H' d ((ls.take i).flatten++hs.take j)/\ ∃w,σ'=[some (.ref a),some (.ref d),some (.ref q),w]) ⟨by rw[List.take_zero,append_nil];exact S,_,rfl⟩ ?_ ?_ ?_⟩
   ·rintro j σ' H2 _ ⟨S2,_⟩;exact SqT.of (S2.sm _ _ hq)
   ·rintro j x σ' H2 hx2 ⟨S2,w2,rfl⟩;obtain⟨z,hz,rfl⟩:=yI hx2;have hj:=(List.getElem?_eq_some_iff.mp hz).1;have ez:=(List.getElem?_eq_some_iff.mp hz).2;obtain⟨H3,hp,S3⟩:=S2.put (z:=z) (by have:=hlc i j hs hhs;omega);refine⟨_,rfl,_,rfl,d,H3,rfl,hp,?_,_,rfl⟩;rw[take_succ_eq_append_getElem hj,ez,<-append_assoc];exact S3
   ·rintro σ' H2 ⟨S2,w2,rfl⟩;rw[length_map,take_length]at S2;have hi:=(List.getElem?_eq_some_iff.mp hhs).1;have ez:=(List.getElem?_eq_some_iff.mp hhs).2;refine⟨?_,_,_,rfl⟩;rw[take_succ_eq_append_getElem hi,List.flatten_append,ez];simpa using S2
  ·rintro σ' H2 ⟨S2,v,w2,rfl⟩;rw[<-hlen,take_length]at S2;obtain⟨⟨kvs,ns,hd2,hk,hnd,hn,hm⟩,sm,nw⟩:=S2;have hlD:ns.length<=D.length:=nodup_len hnd fun x hx=>hDm x ((hm x).mp hx);refine⟨_,rfl,d,kvs,ns,rfl,hd2,hk,by omega,fun us l nd hperm hord hl=>?_⟩;exact k l us _ z0 (hperm.nodup_iff.mpr nd) hord (fun x=>by rw[hperm.mem_iff,hm]) (by rw[hperm.length_eq];omega) (Same.trans sm (Same.new hl)) (Same.free sm hl)
def n_joined:List Str:=["heaps","parts","part"]
theorem sc_joined:FnScope n_joined ["heaps"] (z6 s_joined):=FS
inductive sp_joined(vs:List V)(H:Hp)(Q:VK)(E:XK):Prop
 |mk (a:Addr) (xs:List V) (ls:List (List Int)):vs=[.ref a]->H a=some (.lst xs)->All2 Tup1 H ls xs->((∃D:List Int,D.length<64/\ ∀x∈ls.flatten,x∈D)/\ls.flatten.length<1000)->ls.length<=60->(∀(p:Addr)(ms:List Int)(H':Hp),H' p=some (.tup (ms.map V.int))->IsJoin ls ms->ms.length<=100000->Same H H'->H p=none->Q (.ref p) H')->sp_joined vs H Q E
theorem ok_joined(T:Txt K mg A):FnOk P w K mg base CX0 2 A.a13 A.f13 ["heaps"] sp_joined:=by
 refine T.x13.F.ok sc_joined (by walk_at "n") fun _ _ _ s H vs Q E hr h=>?_
 ·obtain⟨a,xs,ls,rfl,ha,h2,hln,hls,k⟩:=h;refine⟨_,(z5 (pset 1 sc_joined.nd (zF yt))
    (z5 (ps_for PassesOwn.never rfl (pi_list (pcl (ok_unlike_parts T) hr T.x12 (pa1 (pv 0)))) (pgn 2 sc_joined.nd)
     (z8 (ya (pe_bm PySem.F.plainAttrs_list PySem.F.slot_list_extend PySem.F.type_list_extend mt_extend (pv 1) (pa1 (zr op_rep (zF (pa1 (pv 2 (hv:=Or.inr (Or.inl rfl))))) (z9 (call_max_ints rfl) rfl T.w8 boot_max (pa1 (yB (ls:=["heap"]) (fr:=[("part",2)]) (csf (z6 s_joined) n_joined) rfl (pi_list (pv 0)) (fun _ _ _ _=>pgc 0 (by decide+kernel) rfl rfl) (fun _ _ _ _=>pf_nil) (fun _ _ _ _=>(pe_call (ok_often T) (hr.mono (by decide)) (glc (z6 s_joined)) T.x0.g T.x0.F.kp T.x0.b .nil pass0 (pa2 (pvc (z6 s_joined) 0) (pvc (z6 s_joined) 1)))))))))))))
    (z8 (zi (zQ zA rfl T.w14 boot_tuple (pa1 (pv 1))))))),?_⟩
  refine⟨by show 0<=sizeLine;decide,fun pa hpa=>?_⟩;have h2a:=h2.mv (Same.new (o:=.lst []) hpa).tups;refine⟨_,rfl,a,xs,ls,rfl,Same.new hpa _ _ ha,h2a,hln,fun l us H1 hl nd pw hm hul s1 nl=>?_⟩;have s01:Same H H1:=(Same.new hpa).trans s1;have npl:pa≠l:=zt (z0 (H:=H) (a:=pa) (o:=.lst [])) nl;refine⟨l,rfl,⟨_,SqL.of hl⟩,for_list (xs:=us.map V.int) (fun i σ' H'=>(∀b o,H1 b=some o->b≠pa->H' b=some o)/\H' pa=some (.lst ((blow (maxC ls) (us.take i)).map V.int))/\(blow (maxC ls) (us.take i)).length<=1000*i/\i<=64/\ ∃v,σ'=[some (.ref a),some (.ref pa),v]) ⟨fun _ _ h _=>h,s1 _ _ z0,le_refl _,zero_le _,_,rfl⟩ ?_ ?_ ?_⟩
  ·rintro i σ' H' _ ⟨kp,_⟩;exact SqL.of (kp _ _ hl npl.symm)
  ·rintro i x σ' H' hx ⟨kp,gp,hle,hi64,v,rfl⟩;obtain⟨z,hz,rfl⟩:=yI hx;have hi:=(List.getElem?_eq_some_iff.mp hz).1;have ez:=(List.getElem?_eq_some_iff.mp hz).2;have ha':H' a=some (.lst xs):=kp _ _ (s01 _ _ ha) (zt ha hpa);have t1:Tups H H':=fun b ys e=>kp _ _ (s01 _ _ e) (zt e hpa);have h2':=h2.mv t1;have zm:z∈ls.flatten:=(hm z).mp (mem_of_getElem? hz);refine⟨_,rfl,.inl ⟨rfl,_,SqL.of gp⟩,_,rfl,by show 1<=sizeLine;decide,fun l1 hl1=>?_⟩;have h2b:=h2'.mv (Same.new (o:=.lst [V.int z]) hl1).tups;have hab:=(Same.new (o:=.lst [V.int z]) hl1) _ _ ha';have gpb:=(Same.new (o:=.lst [V.int z]) hl1) _ _ gp;generalize hHb:upd H' l1 (.lst [V.int z])=Hb at h2b hab gpb;have gl1:Hb l1=some (.lst [V.int z]):=by rw[<-hHb];exact z0
   have sb:Same H' Hb:=by rw[<-hHb];exact Same.new hl1
   refine⟨_,rfl,a,rfl,⟨_,SqL.of hab⟩,comp_list (xs:=xs) (fun j ys σ' H'=>H'=Hb/\(∃v,σ'=[v,some (.int z)])/\ys=((ls.take j).map fun h=>((h.count z:Nat):Int)).map V.int) ⟨rfl,⟨_,rfl⟩,rfl⟩ ?_ ?_ ?_⟩
   ·rintro j ys σ' H'' hj ⟨rfl,_,rfl⟩;refine⟨SqL.of hab,?_⟩;rw[length_map,length_map,length_take];exact yj (by omega)
   ·rintro j x ys σ' H'' hx ⟨rfl,⟨v,rfl⟩,rfl⟩;obtain⟨hs,hhs,q,rfl,hq⟩:=h2b.get hx;have hj:=(List.getElem?_eq_some_iff.mp hhs).1;have eh:=(List.getElem?_eq_some_iff.mp hhs).2;refine⟨_,rfl,_,rfl,q,hs,z,rfl,hq,rfl,⟨_,rfl⟩,?_⟩;rw[take_succ_eq_append_getElem hj,map_append,map_append,eh];rfl
   ·rintro ys σ' Hb ⟨rfl,_,rfl⟩ l2 hl2;have elen:ls.take xs.length=ls:=by rw[<-h2.length,take_length]
    rw[elen];have hne:(ls.map fun h=>((h.count z:Nat):Int))≠[]:=fun e=>by
     have:ls=[]:=List.map_eq_nil_iff.mp e;rw[this]at zm;cases zm
    refine⟨l2,_,rfl,SqL.of z0,hne,fun m hmx=>?_⟩;have em:=max_of_counts hmx;have hM:maxC ls z<=1000:=by
     have h1:=maxC_flat ls z;have h2:=List.count_le_length (a:=z) (l:=ls.flatten);omega
    refine⟨l1,m,[V.int z],rfl,rfl,Same.new hl2 _ _ gl1,by omega,by omega,?_,fun l3 hl3=>?_⟩
    ·show 1*m.toNat<=sizeLine;refine le_trans (m:=1000) (by omega) (by decide)
    have er:(replicate m.toNat [V.int z]).flatten=(replicate (maxC ls z) z).map V.int:=by
     have:m.toNat=maxC ls z:=by omega
     rw[this];simp
    rw[er];have gp3:=(Same.new (o:=.lst ((replicate (maxC ls z) z).map V.int)) hl3) _ _ ((Same.new (o:=.lst ((ls.map fun h=>((h.count z:Nat):Int)).map V.int)) hl2) _ _ gpb);have sn:Same H' (upd (upd Hb l2 (.lst ((ls.map fun h=>((h.count z:Nat):Int)).map V.int))) l3 (.lst ((replicate (maxC ls z) z).map V.int))):=sb.trans ((Same.new hl2).trans (Same.new hl3));refine⟨pa,l3,_,_,rfl,rfl,gp3,z0,?_,?_⟩
    ·rw[length_map,length_map,List.length_replicate];refine le_trans (m:=1000*64+1000) ?_ (by decide);have:1000*i<=1000*64:=Nat.mul_le_mul_left _ hi64;omega
    ·have eb:blow (maxC ls) (us.take (i+1))=blow (maxC ls) (us.take i)++replicate (maxC ls z) z:=by
      rw[take_succ_eq_append_getElem hi,blow_append,ez];simp[blow]
     refine⟨fun b o e ne=>?_,?_,?_,by omega,_,rfl⟩
     ·rw[zh ne];exact sn _ _ (kp _ _ e ne)
     ·rw[z0,eb,map_append]
     ·rw[eb,length_append,List.length_replicate];omega
  ·rintro σ' H' ⟨kp,gp,hle,_,v,rfl⟩;rw[length_map,take_length]at gp hle;refine⟨_,rfl,pa,_,rfl,.inl ⟨SqL.of gp,fun p hp=>?_⟩⟩;have sH:Same H H':=fun b o e=>kp _ _ (s01 _ _ e) (zt e hpa);refine k p _ _ z0 (blow_join nd pw hm) (by omega) (sH.trans (Same.new hp)) (sH.free hp)
def n_joined_of:List Str:=["rule","choice"]
theorem sc_joined_of:FnScope n_joined_of ["rule","choice"] (z6 s_joined_of):=FS
inductive sp_joined_of(vs:List V)(H:Hp)(Q:VK)(E:XK):Prop
 |mk (p c:Addr) (rs:List V) (rule:List (List Int)) (ch:List Int):vs=[.ref p,.ref c]->H p=some (.tup rs)->All2 Tup1 H rule rs->H c=some (.tup (ch.map V.int))->(((∃D:List Int,D.length<64/\ ∀x∈(zG rule ch).flatten,x∈D)/\(zG rule ch).flatten.length<1000)/\ch.length<=60)->(∀j∈ch,0<=j/\j<rule.length)->(∀(q:Addr)(ms:List Int)(H':Hp),H' q=some (.tup (ms.map V.int))->IsJoin (zG rule ch) ms->ms.length<=100000->Same H H'->H q=none->Q (.ref q) H')->sp_joined_of vs H Q E
theorem ok_joined_of(T:Txt K mg A):FnOk P w K mg base CX0 3 A.a14 A.f14 ["rule","choice"] sp_joined_of:=by
 refine T.x14.F.ok sc_joined_of (by walk_at "n") fun _ _ _ s H vs Q E hr h=>?_
 ·obtain⟨p,c,rs,rule,ch,rfl,hp,h2,hc,hln,hch,k⟩:=h;refine⟨_,(z8 (zi (pcl (ok_joined T) hr T.x13 (pa1 (yB (ls:=["number"]) (fr:=[("rule",0)]) (csf (z6 s_joined_of) n_joined_of) rfl (pi_tup (pv 1)) (fun _ _ _ _=>pgc 0 (by decide+kernel) rfl rfl) (fun _ _ _ _=>pf_nil) (fun _ _ _ _=>(pix (ix_tupK K rfl) (pvc (z6 s_joined_of) 1) (pvc (z6 s_joined_of) 0)))))))),?_⟩;refine⟨_,rfl,c,rfl,⟨_,SqT.of hc⟩,comp_tup (xs:=ch.map V.int) (fun i ys σ' H'=>H'=H/\(∃v,σ'=[v,some (.ref p)])/\All2 Tup1 H (zG rule (ch.take i)) ys) ⟨rfl,⟨_,rfl⟩,.nil⟩ ?_ ?_ ?_⟩
  ·rintro i ys σ' H' hi ⟨rfl,_,h3⟩;refine⟨SqT.of hc,?_⟩;rw[<-h3.length];unfold zG;rw[length_map,length_take];exact yj (by omega)
  ·rintro i x ys σ' H' hx ⟨rfl,⟨v,rfl⟩,h3⟩;obtain⟨z,hz,rfl⟩:=yI hx;have hi:=(List.getElem?_eq_some_iff.mp hz).1;have ez:=(List.getElem?_eq_some_iff.mp hz).2;have hb:=hch z (mem_of_getElem? hz);obtain⟨w',hw,r⟩:=pick_at h2 hb.1 hb.2;refine⟨_,rfl,_,rfl,p,_,z,_,rfl,rfl,SqT.of hp,hw,rfl,⟨_,rfl⟩,?_⟩;rw[take_succ_eq_append_getElem hi,ez];unfold zG;rw[map_append];exact h3.snoc r
  ·rintro ys σ' H' ⟨rfl,_,h3⟩ l hl;rw[length_map,take_length]at h3;have hll:(zG rule ch).length<=60:=by unfold zG;rw[length_map];exact hln.2
   exact⟨l,ys,_,rfl,z0,h3.mv (Same.new hl).tups,hln.1,hll,fun q ms H2 gq hj hl4 s nq=>k q ms H2 gq hj hl4 ((Same.new hl).trans s) ((Same.new hl).free nq)⟩
def n_is_choice:List Str:=["rule","choice","least","number"]
theorem sc_is_choice:FnScope n_is_choice ["rule","choice"] (z6 s_is_choice):=FS
inductive sp_is_choice(vs:List V)(H:Hp)(Q:VK)(E:XK):Prop
 |mk (p b:Addr) (rs:List V) (ch:List Int):vs=[.ref p,.ref b]->H p=some (.tup rs)->H b=some (.tup (ch.map V.int))->Q (.bl (isCh rs.length 0 ch)) H->sp_is_choice vs H Q E
theorem ok_is_choice(T:Txt K mg A):FnOk P w K mg base CX0 1 A.a15 A.f15 ["rule","choice"] sp_is_choice:=by
 refine T.x15.F.ok sc_is_choice (by walk_at "n") fun _ _ _ s H vs Q E hr h=>?_
 ·obtain⟨p,b,rs,ch,rfl,hp,hb,k⟩:=h;refine⟨_,(z5 (pset 2 sc_is_choice.nd z7)
    (z5 (ps_for PassesOwn.never rfl (pi_tup (pv 1)) (pgn 3 sc_is_choice.nd)
     (z5 (zM (PW.pt (pw_or (zk op_lt (pv 3) (pv 2) (zw _)) (pw_or1 (zk op_ge (pv 3) (z9 zl rfl T.w6 PySem.boot_len (pa1 (pv 0))) (zw _)))))
     (z8 (zi pe_bl)) zj)
    (z8 (pset 2 sc_is_choice.nd (zr yL (pv 3) z7)))))
    (z8 (zi pe_bl)))),?_⟩
  refine⟨_,rfl,b,rfl,⟨_,SqT.of hb⟩,for_tup (xs:=ch.map V.int) (fun i σ' H'=>H'=H/\(∃v,σ'=[some (.ref p),some (.ref b),some (.int (lastC 0 (ch.take i))),v])/\isCh rs.length 0 (ch.take i)=true) ⟨rfl,⟨_,rfl⟩,rfl⟩ ?_ ?_ ?_⟩
  ·rintro i σ' H' _ ⟨eH,_⟩;subst eH;exact SqT.of hb
  ·rintro i x σ' H' hx ⟨eH,⟨v,rfl⟩,hc⟩;subst eH;obtain⟨z,hz,rfl⟩:=yI hx;obtain⟨hi,ez⟩:=List.getElem?_eq_some_iff.mp hz;have et:ch.take (i+1)=ch.take i++[z]:=by rw[take_succ_eq_append_getElem hi,ez]
   have stop:z<lastC 0 (ch.take i)\/((rs.length:Nat):Int)<=z->isCh rs.length 0 ch=false:=fun c=>by
    have:ch=ch.take i++(z::ch.drop (i+1)):=by rw[<-ez,<-List.drop_eq_getElem_cons hi,List.take_append_drop]
    rw[this,isCh_app,isCh,if_pos c,Bool.and_false]
   refine⟨_,rfl,_,rfl,_,_,rfl,rfl,_,rfl,?_⟩;refine ite2 (fun h1=>?_) (fun h1=>?_)
   ·rw[stop (.inl (of_decide_eq_true h1))]at k;exact iteT k
   ·refine⟨_,rfl,_,rfl,p,_,rfl,.inr (SqT.of hp),_,_,rfl,rfl,_,rfl,?_⟩;refine ite2 (fun h2=>?_) (fun h2=>?_)
    ·rw[stop (.inr (of_decide_eq_true h2))]at k;exact k
    ·have c1:¬z<lastC 0 (ch.take i):=fun e=>h1 (decide_eq_true e);have c2:¬((rs.length:Nat):Int)<=z:=fun e=>h2 (decide_eq_true e);refine⟨_,rfl,_,_,rfl,rfl,rfl,⟨some (.int z),?_⟩,?_⟩
     ·rw[et,lastC_snoc];rfl
     ·rw[et,isCh_app,hc,isCh,if_neg (by omega)];rfl
  ·rintro σ' H' ⟨eH,_,hc⟩;subst eH;rw[length_map,take_length]at hc;rw[hc]at k;exact k
def n_is_pair:List Str:=["rule","pair"]
theorem sc_is_pair:FnScope n_is_pair ["rule","pair"] (z6 s_is_pair):=FS
inductive sp_prog_is_pair(vs:List V)(H:Hp)(Q:VK)(E:XK):Prop
 |mk (p:Addr) (v:V) (rs:List V) (rule:List (List Int)) (pc:List Int×List Int):vs=[.ref p,v]->H p=some (.tup rs)->All2 Tup1 H rule rs->Pair1 pc v H->pc.2.length<=100->(∀H',Same H H'->Q (.bl (yd rule pc)) H')->sp_prog_is_pair vs H Q E
theorem ok_is_pair(T:Txt K mg A):FnOk P w K mg base CX0 3 A.a16 A.f16 ["rule","pair"] sp_prog_is_pair:=by
 refine T.x16.F.ok sc_is_pair (by walk_at "n") fun _ _ _ s H vs Q E hr h=>?_
 ·obtain⟨p,v,rs,rule,pc,rfl,hp,h2,hv,hln,k⟩:=h;refine⟨_,(z5 (zM (pt_not (zR (pcl (ok_is_choice T) hr T.x15 (pa2 (pv 0 (hv:=Or.inr (Or.inl rfl))) (pix zN (pv 1 (hv:=Or.inr (Or.inl rfl))) z7))) (fun _=>rfl)))
     (z8 (zi pe_bl)) zj)
    (z8 (zi (z9 (call_all_bools rfl) rfl T.w1 boot_all (pa1 (yB (ls:=["number"]) (fr:=[("rule",0),("pair",1)]) (csf (z6 s_is_pair) n_is_pair) rfl (pi_tup (pix zN (pv 1 (hv:=Or.inr (Or.inl rfl))) z7)) (fun _ _ _ _=>pgc 0 (by decide+kernel) rfl rfl) (fun _ _ _ _=>pf_nil) (fun _ _ _ _=>(pe_call (ok_lies_in T) (hr.mono (by decide)) (glc (z6 s_is_pair)) T.x1.g T.x1.F.kp T.x1.b .nil pass0 (pa2 (pix (ix_tupK K rfl) (pvc (z6 s_is_pair) 1) (pvc (z6 s_is_pair) 0)) (pix (ix_tupK K rfl) (pvc (z6 s_is_pair) 2) z7)))))))))),?_⟩
  obtain⟨q,a,b,rfl,g1,g2,g3⟩:=hv;have hrl:=h2.length;refine⟨_,rfl,_,rfl,q,_,_,_,rfl,rfl,SqT.of g1,zo (j:=1) rfl,p,b,rs,pc.2,rfl,hp,g3,_,rfl,?_⟩;rw[<-hrl];cases hc:isCh rule.length 0 pc.2 with
  |false =>
   refine iteT ?_;have:=k H fun _ _ z=>z;unfold yd at this;rw[hc,Bool.false_and]at this;exact this
  |true =>
   refine iteF ?_;refine⟨_,rfl,q,_,_,_,rfl,rfl,SqT.of g1,zo (j:=1) rfl,b,rfl,⟨_,SqT.of g3⟩,comp_tup (xs:=pc.2.map V.int) (fun i ys σ' H'=>Same H H'/\(∃v,σ'=[v,some (.ref p),some (.ref q)])/\ys=((pc.2.take i).map fun j=>lies (rule.getD j.toNat []) pc.1).map V.bl) ⟨fun _ _ z=>z,⟨_,rfl⟩,rfl⟩ ?_ ?_ ?_⟩
   ·rintro i ys σ' H' hi ⟨s,_,rfl⟩;refine⟨SqT.of (s _ _ g3),?_⟩;rw[length_map,length_map,length_take];exact le_trans (m:=100) (by omega) (by decide)
   ·rintro i x ys σ' H' hx ⟨s,⟨v,rfl⟩,rfl⟩;obtain⟨z,hz,rfl⟩:=yI hx;obtain⟨hi,ez⟩:=List.getElem?_eq_some_iff.mp hz;have hb:=isCh_mem hc z (mem_of_getElem? hz);obtain⟨x,hx,c,rfl,gc⟩:=pick_at (h2.mv s.tups) hb.1 hb.2;refine⟨_,rfl,_,rfl,p,_,_,_,rfl,rfl,SqT.of (s _ _ hp),hx,?_⟩;refine⟨_,rfl,q,_,_,_,rfl,rfl,SqT.of (s _ _ g1),zo (j:=0) rfl,c,a,_,pc.1,rfl,gc,s _ _ g2,s,⟨_,rfl⟩,?_⟩;rw[take_succ_eq_append_getElem hi,map_append,map_append,ez];rfl
   ·rintro ys σ' H' ⟨s,_,rfl⟩ l hl;rw[length_map,take_length];refine⟨l,_,rfl,SqL.of z0,?_⟩;have:=k _ (s.trans (Same.new (o:=.lst ((pc.2.map fun j=>lies (rule.getD j.toNat []) pc.1).map V.bl)) hl));unfold yd at this;rw[hc,Bool.true_and]at this;rw[all_map];exact this
def n_rule_on:List Str:=["sided","side"]
theorem sc_rule_on:FnScope n_rule_on ["sided","side"] (z6 s_rule_on):=FS
inductive sp_rule_on(A:Adr)(vs:List V)(H:Hp)(Q:VK)(E:XK):Prop
 |mk (x p q:Addr) (rs qs:List V) (one other:List (List Int)) (s:Int):vs=[.ref x,.int s]->Sided A.w21 H x p q rs qs one other->((s=1\/s=2))->((∀H',Same H H'->Q (.ref (if s=1 then p else q)) H'))->sp_rule_on A vs H Q E
theorem ok_rule_on(T:Txt K mg A):FnOk P w K mg base CX0 2 A.a17 A.f17 ["sided","side"] (sp_rule_on A):=by
 refine T.x17.F.ok sc_rule_on (by walk_at "n") fun _ _ _ s H vs Q E hr h=>?_
 ·obtain⟨x,p,q,rs,qs,one,other,s,rfl,S,hs,k⟩:=h;refine⟨_,(z5 (zM (zk op_notIn_seq (pv 1) (zK (pa2 z7 z7)) rfl)
     (z8 ps_never) zj)
    (z8 (zi (pix zN (pe_meth0 (pv 0) T.w86 T.x7.mt (yJ T) (hr.mono (by decide)) T.x7.b .nil pass0) (zr op_sub (pv 1) z7))))),?_⟩
  refine⟨_,rfl,by show 2<=sizeLine;decide,fun t ht=>⟨t,_,rfl,.inr (SqT.of z0),rfl,rfl,_,rfl,?_⟩⟩;have s1:=Same.new (o:=.tup [V.int 1,V.int 2]) ht;rw[if_pos rfl,inV2];generalize upd H t (.tup [V.int 1,V.int 2])=H1 at s1
  ·have e:(decide (s=1)||decide (s=2))=true:=by rcases hs with h|h <;>rw[h] <;>rfl
   rw[e];obtain⟨dx,hx⟩:=S.ob;refine iteF ⟨_,rfl,x,dx,_,rfl,s1 _ _ hx,fl2_no _ _ (by decide+kernel) (by decide+kernel),x,dx,p,q,rfl,s1 _ _ hx,fun t2 H2 ht2 s2=>?_⟩;refine⟨_,rfl,_,_,rfl,rfl,t2,_,s-1,_,rfl,rfl,SqT.of ht2,?_,k H2 (s1.trans s2)⟩;rcases hs with h|h <;>rw[h]
   ·rw[if_pos rfl];exact zo (j:=0) rfl
   ·rw[if_neg (by decide)];exact zo (j:=1) rfl
def n_crossed:List Str:=["sided","place","side","heap","choice","here","beyond","rest"]
theorem sc_crossed:FnScope n_crossed ["sided","place"] (z6 s_crossed):=FS
inductive sp_crossed(A:Adr)(vs:List V)(H:Hp)(Q:VK)(E:XK):Prop
 |mk (x p q:Addr) (rs qs:List V) (one other:List (List Int)) (pl:Plc) (v:V) (n:Int) (i:Nat):vs=[.ref x,v]->Sided A.w21 H x p q rs qs one other->Rul one other->zC pl v H->WP one other n i pl->n<=700->(∀v' H',zC (crossG one other pl) v' H'->Same H H'->Q v' H')->sp_crossed A vs H Q E
theorem ok_crossed(T:Txt K mg A):FnOk P w K mg base CX0 4 A.a18 A.f18 ["sided","place"] (sp_crossed A):=by
 refine T.x18.F.ok sc_crossed (by walk_at "n") fun _ _ _ s H vs Q E hr h=>?_
 ·obtain⟨x,p,q,rs,qs,one,other,pl,v,n,i,rfl,S,R,hv,w,hn,k⟩:=h;refine⟨_,(z5 (pset 2 sc_crossed.nd (pix zN (pv 1) z7))
    (z5 (pset 3 sc_crossed.nd (pix zN (pv 1) z7))
    (z5 (pset 4 sc_crossed.nd (pix zN (pv 1) z7))
    (z5 (pset 5 sc_crossed.nd (pcl (ok_rule_on T) hr T.x17 (pa2 (pv 0) (pv 2))))
    (z5 (zM (pt_not (zR (pcl (ok_is_pair T) hr T.x16 (pa2 (pv 5) (zK (pa2 (pv 3) (pv 4))))) (fun _=>rfl)))
     (z8 ps_never) zj)
    (z5 (pset 6 sc_crossed.nd (pcl (ok_rule_on T) hr T.x17 (pa2 (pv 0) (zr op_sub z7 (pv 2)))))
    (z5 (pset 7 sc_crossed.nd (pcl (ok_taken T) hr T.x11 (pa2 (pcl (ok_joined_of T) hr T.x14 (pa2 (pv 5) (pv 4))) (pv 3))))
    (z8 (zi (zK (pa3 (zr op_sub z7 (pv 2)) (pcl (ok_put T) hr T.x10 (pa2 (pv 7) (pcl (ok_joined_of T) hr T.x14 (pa2 (pv 6) (pv 4))))) (pv 4)))))))))))),?_⟩
  obtain⟨t,hh,hc,rfl,g1,g2,g3⟩:=hv;have hcl:=w.chl R;have hln:=w.hep.len;have hcr:=w.clen R;have hpos:=w.pos;obtain⟨hs,hpr⟩:=yk w.ip;obtain⟨sd,heap,ch⟩:=pl;dsimp only at g1 g2 g3 hcl hln hcr hs hpr hpos;refine⟨_,rfl,t,_,_,_,rfl,rfl,SqT.of g1,zo (j:=0) rfl,?_⟩;refine⟨_,rfl,t,_,_,_,rfl,rfl,SqT.of g1,zo (j:=1) rfl,?_⟩;refine⟨_,rfl,t,_,_,_,rfl,rfl,SqT.of g1,zo (j:=2) rfl,?_⟩;have hR:∀s:Int,(s=1\/s=2)-> ∀H',Same H H'-> ∃rv:List V,H' (if s=1 then p else q)=some (.tup rv)/\All2 Tup1 H' (onR one other s) rv:=fun s hs H' s'=>by
   rcases hs with h|h <;>subst h
   ·exact⟨rs,s' _ _ S.hp,S.h2.mv s'.tups⟩
   ·exact⟨qs,s' _ _ S.hq,S.g2.mv s'.tups⟩
  refine⟨_,rfl,_,rfl,x,p,q,rs,qs,one,other,sd,rfl,S,hs,fun H1 s1=>?_⟩;obtain⟨rv,hrv,arv⟩:=hR sd hs H1 s1;refine⟨_,rfl,_,rfl,_,rfl,by show 2<=sizeLine;decide,fun t2 ht2=>?_⟩;have s2:=Same.new (o:=.tup [V.ref hh,V.ref hc]) ht2;have s12:=s1.trans s2;refine⟨_,_,rv,onR one other sd,(heap,ch),rfl,s2 _ _ hrv,arv.mv s2.tups,⟨t2,hh,hc,rfl,z0,s12 _ _ g2,s12 _ _ g3⟩,le_trans hcl (by decide),fun H3 s3=>⟨_,rfl,?_⟩⟩;have s03:=s12.trans s3;rw[hpr];have S3:=S.mv s03;have hs':3-sd=1\/3-sd=2:=by omega
  have chb:∀s:Int,∀j∈ch,0<=j/\j<(onR one other s).length:=fun s j hj=>by
   have h1:=isCh_mem (pair_all hpr).1 j hj;rw[onR_len S.ln]at h1 ⊢;exact h1
  refine iteF ⟨_,rfl,_,rfl,_,_,rfl,rfl,x,p,q,rs,qs,one,other,3-sd,rfl,S3,hs',fun H4 s4=>?_⟩;have s04:=s03.trans s4;obtain⟨rv4,hrv4,arv4⟩:=hR sd hs H4 s04;obtain⟨rb4,hrb4,arb4⟩:=hR (3-sd) hs' H4 s04;refine⟨_,rfl,_,rfl,_,hc,rv4,onR one other sd,ch,rfl,hrv4,arv4,s04 _ _ g3,⟨(R.jR sd).pick hcl,le_trans hcl (by decide)⟩,chb sd,fun j1 ms H5 hj1 hjn hlm s5 _=>?_⟩;have e1:=joinX_eq hjn;have s05:=s04.trans s5;have hlj:lies ms heap=true:=by rw[<-e1];exact pair_join hpr
  refine⟨_,rfl,j1,hh,ms,heap,rfl,hj1,s05 _ _ g2,le_trans (show heap.length<=700 by omega) (by decide),hlj,fun t6 H6 ht6 s6=>?_⟩;have s06:=s05.trans s6;refine⟨_,rfl,_,_,rfl,rfl,_,rfl,_,rfl,_,rfl,_,hc,rb4,onR one other (3-sd),ch,rfl,(s5.trans s6) _ _ hrb4,arb4.mv (s5.trans s6).tups,s06 _ _ g3,⟨(R.jR (3-sd)).pick hcl,le_trans hcl (by decide)⟩,chb (3-sd),fun j2 ms2 H7 hj2 hjn2 hlm2 s7 _=>?_⟩;have e2:=joinX_eq hjn2;rw[e1,e2]at hcr;refine⟨t6,j2,zW ms heap,ms2,rfl,s7 _ _ ht6,hj2,by omega,fun y hy=>?_,fun p8 H8 hp8 s8=>?_⟩
  ·rcases mem_append.mp hy with hy|hy
   ·exact hpos y (takeOut_mem hy)
   ·rw[<-e2]at hy;exact join_pos (R.bR (3-sd)) y hy
  refine⟨_,rfl,by show 3<=sizeLine;decide,fun t9 ht9=>?_⟩;have s9:=Same.new (o:=.tup [V.int (3-sd),V.ref p8,V.ref hc]) ht9;have s09:=s06.trans (s7.trans (s8.trans s9));refine k _ _ ⟨t9,p8,hc,rfl,z0,?_,s09 _ _ g3⟩ s09;show _=some (HO.tup ((sortD (zW (yi (zG (onR one other sd) ch)) heap++yi (zG (onR one other (3-sd)) ch))).map V.int));rw[e1,e2];exact s9 _ _ hp8
def n_partner_of:List Str:=["rule","pair","heap","choice","number"]
theorem sc_partner_of:FnScope n_partner_of ["rule","pair"] (z6 s_partner_of):=FS
inductive sp_partner_of(A:Adr)(vs:List V)(H:Hp)(Q:VK)(E:XK):Prop
 |mk (p:Addr) (v:V) (rs:List V) (rule:List (List Int)) (pc:List Int×List Int):vs=[.ref p,v]->H p=some (.tup rs)->All2 Tup1 H rule rs->Pair1 pc v H->pc.2.length<=100->rule.length<=60->((yd rule pc=true/\(zT rule pc=none-> ∀H',Same H H'->Q .non H')/\ ∀pc',zT rule pc=some pc'-> ∀v' H',Pair1 pc' v' H'->Same H H'->Q v' H'))->sp_partner_of A vs H Q E
theorem ok_partner_of(T:Txt K mg A):FnOk P w K mg base CX0 5 A.a19 A.f19 ["rule","pair"] (sp_partner_of A):=by
 refine T.x19.F.ok sc_partner_of (by walk_at "n") fun _ _ _ s H vs Q E hr h=>?_
 ·obtain⟨p,v,rs,rule,pc,rfl,hp,h2,hv,hln,hlr,h⟩:=h;refine⟨_,(z5 (zM (pt_not (zR (pcl (ok_is_pair T) hr T.x16 (pa2 (pv 0) (pv 1))) (fun _=>rfl)))
     (z8 ps_never) zj)
    (z5 (pset 2 sc_partner_of.nd (pix zN (pv 1) z7))
    (z5 (pset 3 sc_partner_of.nd (pix zN (pv 1) z7))
    (z5 (pset 4 sc_partner_of.nd (pcl (ok_first_in T) hr T.x3 (pa2 (pv 0) (pv 2))))
    (z5 (zM (zk op_isN (pv 4) ym (zw _))
     (z8 (zi ym)) zj)
    (z5 (zM (zk op_in_seq (pv 4) (pv 3) rfl)
     (z8 (zi (zK (pa2 (pv 2) (pe_slice sl_tupA (pv 3) (po_some z7) po_none))))) zj)
    (z8 (zi (zK (pa2 (pv 2) (zr op_catA (zK (pa1 (pv 4))) (pv 3)))))))))))),?_⟩
  obtain⟨q,a,b,rfl,g1,g2,g3⟩:=hv;refine⟨_,rfl,_,rfl,p,_,rs,rule,pc,rfl,hp,h2,⟨q,a,b,rfl,g1,g2,g3⟩,hln,fun H1 s1=>⟨_,rfl,?_⟩⟩;obtain⟨hc,kN,kS⟩:=h
  ·rw[hc];refine iteF ?_;refine⟨_,rfl,q,_,_,_,rfl,rfl,SqT.of (s1 _ _ g1),zo (j:=0) rfl,?_⟩;refine⟨_,rfl,q,_,_,_,rfl,rfl,SqT.of (s1 _ _ g1),zo (j:=1) rfl,?_⟩;refine⟨_,rfl,_,rfl,p,a,rs,rule,pc.1,rfl,s1 _ _ hp,h2.mv s1.tups,s1 _ _ g2,hlr,fun H2 s2=>?_⟩;have sn:=s1.trans s2;unfold zT at kN kS;cases hf:zD rule pc.1 with
   |none =>
    rw[hf]at kN;refine⟨_,rfl,rfl,_,rfl,ite2 (fun _=>?_) (fun z=>absurd (decide_eq_true rfl) z)⟩;exact kN rfl H2 sn
   |some m =>
    rw[hf]at kS;refine⟨_,rfl,rfl,_,rfl,ite2 (fun z=>?_) (fun _=>?_)⟩
    ·have:=of_decide_eq_true z;cases this
    refine⟨_,rfl,_,rfl,b,_,rfl,.inr (SqT.of (sn _ _ g3)),rfl,yu _,_,rfl,?_⟩;have ei:inV (optV (some m)) (pc.2.map V.int)=decide (m∈pc.2):=inV_ints m _;rw[if_neg Bool.false_ne_true,ei];refine ite2 (fun z=>?_) (fun z=>?_)
    ·have hm:m∈pc.2:=of_decide_eq_true z;refine⟨_,rfl,_,rfl,_,rfl,?_⟩;dsimp only[tNoPart,tNil];refine slice_tail (sn _ _ g3) fun t H3 ht s3=>?_;refine⟨by show 2<=sizeLine;decide,fun r hr=>?_⟩;have s4:=Same.new (o:=.tup [.ref a,.ref t]) hr;exact kS _ (if_pos hm) _ _ ⟨r,a,t,rfl,z0,s4 _ _ (s3 _ _ (sn _ _ g2)),s4 _ _ ht⟩ (sn.trans (s3.trans s4))
    ·have hm:¬m∈pc.2:=fun e=>z (decide_eq_true e);refine⟨_,rfl,_,rfl,by show 1<=sizeLine;decide,fun t ht=>⟨_,rfl,?_⟩⟩;have s3:=Same.new (o:=.tup [V.int m]) ht;refine cat_front (z:=m) (s3 _ _ (sn _ _ g3)) z0 hln fun v H4 hv s4=>?_;obtain⟨c,rfl,gc⟩:=hv;refine⟨by show 2<=sizeLine;decide,fun r hr=>?_⟩;have s5:=Same.new (o:=.tup [.ref a,.ref c]) hr;exact kS _ (if_neg hm) _ _ ⟨r,a,c,rfl,z0,s5 _ _ (s4 _ _ (s3 _ _ (sn _ _ g2))),s5 _ _ gc⟩ (sn.trans (s3.trans (s4.trans s5)))
def n_toggled:List Str:=["sided","place","side","partner"]
theorem sc_toggled:FnScope n_toggled ["sided","place"] (z6 s_toggled):=FS
inductive sp_tog(A:Adr)(vs:List V)(H:Hp)(Q:VK)(E:XK):Prop
 |mk (x p q:Addr) (rs qs:List V) (one other:List (List Int)) (pl:Plc) (v:V):vs=[.ref x,v]->Sided A.w21 H x p q rs qs one other->zC pl v H->pl.2.2.length<=100->isPl one other pl=true->fstP one other pl≠none->(∀v' H',zC (togG one other pl) v' H'->Same H H'->Q v' H')->sp_tog A vs H Q E
theorem ok_toggled(T:Txt K mg A):FnOk P w K mg base CX0 6 A.a20 A.f20 ["sided","place"] (sp_tog A):=by
 refine T.x20.F.ok sc_toggled (by walk_at "n") fun _ _ _ s H vs Q E hr h=>?_
 ·obtain⟨x,p,q,rs,qs,one,other,pl,v,rfl,S,hv,hl2,hip,hf,k⟩:=h;refine⟨_,(z5 (pset 2 sc_toggled.nd (pix zN (pv 1) z7))
    (z5 (pset 3 sc_toggled.nd (pcl (ok_partner_of T) hr T.x19 (pa2 (pcl (ok_rule_on T) hr T.x17 (pa2 (pv 0) (pv 2))) (zK (pa2 (pix zN (pv 1) z7) (pix zN (pv 1) z7))))))
    (z5 (zM (zk op_isN (pv 3) ym (zw _))
     (z8 ps_never) zj)
    (z8 (zi (zK (pa3 (pv 2) (pix zN (pv 3) z7) (pix zN (pv 3) z7)))))))),?_⟩
  obtain⟨t,hh,hc,rfl,g1,g2,g3⟩:=hv;obtain⟨pc,hpc⟩:=partner_of_fst hf;rw[tog_of hpc]at k;obtain⟨hs,hpr⟩:=yk hip;obtain⟨sd,heap,ch⟩:=pl;dsimp only at g1 g2 g3 hl2 k hs hpr hpc;refine⟨_,rfl,t,_,_,_,rfl,rfl,SqT.of g1,zo (j:=0) rfl,?_⟩;refine⟨_,rfl,_,rfl,x,p,q,rs,qs,one,other,sd,rfl,S,hs,fun H1 s1=>?_⟩;obtain⟨rv,hrv,arv⟩:∃rv:List V,H1 (if sd=1 then p else q)=some (.tup rv)/\All2 Tup1 H1 (onR one other sd) rv:=by
   rcases hs with h|h <;>subst h
   ·exact⟨rs,s1 _ _ S.hp,S.h2.mv s1.tups⟩
   ·exact⟨qs,s1 _ _ S.hq,S.g2.mv s1.tups⟩
  refine⟨_,rfl,t,_,_,_,rfl,rfl,SqT.of (s1 _ _ g1),zo (j:=1) rfl,_,rfl,t,_,_,_,rfl,rfl,SqT.of (s1 _ _ g1),zo (j:=2) rfl,by show 2<=sizeLine;decide,fun t2 ht2=>?_⟩;have s2:=Same.new (o:=.tup [V.ref hh,V.ref hc]) ht2;have s12:=s1.trans s2;refine⟨_,_,rv,onR one other sd,(heap,ch),rfl,s2 _ _ hrv,arv.mv s2.tups,⟨t2,hh,hc,rfl,z0,s12 _ _ g2,s12 _ _ g3⟩,hl2,by rw[onR_len S.ln];have:=S.l6;omega,hpr,(fun z=>by rw[hpc]at z;cases z),fun pc' hpc' v' H3 hv' s3=>?_⟩;rw[hpc]at hpc';cases hpc';obtain⟨q',a',b',rfl,h1,h2,h3⟩:=hv';refine⟨_,rfl,rfl,_,rfl,ite2 (fun z=>?_) (fun _=>?_)⟩
  ·have:=of_decide_eq_true z;cases this
  refine⟨_,rfl,_,rfl,q',_,_,_,rfl,rfl,SqT.of h1,zo (j:=0) rfl,_,rfl,q',_,_,_,rfl,rfl,SqT.of h1,zo (j:=1) rfl,by show 3<=sizeLine;decide,fun t9 ht9=>?_⟩;have s9:=Same.new (o:=.tup [V.int sd,V.ref a',V.ref b']) ht9;exact k _ _ ⟨t9,a',b',rfl,z0,s9 _ _ h2,s9 _ _ h3⟩ (s12.trans (s3.trans s9))
def n_next_place:List Str:=["sided","walk"]
theorem sc_next_place:FnScope n_next_place ["sided","walk"] (z6 s_next_place):=FS
noncomputable def stepG(one other:List (List Int))(i:Nat)(pl:Plc):Plc:=if i%2=0 then crossG one other pl else togG one other pl
inductive sp_next(A:Adr)(vs:List V)(H:Hp)(Q:VK)(E:XK):Prop
 |mk (x l p q:Addr) (rs qs:List V) (one other:List (List Int)) (pl:Plc) (v:V) (ys:List V) (n:Int):vs=[.ref x,.ref l]->Sided A.w21 H x p q rs qs one other->Rul one other->H l=some (.lst (ys++[v]))->zC pl v H->WP one other n ys.length pl->n<=700->((ys.length%2=1->fstP one other pl≠none))->(∀v' H',zC (stepG one other ys.length pl) v' H'->Same H H'->Q v' H')->sp_next A vs H Q E
theorem ok_next_place(T:Txt K mg A):FnOk P w K mg base CX0 7 A.a21 A.f21 ["sided","walk"] (sp_next A):=by
 refine T.x21.F.ok sc_next_place (by walk_at "n") fun _ _ _ s H vs Q E hr h=>?_
 ·obtain⟨x,l,p,q,rs,qs,one,other,pl,v,ys,n,rfl,S,R,hl,hv,w,hn,hf,k⟩:=h;refine⟨_,(z5 (zM (zk op_eq (zr op_mod (z9 zl rfl T.w6 PySem.boot_len (pa1 (pv 1))) z7) z7 (zw _))
     (z8 (zi (pcl (ok_crossed T) hr T.x18 (pa2 (pv 0) (pix zE (pv 1) (pe_un un_neg z7)))))) zj)
    (z8 (zi (pcl (ok_toggled T) hr T.x20 (pa2 (pv 0) (pix zE (pv 1) (pe_un un_neg z7))))))),?_⟩
  have hlen:((ys++[v]).length:Int)%2=1↔ys.length%2=0:=by
   rw[length_append];show((ys.length+1:Nat):Int)%2=1↔_;omega
  refine⟨_,rfl,l,_,rfl,.inl (SqL.of hl),_,_,rfl,rfl,by omega,rfl,_,rfl,?_⟩;refine ite2 (fun h1=>?_) (fun h1=>?_)
  ·have e0:ys.length%2=0:=hlen.mp (V.int.inj (of_decide_eq_true h1));refine⟨_,rfl,_,rfl,_,rfl,l,_,_,_,rfl,rfl,SqL.of hl,atI_last _ _,x,p,q,rs,qs,one,other,pl,v,n,_,rfl,S,R,hv,w,hn,fun v' H' hv' s'=>k v' H' ?_ s'⟩;unfold stepG;rw[if_pos e0];exact hv'
  ·have e0:¬ys.length%2=0:=fun z=>h1 (decide_eq_true (congrArg V.int (hlen.mpr z)));refine⟨_,rfl,_,rfl,_,rfl,l,_,_,_,rfl,rfl,SqL.of hl,atI_last _ _,x,p,q,rs,qs,one,other,pl,v,rfl,S,hv,le_trans (w.chl R) (by decide),w.ip,hf (by omega),fun v' H' hv' s'=>k v' H' ?_ s'⟩;unfold stepG;rw[if_neg e0];exact hv'
def n_first_places:List Str:=["sided","heap","most","walk"]
theorem sc_first_places:FnScope n_first_places ["sided","heap","most"] (z6 s_first_places):=FS
inductive sp_places(A:Adr)(vs:List V)(H:Hp)(Q:VK)(E:XK):Prop
 |mk (x h p q:Addr) (rs qs:List V) (one other:List (List Int)) (hs:List Int) (n:Int) (mo:V) (B:Nat):vs=[.ref x,.ref h,mo]->Sided A.w21 H x p q rs qs one other->Rul one other->H h=some (.tup (hs.map V.int))->Hep n hs->n<=700->((mo= .non\/mo= .int (B:Int)))->B<=1000000->((mo= .non-> ∀k,Live one other hs k->k<B))->(∀(l:Addr)(k:Nat)(xs:List V)(H':Hp),H' l=some (.lst xs)->All2 zC H' (yr one other hs k) xs->Live one other hs k->(k=0\/mo= .non\/k+1<=B)->(EndAt one other hs k\/(mo= .int (B:Int)/\ ¬EndAt one other hs k/\B<=k+1/\(k=0\/k+1<=B)))->Same H H'->H l=none->Q (.ref l) H')->sp_places A vs H Q E
theorem ok_first_places(T:Txt K mg A):FnOk P w K mg base CX0 8 A.a22 A.f22 ["sided","heap","most"] (sp_places A):=by
 refine T.x22.F.ok sc_first_places (by walk_at "n") fun _ _ _ s H vs Q E hr h=>?_
 ·obtain⟨x,h,p,q,rs,qs,one,other,hs,n,mo,B,rfl,S,R,gh,hh,hn,hm,hB,hBk,k⟩:=h;refine⟨_,(z5 (pset 3 sc_first_places.nd (zF (pa1 (zK (pa3 z7 (pv 1) (zK yt))))))
    (z5 (ps_while PassesOwn.never (PW.pt (pw_and (pt_not (zR (pcl (ok_is_end T) hr T.x8 (pa2 (pv 0) (pix zE (pv 3) (pe_un un_neg z7)))) (fun _=>rfl))) (pw_and1 (PW.pt (pw_or (zk op_isN (pv 2) ym (zw _)) (pw_or1 (zk op_lt (z9 zl rfl T.w6 PySem.boot_len (pa1 (pv 3))) (pv 2) (zw _))))))))
     (z8 (ya (pe_bm PySem.F.plainAttrs_list PySem.F.slot_list_append PySem.F.type_list_append zZ (pv 3) (pa1 (pcl (ok_next_place T) hr T.x21 (pa2 (pv 0) (pv 3))))))))
    (z8 (zi (pv 3))))),?_⟩
  refine⟨_,rfl,by show 0<=sizeLine;decide,fun c0 hc0=>⟨by show 3<=sizeLine;decide,fun t ht=>⟨by show 1<=sizeLine;decide,fun l hl=>?_⟩⟩⟩;have sT:=(Same.new (o:=.tup []) hc0).trans (Same.new (o:=.tup [V.int 1,V.ref h,V.ref c0]) ht);have sL:=sT.trans (Same.new (o:=.lst [V.ref t]) hl);have nl:H l=none:=sT.free hl;have gt:=Same.new (o:=.lst [V.ref t]) hl _ _ (z0 (H:=upd H c0 (.tup [])) (a:=t) (o:=.tup [V.int 1,V.ref h,V.ref c0]));have gc:=Same.new (o:=.lst [V.ref t]) hl _ _ (Same.new (o:=.tup [V.int 1,V.ref h,V.ref c0]) ht _ _ (z0 (H:=H) (a:=c0) (o:=.tup [])));refine⟨fun m σ' H'=>∃(k:Nat)(xs:List V),m=B+1-k/\ σ'=[some (.ref x),some (.ref h),some mo,some (.ref l)]/\H' l=some (.lst xs)/\All2 zC H' (yr one other hs k) xs/\Live one other hs k/\(k=0\/mo= .non\/k+1<=B)/\Same H H',⟨_,0,[V.ref t],rfl,rfl,z0,.cons ⟨t,h,c0,rfl,gt,sL _ _ gh,gc⟩ .nil,fun i hi=>absurd hi (Nat.not_lt_zero _),.inl rfl,sL⟩,?_⟩;clear gt gc sL sT hl ht hc0;rintro m σ' H' ⟨k',xs,rfl,rfl,gl,a2,L,hk,s⟩;obtain⟨ys,v,rfl,hy,hv⟩:=walk_last a2;have w:=wk_ok R hh k' L;have we:=wk_end R hh L;refine⟨_,rfl,_,rfl,_,rfl,l,_,_,_,rfl,rfl,SqL.of gl,atI_last _ _,x,p,q,rs,qs,one,other,_,v,rfl,S.mv s,hv,fun H1 s1=>⟨_,rfl,?_⟩⟩;have s01:=s.trans s1;have hlt:(ys++[v]).length<sizeLine->True:=fun _=>trivial;cases he:isEndB other (wk one other hs k')with
  |true =>
   obtain⟨e1,e2⟩:=we.mp he;exact iteF (iteF ⟨_,rfl,k l k' _ H1 (s1 _ _ gl) (a2.imp fun _ _ z=>z.mv s1.tups) L hk (.inl ⟨L,e1,e2⟩) s01 nl⟩)
  |false =>
   have hne:¬EndAt one other hs k':=fun z=>by rw[we.mpr ⟨z.od,z.no⟩]at he;cases he
   have hf:ys.length%2=1->fstP one other (wk one other hs k')≠none:=fun o z=>hne ⟨L,by rw[<-hy];exact o,z⟩;have hk6:k'<=1000000:=by
    rcases hm with z|z
    ·have:=hBk z k' L;omega
    ·rcases hk with e|e|e
     ·omega
     ·rw[z]at e;cases e
     ·omega
   have hly:(ys++[v]).length<sizeLine:=by
    rw[length_append,hy];exact lt_of_le_of_lt (show k'+1<=1000001 by omega) (by decide)
   have wy:WP one other n ys.length (wk one other hs k'):=by rw[hy];exact w
   refine iteT ⟨_,rfl,rfl,_,rfl,?_⟩;have fin:∀(H2:Hp)(v':V),zC (stepG one other ys.length (wk one other hs k')) v' H2->Same H' H2->(mo= .non\/k'+2<=B)->B+1-(k'+1)<B+1-k'-> ∃m',m'<B+1-k'/\ ∃(k:Nat)(xs:List V),m'=B+1-k/\[some (V.ref x),some (V.ref h),some mo,some (V.ref l)]=[some (.ref x),some (.ref h),some mo,some (.ref l)]/\upd H2 l (.lst (ys++[v]++[v'])) l=some (.lst xs)/\All2 zC (upd H2 l (.lst (ys++[v]++[v']))) (yr one other hs k) xs/\Live one other hs k/\(k=0\/mo= .non\/k+1<=B)/\Same H (upd H2 l (.lst (ys++[v]++[v']))):=fun H2 v' hv' s2 hc hlt=>by
    rw[hy]at hv';have tS:Tups H2 (upd H2 l (.lst (ys++[v]++[v']))):=Tups.set (s2 _ _ gl);refine⟨_,hlt,k'+1,_,rfl,rfl,z0,walk_snoc a2 (s2.tups.trans tS) (zC.mv tS ?_),L.next hne,.inr (hc.imp_right fun z=>by omega),(s.trans s2).updN nl⟩;exact hv'
   rcases hm with rfl|rfl
   ·have hb:=hBk rfl k' L;refine ite2 (fun _=>?_) (fun z=>absurd (decide_eq_true rfl) z);refine iteT ⟨_,fun σ' H' h=>h,?_⟩;exact⟨_,rfl,.inl ⟨rfl,_,SqL.of (s1 _ _ gl)⟩,_,rfl,_,rfl,x,l,p,q,rs,qs,one,other,_,v,ys,n,rfl,S.mv s01,R,s1 _ _ gl,hv.mv s1.tups,wy,hn,hf,fun v' H2 hv' s2=>⟨l,_,_,rfl,rfl,s2 _ _ (s1 _ _ gl),hly,fin H2 v' hv' (s1.trans s2) (.inl rfl) (by omega)⟩⟩
   ·refine ite2 (fun z=>by have:=of_decide_eq_true z;cases this) (fun _=>?_);refine⟨_,rfl,l,_,rfl,.inl (SqL.of (s1 _ _ gl)),_,rfl,_,_,rfl,rfl,_,rfl,ite2 (fun hc=>?_) (fun hc=>?_)⟩
    ·have hc':k'+2<=B:=by
      have:=of_decide_eq_true hc;rw[length_append,hy]at this;simp at this;omega
     refine⟨_,fun σ' H' h=>h,?_⟩;exact⟨_,rfl,.inl ⟨rfl,_,SqL.of (s1 _ _ gl)⟩,_,rfl,_,rfl,x,l,p,q,rs,qs,one,other,_,v,ys,n,rfl,S.mv s01,R,s1 _ _ gl,hv.mv s1.tups,wy,hn,hf,fun v' H2 hv' s2=>⟨l,_,_,rfl,rfl,s2 _ _ (s1 _ _ gl),hly,fin H2 v' hv' (s1.trans s2) (.inr hc') (by omega)⟩⟩
    ·have hc':B<=k'+1:=by
      refine Nat.le_of_not_lt fun z=>hc (decide_eq_true ?_);rw[length_append,hy];simp;omega
     exact⟨_,rfl,k l k' _ H1 (s1 _ _ gl) (a2.imp fun _ _ z=>z.mv s1.tups) L hk (.inr ⟨rfl,hne,hc',hk.imp_right fun z=>z.resolve_left (fun y=>by cases y)⟩) s01 nl⟩
def n_TooLong___init__:List Str:=["self","place"]
theorem sc_TooLong___init__:FnScope n_TooLong___init__ ["self","place"] (z6 s_TooLong___init__):=FS
inductive sp_TooLong(A:Adr)(vs:List V)(H:Hp)(Q:VK)(E:XK):Prop
 |mk (e:Addr) (v:V):vs=[.ref e,v]->H e=some (.ext (ExcM e A.w12 none))->(∀(dx:Addr)(H':Hp),H dx=none->H'=upd (upd H e (.ext (ExcM e A.w12 (some dx)))) dx (.xd [("place",v)])->Q .non H')->sp_TooLong A vs H Q E
theorem ok_TooLong___init__(T:Txt K mg A):FnOk P w K mg base CX0 1 A.a23 A.f23 ["self","place"] (sp_TooLong A):=by
 refine T.x23.F.ok sc_TooLong___init__ (by walk_at "n") fun _ _ _ s H vs Q E hr h=>?_
 ·obtain⟨e,v,rfl,he,k⟩:=h;refine⟨_,(z8 (ps_fldX (pv 0) (pv 1) rfl)),?_⟩;exact⟨_,rfl,_,rfl,e,A.w12,rfl,he,T.w95,T.w91,fun dx hdx=>k dx _ hdx rfl⟩
def n_walk_of:List Str:=["sided","heap","most","walk"]
theorem sc_walk_of:FnScope n_walk_of ["sided","heap","most"] (z6 s_walk_of):=FS
inductive sp_walk_of(A:Adr)(vs:List V)(H:Hp)(Q:VK)(E:XK):Prop
 |mk (x h p q:Addr) (rs qs:List V) (one other:List (List Int)) (hs:List Int) (n:Int) (M:Nat):vs=[.ref x,.ref h,.int (M:Int)]->Sided A.w21 H x p q rs qs one other->Rul one other->H h=some (.tup (hs.map V.int))->Hep n hs->n<=700->(1<=M/\M<=10000)->(((∃z,zD one hs=some z/\ ∀(dx:Addr)(H':Hp),H' dx=some (.xd [("number",.int z)])->Same H H'->E (.ref A.w6) (some dx) H')\/
  (zD one hs=none/\(∀(l:Addr)(k:Nat)(xs:List V)(H':Hp),H' l=some (.lst xs)->All2 zC H' (yr one other hs k) xs->EndAt one other hs k->k+1<=M->Same H H'->H l=none->Q (.ref l) H')/\
  (∀(dx:Addr)(v:V)(H':Hp),Live one other hs (M-1)-> ¬EndAt one other hs (M-1)->H' dx=some (.xd [("place",v)])->zC (wk one other hs (M-1)) v H'->Same H H'->E (.ref A.w12) (some dx) H'))))->sp_walk_of A vs H Q E
theorem ok_walk_of(T:Txt K mg A):FnOk P w K mg base (CX1 P w) 9 A.a24 A.f24 ["sided","heap","most"] (sp_walk_of A):=by
 refine T.x24.F.okE sc_walk_of (by walk_at "n") fun _ _ _ s H vs Q E hr h=>?_
 ·obtain⟨x,h,p,q,rs,qs,one,other,hs,n,M,rfl,S,R,gh,hh,hn,hM,hq0⟩:=h;refine⟨_,(z5 (ya (pe_call (ok_refuse_unkept T) (hr.mono (by decide)) rfl T.x5.g T.x5.F.kp T.x5.b .nil passE (pa2 (pix zN (pe_meth0 (pv 0) T.w86 T.x7.mt (yJ T) (hr.mono (by decide)) T.x7.b .nil pass0) z7) (pv 1))))
    (z5 (pset 3 sc_walk_of.nd (pcl (ok_first_places T) hr T.x22 (pa3 (pv 0) (pv 1) (pv 2))))
    (z5 (zM (pt_not (zR (pcl (ok_is_end T) hr T.x8 (pa2 (pv 0) (pix zE (pv 3) (pe_un un_neg z7)))) (fun _=>rfl)))
     (z8 (ps_raiseI rfl T.w93 (ok_TooLong___init__ T) (hr.mono (by decide)) T.x23.b rfl T.w28 (pa1 (pix zE (pv 3) (pe_un un_neg z7))))) zj)
    (z8 (zi (pv 3)))))),?_⟩
  obtain⟨dx,hx⟩:=S.ob;have l6:=S.l6;refine⟨_,rfl,x,dx,_,rfl,hx,fl2_no _ _ (by decide+kernel) (by decide+kernel),x,dx,p,q,rfl,hx,fun t2 H2 ht2 s2=>?_⟩;rcases hq0 with⟨z,h0,kE⟩|⟨h0,k,kL⟩
  ·exact⟨t2,_,0,_,rfl,rfl,SqT.of ht2,zo (j:=0) rfl,_,rfl,p,h,rs,one,hs,rfl,s2 _ _ S.hp,S.h2.mv s2.tups,s2 _ _ gh,by omega,.inr ⟨z,h0,fun dy H3 g3 s3=>kE dy H3 g3 (s2.trans s3)⟩⟩
  refine⟨t2,_,0,_,rfl,rfl,SqT.of ht2,zo (j:=0) rfl,_,rfl,p,h,rs,one,hs,rfl,s2 _ _ S.hp,S.h2.mv s2.tups,s2 _ _ gh,by omega,.inl ⟨h0,fun H3 s3=>?_⟩⟩;have s23:=s2.trans s3;refine⟨_,rfl,_,rfl,_,rfl,x,h,p,q,rs,qs,one,other,hs,n,.int (M:Int),M,rfl,S.mv s23,R,s23 _ _ gh,hh,hn,.inr rfl,by omega,(fun z=>by cases z),fun l k' xs H4 gl a2 L hk he s4 nl=>?_⟩;obtain⟨ys,v,rfl,hy,hv⟩:=walk_last a2;have we:=wk_end R hh L;have s24:=s23.trans s4;refine⟨_,rfl,_,rfl,_,rfl,l,_,_,_,rfl,rfl,SqL.of gl,atI_last _ _,x,p,q,rs,qs,one,other,_,v,rfl,S.mv s24,hv,fun H5 s5=>⟨_,rfl,?_⟩⟩;cases hb:isEndB other (wk one other hs k')with
  |true =>
   obtain⟨e1,e2⟩:=we.mp hb;refine iteF ⟨_,rfl,k l k' _ H5 (s5 _ _ gl) (a2.imp fun _ _ z=>z.mv s5.tups) ⟨L,e1,e2⟩ ?_ (s24.trans s5) (s23.free nl)⟩;rcases hk with z|z|z
   ·omega
   ·cases z
   ·exact z
  |false =>
   have hne:¬EndAt one other hs k':=fun z=>by rw[we.mpr ⟨z.od,z.no⟩]at hb;cases hb
   have ek:k'=M-1:=by
    rcases he with z|⟨_,_,z1,z2⟩
    ·exact absurd z hne
    ·omega
   subst ek;refine iteT ⟨_,rfl,_,rfl,l,_,_,_,rfl,rfl,SqL.of (s5 _ _ gl),atI_last _ _,by show 1<=sizeLine;decide,fun e he=>⟨e,_,rfl,z0,fun dx H' hdx eH=>?_⟩⟩;obtain⟨d1,d2,d3⟩:=del_made he hdx eH;exact⟨rfl,some dx,d1,kL dx v _ L hne d2 ((hv.mv s5.tups).mv (Same.tups d3)) (s24.trans (s5.trans d3))⟩
def n__law_start:List Str:=["_law_script","_law_great"]
theorem sc__law_start:FnScope n__law_start ["_law_script"] (z6 yo):=FS
inductive sp_start(K:W.Frag)(vs:List V)(H:Hp)(Q:VK)(E:XK):Prop
 |mk (a:Addr) (ns:List Int):vs=[.ref a]->SqL K H a (ns.map V.int)->ns.length<=63->(∀(st ga ca:Addr)(H':Hp),StAt H' st ga ca 0->H st=none->H ga=none->H ca=none->Same H H'->Q (.ref st) H')->sp_start K vs H Q E
theorem ok__law_start(T:Txt K mg A):FnOk P w K mg base CX0 1 A.a25 A.f25 ["_law_script"] (sp_start K):=by
 refine T.x25.F.ok sc__law_start (by walk_at "n") fun _ _ _ s H vs Q E hr h=>?_
 ·obtain⟨a,ns,rfl,hS,hl,k⟩:=h;refine⟨_,(z5 (ps_comp (i:=1) (ls:=["_law_cell"]) (fr:=[]) (csf (z6 yo) n__law_start) rfl (pi_list (pv 0)) (fun _ _ _ _=>pgc 0 (by decide+kernel) rfl rfl) (fun _ _ _ _=>pf_one (zk op_ge (pvc (z6 yo) 0) (zr op_pow z7 z7) (zw _))) (fun _ _ _ _=>(pvc (z6 yo) 0)) sc__law_start.nd rfl rfl rfl)
    (z8 (zi (zF (pa_cons (pv 1) (pa3 z7 (yB (ls:=["_law_cell"]) (fr:=[]) (csf (z6 yo) n__law_start) rfl (pi_list (pv 0)) (fun _ _ _ _=>pgc 0 (by decide+kernel) rfl rfl) (fun _ _ _ _=>pf_nil) (fun _ _ _ _=>(zr op_mod (pvc (z6 yo) 0) z7))) z7)))))),?_⟩
  refine⟨_,rfl,a,rfl,⟨_,hS⟩,comp_list (xs:=ns.map V.int) (fun i ys σ' H'=>H'=H/\(∃v,σ'=[v])/\ ∃gs:List Int,ys=gs.map V.int/\gs.length<=i/\ ∀x∈gs,0<x) ⟨rfl,⟨_,rfl⟩,[],rfl,zero_le _,fun _ hx=>nomatch hx⟩ ?_ ?_ ?_⟩
  ·rintro i ys σ' H' hi ⟨rfl,_,gs,rfl,hg,_⟩;refine⟨hS,?_⟩;rw[length_map]at hi ⊢;exact le_trans (le_trans hg (le_trans hi hl)) (by decide)
  ·rintro i x ys σ' H' hx ⟨rfl,⟨v,rfl⟩,gs,rfl,hg,hp⟩;rw[getElem?_map]at hx;cases hn:ns[i]? with
   |none=>rw[hn]at hx;cases hx
   |some z =>
    rw[hn]at hx;cases hx;refine⟨_,rfl,_,_,rfl,rfl,⟨by decide,by decide,by decide⟩,_,_,rfl,rfl,_,rfl,?_⟩;refine ite2 (fun hz=>⟨_,rfl,rfl,⟨_,rfl⟩,gs++[z],by simp,by simp;exact hg,fun y hy=>?_⟩) (fun hz=>⟨rfl,⟨_,rfl⟩,gs,rfl,Nat.le_succ_of_le hg,hp⟩);rcases mem_append.mp hy with hy|hy
    ·exact hp y hy
    ·have:y=z:=by simpa using hy
     subst this;exact Int.lt_of_lt_of_le (by decide) (of_decide_eq_true hz)
  ·rintro ys σ' H' ⟨rfl,_,gs,rfl,hg,hp⟩ g0 hg0;rw[length_map]at hg;have s1:Same H' (upd H' g0 (.lst (gs.map V.int))):=Same.new hg0;refine⟨_,rfl,_,rfl,a,rfl,⟨_,s1.seq hS⟩,comp_list (xs:=ns.map V.int) (fun i ys σ' H2=>H2=upd H' g0 (.lst (gs.map V.int))/\(∃v,σ'=[v])/\ ∃cs:List Int,ys=cs.map V.int/\cs.length=i) ⟨rfl,⟨_,rfl⟩,[],rfl,rfl⟩ ?_ ?_ ?_⟩
   ·rintro i ys σ' H2 hi ⟨rfl,_,cs,rfl,hc⟩;refine⟨s1.seq hS,?_⟩;rw[length_map]at hi ⊢;exact le_trans (le_trans (Nat.le_of_eq hc) (le_trans hi hl)) (by decide)
   ·rintro i x ys σ' H2 hx ⟨rfl,⟨v,rfl⟩,cs,rfl,hc⟩;rw[getElem?_map]at hx;cases hn:ns[i]? with
    |none=>rw[hn]at hx;cases hx
    |some z =>
     rw[hn]at hx;cases hx;refine⟨_,rfl,_,_,rfl,rfl,(by show(0:Int)<2147483629;decide),rfl,⟨_,rfl⟩,cs++[z%2147483629],by simp,by simp[hc]⟩
   ·rintro ys σ' H2 ⟨rfl,_,cs,rfl,hc⟩ c0 hc0;refine⟨by show 4<=sizeLine;decide,fun st hst=>?_⟩;have n1:g0≠c0:=fun z=>by rw[<-z,z0]at hc0;cases hc0
    have n2:st≠c0:=fun z=>by rw[z,z0]at hst;cases hst
    have hst1:upd H' g0 (.lst (gs.map V.int)) st=none:=by rw[zh n2]at hst;exact hst
    have n3:st≠g0:=fun z=>by rw[z,z0]at hst1;cases hst1
    refine k st g0 c0 _ ⟨⟨gs,cs,0,0,z0,?_,?_,le_trans hg hl,hp,Int.le_refl _,Int.le_refl _,Int.le_refl _⟩,n1,n3,n2⟩ ?_ hg0 ?_ (s1.trans ((Same.new hc0).trans (Same.new hst)))
    ·rw[zh n3.symm,zh n1,z0]
    ·rw[zh n2.symm,z0]
    ·rw[zh n3]at hst1;exact hst1
    ·rw[zh n1.symm]at hc0;exact hc0
def n__law_mix:List Str:=["_law_state","_law_count","_law_cell","_law_stirred"]
theorem sc__law_mix:FnScope n__law_mix ["_law_state"] (z6 s__law_mix):=FS
inductive sp_mix(vs:List V)(H:Hp)(Q:VK)(E:XK):Prop
 |mk (st ga ca:Addr) (N:Nat):vs=[.ref st]->StAt H st ga ca N->N<=10^9->(∀(r:Int)(H':Hp),0<=r->StAt H' st ga ca (N+1)->Keep [st,ga] H H'->Q (.int r) H')->sp_mix vs H Q E
theorem ok__law_mix(T:Txt K mg A):FnOk P w K mg base CX0 1 A.a26 A.f26 ["_law_state"] sp_mix:=by
 refine T.x26.F.ok sc__law_mix (by walk_at "n") fun _ _ _ s H vs Q E hr h=>?_
 ·obtain⟨st,ga,ca,N,rfl,S,hN,k⟩:=h;refine⟨_,(z5 (ps_augS (pv 0) z7 get_list z7 ip_add set_list)
    (z5 (pset 1 sc__law_mix.nd (pix zE (pv 0) z7))
    (z5 (pset 2 sc__law_mix.nd z7)
    (z5 (zM (zR (pix zE (pv 0) z7) (fun _=>rfl))
     (z8 (pset 2 sc__law_mix.nd (pix zE (pix zE (pv 0) z7) (zr op_mod (pv 1) (z9 zl rfl T.w6 PySem.boot_len (pa1 (pix zE (pv 0) z7))))))) zj)
    (z5 (pset 3 sc__law_mix.nd (zr op_mod (zr op_mul (zr yL (zr yL (zr yL (pv 2) (zr op_mul (zr op_mul z7 (pv 1)) (pv 1))) (zr op_mul z7 (pv 1))) z7) z7) z7))
    (z8 (zi (zr op_mod (zr op_mul (zr yL (zr yL (pv 3) (zr op_mul z7 (pv 1))) z7) z7) z7)))))))),?_⟩
  obtain⟨⟨gs,cs,q,n,h1,h2,h3,h4,h5,h6,h7,h8⟩,gc,sg,sc⟩:=S;have hn:-(2^64)<n+1/\n+1<2^64:=by omega
  refine⟨_,rfl,st,_,3,_,rfl,rfl,SqL.of h1,by decide,rfl,_,_,rfl,rfl,st,_,3,3,rfl,rfl,h1,rfl,?_⟩;have e1:upd H st (.lst ([V.ref ga,V.int q,V.ref ca,V.int n].set 3 (V.int (n+1)))) st=some (.lst [.ref ga,.int q,.ref ca,.int (n+1)]):=z0;refine⟨_,rfl,st,_,3,_,rfl,rfl,SqL.of e1,rfl,?_⟩;refine⟨_,rfl,st,_,2,_,rfl,rfl,SqL.of e1,rfl,?_⟩;have e3:upd H st (.lst ([V.ref ga,V.int q,V.ref ca,V.int n].set 3 (V.int (n+1)))) ca=some (.lst (cs.map V.int)):=by rw[zh sc.symm];exact h3
  have e2:upd H st (.lst ([V.ref ga,V.int q,V.ref ca,V.int n].set 3 (V.int (n+1)))) ga=some (.lst (gs.map V.int)):=by rw[zh sg.symm];exact h2
  refine⟨_,Or.inl ⟨_,SqL.of e3,rfl⟩,?_⟩;have fin:∀(c:Int),(tSeq (tAsg (tOp (rI (fun _ j=>0<j) fun i j=>V.int (i%j)) (tOp (rI CMul fun i j=>V.int (i*j)) (tOp (rI0 fun i j=>V.int (i+j)) (tOp (rI0 fun i j=>V.int (i+j)) (tOp (rI0 fun i j=>V.int (i+j)) (tVar 2) (tOp (rI CMul fun i j=>V.int (i*j)) (tOp (rI CMul fun i j=>V.int (i*j)) (tC (V.int 7)) (tVar 1)) (tVar 1))) (tOp (rI CMul fun i j=>V.int (i*j)) (tC (V.int 13)) (tVar 1))) (tC (V.int 5))) (tC (V.int 1220703125))) (tC (V.int 2147483647))) (yc 3))
    (tRet (tOp (rI (fun _ j=>0<j) fun i j=>V.int (i%j)) (tOp (rI CMul fun i j=>V.int (i*j)) (tOp (rI0 fun i j=>V.int (i+j)) (tOp (rI0 fun i j=>V.int (i+j)) (tVar 3) (tOp (rI CMul fun i j=>V.int (i*j)) (tC (V.int 17)) (tVar 1))) (tC (V.int 3))) (tC (V.int 39373))) (tC (V.int 1000000007)))))
    {nx:=fun _ H'=>Q .non H',rt:=Q} [some (.ref st),some (.int (n+1)),some (.int c),none] (upd H st (.lst ([V.ref ga,V.int q,V.ref ca,V.int n].set 3 (V.int (n+1))))):=fun c=>by
   refine⟨_,rfl,_,rfl,_,_,rfl,rfl,.inl (by decide),_,rfl,_,_,rfl,rfl,.inr hn,_,_,rfl,rfl,_,rfl,_,_,rfl,rfl,.inl (by decide),_,_,rfl,rfl,_,_,rfl,rfl,_,_,rfl,rfl,.inr (by decide),_,_,rfl,rfl,(by show(0:Int)<2147483647;decide),?_⟩;refine⟨_,rfl,_,rfl,_,_,rfl,rfl,.inl (by decide),_,_,rfl,rfl,_,_,rfl,rfl,_,_,rfl,rfl,.inr (by decide),_,_,rfl,rfl,(by show(0:Int)<1000000007;decide),?_⟩;exact k _ _ (Int.emod_nonneg _ (by decide)) ⟨⟨gs,cs,q,n+1,e1,e2,e3,h4,h5,h6,by omega,by omega⟩,gc,sg,sc⟩ (Keep.set (by simp))
  cases hc:cs with
  |nil =>
   refine iteF ?_;exact fin 5
  |cons c0 cr =>
   refine iteT ?_;rw[hc]at e3;refine⟨_,rfl,st,_,2,_,rfl,rfl,SqL.of e1,rfl,_,rfl,_,rfl,st,_,2,_,rfl,rfl,SqL.of e1,rfl,ca,_,rfl,.inl (SqL.of e3),_,_,rfl,rfl,?_,?_⟩
   ·rw[length_map];simp only[length_cons];omega
   ·have hpos:(0:Int)<((c0::cr).length:Int):=by simp only[length_cons];omega
    rw[length_map];have hm0:=Int.emod_nonneg (n+1) (Int.ne_of_gt hpos);have hm1:=Int.emod_lt_of_pos (n+1) hpos;obtain⟨j,hj⟩:∃j:Nat,(n+1)%((c0::cr).length:Int)=(j:Int):=⟨((n+1)%((c0::cr).length:Int)).toNat,by omega⟩;have hjl:j<(c0::cr).length:=by omega
    refine⟨ca,_,_,_,rfl,rfl,SqL.of e3,by rw[hj];exact zo (v:=V.int ((c0::cr)[j])) (by rw[getElem?_map,getElem?_eq_getElem hjl];rfl),?_⟩;exact fin _
def n__law_draw:List Str:=["_law_state","_law_many","_law_told","_law_size"]
theorem yG:FnScope n__law_draw ["_law_state","_law_many"] (z6 s__law_draw):=FS
inductive sp_draw(vs:List V)(H:Hp)(Q:VK)(E:XK):Prop
 |mk (st ga ca:Addr) (N:Nat) (m:Int):vs=[.ref st,.int m]->StAt H st ga ca N->N<=10^8->0<m->m<=10^60->(∀(r:Int)(H':Hp),0<=r->r<m->StAt H' st ga ca (N+7)->Keep [st,ga] H H'->Q (.int r) H')->sp_draw vs H Q E
theorem zq(T:Txt K mg A):FnOk P w K mg base CX0 2 A.a27 A.f27 ["_law_state","_law_many"] sp_draw:=by
 refine T.x27.F.ok yG (by walk_at "n") fun _ _ _ s H vs Q E hr h=>?_
 ·obtain⟨st,ga,ca,N,m,rfl,S,hN,hm0,hm1,k⟩:=h;refine⟨_,(z5 (zM (PW.pt (pw_and (zk op_eq (pix zE (pv 0) z7) z7 (zw _)) (pw_and1 (zR (pix zE (pv 0) z7) (fun _=>rfl)))))
     (z8 (ps_asg (pe_bm PySem.F.plainAttrs_list PySem.F.slot_list_pop PySem.F.type_list_pop mt_popAt (pix zE (pv 0) z7) (pa1 z7)) (pg_sub (pv 0) z7 set_list))) zj)
    (z5 (zM (zk op_gt (pix zE (pv 0) z7) z7 (zw _))
     (z5 (pset 2 yG.nd (zr op_mod (pix zE (pv 0) z7) (pv 1)))
    (z5 (ps_asg (zr yM (pix zE (pv 0) z7) (pv 1)) (pg_sub (pv 0) z7 set_list))
    (z8 (zi (pv 2))))) zj)
    (z5 (pset 2 yG.nd z7)
    (z5 (pset 3 yG.nd z7)
    (z5 (ps_while PassesOwn.never (zk op_lt (pv 3) (pv 1) (zw _))
     (z5 (pset 2 yG.nd (zr yL (zr op_mul (pv 2) z7) (pcl (ok__law_mix T) hr T.x26 (pa1 (pv 0)))))
    (z8 (pset 3 yG.nd (zr op_mul (pv 3) z7)))))
    (z8 (zi (zr op_mod (pv 2) (pv 1))))))))),?_⟩
  obtain⟨⟨gs,cs,q,n,h1,h2,h3,h4,h5,h6,h7,h8⟩,gc,sg,sc⟩:=S;have hb:∀(g:List Int)(x:Int)(H':Hp),H'=upd (upd H ga (.lst (g.map V.int))) st (.lst [.ref ga,.int x,.ref ca,.int n])->H' st=some (.lst [.ref ga,.int x,.ref ca,.int n])/\H' ga=some (.lst (g.map V.int))/\H' ca=some (.lst (cs.map V.int))/\Keep [st,ga] H H':=fun g x H' e=>by
   subst e;refine⟨z0,by rw[zh sg.symm,z0],by rw[zh sc.symm,zh gc.symm];exact h3,fun b o e hn=>?_⟩;have n1:b≠st:=fun z=>hn (by simp[z]);have n2:b≠ga:=fun z=>hn (by simp[z]);rw[zh n1,zh n2];exact e
  refine seqJoin (fun σ' H'=>σ'=[some (.ref st),some (.int m),none,none]/\ ∃(g:List Int)(x:Int),H' st=some (.lst [.ref ga,.int x,.ref ca,.int n])/\H' ga=some (.lst (g.map V.int))/\H' ca=some (.lst (cs.map V.int))/\Keep [st,ga] H H'/\g.length<=63/\(∀x∈g,0<x)/\0<=x) (fun nx hnx=>?_) ?_
  ·have skip:nx [some (.ref st),some (.int m),none,none] H:=hnx _ _ ⟨rfl,gs,q,h1,h2,h3,Keep.refl _ _,h4,h5,h6⟩;refine⟨_,rfl,st,_,1,_,rfl,rfl,SqL.of h1,rfl,rfl,_,rfl,?_⟩;refine ite2 (fun hq=>?_) (fun hq=>iteF skip);have hq0:q=0:=by simpa using hq
   subst hq0;refine⟨_,rfl,st,_,0,_,rfl,rfl,SqL.of h1,rfl,_,.inl ⟨_,SqL.of h2,rfl⟩,?_⟩;cases gs with
   |nil=>exact iteF skip
   |cons g0 gr =>
    refine iteT ?_;have eg:upd H ga (.lst ((V.int g0::gr.map V.int).eraseIdx 0)) st=some (.lst [.ref ga,.int 0,.ref ca,.int n]):=by rw[zh sg];exact h1
    refine⟨_,rfl,st,_,0,_,rfl,rfl,SqL.of h1,rfl,.inl ⟨rfl,_,SqL.of h2⟩,ga,_,0,0,V.int g0,rfl,rfl,h2,by decide,by decide,(by simp[seqIndex?]),rfl,?_⟩;refine⟨_,rfl,st,_,1,1,rfl,rfl,eg,rfl,?_⟩;obtain⟨b1,b2,b3,b4⟩:=hb gr g0 _ rfl;exact hnx _ _ ⟨rfl,gr,g0,b1,b2,b3,b4,by simp only[length_cons]at h4;omega,fun y hy=>h5 y (mem_cons_of_mem _ hy),le_of_lt (h5 g0 mem_cons_self)⟩
  ·rintro σ1 H1 ⟨rfl,g,x,c1,c2,c3,c4,c5,c6,c7⟩;refine⟨_,rfl,st,_,1,_,rfl,rfl,SqL.of c1,rfl,_,_,rfl,rfl,_,rfl,?_⟩;refine ite2 (fun hx=>?_) (fun hx=>?_)
   ·refine⟨_,rfl,st,_,1,_,rfl,rfl,SqL.of c1,rfl,_,rfl,_,_,rfl,rfl,hm0,?_⟩;refine⟨_,rfl,st,_,1,_,rfl,rfl,SqL.of c1,rfl,_,rfl,_,_,rfl,rfl,⟨hm0,Int.le_trans hm1 (by decide)⟩,?_⟩;refine⟨_,rfl,st,_,1,1,rfl,rfl,c1,rfl,?_⟩;refine⟨_,rfl,k _ _ (Int.emod_nonneg _ (Int.ne_of_gt hm0)) (Int.emod_lt_of_pos _ hm0) ⟨⟨g,cs,x / m,n,z0,by rw[zh sg.symm];exact c2,by rw[zh sc.symm];exact c3,c5,c6,Int.ediv_nonneg c7 (le_of_lt hm0),h7,by omega⟩,gc,sg,sc⟩ (c4.trans (Keep.set (by simp)))⟩
   ·refine⟨fun mm σ2 H2=>∃(j:Nat)(told:Int),j<=7/\mm=7-j/\ σ2=[some (.ref st),some (.int m),some (.int told),some (.int (1000000007^j))]/\StAt H2 st ga ca (N+j)/\Keep [st,ga] H H2,
     ⟨7,0,0,by decide,rfl,rfl,⟨⟨g,cs,x,n,c1,c2,c3,c5,c6,c7,h7,by omega⟩,gc,sg,sc⟩,c4⟩,?_⟩
    rintro mm σ2 H2 ⟨j,told,hj,rfl,rfl,S2,k2⟩;refine⟨_,rfl,_,rfl,_,_,rfl,rfl,_,rfl,?_⟩;refine ite2 (fun hlt=>?_) (fun hlt=>?_)
    ·have hlt':(1000000007:Int)^j<m:=of_decide_eq_true hlt;have hj6:j<7:=by
      rcases Nat.lt_or_ge j 7 with z|z
      ·exact z
      ·have e7:j=7:=by omega
       subst e7;exact absurd (Int.lt_of_lt_of_le hlt' hm1) (by decide)
     refine⟨fun σ3 H3=>∃(told:Int),σ3=[some (.ref st),some (.int m),some (.int told),some (.int (1000000007^(j+1)))]/\StAt H3 st ga ca (N+(j+1))/\Keep [st,ga] H H3,fun σ3 H3 ⟨td,e3,S3,k3⟩=>⟨7-(j+1),by omega,j+1,td,hj6,rfl,e3,S3,k3⟩,?_⟩;refine⟨_,rfl,_,_,rfl,rfl,.inr (by decide),_,rfl,st,ga,ca,N+j,rfl,S2,by omega,fun r H3 hr0 S3 k3=>?_⟩;refine⟨_,_,rfl,rfl,?_⟩;refine⟨_,rfl,_,_,rfl,rfl,.inr (by decide),?_⟩;refine⟨told*1000000007+r,?_,S3,k2.trans k3⟩;show [some (V.ref st),some (V.int m),some (V.int _),some (V.int (1000000007^j*1000000007))]=_;rw[<-Int.pow_succ]
    ·refine⟨_,rfl,_,rfl,_,_,rfl,rfl,hm0,?_⟩;exact k _ _ (Int.emod_nonneg _ (Int.ne_of_gt hm0)) (Int.emod_lt_of_pos _ hm0) (S2.mono (by omega)) k2
def n__law_lies:List Str:=["_law_one","_law_other"]
theorem sc__law_lies:FnScope n__law_lies ["_law_one","_law_other"] (z6 yC):=FS
inductive sp_llies(vs:List V)(H:Hp)(Q:VK)(E:XK):Prop
 |mk (a b:Addr) (ns ms:List Int):vs=[.ref a,.ref b]->H a=some (.tup (ns.map V.int))->H b=some (.tup (ms.map V.int))->ns.length<=10000->(∀H',Same H H'->Q (.bl (lies ns ms)) H')->sp_llies vs H Q E
theorem ok__law_lies(T:Txt K mg A):FnOk P w K mg base CX0 1 A.a28 A.f28 ["_law_one","_law_other"] sp_llies:=by
 refine T.x28.F.ok sc__law_lies (by walk_at "n") fun _ _ _ s H vs Q E hr h=>?_
 ·obtain⟨a,b,ns,ms,rfl,ha,hb,hln,k⟩:=h;refine⟨_,(z8 (zi (z9 (call_all_bools rfl) rfl T.w1 boot_all (pa1 (yB (ls:=["_law_part"]) (fr:=[("_law_one",0),("_law_other",1)]) (csf (z6 yC) n__law_lies) rfl (pi_tup (pv 0 (hv:=Or.inr (Or.inl rfl)))) (fun _ _ _ _=>pgc 0 (by decide+kernel) rfl rfl) (fun _ _ _ _=>pf_nil) (fun _ _ _ _=>(pcm op_le (pe_bmK K rfl PySem.F.plainAttrs_tuple PySem.F.slot_tuple_count PySem.F.type_tuple_count (mt_countTK K rfl) (pvc (z6 yC) 1) (pa1 (pvc (z6 yC) 0))) (pe_bmK K rfl PySem.F.plainAttrs_tuple PySem.F.slot_tuple_count PySem.F.type_tuple_count (mt_countTK K rfl) (pvc (z6 yC) 2) (pa1 (pvc (z6 yC) 0)))))))))),?_⟩;refine⟨_,rfl,a,rfl,⟨_,SqT.of ha⟩,comp_tup (xs:=ns.map V.int) (fun i ys σ' H'=>H'=H/\(∃v,σ'=[v,some (.ref a),some (.ref b)])/\ys=((ns.take i).map fun x=>decide (ns.count x<=ms.count x)).map V.bl) ⟨rfl,⟨_,rfl⟩,rfl⟩ ?_ ?_ ?_⟩
  ·rintro i ys σ' H' hi ⟨rfl,_,rfl⟩;refine⟨SqT.of ha,?_⟩;rw[length_map,length_map,length_take];exact le_trans (m:=10000) (by omega) (by decide)
  ·rintro i x ys σ' H' hx ⟨rfl,⟨v,rfl⟩,rfl⟩;obtain⟨z,hz,rfl⟩:=yI hx;have hi:=(List.getElem?_eq_some_iff.mp hz).1;have ez:=(List.getElem?_eq_some_iff.mp hz).2;refine⟨_,rfl,.inr (.inl ⟨rfl,.inr ⟨_,ha⟩⟩),_,rfl,a,_,_,rfl,rfl,SqT.of ha,rfl,yu _,?_⟩;refine⟨_,rfl,.inr (.inl ⟨rfl,.inr ⟨_,hb⟩⟩),_,rfl,b,_,_,rfl,rfl,SqT.of hb,rfl,yu _,?_⟩;refine⟨_,_,rfl,rfl,rfl,⟨_,rfl⟩,?_⟩;rw[take_succ_eq_append_getElem hi,map_append,map_append,ez];show _++[V.bl (decide (((cntV (V.int z) (ns.map V.int):Nat):Int)<=((cntV (V.int z) (ms.map V.int):Nat):Int)))]=_;rw[cntV_ints,cntV_ints];have e:decide (((ns.count z:Nat):Int)<=((ms.count z:Nat):Int))=decide (ns.count z<=ms.count z):=by
    rw[decide_eq_decide];omega
   rw[e];rfl
  ·rintro ys σ' H' ⟨rfl,_,rfl⟩ l hl;rw[length_map,take_length];refine⟨l,_,rfl,SqL.of z0,?_⟩;have e:(ns.map fun x=>decide (ns.count x<=ms.count x)).all id=lies ns ms:=by
    unfold lies;rw[all_map];rfl
   rw[e];exact k _ (Same.new hl)
def n__law_first:List Str:=["_law_rule_here","_law_heap_here","_law_number"]
theorem sc__law_first:FnScope n__law_first ["_law_rule_here","_law_heap_here"] (z6 s__law_first):=FS
inductive sp_lfirst(vs:List V)(H:Hp)(Q:VK)(E:XK):Prop
 |mk (p q:Addr) (rs:List V) (rule:List (List Int)) (hs:List Int):vs=[.ref p,.ref q]->H p=some (.tup rs)->All2 Tup1 H rule rs->H q=some (.tup (hs.map V.int))->rule.length<=60->(∀h∈rule,h.length<=1000)->(∀(H':Hp),Same H H'->Q (optV (zD rule hs)) H')->sp_lfirst vs H Q E
theorem yK(T:Txt K mg A):FnOk P w K mg base CX0 2 A.a29 A.f29 ["_law_rule_here","_law_heap_here"] sp_lfirst:=by
 refine T.x29.F.ok sc__law_first (by walk_at "n") fun _ _ _ s H vs Q E hr h=>?_
 ·obtain⟨p,q,rs,rule,hs,rfl,hp,h2,hq,hln,hlr,k⟩:=h;refine⟨_,(z5 (ps_for PassesOwn.never rfl (pi_range1 rfl T.w10 (pa1 (z9 zl rfl T.w6 PySem.boot_len (pa1 (pv 0))))) (pgn 2 sc__law_first.nd)
     (z8 (zM (zR (pcl (ok__law_lies T) hr T.x28 (pa2 (pix zN (pv 0) (pv 2)) (pv 1))) (fun _=>rfl))
     (z8 (zi (pv 2))) zj)))
    (z8 (zi ym))),?_⟩
  have hrl:=h2.length;refine⟨_,rfl,p,_,rfl,.inr (SqT.of hp),_,rfl,by omega,by omega,for_range (n:=rs.length) (fun i σ' H'=>Same H H'/\(∃v,σ'=[some (.ref p),some (.ref q),v])/\idxP rule hs i=[]) ⟨fun _ _ h=>h,⟨_,rfl⟩,rfl⟩ ?_ ?_⟩
  ·rintro i σ' H' hi ⟨s,⟨v,rfl⟩,h0⟩;have hir:i<rule.length:=by omega
   obtain⟨x,hx,q1,rfl,hq1⟩:=h2.at (getElem?_eq_getElem hir);have e1:rule.getD i []=rule[i]:=by simp[hir]
   refine⟨_,rfl,_,rfl,p,_,_,_,rfl,rfl,SqT.of (s _ _ hp),by rw[Int.zero_add];exact zo hx,?_⟩;refine⟨_,rfl,q1,q,rule[i],hs,rfl,s _ _ hq1,s _ _ hq,le_trans (hlr _ (getElem_mem hir)) (by decide),fun H2 s2=>⟨_,rfl,?_⟩⟩;have s3:=s.trans s2;refine ite2 (fun hc=>?_) (fun hc=>⟨s3,⟨_,rfl⟩,?_⟩)
   ·refine⟨_,rfl,?_⟩;have:=k H2 s3;rw[first_some h0 hir (by rw[e1];exact hc)]at this;rw[Int.zero_add];exact this
   ·rw[idxP_succ,e1,if_neg hc,h0];rfl
  ·rintro σ' H' ⟨s,_,h0⟩;rw[<-hrl]at h0;have:=k H' s;rw[first_none h0]at this;exact this
def n__law_lane:List Str:=["_law_left","_law_right","_law_split","_law_levels","_law_base","_law_by","_law_ones","_law_others","_law_level"]
theorem zV:FnScope n__law_lane ["_law_left","_law_right","_law_split","_law_levels"] (z6 s__law_lane):=FS
inductive sp_lane(vs:List V)(H:Hp)(Q:VK)(E:XK):Prop
 |mk (L R:Nat) (sp:Bool) (lv:Addr) (lev:List Nat):vs=[.int L,.int R,.bl sp,.ref lv]->H lv=some (.lst (lev.map natV))->(1<=L/\L<=8/\1<=R/\R<=8)->((sp=true->R*(L / R)=L/\R<L))->lev.length<=60->(∀v∈lev,v<=2)->(∀(p o1 o2:Addr)(xs ys:List V)(m n:Nat)(H':Hp),H' p=some (.tup [.ref o1,.ref o2])->H' o1=some (.lst xs)->H' o2=some (.lst ys)->(⟨L,R,m,n,sp,lev⟩:LD).Ok->All2 Lst1 H' (lev.map (⟨L,R,m,n,sp,lev⟩:LD).lrow) xs->All2 Lst1 H' (lev.map (⟨L,R,m,n,sp,lev⟩:LD).rrow) ys->Same H H'->Q (.ref p) H')->sp_lane vs H Q E
theorem ok__law_lane(T:Txt K mg A):FnOk P w K mg base CX0 1 A.a30 A.f30 ["_law_left","_law_right","_law_split","_law_levels"] sp_lane:=by
 refine T.x30.F.ok zV (by walk_at "n") fun _ _ _ s H vs Q E hr h=>?_
 ·obtain⟨L,R,sp,lv,lev,rfl,hlv,hb,hsp,hl,hv,k⟩:=h;refine⟨_,(z5 (pset 4 zV.nd (zr op_mul (pv 0) (pv 1)))
    (z5 (ps_for PassesOwn.never rfl (pi_range2 rfl T.w10 (pa2 z7 z7)) (pgn 5 zV.nd)
     (z8 (ps_while PassesOwn.never (PW.pt (pw_and (zk op_eq (zr op_mod (pv 0) (pv 5)) z7 (zw _)) (pw_and1 (zk op_eq (zr op_mod (pv 1) (pv 5)) z7 (zw _)))))
     (z5 (pset 0 zV.nd (zr yM (pv 0) (pv 5)))
    (z5 (pset 1 zV.nd (zr yM (pv 1) (pv 5)))
    (z8 (pset 4 zV.nd (zr yM (pv 4) (pv 5)))))))))
    (z5 (ps_par (i:=0) (j:=1) rfl zV.nd rfl rfl (by decide) rfl rfl (pa2 (zr yM (pv 4) (pv 1)) (zr yM (pv 4) (pv 0))) rfl)
    (z5 (pset 6 zV.nd (zF yt))
    (z5 (pset 7 zV.nd (zF yt))
    (z5 (ps_for PassesOwn.never rfl (pi_list (pv 3)) (pgn 8 zV.nd)
     (z8 (zM (zR (pv 2) (fun _=>rfl))
     (z5 (ya (pe_bm PySem.F.plainAttrs_list PySem.F.slot_list_append PySem.F.type_list_append zZ (pv 6) (pa1 (zr op_rep (zF (pa1 (pv 0))) (pv 8)))))
    (z8 (ya (pe_bm PySem.F.plainAttrs_list PySem.F.slot_list_append PySem.F.type_list_append zZ (pv 7) (pa1 (pe_slice sl_list (zr op_cat (zF (pa1 (pv 0))) (zr op_rep (zF (pa1 (pv 1))) (zr yM (pv 0) (pv 1)))) po_none (po_some (pix zE (zF (pa3 z7 z7 (zr yL z7 (zr yM (pv 0) (pv 1))))) (pv 8))))))))) (z5 (ya (pe_bm PySem.F.plainAttrs_list PySem.F.slot_list_append PySem.F.type_list_append zZ (pv 6) (pa1 (zr op_rep (zF (pa1 (pv 0))) (zr op_mul (pv 8) (zr yM (pv 4) (pv 0)))))))
    (z8 (ya (pe_bm PySem.F.plainAttrs_list PySem.F.slot_list_append PySem.F.type_list_append zZ (pv 7) (pa1 (zr op_rep (zF (pa1 (pv 1))) (zr op_mul (pv 8) (zr yM (pv 4) (pv 1))))))))))))
    (z8 (zi (zK (pa2 (pv 6) (pv 7))))))))))),?_⟩
  refine⟨_,rfl,_,rfl,_,_,rfl,rfl,.inl ⟨by omega,by omega⟩,?_⟩;refine⟨2,9,rfl,⟨by decide,by decide,by decide,by decide⟩,for_range (lo:=2) (n:=7) (fun i σ' H'=>H'=H/\ ∃(l r m:Nat)(v:Option V),σ'=[some (.int l),some (.int r),some (.bl sp),some (.ref lv),some (.int ((l*r*m:Nat):Int)),v,none,none,none]/\l*m=L/\r*m=R) ⟨rfl,L,R,1,none,?_,Nat.mul_one _,Nat.mul_one _⟩ ?_ ?_⟩
  ·show [some (V.int L),some (V.int R),some (V.bl sp),some (V.ref lv),some (V.int ((L:Int)*(R:Int))),none,none,none,none]=_;rw[Nat.mul_one,Int.natCast_mul]
  ·rintro i σ' H' hi ⟨rfl,l,r,m,v,rfl,e1,e2⟩;have hby:(0:Int)<2+(i:Int):=by omega
   refine⟨fun mm σ2 H2=>H2=H'/\ ∃(l r m:Nat),mm=l/\ σ2=[some (.int l),some (.int r),some (.bl sp),some (.ref lv),some (.int ((l*r*m:Nat):Int)),some (.int (2+(i:Int))),none,none,none]/\l*m=L/\r*m=R,⟨l,rfl,l,r,m,rfl,rfl,e1,e2⟩,?_⟩;rintro l σ2 H2 ⟨rfl,_,r,m,rfl,rfl,e1,e2⟩;refine⟨_,rfl,_,rfl,_,_,rfl,rfl,hby,rfl,_,rfl,?_⟩;refine ite2 (fun h1=>?_) (fun h1=>iteF ⟨rfl,_,r,m,_,rfl,e1,e2⟩);refine⟨_,rfl,_,rfl,_,_,rfl,rfl,hby,rfl,_,rfl,?_⟩;refine ite2 (fun h2=>?_) (fun h2=>⟨rfl,_,r,m,_,rfl,e1,e2⟩);have d1:(l:Int)%(2+(i:Int))=0:=by have:=of_decide_eq_true h1;injection this
   have d2:(r:Int)%(2+(i:Int))=0:=by have:=of_decide_eq_true h2;injection this
   have c1:((2+i:Nat):Int)=2+(i:Int):=by omega
   rw[<-c1]at d1 d2;obtain⟨l',rfl⟩:(2+i)∣l:=Nat.dvd_of_mod_eq_zero (by exact_mod_cast d1);obtain⟨r',rfl⟩:(2+i)∣r:=Nat.dvd_of_mod_eq_zero (by exact_mod_cast d2);have q1:(((2+i)*l':Nat):Int) / (2+(i:Int))=(l':Int):=by
    rw[<-c1,<-Int.natCast_ediv,Nat.mul_div_cancel_left _ (by omega)]
   have q2:(((2+i)*r':Nat):Int) / (2+(i:Int))=(r':Int):=by
    rw[<-c1,<-Int.natCast_ediv,Nat.mul_div_cancel_left _ (by omega)]
   have q3:(((2+i)*l'*((2+i)*r')*m:Nat):Int) / (2+(i:Int))=((l'*r'*((2+i)*m):Nat):Int):=by
    have e:(2+i)*l'*((2+i)*r')*m=(2+i)*(l'*r'*((2+i)*m)):=by
     simp only[Nat.mul_assoc,Nat.mul_left_comm,Nat.mul_comm]
    rw[<-c1,<-Int.natCast_ediv,e,Nat.mul_div_cancel_left _ (by omega)]
   have l0:0<l':=by
    rcases Nat.eq_zero_or_pos l' with z|z
    ·subst z;simp at e1;omega
    ·exact z
   refine⟨fun σ3 H3=>H3=H2/\ σ3=[some (.int l'),some (.int r'),some (.bl sp),some (.ref lv),some (.int ((l'*r'*((2+i)*m):Nat):Int)),some (.int (2+(i:Int))),none,none,none],?_,?_⟩
   ·rintro σ3 H3 ⟨rfl,rfl⟩;refine⟨l',?_,rfl,l',r',(2+i)*m,rfl,rfl,?_,?_⟩
    ·have:2*l'<=(2+i)*l':=Nat.mul_le_mul_right _ (by omega);omega
    ·rw[<-e1,Nat.mul_comm (2+i) l',Nat.mul_assoc]
    ·rw[<-e2,Nat.mul_comm (2+i) r',Nat.mul_assoc]
   ·have hb100:(2+(i:Int))<=10^100:=Int.le_trans (show 2+(i:Int)<=9 by omega) (by decide);refine⟨_,rfl,_,rfl,_,_,rfl,rfl,⟨hby,hb100⟩,_,rfl,_,rfl,_,_,rfl,rfl,⟨hby,hb100⟩,_,rfl,_,rfl,_,_,rfl,rfl,⟨hby,hb100⟩,rfl,?_⟩;show [some (V.int (((2+i)*l':Nat) / (2+(i:Int)))),some (V.int (((2+i)*r':Nat) / (2+(i:Int)))),some (V.bl sp),some (V.ref lv),some (V.int (((2+i)*l'*((2+i)*r')*m:Nat) / (2+(i:Int)))),some (V.int (2+(i:Int))),none,none,none]=_;rw[q1,q2,q3]
  ·rintro σ' H' ⟨rfl,l,r,m,v,rfl,e1,e2⟩;have l0:0<l:=by
    rcases Nat.eq_zero_or_pos l with z|z
    ·subst z;simp at e1;omega
    ·exact z
   have r0:0<r:=by
    rcases Nat.eq_zero_or_pos r with z|z
    ·subst z;simp at e2;omega
    ·exact z
   have m0:0<m:=by
    rcases Nat.eq_zero_or_pos m with z|z
    ·subst z;simp at e1;omega
    ·exact z
   have ll:l<=L:=by rw[<-e1];exact Nat.le_mul_of_pos_right _ m0
   have rl:r<=R:=by rw[<-e2];exact Nat.le_mul_of_pos_right _ m0
   have b100:∀n:Nat,n<=8->(n:Int)<=10^100:=fun n hn=>Int.le_trans (show(n:Int)<=8 by omega) (by decide);have q1:((l*r*m:Nat):Int) / (r:Int)=(L:Int):=by
    rw[<-Int.natCast_ediv,<-e1,show l*r*m=r*(l*m)by rw[Nat.mul_comm l r,Nat.mul_assoc],Nat.mul_div_cancel_left _ r0]
   have q2:((l*r*m:Nat):Int) / (l:Int)=(R:Int):=by
    rw[<-Int.natCast_ediv,<-e2,Nat.mul_assoc,Nat.mul_div_cancel_left _ l0]
   have q3:((l*r*m:Nat):Int) / (L:Int)=(r:Int):=by
    rw[<-Int.natCast_ediv,<-e1,show l*r*m=l*m*r by rw[Nat.mul_assoc,Nat.mul_comm r m,<-Nat.mul_assoc],Nat.mul_div_cancel_left _ (Nat.mul_pos l0 m0)]
   have q4:((l*r*m:Nat):Int) / (R:Int)=(l:Int):=by
    rw[<-Int.natCast_ediv,<-e2,show l*r*m=r*m*l by rw[Nat.mul_comm l r,Nat.mul_assoc,Nat.mul_comm l m,<-Nat.mul_assoc],Nat.mul_div_cancel_left _ (Nat.mul_pos r0 m0)]
   have q5:(L:Int) / (R:Int)=((L / R:Nat):Int):=(Int.natCast_ediv L R).symm;have okD:(⟨L,R,r,l,sp,lev⟩:LD).Ok:=⟨hb.1,hb.2.1,hb.2.2.1,hb.2.2.2,by show r<=8;omega,by show l<=8;omega,by show L*r=R*l;rw[<-e1,<-e2,Nat.mul_assoc,Nat.mul_comm m r,Nat.mul_comm l],hsp,hv,rl,ll⟩;refine⟨_,rfl,_,rfl,_,_,rfl,rfl,⟨by omega,b100 r (by omega)⟩,_,rfl,_,rfl,_,_,rfl,rfl,⟨by omega,b100 l (by omega)⟩,_,_,rfl,?_⟩;dsimp only;rw[q1,q2];refine⟨by show 0<=sizeLine;decide,fun o1 ho1=>⟨by show 0<=sizeLine;decide,fun o2 ho2=>?_⟩⟩;have s2:=(Same.new (o:=.lst []) ho1).trans (Same.new (o:=.lst []) ho2);have g1:=Same.new (o:=.lst []) ho2 _ _ (z0 (H:=H') (a:=o1) (o:=.lst []));have g2:=z0 (H:=upd H' o1 (.lst [])) (a:=o2) (o:=.lst []);have n12:o1≠o2:=zt (z0 (H:=H') (a:=o1) (o:=.lst [])) ho2;have no2:H' o2=none:=(Same.new (o:=.lst []) ho1).free ho2;generalize upd (upd H' o1 (.lst [])) o2 (.lst [])=H2 at s2 g1 g2;refine⟨_,rfl,lv,rfl,⟨_,SqL.of (s2 _ _ hlv)⟩,for_list (xs:=lev.map natV) (fun i σ' H3=>(∃v w,σ'=[some (.int L),some (.int R),some (.bl sp),some (.ref lv),some (.int ((l*r*m:Nat):Int)),v,some (.ref o1),some (.ref o2),w])/\Same H' H3/\ ∃xs ys,H3 o1=some (.lst xs)/\H3 o2=some (.lst ys)/\All2 (LstN [o1,o2]) H3 ((lev.take i).map (⟨L,R,r,l,sp,lev⟩:LD).lrow) xs/\All2 (LstN [o1,o2]) H3 ((lev.take i).map (⟨L,R,r,l,sp,lev⟩:LD).rrow) ys) ⟨⟨_,_,rfl⟩,s2,[],[],g1,g2,.nil,.nil⟩ ?_ ?_ ?_⟩
   ·rintro i σ' H3 _ ⟨_,s3,_⟩;exact SqL.of (s3 _ _ hlv)
   ·rintro i x σ' H3 hx ⟨⟨w1,w2,rfl⟩,s3,xs,ys,f1,f2,A1,A2⟩;obtain⟨v,hv',rfl⟩:=nat_at hx;have hv2:v<=2:=hv v (mem_of_getElem? hv');have hi:=(List.getElem?_eq_some_iff.mp hv').1;have xl:xs.length<sizeLine:=by
     rw[<-A1.length,length_map,length_take];exact lt_of_lt_of_le (show _<100 by omega) (by decide)
    have yl:ys.length<sizeLine:=by
     rw[<-A2.length,length_map,length_take];exact lt_of_lt_of_le (show _<100 by omega) (by decide)
    have fin:∀(a b:Addr)(H5:Hp),Keep [o1,o2] H3 H5->H5 o1=some (.lst (xs++[.ref a]))->H5 o2=some (.lst (ys++[.ref b]))->a∉[o1,o2]->b∉[o1,o2]->H5 a=some (.lst (((⟨L,R,r,l,sp,lev⟩:LD).lrow v).map V.int))->H5 b=some (.lst (((⟨L,R,r,l,sp,lev⟩:LD).rrow v).map V.int))->
      Same H' H5/\ ∃xs ys,H5 o1=some (.lst xs)/\H5 o2=some (.lst ys)/\All2 (LstN [o1,o2]) H5 ((lev.take (i+1)).map (⟨L,R,r,l,sp,lev⟩:LD).lrow) xs/\All2 (LstN [o1,o2]) H5 ((lev.take (i+1)).map (⟨L,R,r,l,sp,lev⟩:LD).rrow) ys:=fun a b H5 K5 e1 e2 na nb ea eb=>by
     refine⟨fun c o e=>K5 _ _ (s3 _ _ e) (nin_two' ho1 no2 e),_,_,e1,e2,?_,?_⟩
     ·rw[take_succ,hv',map_append];exact(A1.mvN K5).snoc ⟨a,rfl,na,ea⟩
     ·rw[take_succ,hv',map_append];exact(A2.mvN K5).snoc ⟨b,rfl,nb,eb⟩
    refine⟨_,rfl,sp,rfl,?_⟩;cases sp with
    |true =>
     refine iteT ⟨_,rfl,.inl ⟨rfl,_,SqL.of f1⟩,_,rfl,by show 1<=sizeLine;decide,fun a1 ha1=>⟨_,rfl,a1,(v:Int),[V.int (L:Int)],rfl,rfl,z0,by omega,by omega,?_,fun a2 ha2=>?_⟩⟩
     ·show 1*(v:Int).toNat<=sizeLine;exact le_trans (m:=2) (by omega) (by decide)
     rw[toNat_natCast,rep_flat];have s4:=(Same.new (o:=.lst [V.int (L:Int)]) ha1).trans (Same.new (o:=.lst ((replicate v (L:Int)).map V.int)) ha2);have ga2:=z0 (H:=upd H3 a1 (.lst [V.int (L:Int)])) (a:=a2) (o:=.lst ((replicate v (L:Int)).map V.int));have na2:a2∉[o1,o2]:=nin_two (Same.new ha1 _ _ f1) (Same.new ha1 _ _ f2) ha2;generalize upd (upd H3 a1 (.lst [V.int (L:Int)])) a2 (.lst ((replicate v (L:Int)).map V.int))=H4 at s4 ga2;refine⟨o1,_,_,rfl,rfl,s4 _ _ f1,xl,?_⟩;have K4:Keep [o1,o2] H3 (upd H4 o1 (.lst (xs++[.ref a2]))):=s4.keep.trans (Keep.set (by simp));have e1:=z0 (H:=H4) (a:=o1) (o:=.lst (xs++[.ref a2]));have e2:upd H4 o1 (.lst (xs++[.ref a2])) o2=some (.lst ys):=by rw[zh n12.symm];exact s4 _ _ f2
     have ea:upd H4 o1 (.lst (xs++[.ref a2])) a2=some (.lst ((replicate v (L:Int)).map V.int)):=by rw[zh (fun z=>na2 (by simp[z]))];exact ga2
     generalize upd H4 o1 (.lst (xs++[.ref a2]))=H5 at K4 e1 e2 ea;have dv:(0:Int)<(R:Int)/\(R:Int)<=10^100:=⟨by omega,b100 R (by omega)⟩;have hq8:L / R<=8:=le_trans (Nat.div_le_self _ _) hb.2.1;refine⟨_,rfl,.inl ⟨rfl,_,SqL.of e2⟩,_,rfl,by show 1<=sizeLine;decide,fun b1 hb1=>⟨_,rfl,by show 1<=sizeLine;decide,fun b2 hb2=>⟨_,rfl,_,rfl,_,_,rfl,rfl,dv,?_⟩⟩⟩;dsimp only;rw[q5];have hqI:((L / R:Nat):Int)<=8:=by exact_mod_cast hq8
     refine⟨b2,((L / R:Nat):Int),[V.int (R:Int)],rfl,rfl,z0,Int.le_trans (by decide) (Int.natCast_nonneg _),Int.lt_of_le_of_lt hqI (by decide),?_,fun b3 hb3=>?_⟩
     ·show 1*((L / R:Nat):Int).toNat<=sizeLine;exact le_trans (m:=8) (by omega) (by decide)
     rw[toNat_natCast,rep_flat];have sb:=(Same.new (o:=.lst [V.int (R:Int)]) hb2).trans (Same.new (o:=.lst ((replicate (L / R) (R:Int)).map V.int)) hb3);refine⟨b1,b3,_,_,rfl,rfl,sb _ _ z0,z0,?_,fun b4 hb4=>?_⟩
     ·rw[length_map,List.length_replicate];show 1+L / R<=sizeLine;exact le_trans (m:=9) (by omega) (by decide)
     have sc:=(Same.new (o:=.lst [V.int (L:Int)]) hb1).trans (sb.trans (Same.new (o:=.lst ([V.int (L:Int)]++(replicate (L / R) (R:Int)).map V.int)) hb4));have g4:=z0 (H:=upd (upd (upd H5 b1 (.lst [V.int (L:Int)])) b2 (.lst [V.int (R:Int)])) b3 (.lst ((replicate (L / R) (R:Int)).map V.int))) (a:=b4) (o:=.lst ([V.int (L:Int)]++(replicate (L / R) (R:Int)).map V.int));generalize upd (upd (upd (upd H5 b1 (.lst [V.int (L:Int)])) b2 (.lst [V.int (R:Int)])) b3 (.lst ((replicate (L / R) (R:Int)).map V.int))) b4 (.lst ([V.int (L:Int)]++(replicate (L / R) (R:Int)).map V.int))=H6 at sc g4;dsimp only[tNoPart,tNil];refine⟨_,rfl,_,rfl,_,_,rfl,rfl,dv,_,_,rfl,rfl,by show 3<=sizeLine;decide,fun b5 hb5=>?_⟩;dsimp only;rw[q5];have em:atI [V.int 0,V.int 1,V.int (1+((L / R:Nat):Int))] (v:Int)=some (.int (((⟨L,R,r,l,true,lev⟩:LD).cut v:Nat):Int)):=by
      match v,hv2 with
      | 0,_=>rfl
      | 1,_=>rfl
      | 2,_ =>
       show some (V.int (1+((L / R:Nat):Int)))=some (V.int ((1+L / R:Nat):Int));rw[Int.natCast_add];rfl
     refine⟨_,rfl,b5,_,v,_,rfl,rfl,SqL.of z0,em,_,rfl,b4,_,rfl,SqL.of (Same.new hb5 _ _ g4),fun b6 hb6=>?_⟩;rw[cut_take];have er:([V.int (L:Int)]++(replicate (L / R) (R:Int)).map V.int).take ((⟨L,R,r,l,true,lev⟩:LD).cut v)=((⟨L,R,r,l,true,lev⟩:LD).rrow v).map V.int:=by
      unfold LD.rrow;rw[if_pos rfl,List.map_take];rfl
     rw[er];have sd:=sc.trans ((Same.new (o:=.lst [V.int 0,V.int 1,V.int (1+((L / R:Nat):Int))]) hb5).trans (Same.new (o:=.lst (((⟨L,R,r,l,true,lev⟩:LD).rrow v).map V.int)) hb6));have g6:=z0 (H:=upd H6 b5 (.lst [V.int 0,V.int 1,V.int (1+((L / R:Nat):Int))])) (a:=b6) (o:=.lst (((⟨L,R,r,l,true,lev⟩:LD).rrow v).map V.int));have n6:b6∉[o1,o2]:=nin_two (Same.new hb5 _ _ (sc _ _ e1)) (Same.new hb5 _ _ (sc _ _ e2)) hb6;generalize upd (upd H6 b5 (.lst [V.int 0,V.int 1,V.int (1+((L / R:Nat):Int))])) b6 (.lst (((⟨L,R,r,l,true,lev⟩:LD).rrow v).map V.int))=H7 at sd g6;refine⟨o2,_,_,rfl,rfl,sd _ _ e2,yl,⟨_,_,rfl⟩,fin a2 b6 _ (K4.trans (sd.keep.trans (Keep.set (by simp)))) (by rw[zh n12];exact sd _ _ e1) z0 na2 n6 ?_ ?_⟩
     ·rw[zh (fun z=>na2 (by simp[z]))];exact sd _ _ ea
     ·rw[zh (fun z=>n6 (by simp[z]))];exact g6
    |false =>
     have dL:(0:Int)<(L:Int)/\(L:Int)<=10^100:=⟨by omega,b100 L (by omega)⟩;have dR:(0:Int)<(R:Int)/\(R:Int)<=10^100:=⟨by omega,b100 R (by omega)⟩;refine iteF ⟨_,rfl,.inl ⟨rfl,_,SqL.of f1⟩,_,rfl,by show 1<=sizeLine;decide,fun a1 ha1=>⟨_,rfl,_,rfl,_,rfl,_,_,rfl,rfl,dL,?_⟩⟩;dsimp only;rw[q3];refine⟨_,_,rfl,rfl,.inl ⟨by omega,by omega⟩,?_⟩;dsimp only;rw[<-Int.natCast_mul];have vr:v*r<=16:=Nat.mul_le_mul hv2 (show r<=8 by omega);have vl:v*l<=16:=Nat.mul_le_mul hv2 (show l<=8 by omega);refine⟨a1,((v*r:Nat):Int),[V.int (L:Int)],rfl,rfl,z0,by omega,by omega,?_,fun a2 ha2=>?_⟩
     ·show 1*((v*r:Nat):Int).toNat<=sizeLine;exact le_trans (m:=16) (by omega) (by decide)
     rw[toNat_natCast,rep_flat];have s4:=(Same.new (o:=.lst [V.int (L:Int)]) ha1).trans (Same.new (o:=.lst ((replicate (v*r) (L:Int)).map V.int)) ha2);have ga2:=z0 (H:=upd H3 a1 (.lst [V.int (L:Int)])) (a:=a2) (o:=.lst ((replicate (v*r) (L:Int)).map V.int));have na2:a2∉[o1,o2]:=nin_two (Same.new ha1 _ _ f1) (Same.new ha1 _ _ f2) ha2;generalize upd (upd H3 a1 (.lst [V.int (L:Int)])) a2 (.lst ((replicate (v*r) (L:Int)).map V.int))=H4 at s4 ga2;refine⟨o1,_,_,rfl,rfl,s4 _ _ f1,xl,?_⟩;have K4:Keep [o1,o2] H3 (upd H4 o1 (.lst (xs++[.ref a2]))):=s4.keep.trans (Keep.set (by simp));have e1:=z0 (H:=H4) (a:=o1) (o:=.lst (xs++[.ref a2]));have e2:upd H4 o1 (.lst (xs++[.ref a2])) o2=some (.lst ys):=by rw[zh n12.symm];exact s4 _ _ f2
     have ea:upd H4 o1 (.lst (xs++[.ref a2])) a2=some (.lst ((replicate (v*r) (L:Int)).map V.int)):=by rw[zh (fun z=>na2 (by simp[z]))];exact ga2
     generalize upd H4 o1 (.lst (xs++[.ref a2]))=H5 at K4 e1 e2 ea;refine⟨_,rfl,.inl ⟨rfl,_,SqL.of e2⟩,_,rfl,by show 1<=sizeLine;decide,fun b1 hb1=>⟨_,rfl,_,rfl,_,rfl,_,_,rfl,rfl,dR,?_⟩⟩;dsimp only;rw[q4];refine⟨_,_,rfl,rfl,.inl ⟨by omega,by omega⟩,?_⟩;dsimp only;rw[<-Int.natCast_mul];refine⟨b1,((v*l:Nat):Int),[V.int (R:Int)],rfl,rfl,z0,by omega,by omega,?_,fun b2 hb2=>?_⟩
     ·show 1*((v*l:Nat):Int).toNat<=sizeLine;exact le_trans (m:=16) (by omega) (by decide)
     rw[toNat_natCast,rep_flat];have sd:=(Same.new (o:=.lst [V.int (R:Int)]) hb1).trans (Same.new (o:=.lst ((replicate (v*l) (R:Int)).map V.int)) hb2);have g6:=z0 (H:=upd H5 b1 (.lst [V.int (R:Int)])) (a:=b2) (o:=.lst ((replicate (v*l) (R:Int)).map V.int));have n6:b2∉[o1,o2]:=nin_two (Same.new hb1 _ _ e1) (Same.new hb1 _ _ e2) hb2;generalize upd (upd H5 b1 (.lst [V.int (R:Int)])) b2 (.lst ((replicate (v*l) (R:Int)).map V.int))=H7 at sd g6;refine⟨o2,_,_,rfl,rfl,sd _ _ e2,yl,⟨_,_,rfl⟩,fin a2 b2 _ (K4.trans (sd.keep.trans (Keep.set (by simp)))) (by rw[zh n12];exact sd _ _ e1) z0 na2 n6 ?_ ?_⟩
     ·rw[zh (fun z=>na2 (by simp[z]))];exact sd _ _ ea
     ·rw[zh (fun z=>n6 (by simp[z]))];exact g6
   ·rintro σ' H3 ⟨⟨w1,w2,rfl⟩,s3,xs,ys,f1,f2,A1,A2⟩;rw[length_map,take_length]at A1 A2;refine⟨_,rfl,_,rfl,by show 2<=sizeLine;decide,fun p hp=>?_⟩;have s4:=Same.new (o:=.tup [V.ref o1,V.ref o2]) hp;exact k p o1 o2 xs ys r l _ z0 (s4 _ _ f1) (s4 _ _ f2) okD (A1.toL.mvI s4) (A2.toL.mvI s4) (s3.trans s4)
def n__law_rule:List Str:=["_law_rows"]
theorem sc__law_rule:FnScope n__law_rule ["_law_rows"] (z6 s__law_rule):=FS
inductive sp_rule(vs:List V)(H:Hp)(Q:VK)(E:XK):Prop
 |mk (a:Addr) (xs:List V) (rows:List (List Int)):vs=[.ref a]->H a=some (.lst xs)->All2 Lst1 H rows xs->(∀r∈rows,r.length<64)->rows.length<=60->(∀(p:Addr)(rs:List V)(H':Hp),H' p=some (.tup rs)->All2 Tup1 H' (rows.map sortD) rs->Same H H'->Q (.ref p) H')->sp_rule vs H Q E
theorem ok__law_rule(T:Txt K mg A):FnOk P w K mg base CX0 1 A.a31 A.f31 ["_law_rows"] sp_rule:=by
 refine T.x31.F.ok sc__law_rule (by walk_at "n") fun _ _ _ s H vs Q E hr h=>?_
 ·obtain⟨a,xs,rows,rfl,ha,h2,hb,hl,k⟩:=h;refine⟨_,(z8 (zi (zQ zA rfl T.w14 boot_tuple (pa1 (yB (ls:=["_law_row"]) (fr:=[]) (csf (z6 s__law_rule) n__law_rule) rfl (pi_list (pv 0)) (fun _ _ _ _=>pgc 0 (by decide+kernel) rfl rfl) (fun _ _ _ _=>pf_nil) (fun _ _ _ _=>(zQ (call_tuple_ofK K rfl) (glc (z6 s__law_rule)) T.w14 boot_tuple (pa1 (pe_sortRK K rfl (glc (z6 s__law_rule)) T.w11 (pvc (z6 s__law_rule) 0)))))))))),?_⟩;have hlen:=h2.length;refine comp_map1L Tup1 (rows.map sortD) [] (by rw[length_map];exact hlen) (le_trans (m:=60) (by omega) (by decide)) (fun _ _ _ _ s h=>h.mv s.tups) rfl rfl ha (fun j x b H' P hx hb' s' hP=>?_) (fun zs H' p s' a2 hp=>?_)
  ·obtain⟨row,hrow,q,rfl,hq⟩:=h2.get hx;rw[getElem?_map,hrow]at hb';have hbl:=hb row (mem_of_getElem? hrow);refine⟨_,rfl,q,row,rfl,.inl (SqL.of (s' _ _ hq)),hbl,fun ns' l hperm hord hl0=>⟨l,_,rfl,.inl ⟨SqL.of z0,fun t ht=>?_⟩⟩⟩;refine hP _ _ ((Same.new hl0).trans (Same.new ht)) ⟨t,rfl,?_⟩;rw[z0,sortD_eq hperm hord,<-Option.some.inj hb']
  ·refine⟨p,_,rfl,.inl ⟨SqL.of z0,fun t ht=>?_⟩⟩;have sn:=(Same.new (o:=.lst zs) hp).trans (Same.new (o:=.tup zs) ht);exact k t zs _ z0 (a2.mv sn.tups) (s'.trans sn)
def ye:List Str:=["_law_state","_law_top","_law_many","_law_ones","_law_others","_law_lefts","_law_rights","_law_lane_here","_law_left","_law_right","_law_split","_law_levels","_law_mine","_law_theirs"]
theorem zp:FnScope ye ["_law_state","_law_top"] (z6 zB):=FS
inductive sp_matched(vs:List V)(H:Hp)(Q:VK)(E:XK):Prop
 |mk (st ga ca:Addr) (N:Nat) (topp:Int):vs=[.ref st,.int topp]->StAt H st ga ca N->N<=10^6->0<=topp->topp<=6->(∀(p q1 q2:Addr)(rs qs:List V)(one other:List (List Int))(n:Nat)(H':Hp),H' p=some (.tup [.ref q1,.ref q2])->H' q1=some (.tup rs)->All2 Tup1 H' one rs->H' q2=some (.tup qs)->All2 Tup1 H' other qs->Matched one other n->(n:Int)<=topp->StAt H' st ga ca (N+1000)->Keep [st,ga] H H'->Q (.ref p) H')->sp_matched vs H Q E
structure MatI(H H':Hp)(st ga ca:Addr)(M n i:Nat)(oa ta la ra:Addr)(xs ys:List V)(ds:List LD):Prop where
 go:H' oa=some (.lst xs)
 gt:H' ta=some (.lst ys)
 ax:All2 (LstN [st,ga,la,ra]) H' ((List.range n).map (lefH ds)) xs
 ay:All2 (LstN [st,ga,la,ra]) H' ((List.range n).map (rigH ds)) ys
 gl:H' la=some (.lst ((ds.flatMap LD.lparts).map V.int))
 gr:H' ra=some (.lst ((ds.flatMap LD.rparts).map V.int))
 ld:LDi ds n i
 no:oa∉[st,ga,la,ra]
 nt:ta∉[st,ga,la,ra]
 sa:StAt H' st ga ca M
 kp:Keep [st,ga] H H'
theorem nin42{st ga la ra q:Addr}(h:q∉[st,ga,la,ra]):q∉[st,ga]:=fun z=>h (by
 simp only[mem_cons,not_mem_nil,or_false]at z ⊢;rcases z with z|z
 ·exact .inl z
 ·exact .inr (.inl z))
theorem wide4{st ga la ra:Addr}{H H':Hp}(k:Keep [st,ga] H H'):Keep [st,ga,la,ra] H H':=k.wide fun a ha=>by
 simp only[mem_cons,not_mem_nil,or_false]at ha ⊢;rcases ha with z|z
 ·exact .inl z
 ·exact .inr (.inl z)
theorem MatI.drawn{H H' H2:Hp}{st ga ca:Addr}{M M2 n i:Nat}{oa ta la ra:Addr}{xs ys:List V}{ds:List LD}(m:MatI H H' st ga ca M n i oa ta la ra xs ys ds)(hl:la∉[st,ga,ca])(hr:ra∉[st,ga,ca])(S:StAt H2 st ga ca M2)(K:Keep [st,ga] H' H2):MatI H H2 st ga ca M2 n i oa ta la ra xs ys ds :=
 ⟨K.at m.go (nin42 m.no),K.at m.gt (nin42 m.nt),m.ax.mvN (wide4 K),m.ay.mvN (wide4 K),K.at m.gl (nin2 hl),K.at m.gr (nin2 hr),m.ld,m.no,m.nt,S,m.kp.trans K⟩
theorem MatI.same{H H' H2:Hp}{st ga ca:Addr}{M n i:Nat}{oa ta la ra:Addr}{xs ys:List V}{ds:List LD}(m:MatI H H' st ga ca M n i oa ta la ra xs ys ds)(s:Same H' H2):MatI H H2 st ga ca M n i oa ta la ra xs ys ds :=
 ⟨s _ _ m.go,s _ _ m.gt,m.ax.mvN s.keep,m.ay.mvN s.keep,s _ _ m.gl,s _ _ m.gr,m.ld,m.no,m.nt,m.sa.same s,m.kp.trans s.keep⟩
theorem MatI.mono{H H':Hp}{st ga ca:Addr}{M M' n i i':Nat}{oa ta la ra:Addr}{xs ys:List V}{ds:List LD}(m:MatI H H' st ga ca M n i oa ta la ra xs ys ds)(h:M<=M')(hi:i<=i'):MatI H H' st ga ca M' n i' oa ta la ra xs ys ds :=
 ⟨m.go,m.gt,m.ax,m.ay,m.gl,m.gr,m.ld.mono hi,m.no,m.nt,m.sa.mono h,m.kp⟩
theorem ok__law_matched(T:Txt K mg A):FnOk P w K mg base CX0 5 A.a32 A.f32 ["_law_state","_law_top"] sp_matched:=by
 refine T.x32.F.ok zp (by walk_at "n") fun _ _ _ s H vs Q E hr h=>?_
 ·obtain⟨st,ga,ca,N,topp,rfl,S,hN,t0,t1,k⟩:=h;refine⟨_,(z5 (pset 2 zp.nd (pcl (zq T) hr T.x27 (pa2 (pv 0 (hv:=Or.inr (Or.inl rfl))) (zr yL (pv 1) z7))))
    (z5 (ps_comp (i:=3) (ls:=["_law_k"]) (fr:=[]) (csf (z6 zB) ye) rfl (pi_range1 rfl T.w10 (pa1 (pv 2))) (fun _ _ _ _=>pgc 0 (by decide+kernel) rfl rfl) (fun _ _ _ _=>pf_nil) (fun _ _ _ _=>(zF yt)) zp.nd rfl rfl rfl)
    (z5 (ps_comp (i:=4) (ls:=["_law_k"]) (fr:=[]) (csf (z6 zB) ye) rfl (pi_range1 rfl T.w10 (pa1 (pv 2))) (fun _ _ _ _=>pgc 0 (by decide+kernel) rfl rfl) (fun _ _ _ _=>pf_nil) (fun _ _ _ _=>(zF yt)) zp.nd rfl rfl rfl)
    (z5 (pset 5 zp.nd (zF yt))
    (z5 (pset 6 zp.nd (zF yt))
    (z5 (ps_for PassesOwn.never rfl (pi_range1 rfl T.w10 (pa1 (zr yL z7 (pcl (zq T) hr T.x27 (pa2 (pv 0 (hv:=Or.inr (Or.inl rfl))) z7))))) (pgn 7 zp.nd)
     (z5 (pset 8 zp.nd (zr yL z7 (pcl (zq T) hr T.x27 (pa2 (pv 0 (hv:=Or.inr (Or.inl rfl))) z7))))
    (z5 (pset 9 zp.nd (zr yL z7 (pcl (zq T) hr T.x27 (pa2 (pv 0 (hv:=Or.inr (Or.inl rfl))) z7))))
    (z5 (pset 10 zp.nd (pe_and (pcm op_eq (pcl (zq T) hr T.x27 (pa2 (pv 0 (hv:=Or.inr (Or.inl rfl))) z7)) z7) (pe_and (pcm op_eq (zr op_mod (pv 8) (pv 9)) z7) (pe_and (pcm op_gt (pv 8) (pv 9)) (pe_one (pe_cmpR op_notIn_seq (pv 8) (pv 6) rfl))))))
    (z5 (ps_comp (i:=11) (ls:=["_law_k"]) (fr:=[("_law_state",0)]) (csf (z6 zB) ye) rfl (pi_range1 rfl T.w10 (pa1 (pv 2))) (fun _ _ _ _=>pgc 0 (by decide+kernel) rfl rfl) (fun _ _ _ _=>pf_nil) (fun _ _ _ _=>(pe_call (zq T) (hr.mono (by decide)) (glc (z6 zB)) T.x27.g T.x27.F.kp T.x27.b .nil pass0 (pa2 (pvc (z6 zB) 1) z7))) zp.nd rfl rfl rfl)
    (z8 (zM (PW.pt (pw_and (zk op_notIn_seq (pv 8) (pv 5) rfl) (pw_and1 (zk op_notIn_seq (pv 9) (pv 6) rfl))))
     (z5 (ya (pe_bm PySem.F.plainAttrs_list PySem.F.slot_list_append PySem.F.type_list_append zZ (pv 5) (pa1 (pv 8))))
    (z5 (ya (pe_bm PySem.F.plainAttrs_list PySem.F.slot_list_append PySem.F.type_list_append zZ (pv 6) (pa1 (pv 9))))
    (z5 (zM (zR (pv 10) (fun _=>rfl))
     (z8 (ya (pe_bm PySem.F.plainAttrs_list PySem.F.slot_list_append PySem.F.type_list_append zZ (pv 6) (pa1 (pv 8))))) zj)
    (z5 (ps_asg (pcl (ok__law_lane T) hr T.x30 (pa_cons (pv 8) (pa3 (pv 9) (pv 10) (pv 11)))) (pg_tup rfl (zY (pgn 12 zp.nd) (zY (pgn 13 zp.nd) pgs_nil))))
    (z5 (ps_comp (i:=3) (ls:=["_law_heap_here","_law_more"]) (fr:=[]) (csf (z6 zB) ye) rfl (pi_zip false false rfl T.w15 (pa2 (pv 3) (pv 12))) (fun _ _ _ _=>pg_tupC 2 rfl (zY (pgc (ls:=["_law_heap_here","_law_more"]) (fr:=[]) 0 (by decide+kernel) rfl rfl) (zY (pgc (ls:=["_law_heap_here","_law_more"]) (fr:=[]) 1 (by decide+kernel) rfl rfl) pgs_nil)) rfl rfl) (fun _ _ _ _=>pf_nil) (fun _ _ _ _=>(zr op_cat (pvc (z6 zB) 0) (pvc (z6 zB) 1))) zp.nd rfl rfl rfl)
    (z8 (ps_comp (i:=4) (ls:=["_law_heap_here","_law_more"]) (fr:=[]) (csf (z6 zB) ye) rfl (pi_zip false false rfl T.w15 (pa2 (pv 4) (pv 13))) (fun _ _ _ _=>pg_tupC 2 rfl (zY (pgc (ls:=["_law_heap_here","_law_more"]) (fr:=[]) 0 (by decide+kernel) rfl rfl) (zY (pgc (ls:=["_law_heap_here","_law_more"]) (fr:=[]) 1 (by decide+kernel) rfl rfl) pgs_nil)) rfl rfl) (fun _ _ _ _=>pf_nil) (fun _ _ _ _=>(zr op_cat (pvc (z6 zB) 0) (pvc (z6 zB) 1))) zp.nd rfl rfl rfl))))))) zj)))))))
    (z5 (zM (zk op_eq (pcl (zq T) hr T.x27 (pa2 (pv 0 (hv:=Or.inr (Or.inl rfl))) z7)) z7 (zw _))
     (z8 (ps_par (i:=3) (j:=4) rfl zp.nd rfl rfl (by decide) rfl rfl (pa2 (pv 4) (pv 3)) rfl)) zj)
    (z8 (zi (zK (pa2 (pcl (ok__law_rule T) hr T.x31 (pa1 (pv 3))) (pcl (ok__law_rule T) hr T.x31 (pa1 (pv 4)))))))))))))),?_⟩
  refine cut4 fun nx0 hx0=>?_;refine⟨_,rfl,_,rfl,_,_,rfl,rfl,st,ga,ca,N,topp+1,rfl,S,by omega,by omega,Int.le_trans (show topp+1<=7 by omega) (by decide),fun many H1 m0 m1 S1 K1=>?_⟩;obtain⟨n,rfl⟩:∃n:Nat,many=(n:Int):=⟨many.toNat,by omega⟩;have n6:n<=6:=by omega
  have mk:∀(Ha:Hp)(ys:List V)(i:Nat)(q:Addr),Same H1 Ha->All2 (LstF H1) Ha (replicate i []) ys->Ha q=none->All2 (LstF H1) (upd Ha q (.lst [])) (replicate (i+1) []) (ys++[.ref q]):=fun Ha ys i q s a hq=>by
   rw[List.replicate_succ'];exact(a.mvF (Same.new hq)).snoc ⟨q,rfl,s.free hq,z0⟩
  refine⟨_,rfl,_,rfl,by omega,by omega,comp_range (fun i ys σ' H'=>Same H1 H'/\(∃v,σ'=[v])/\All2 (LstF H1) H' (replicate i []) ys/\i<=n) ⟨Same.refl _,⟨_,rfl⟩,.nil,zero_le _⟩ ?_ ?_ ?_⟩
  ·rintro i ys σ' H' hi ⟨_,_,a2,_⟩;rw[<-a2.length,List.length_replicate];exact yj (by omega)
  ·rintro i ys σ' H' hi ⟨s,⟨v,rfl⟩,a2,_⟩;exact⟨by show 0<=sizeLine;decide,fun q hq=>⟨s.trans (Same.new hq),⟨_,rfl⟩,mk _ _ _ _ s a2 hq,by omega⟩⟩
  rintro xs σ' H2 ⟨s2,_,ax,_⟩ oa hoa;rw[toNat_natCast]at ax;have s3:=s2.trans (Same.new (o:=.lst xs) hoa);have goa:=z0 (H:=H2) (a:=oa) (o:=.lst xs);have ax3:=ax.mvF (Same.new (o:=.lst xs) hoa);generalize upd H2 oa (.lst xs)=H3 at s3 goa ax3;refine⟨_,rfl,_,rfl,by omega,by omega,comp_range (fun i ys σ' H'=>Same H3 H'/\(∃v,σ'=[v])/\All2 (LstF H1) H' (replicate i []) ys/\i<=n) ⟨Same.refl _,⟨_,rfl⟩,.nil,zero_le _⟩ ?_ ?_ ?_⟩
  ·rintro i ys σ' H' hi ⟨_,_,a2,_⟩;rw[<-a2.length,List.length_replicate];exact yj (by omega)
  ·rintro i ys σ' H' hi ⟨s,⟨v,rfl⟩,a2,_⟩;exact⟨by show 0<=sizeLine;decide,fun q hq=>⟨s.trans (Same.new hq),⟨_,rfl⟩,mk _ _ _ _ (s3.trans s) a2 hq,by omega⟩⟩
  rintro ys σ' H4 ⟨s4,_,ay,_⟩ ta hta;rw[toNat_natCast]at ay;have s5:=s4.trans (Same.new (o:=.lst ys) hta);have gta:=z0 (H:=H4) (a:=ta) (o:=.lst ys);have ay5:=ay.mvF (Same.new (o:=.lst ys) hta);generalize upd H4 ta (.lst ys)=H5 at s5 gta ay5;have goa5:=s5 _ _ goa;have ax5:=ax3.mvF s5;refine⟨by show 0<=sizeLine;decide,fun la hla=>?_⟩;dsimp only[yc];subst hx0;refine⟨by show 0<=sizeLine;decide,fun ra hra=>?_⟩;have s6:=(Same.new (o:=.lst []) hla).trans (Same.new (o:=.lst []) hra);have gla:=Same.new (o:=.lst []) hra _ _ (z0 (H:=H5) (a:=la) (o:=.lst []));have gra:=z0 (H:=upd H5 la (.lst [])) (a:=ra) (o:=.lst []);have nra:H5 ra=none:=(Same.new (o:=.lst []) hla).free hra;have nlr:la≠ra:=zt (z0 (H:=H5) (a:=la) (o:=.lst [])) hra;generalize upd (upd H5 la (.lst [])) ra (.lst [])=H6 at s6 gla gra;have s15:=s3.trans s5;have S6:=S1.same (s15.trans s6);have nin4:∀(q:Addr)(o:HO),H5 q=some o->H1 q=none->q∉[st,ga,la,ra]:=fun q o e hn z=>by
   have h2:=S1.nin hn;simp only[mem_cons,not_mem_nil,or_false]at z h2;rcases z with rfl|rfl|rfl|rfl
   ·exact h2 (.inl rfl)
   ·exact h2 (.inr rfl)
   ·rw[hla]at e;cases e
   ·rw[nra]at e;cases e
  have ax6:=(ax5.toN nin4).mvN (Same.keep s6);have ay6:=(ay5.toN nin4).mvN (Same.keep s6);have noa:=nin4 oa _ goa5 (s2.free hoa);have nta:=nin4 ta _ gta ((s3.trans s4).free hta);have ela0:H la=none:=K1.free (s15.free hla) (S1.nin (s15.free hla));have era:H ra=none:=K1.free (s15.free nra) (S1.nin (s15.free nra));have nla:la∉[st,ga,ca]:=S1.nin3 (s15.free hla);have nra3:ra∉[st,ga,ca]:=S1.nin3 (s15.free nra);rw[<-(nil_rows n).1]at ax6;rw[<-(nil_rows n).2]at ay6;have M0:MatI H H6 st ga ca (N+7) n 0 oa ta la ra xs ys []:=⟨s6 _ _ goa5,s6 _ _ gta,ax6,ay6,gla,gra,LDi.nil n,noa,nta,S6.mono (by omega),K1.trans (s15.trans s6).keep⟩;clear ax ax3 ax5 ay ay5 ax6 ay6;refine⟨_,rfl,st,ga,ca,_,4,rfl,M0.sa,by omega,by decide,by decide,fun lanes H7 l0 l1 S7 K7=>⟨_,_,rfl,rfl,_,rfl,by omega,by omega,?_⟩⟩;have M7:=M0.drawn nla nra3 S7 K7;refine for_range (fun i σ' H'=>∃(oa ta:Addr)(xs ys:List V)(ds:List LD)(v7 v8 v9 v10 v11 v12 v13:Option V),σ'=[some (.ref st),some (.int topp),some (.int (n:Int)),some (.ref oa),some (.ref ta),some (.ref la),some (.ref ra),v7,v8,v9,v10,v11,v12,v13]/\MatI H H' st ga ca (N+14+63*i) n i oa ta la ra xs ys ds) ⟨oa,ta,xs,ys,[],none,none,none,none,none,none,none,rfl,M7⟩ ?_ ?_
  ·clear M0 M7 goa goa5 gta gla gra noa nta;rintro i σ' H' hi ⟨oa,ta,xs,ys,ds,v7,v8,v9,v10,v11,v12,v13,rfl,M⟩;have i4:i+1<=4:=by omega
   refine cut2 fun nx1 hx1=>?_;refine⟨_,rfl,st,ga,ca,_,8,rfl,M.sa,by omega,by decide,by decide,fun a1 HA a10 a11 SA KA=>⟨_,_,rfl,rfl,?_⟩⟩;have MA:=M.drawn nla nra3 SA KA;obtain⟨L,eL⟩:∃L:Nat,1+a1=(L:Int):=⟨(1+a1).toNat,by omega⟩;dsimp only;rw[eL];refine⟨_,rfl,st,ga,ca,_,8,rfl,MA.sa,by omega,by decide,by decide,fun a2 HB a20 a21 SB KB=>⟨_,_,rfl,rfl,?_⟩⟩;have MB:=MA.drawn nla nra3 SB KB;obtain⟨R,eR⟩:∃R:Nat,1+a2=(R:Int):=⟨(1+a2).toNat,by omega⟩;dsimp only;rw[eR];have hb:1<=L/\L<=8/\1<=R/\R<=8:=by omega
   dsimp only[yc];subst hx1;refine seqJoin (fun σ' H'=>∃ b:Bool,σ'=[some (.ref st),some (.int topp),some (.int (n:Int)),some (.ref oa),some (.ref ta),some (.ref la),some (.ref ra),some (.int (0+(i:Int))),some (.int (L:Int)),some (.int (R:Int)),some (.bl b),v11,v12,v13]/\(b=true->(L%R=0/\R<L)/\(L:Int)∉ds.flatMap LD.rparts)/\MatI H H' st ga ca (N+14+63*i+21) n i oa ta la ra xs ys ds) (fun nx hnx=>?_) ?_
   ·refine⟨_,rfl,st,ga,ca,_,3,rfl,MB.sa,by omega,by decide,by decide,fun a3 HC a30 a31 SC KC=>⟨rfl,?_⟩⟩;have MC:=(MB.drawn nla nra3 SC KC).mono (M':=N+14+63*i+21) (by omega) (le_refl _);refine⟨_,rfl,ite2 (fun h1=>?_) (fun h1=>hnx _ _ ⟨_,rfl,(fun z=>by cases z),MC⟩)⟩;refine⟨_,rfl,_,rfl,_,_,rfl,rfl,by omega,rfl,_,rfl,ite2 (fun h2=>?_) (fun h2=>hnx _ _ ⟨_,rfl,(fun z=>by cases z),MC⟩)⟩;refine⟨_,rfl,_,rfl,_,_,rfl,rfl,_,rfl,ite2 (fun h3=>?_) (fun h3=>hnx _ _ ⟨_,rfl,(fun z=>by cases z),MC⟩)⟩;refine⟨_,rfl,_,rfl,ra,_,rfl,.inl (SqL.of MC.gr),rfl,yu _,?_⟩;rw[if_pos rfl,inV_ints];have d2:(L:Int)%(R:Int)=0:=by have:=of_decide_eq_true h2;injection this
    have d3:(R:Int)<(L:Int):=of_decide_eq_true h3;exact hnx _ _ ⟨_,rfl,fun z=>⟨⟨by exact_mod_cast d2,by omega⟩,by simpa using z⟩,MC⟩
   ·rintro σ1 HC ⟨sp,rfl,hsp,MC⟩;refine⟨_,rfl,_,rfl,by omega,by omega,comp_range (fun j zs σ' H'=>(∃v,σ'=[v,some (.ref st)])/\ ∃lev:List Nat,zs=lev.map natV/\lev.length=j/\(∀v∈lev,v<=2)/\MatI H H' st ga ca (N+14+63*i+21+7*j) n i oa ta la ra xs ys ds) ⟨⟨_,rfl⟩,[],rfl,rfl,(fun _ h=>by cases h),MC⟩ ?_ ?_ ?_⟩
    ·rintro j zs σ' H' hj ⟨_,lev,rfl,hl,_⟩;rw[length_map,hl];exact yj (by omega)
    ·rintro j zs σ' H' hj ⟨⟨v,rfl⟩,lev,rfl,hl,hv,M'⟩;refine⟨_,rfl,st,ga,ca,_,3,rfl,M'.sa,by omega,by decide,by decide,fun a4 HD a40 a41 SD KD=>⟨⟨_,rfl⟩,lev++[a4.toNat],?_,by simp[hl],fun v hv'=>?_,(M'.drawn nla nra3 SD KD).mono (by omega) (le_refl _)⟩⟩
     ·rw[map_append];show _=_++[V.int (a4.toNat:Int)];rw[Int.toNat_of_nonneg a40]
     ·rcases mem_append.mp hv' with h|h
      ·exact hv v h
      ·rw[List.mem_singleton.mp h];omega
    rintro zs σ' HD0 ⟨_,lev,rfl,hl,hv,MD0⟩ lv hlv;rw[toNat_natCast]at hl;have MD:=(MD0.same (Same.new (o:=.lst (lev.map natV)) hlv)).mono (M':=N+14+63*(i+1)) (by rw[toNat_natCast];omega) (le_refl _);have glv:=z0 (H:=HD0) (a:=lv) (o:=.lst (lev.map natV));have nlv:lv≠la/\lv≠ra:=⟨(fun z=>by rw[z,MD0.gl]at hlv;cases hlv),(fun z=>by rw[z,MD0.gr]at hlv;cases hlv)⟩;generalize upd HD0 lv (.lst (lev.map natV))=HD at MD glv;have skip:∀(w7 w8 w9 w10 w11 w12 w13:Option V),∃(oa' ta':Addr)(xs' ys':List V)(ds':List LD)(v7 v8 v9 v10 v11 v12 v13:Option V),[some (V.ref st),some (.int topp),some (.int (n:Int)),some (.ref oa),some (.ref ta),some (.ref la),some (.ref ra),w7,w8,w9,w10,w11,w12,w13]=[some (V.ref st),some (.int topp),some (.int (n:Int)),some (.ref oa'),some (.ref ta'),some (.ref la),some (.ref ra),v7,v8,v9,v10,v11,v12,v13]/\MatI H HD st ga ca (N+14+63*(i+1)) n (i+1) oa' ta' la ra xs' ys' ds' :=
     fun w7 w8 w9 w10 w11 w12 w13=>⟨oa,ta,xs,ys,ds,w7,w8,w9,w10,w11,w12,w13,rfl,MD.mono (le_refl _) (by omega)⟩
    refine⟨_,rfl,_,rfl,la,_,rfl,.inl (SqL.of MD.gl),rfl,yu _,_,rfl,?_⟩;rw[if_pos rfl,inV_ints];by_cases h1:(L:Int)∈ds.flatMap LD.lparts
    ·rw[decide_eq_true h1];exact iteF (iteF (skip _ _ _ _ _ _ _))
    rw[decide_eq_false h1];refine iteT ⟨_,rfl,_,rfl,ra,_,rfl,.inl (SqL.of MD.gr),rfl,yu _,_,rfl,?_⟩;rw[if_pos rfl,inV_ints];by_cases h2:(R:Int)∈ds.flatMap LD.rparts
    ·rw[decide_eq_true h2];exact iteF (skip _ _ _ _ _ _ _)
    rw[decide_eq_false h2];refine iteT ?_;have ll:(ds.flatMap LD.lparts).length<=4:=by
     have:=yy LD.lparts 1 ds (fun d _=>by simp[LD.lparts]);have:=MD.ld.few;omega
    have rl:(ds.flatMap LD.rparts).length<=8:=by
     have:=yy LD.rparts 2 ds (fun d _=>by unfold LD.rparts;split <;>simp);have:=MD.ld.few;omega
    refine⟨_,rfl,.inl ⟨rfl,_,SqL.of MD.gl⟩,_,rfl,la,_,_,rfl,rfl,MD.gl,by rw[length_map];exact lt_of_le_of_lt ll (by decide),?_⟩;have KE:Keep [la,ra] HD (upd HD la (.lst ((ds.flatMap LD.lparts).map V.int++[V.int (L:Int)]))):=Keep.set (by simp);have gr1:upd HD la (.lst ((ds.flatMap LD.lparts).map V.int++[V.int (L:Int)])) ra=some (.lst ((ds.flatMap LD.rparts).map V.int)):=by rw[zh nlr.symm];exact MD.gr
    have gl1:=z0 (H:=HD) (a:=la) (o:=.lst ((ds.flatMap LD.lparts).map V.int++[V.int (L:Int)]));generalize upd HD la (.lst ((ds.flatMap LD.lparts).map V.int++[V.int (L:Int)]))=HE at KE gr1 gl1;refine⟨_,rfl,.inl ⟨rfl,_,SqL.of gr1⟩,_,rfl,ra,_,_,rfl,rfl,gr1,by rw[length_map];exact lt_of_le_of_lt rl (by decide),?_⟩;have KF:Keep [la,ra] HD (upd HE ra (.lst ((ds.flatMap LD.rparts).map V.int++[V.int (R:Int)]))):=KE.trans (Keep.set (by simp));have gl2:upd HE ra (.lst ((ds.flatMap LD.rparts).map V.int++[V.int (R:Int)])) la=some (.lst ((ds.flatMap LD.lparts).map V.int++[V.int (L:Int)])):=by rw[zh nlr];exact gl1
    have gr2:=z0 (H:=HE) (a:=ra) (o:=.lst ((ds.flatMap LD.rparts).map V.int++[V.int (R:Int)]));generalize upd HE ra (.lst ((ds.flatMap LD.rparts).map V.int++[V.int (R:Int)]))=HF at KF gl2 gr2;dsimp only[yH,yc];refine seqJoin (fun σ' H'=>σ'=[some (.ref st),some (.int topp),some (.int (n:Int)),some (.ref oa),some (.ref ta),some (.ref la),some (.ref ra),some (.int (0+(i:Int))),some (.int (L:Int)),some (.int (R:Int)),some (.bl sp),some (.ref lv),v12,v13]/\Keep [la,ra] HD H'/\H' la=some (.lst ((ds.flatMap LD.lparts).map V.int++[V.int (L:Int)]))/\H' ra=some (.lst ((ds.flatMap LD.rparts).map V.int++(if sp then [V.int (R:Int),V.int (L:Int)]else [V.int (R:Int)])))) (fun nx hnx=>?_) ?_
    ·refine⟨_,rfl,sp,rfl,?_⟩;cases sp with
     |false=>exact iteF (hnx _ _ ⟨rfl,KF,gl2,gr2⟩)
     |true =>
      refine iteT ⟨_,rfl,.inl ⟨rfl,_,SqL.of gr2⟩,_,rfl,ra,_,_,rfl,rfl,gr2,?_,hnx _ _ ⟨rfl,KF.trans (Keep.set (by simp)),by rw[zh nlr];exact gl2,?_⟩⟩
      ·rw[length_append,length_map];exact lt_of_le_of_lt (show(ds.flatMap LD.rparts).length+1<=9 by omega) (by decide)
      ·rw[z0,append_assoc];rfl
    rintro σ2 HG ⟨rfl,KG,gl3,gr3⟩;have glvG:HG lv=some (.lst (lev.map natV)):=KG.at glv (by simp[nlv.1,nlv.2]);refine⟨_,rfl,_,rfl,_,rfl,_,rfl,L,R,sp,lv,lev,rfl,glvG,hb,fun z=>⟨Nat.mul_div_cancel' (Nat.dvd_of_mod_eq_zero (hsp z).1.1),(hsp z).1.2⟩,by omega,hv,fun p o1 o2 xs' ys' m k' HI hp h1' h2' okD A1 A2 sI=>?_⟩;refine⟨p,_,rfl,SqT.of hp,rfl,_,_,rfl,_,_,rfl,rfl,?_⟩;generalize hd:(⟨L,R,m,k',sp,lev⟩:LD)=d at okD A1 A2;have hdl:d.lev=lev:=by rw[<-hd]
    have w4:∀a∈[la,ra],a∈[st,ga,la,ra]:=fun a ha=>mem_cons_of_mem _ (mem_cons_of_mem _ ha);have KI:Keep [la,ra] HD HI:=KG.trans sI.keep;have AXa:=MD.ax.mvN (KI.wide w4);have AYa:=MD.ay.mvN (KI.wide w4);have n2:∀q,q∉[st,ga,la,ra]->q∉[la,ra]:=fun q hq z=>hq (w4 q z);have Ga:=KI.at MD.go (n2 _ MD.no);have Gb:=KI.at MD.gt (n2 _ MD.nt);have SI:StAt HI st ga ca (N+14+63*(i+1)):=by
     obtain⟨⟨gs,cs,q0,nn,c1,c2,c3,c4⟩,c5,c6,c7⟩:=MD.sa;have na:∀x∈[st,ga,ca],x∉[la,ra]:=fun x hx z=>by
      simp only[mem_cons,not_mem_nil,or_false]at z;rcases z with rfl|rfl
      ·exact nla hx
      ·exact nra3 hx
     exact⟨⟨gs,cs,q0,nn,KI.at c1 (na _ (by simp)),KI.at c2 (na _ (by simp)),KI.at c3 (na _ (by simp)),c4⟩,c5,c6,c7⟩
    have gl4:=sI _ _ gl3;have gr4:=sI _ _ gr3;have nin4':∀{q:Addr},HI q=none->q∉[st,ga,la,ra]:=fun{q} hq z=>by
     have h2:=SI.nin hq;simp only[mem_cons,not_mem_nil,or_false]at z h2;rcases z with rfl|rfl|rfl|rfl
     ·exact h2 (.inl rfl)
     ·exact h2 (.inr rfl)
     ·rw[gl4]at hq;cases hq
     ·rw[gr4]at hq;cases hq
    have hv2L:∀{j v:Nat},lev[j]? =some v->d.at j=v:=fun{j v} h=>LD.at_some (by rw[hdl];exact h);have Ba:∀j v,lev[j]? =some v->(lefH ds j++d.lrow v).length<=sizeLine:=fun j v hv'=>by
     rw[length_append];have e1:=lrows_len (MD.ld.lds (by omega)) j;have e2:=LD.lrow_len okD (hv v (mem_of_getElem? hv'));exact le_trans (m:=100) (by omega) (by decide)
    refine⟨_,rfl,_,rfl,oa,o1,rfl,⟨_,SqL.of Ga⟩,⟨_,SqL.of h1'⟩,comp_zip (xs:=xs) (ys:=xs') (fun j zs σ' H'=>Same HI H'/\(∃v w,σ'=[v,w])/\All2 (LstN [st,ga,la,ra]) H' (((List.range n).take j).map fun j=>lefH (ds++[d]) j) zs/\j<=n) ⟨Same.refl _,⟨_,_,rfl⟩,.nil,zero_le _⟩ ?_ ?_ ?_⟩
    ·rintro j zs σ' H' hj ⟨s',_,a',hj'⟩;refine⟨SqL.of (s' _ _ Ga),SqL.of (s' _ _ h1'),?_⟩;rw[<-a'.length,length_map,length_take];exact yj (by omega)
    ·rintro j x y zs σ' H' T' hx hy ⟨s',⟨v,w',rfl⟩,a',hj'⟩ hT;obtain⟨row,hrow,q,rfl,nq,gq⟩:=AXa.get hx;obtain⟨row2,hrow2,q',rfl,gq'⟩:=A1.get hy;have hj:j<n:=by
      have:=(List.getElem?_eq_some_iff.mp hrow).1;rw[length_map,List.length_range]at this;exact this
     rw[getElem?_map,List.getElem?_range hj]at hrow;have er:lefH ds j=row:=Option.some.inj hrow;rw[getElem?_map]at hrow2;obtain⟨v2,hv2,er2⟩:∃v2,lev[j]? =some v2/\d.lrow v2=row2:=by
      cases e:lev[j]? with
      |none=>rw[e]at hrow2;cases hrow2
      |some v2=>rw[e]at hrow2;exact⟨v2,rfl,Option.some.inj hrow2⟩
     have hbl:=Ba j v2 hv2;rw[er,er2,length_append]at hbl;have sT:=s'.trans (Same.new (o:=.tup [V.ref q,V.ref q']) hT);refine⟨T',_,rfl,SqT.of z0,rfl,_,_,rfl,_,_,rfl,rfl,?_⟩;refine⟨_,rfl,_,rfl,q,q',_,_,rfl,rfl,sT _ _ gq,sT _ _ gq',by rw[length_map,length_map];exact hbl,fun z hz=>⟨sT.trans (Same.new hz),⟨_,_,rfl⟩,?_,hj⟩⟩;rw[take_succ,List.getElem?_range hj,map_append];refine(a'.mvN ((Same.new (o:=.tup [V.ref q,V.ref q']) hT).trans (Same.new hz)).keep).snoc ⟨z,rfl,nin4' (sT.free hz),?_⟩;rw[z0];show _=some (HO.lst ((lefH (ds++[d]) j).map V.int));rw[lef_snoc,hv2L hv2,er,er2,map_append]
    rintro zs1 σ' HJ ⟨sa',_,aa',_⟩ oa2 hoa2;have ela:min xs.length xs'.length=n/\min ys.length ys'.length=n:=by
     rw[<-MD.ax.length,<-MD.ay.length,<-A1.length,<-A2.length,length_map,length_map,length_map,length_map,List.length_range,hl];simp
    rw[ela.1,take_of_length_le (by rw[List.length_range];exact le_refl _)]at aa';have sJ:=sa'.trans (Same.new (o:=.lst zs1) hoa2);have goa2:=z0 (H:=HJ) (a:=oa2) (o:=.lst zs1);have az1:=aa'.mvN (Same.new (o:=.lst zs1) hoa2).keep;have noa2:=nin4' (sa'.free hoa2);generalize upd HJ oa2 (.lst zs1)=HK at sJ goa2 az1;have AYK:=AYa.mvN sJ.keep;have A2K:=A2.mvI sJ;have GbK:=sJ _ _ Gb;have g2K:=sJ _ _ h2';have Bb:∀j v,lev[j]? =some v->(rigH ds j++d.rrow v).length<=sizeLine:=fun j v hv'=>by
     rw[length_append];have e1:=lrows_len (MD.ld.lds (by omega)) j;have e2:=LD.rrow_len okD (hv v (mem_of_getElem? hv'));exact le_trans (m:=100) (by omega) (by decide)
    refine⟨_,rfl,_,rfl,ta,o2,rfl,⟨_,SqL.of GbK⟩,⟨_,SqL.of g2K⟩,comp_zip (xs:=ys) (ys:=ys') (fun j zs σ' H'=>Same HK H'/\(∃v w,σ'=[v,w])/\All2 (LstN [st,ga,la,ra]) H' (((List.range n).take j).map fun j=>rigH (ds++[d]) j) zs/\j<=n) ⟨Same.refl _,⟨_,_,rfl⟩,.nil,zero_le _⟩ ?_ ?_ ?_⟩
    ·rintro j zs σ' H' hj ⟨s',_,a',hj'⟩;refine⟨SqL.of (s' _ _ GbK),SqL.of (s' _ _ g2K),?_⟩;rw[<-a'.length,length_map,length_take];exact yj (by omega)
    ·rintro j x y zs σ' H' T' hx hy ⟨s',⟨v,w',rfl⟩,a',hj'⟩ hT;obtain⟨row,hrow,q,rfl,nq,gq⟩:=AYK.get hx;obtain⟨row2,hrow2,q',rfl,gq'⟩:=A2K.get hy;have hj:j<n:=by
      have:=(List.getElem?_eq_some_iff.mp hrow).1;rw[length_map,List.length_range]at this;exact this
     rw[getElem?_map,List.getElem?_range hj]at hrow;have er:rigH ds j=row:=Option.some.inj hrow;rw[getElem?_map]at hrow2;obtain⟨v2,hv2,er2⟩:∃v2,lev[j]? =some v2/\d.rrow v2=row2:=by
      cases e:lev[j]? with
      |none=>rw[e]at hrow2;cases hrow2
      |some v2=>rw[e]at hrow2;exact⟨v2,rfl,Option.some.inj hrow2⟩
     have hbl:=Bb j v2 hv2;rw[er,er2,length_append]at hbl;have sT:=s'.trans (Same.new (o:=.tup [V.ref q,V.ref q']) hT);refine⟨T',_,rfl,SqT.of z0,rfl,_,_,rfl,_,_,rfl,rfl,?_⟩;refine⟨_,rfl,_,rfl,q,q',_,_,rfl,rfl,sT _ _ gq,sT _ _ gq',by rw[length_map,length_map];exact hbl,fun z hz=>⟨sT.trans (Same.new hz),⟨_,_,rfl⟩,?_,hj⟩⟩;rw[take_succ,List.getElem?_range hj,map_append];refine(a'.mvN ((Same.new (o:=.tup [V.ref q,V.ref q']) hT).trans (Same.new hz)).keep).snoc ⟨z,rfl,nin4' ((sJ.trans sT).free hz),?_⟩;rw[z0];show _=some (HO.lst ((rigH (ds++[d]) j).map V.int));rw[rig_snoc,hv2L hv2,er,er2,map_append]
    rintro zs2 σ' HL ⟨sb',_,ab',_⟩ ta2 hta2;have elb:min xs.length xs'.length=n/\min ys.length ys'.length=n:=by
     rw[<-MD.ax.length,<-MD.ay.length,<-A1.length,<-A2.length,length_map,length_map,length_map,length_map,List.length_range,hl];simp
    rw[elb.2,take_of_length_le (by rw[List.length_range];exact le_refl _)]at ab';have sL:=sb'.trans (Same.new (o:=.lst zs2) hta2);have gta2:=z0 (H:=HL) (a:=ta2) (o:=.lst zs2);have az2:=ab'.mvN (Same.new (o:=.lst zs2) hta2).keep;have nta2:=nin4' ((sJ.trans sb').free hta2);generalize upd HL ta2 (.lst zs2)=HM at sL gta2 az2;have sIM:=sJ.trans sL;have eLp:d.L=L/\d.R=R/\d.sp=sp:=by rw[<-hd];exact⟨rfl,rfl,rfl⟩
    refine⟨oa2,ta2,zs1,zs2,ds++[d],_,_,_,_,_,_,_,rfl,⟨sL _ _ goa2,gta2,az1.mvN sL.keep,az2,?_,?_,MD.ld.snoc okD (by rw[hdl];exact hl) (by rw[eLp.1];exact h1) (by rw[eLp.2.1];exact h2) (fun z=>by rw[eLp.1];exact(hsp (by rw[<-eLp.2.2];exact z)).2),noa2,nta2,SI.same sIM,fun b o e hn=>sIM _ _ (KI _ _ (MD.kp _ _ e hn) (nin_two' ela0 era e))⟩⟩
    ·rw[sIM _ _ gl4,List.flatMap_append,map_append];simp only[List.flatMap_cons,List.flatMap_nil,LD.lparts,eLp.1,append_nil,map_cons,List.map_nil]
    ·rw[sIM _ _ gr4,List.flatMap_append,map_append];simp only[List.flatMap_cons,List.flatMap_nil,LD.rparts,eLp.1,eLp.2.1,eLp.2.2,append_nil];cases sp <;>rfl
  ·clear M0 M7 goa goa5 gta gla gra noa nta;rintro σ' H' ⟨oa,ta,xs,ys,ds,v7,v8,v9,v10,v11,v12,v13,rfl,M⟩;have hL:=M.ld.lds (show(1+lanes).toNat<=4 by omega);have mt:=matched_of hL;have rl:=rows_lt hL;dsimp only[yH,yc];refine seqJoin (fun σ' H'=>∃(oa ta:Addr)(xs ys:List V)(r1 r2:List (List Int)),σ'=[some (.ref st),some (.int topp),some (.int (n:Int)),some (.ref oa),some (.ref ta),some (.ref la),some (.ref ra),v7,v8,v9,v10,v11,v12,v13]/\H' oa=some (.lst xs)/\H' ta=some (.lst ys)/\All2 Lst1 H' r1 xs/\All2 Lst1 H' r2 ys/\(∀r∈r1,r.length<64)/\(∀r∈r2,r.length<64)/\r1.length<=60/\r2.length<=60/\Matched (r1.map sortD) (r2.map sortD) n/\StAt H' st ga ca (N+1000)/\Keep [st,ga] H H') (fun nx hnx=>?_) ?_
   ·refine⟨_,rfl,st,ga,ca,_,2,rfl,M.sa,by omega,by decide,by decide,fun r H8 r0 r1 S8 K8=>⟨rfl,_,rfl,?_⟩⟩;have M8:=M.drawn nla nra3 S8 K8;have e1:((List.range n).map (lefH ds)).map sortD=sideR lefH ds n:=by rw[List.map_map];rfl
    have e2:((List.range n).map (rigH ds)).map sortD=sideR rigH ds n:=by rw[List.map_map];rfl
    have b1:∀r∈(List.range n).map (lefH ds),r.length<64:=fun r hr'=>by
     obtain⟨j,_,rfl⟩:=mem_map.mp hr';exact(rl j).1
    have b2:∀r∈(List.range n).map (rigH ds),r.length<64:=fun r hr'=>by
     obtain⟨j,_,rfl⟩:=mem_map.mp hr';exact(rl j).2
    have ln:∀f:Nat->List Int,((List.range n).map f).length<=60:=fun f=>by rw[length_map,List.length_range];omega
    have S9:=M8.sa.mono (show _<=N+1000 by omega);refine ite2 (fun _=>?_) (fun _=>hnx _ _ ⟨oa,ta,xs,ys,_,_,rfl,M8.go,M8.gt,M8.ax.toL,M8.ay.toL,b1,b2,ln _,ln _,by rw[e1,e2];exact mt,S9,M8.kp⟩);exact⟨_,rfl,_,rfl,_,_,rfl,hnx _ _ ⟨ta,oa,ys,xs,_,_,rfl,M8.gt,M8.go,M8.ay.toL,M8.ax.toL,b2,b1,ln _,ln _,by rw[e1,e2];exact mt.swap,S9,M8.kp⟩⟩
   ·rintro σ2 H8 ⟨oa,ta,xs,ys,r1,r2,rfl,g1,g2,a1,a2,b1,b2,l1,l2,mm,S9,K9⟩;refine⟨_,rfl,oa,xs,r1,rfl,g1,a1,b1,l1,fun p1 rs HA gA aA sA=>?_⟩;refine⟨_,rfl,ta,ys,r2,rfl,sA _ _ g2,a2.mvI sA,b2,l2,fun p2 qs HB gB aB sB=>?_⟩;refine⟨by show 2<=sizeLine;decide,fun p hp=>?_⟩;have sC:=Same.new (o:=.tup [V.ref p1,V.ref p2]) hp;have s8:=sA.trans (sB.trans sC);exact k p p1 p2 rs qs _ _ n _ z0 (sC _ _ (sB _ _ gA)) (aA.mv (sB.trans sC).tups) (sC _ _ gB) (aB.mv sC.tups) mm (by omega) (S9.same s8) (K9.trans s8.keep)
def n__law_same:List Str:=["_law_found","_law_due"]
theorem sc__law_same:FnScope n__law_same ["_law_found","_law_due"] (z6 s__law_same):=FS
def sp_same(n:Nat):Sp:=fun vs H Q _=>∃(x y:V),vs=[x,y]/\SmG n H x y/\ ∀H',Same H H'->Q (.bl true) H'
theorem okr__law_same(T:Txt K mg A):∀n:Nat,FnOk P w K mg base CX0 (n+1) A.a33 A.f33 ["_law_found","_law_due"] (sp_same n)
 | 0=>FnOk.none (fun _ _ _ _ ⟨_,_,_,h,_⟩=>h)
 |n+1=>by
  have ih:=okr__law_same T n;refine T.x33.F.ok sc__law_same (by walk_at "n") fun _ _ _ s H vs Q E hr h=>?_
  ·obtain⟨x,y,rfl,h,k⟩:=h;refine⟨_,(z5 (zM (zR (z9 call_isiT rfl T.w5 boot_isinstance (pa2 (pv 1) (zK (pa2 (yN (v:=.ty "list") rfl T.w7 boot_list rfl) (yN (v:=.ty "tuple") rfl T.w14 boot_tuple rfl))))) (fun _=>rfl))
      (z5 (zM (PW.pt (pw_or (zk op_ne (z9 call_isi rfl T.w5 boot_isinstance (pa2 (pv 0) (yN (v:=.ty "list") rfl T.w7 boot_list rfl))) (z9 call_isi rfl T.w5 boot_isinstance (pa2 (pv 1) (yN (v:=.ty "list") rfl T.w7 boot_list rfl))) (zw _)) (pw_or1 (zk op_ne (z9 call_isi rfl T.w5 boot_isinstance (pa2 (pv 0) (yN (v:=.ty "tuple") rfl T.w14 boot_tuple rfl))) (z9 call_isi rfl T.w5 boot_isinstance (pa2 (pv 1) (yN (v:=.ty "tuple") rfl T.w14 boot_tuple rfl))) (zw _)))))
      (z8 (zi pe_bl)) zj)
     (z5 (zM (zk op_ne (z9 zl rfl T.w6 PySem.boot_len (pa1 (pv 0))) (z9 zl rfl T.w6 PySem.boot_len (pa1 (pv 1))) (zw _))
      (z8 (zi pe_bl)) zj)
     (z8 (zi (z9 (call_all_bools rfl) rfl T.w1 boot_all (pa1 (yB (ls:=["_law_one","_law_other"]) (fr:=[]) (csf (z6 s__law_same) n__law_same) rfl (pi_or (pi_zip true true rfl T.w15 (pa2 (pv 0) (pv 1))) (pi_zip false false rfl T.w15 (pa2 (pv 0) (pv 1)))) (fun _ _ _ _=>pg_tupC 2 rfl (zY (pgc (ls:=["_law_one","_law_other"]) (fr:=[]) 0 (by decide+kernel) rfl rfl) (zY (pgc (ls:=["_law_one","_law_other"]) (fr:=[]) 1 (by decide+kernel) rfl rfl) pgs_nil)) rfl rfl) (fun _ _ _ _=>pf_nil) (fun _ _ _ _=>(pe_call ih hr (glc (z6 s__law_same)) T.x33.g T.x33.F.kp T.x33.b .nil pass0 (pa2 (pvc (z6 s__law_same) 0) (pvc (z6 s__law_same) 1))))))))))) zj)
     (z5 (zM (PW.pt (pw_or (zk op_isN (pv 1) ym (zw _)) (pw_or (zk op_isG (pv 1) pe_bl (zw _)) (pw_or1 (zk op_isG (pv 1) pe_bl (zw _))))))
      (z8 (zi (pe_and (pcm op_eq (z9 call_isi rfl T.w5 boot_isinstance (pa2 (pv 0) (yN (v:=.ty "bool") rfl T.w2 boot_bool rfl))) (z9 call_isi rfl T.w5 boot_isinstance (pa2 (pv 1) (yN (v:=.ty "bool") rfl T.w2 boot_bool rfl)))) (pe_one (pcm op_eq (pv 0) (pv 1)))))) zj)
     (z5 (zM (zR (z9 call_isi rfl T.w5 boot_isinstance (pa2 (pv 1) (yN (v:=.ty "str") rfl T.w12 boot_str rfl))) (fun _=>rfl))
      (z8 (zi (pe_and (z9 call_isi rfl T.w5 boot_isinstance (pa2 (pv 0) (yN (v:=.ty "str") rfl T.w12 boot_str rfl))) (pe_one (pcm op_eq (pv 0) (pv 1)))))) zj)
     (z8 (zi (pe_and (z9 call_isi rfl T.w5 boot_isinstance (pa2 (pv 0) (yN (v:=.ty "int") rfl T.w4 boot_int rfl))) (pe_and (pe_not (z9 call_isi rfl T.w5 boot_isinstance (pa2 (pv 0) (yN (v:=.ty "bool") rfl T.w2 boot_bool rfl)))) (pe_one (pcm op_eq (pv 0) (pv 1)))))))))),?_⟩
   rcases h with⟨i,rfl,rfl⟩|⟨b,rfl,rfl⟩|⟨rfl,rfl⟩|⟨z,rfl,rfl⟩|⟨f,d,xs,ys,rfl,rfl,hfd,hxy,hl,hall⟩
   ·refine⟨_,rfl,by show 2<=sizeLine;decide,fun tp htp=>⟨_,tp,["list","tuple"],_,false,rfl,z0,TyOf.int _,kitA1_int,false,rfl,iteF ?_⟩⟩;refine⟨_,rfl,rfl,_,rfl,iteF ⟨_,rfl,true,rfl,trivial,_,rfl,iteF ⟨_,rfl,false,rfl,trivial,_,rfl,iteF ?_⟩⟩⟩;refine⟨_,rfl,_,_,_,false,rfl,TyOf.int _,kit_int_str,false,rfl,iteF ?_⟩;refine⟨_,rfl,_,_,_,true,rfl,TyOf.int _,kit_int_int,true,rfl,_,rfl,_,_,_,false,rfl,TyOf.int _,kit_int_bool,false,rfl,true,rfl,iteT ?_⟩;refine⟨_,rfl,_,rfl,rfl,?_⟩;rw[decide_eq_true rfl];exact k _ (Same.new htp)
   ·refine⟨_,rfl,by show 2<=sizeLine;decide,fun tp htp=>⟨_,tp,["list","tuple"],_,false,rfl,z0,TyOf.bl _,kitA1_bool,false,rfl,iteF ?_⟩⟩;refine⟨_,rfl,rfl,_,rfl,iteF ⟨_,rfl,true,rfl,trivial,_,rfl,?_⟩⟩;have fin:∀(H':Hp),Same H H'->Q (.bl true) H':=k;cases b with
    |true =>
     refine iteT (iteT ⟨_,rfl,_,_,_,true,rfl,TyOf.bl _,kit_bool_bool,_,rfl,_,_,_,true,rfl,TyOf.bl _,kit_bool_bool,rfl,_,rfl,iteT ?_⟩);refine⟨_,rfl,_,rfl,rfl,?_⟩;rw[decide_eq_true rfl];exact k _ (Same.new htp)
    |false =>
     refine iteF ⟨_,rfl,false,rfl,trivial,_,rfl,iteT ?_⟩;refine⟨_,rfl,_,_,_,true,rfl,TyOf.bl _,kit_bool_bool,_,rfl,_,_,_,true,rfl,TyOf.bl _,kit_bool_bool,rfl,_,rfl,iteT ?_⟩;refine⟨_,rfl,_,rfl,rfl,?_⟩;rw[decide_eq_true rfl];exact k _ (Same.new htp)
   ·refine⟨_,rfl,by show 2<=sizeLine;decide,fun tp htp=>⟨_,tp,["list","tuple"],_,false,rfl,z0,TyOf.non,kitA1_NoneType,false,rfl,iteF ?_⟩⟩;refine⟨_,rfl,rfl,_,rfl,iteT (iteT ?_)⟩;refine⟨_,rfl,_,_,_,false,rfl,TyOf.non,kit_NoneType_bool,_,rfl,_,_,_,false,rfl,TyOf.non,kit_NoneType_bool,rfl,_,rfl,iteT ?_⟩;refine⟨_,rfl,_,rfl,rfl,?_⟩;rw[decide_eq_true rfl];exact k _ (Same.new htp)
   ·refine⟨_,rfl,by show 2<=sizeLine;decide,fun tp htp=>⟨_,tp,["list","tuple"],_,false,rfl,z0,TyOf.str _,kitA1_str,false,rfl,iteF ?_⟩⟩;refine⟨_,rfl,rfl,_,rfl,iteF ⟨_,rfl,true,rfl,trivial,_,rfl,iteF ⟨_,rfl,false,rfl,trivial,_,rfl,iteF ?_⟩⟩⟩;refine⟨_,rfl,_,_,_,true,rfl,TyOf.str _,kit_str_str,true,rfl,iteT ?_⟩;refine⟨_,rfl,_,_,_,true,rfl,TyOf.str _,kit_str_str,true,rfl,iteT ?_⟩;refine⟨_,rfl,_,rfl,rfl,?_⟩;rw[decide_eq_true rfl];exact k _ (Same.new htp)
   ·refine⟨_,rfl,by show 2<=sizeLine;decide,fun tp htp=>?_⟩;have s1:=Same.new (o:=.tup [V.ty "list",V.ty "tuple"]) htp;have g1:=z0 (H:=H) (a:=tp) (o:=.tup [V.ty "list",V.ty "tuple"]);generalize upd H tp (.tup [V.ty "list",V.ty "tuple"])=H1 at s1 g1;rcases hfd with⟨hf,hd⟩|⟨hf,hd⟩
    ·have hf1:=s1 _ _ hf;have hd1:=s1 _ _ hd;refine⟨_,tp,["list","tuple"],_,true,rfl,g1,TyOf.tup hd1,kitA1_tuple,true,rfl,iteT ?_⟩;refine⟨_,rfl,_,_,_,false,rfl,TyOf.tup hf1,kit_tuple_list,_,rfl,_,_,_,false,rfl,TyOf.tup hd1,kit_tuple_list,rfl,_,rfl,iteNS rfl ?_⟩;refine⟨_,rfl,_,_,_,true,rfl,TyOf.tup hf1,kit_tup_tup,_,rfl,_,_,_,true,rfl,TyOf.tup hd1,kit_tup_tup,rfl,_,rfl,iteNS rfl ?_⟩;refine⟨_,rfl,f,_,rfl,.inr (SqT.of hf1),_,rfl,d,_,rfl,.inr (SqT.of hd1),rfl,_,rfl,iteNS (by rw[hxy]) ?_⟩;refine Or.inl ⟨_,rfl,_,rfl,f,d,rfl,⟨_,SqT.of hf1⟩,⟨_,SqT.of hd1⟩,comp_zip (xs:=xs) (ys:=ys) (fun i zs σ' H'=>Same H1 H'/\(∃v w,σ'=[v,w])/\zs=(replicate i true).map V.bl/\i<=xs.length) ⟨fun _ _ z=>z,⟨_,_,rfl⟩,rfl,zero_le _⟩ ?_ ?_ ?_⟩
     ·rintro i zs σ' H' hi ⟨s',_,rfl,hi'⟩;refine⟨SqT.of (s' _ _ hf1),SqT.of (s' _ _ hd1),?_⟩;rw[length_map,List.length_replicate];exact le_trans (le_trans hi' hl) (by decide)
     ·rintro i x y zs σ' H' T' hx hy ⟨s',⟨v,w',rfl⟩,rfl,hi'⟩ hT;have hi:=(List.getElem?_eq_some_iff.mp hx).1;have sn:=s'.trans (Same.new (o:=.tup [x,y]) hT);refine⟨T',_,rfl,SqT.of z0,rfl,_,_,rfl,_,_,rfl,rfl,?_⟩;refine⟨_,rfl,_,rfl,_,_,rfl,(hall i x y hx hy).mv (s1.trans sn),fun H2 s2=>⟨sn.trans s2,⟨_,_,rfl⟩,?_,hi⟩⟩;rw[List.replicate_succ',map_append];rfl
     ·rintro zs σ' H' ⟨s',_,rfl,_⟩ l hl0;refine⟨l,_,rfl,SqL.of z0,?_⟩;have e:∀n,(replicate n true).all id=true:=fun n=>by simp
      rw[e];exact k _ (s1.trans (s'.trans (Same.new hl0)))
    ·have hf1:=s1 _ _ hf;have hd1:=s1 _ _ hd;refine⟨_,tp,["list","tuple"],_,true,rfl,g1,TyOf.lst hd1,kitA1_list,true,rfl,iteT ?_⟩;refine⟨_,rfl,_,_,_,true,rfl,TyOf.lst hf1,kit_list_list,_,rfl,_,_,_,true,rfl,TyOf.lst hd1,kit_list_list,rfl,_,rfl,iteNS rfl ?_⟩;refine⟨_,rfl,_,_,_,false,rfl,TyOf.lst hf1,kit_list_tuple,_,rfl,_,_,_,false,rfl,TyOf.lst hd1,kit_list_tuple,rfl,_,rfl,iteNS rfl ?_⟩;refine⟨_,rfl,f,_,rfl,.inl (SqL.of hf1),_,rfl,d,_,rfl,.inl (SqL.of hd1),rfl,_,rfl,iteNS (by rw[hxy]) ?_⟩;refine Or.inr ⟨_,rfl,_,rfl,f,d,rfl,⟨_,SqL.of hf1⟩,⟨_,SqL.of hd1⟩,comp_zip (xs:=xs) (ys:=ys) (fun i zs σ' H'=>Same H1 H'/\(∃v w,σ'=[v,w])/\zs=(replicate i true).map V.bl/\i<=xs.length) ⟨fun _ _ z=>z,⟨_,_,rfl⟩,rfl,zero_le _⟩ ?_ ?_ ?_⟩
     ·rintro i zs σ' H' hi ⟨s',_,rfl,hi'⟩;refine⟨SqL.of (s' _ _ hf1),SqL.of (s' _ _ hd1),?_⟩;rw[length_map,List.length_replicate];exact le_trans (le_trans hi' hl) (by decide)
     ·rintro i x y zs σ' H' T' hx hy ⟨s',⟨v,w',rfl⟩,rfl,hi'⟩ hT;have hi:=(List.getElem?_eq_some_iff.mp hx).1;have sn:=s'.trans (Same.new (o:=.tup [x,y]) hT);refine⟨T',_,rfl,SqT.of z0,rfl,_,_,rfl,_,_,rfl,rfl,?_⟩;refine⟨_,rfl,_,rfl,_,_,rfl,(hall i x y hx hy).mv (s1.trans sn),fun H2 s2=>⟨sn.trans s2,⟨_,_,rfl⟩,?_,hi⟩⟩;rw[List.replicate_succ',map_append];rfl
     ·rintro zs σ' H' ⟨s',_,rfl,_⟩ l hl0;refine⟨l,_,rfl,SqL.of z0,?_⟩;have e:∀n,(replicate n true).all id=true:=fun n=>by simp
      rw[e];exact k _ (s1.trans (s'.trans (Same.new hl0)))
theorem zO(T:Txt K mg A):FnOk P w K mg base CX0 7 A.a33 A.f33 ["_law_found","_law_due"] (sp_same 6):=okr__law_same T 6
def n__law_toggled:List Str:=["_law_rules","_law_place","_law_side","_law_heap_here","_law_choice","_law_number"]
theorem yq:FnScope n__law_toggled ["_law_rules","_law_place"] (z6 yf):=FS
inductive sp_ltog(vs:List V)(H:Hp)(Q:VK)(E:XK):Prop
 |mk (R p q:Addr) (rs qs:List V) (one other:List (List Int)) (pl:Plc) (v:V):vs=[.ref R,v]->Two H R p q rs qs one other->zC pl v H->isPl one other pl=true->((zT (onR one other pl.1) pl.2=none-> ∀H',Same H H'->Q .non H'))->((∀pc,zT (onR one other pl.1) pl.2=some pc-> ∀v' H',zC (pl.1,pc) v' H'->Same H H'->Q v' H'))->sp_ltog vs H Q E
theorem ok__law_toggled(T:Txt K mg A):FnOk P w K mg base CX0 3 A.a34 A.f34 ["_law_rules","_law_place"] sp_ltog:=by
 refine T.x34.F.ok yq (by walk_at "n") fun _ _ _ s H vs Q E hr h=>?_
 ·obtain⟨R,p,q,rs,qs,one,other,pl,v,rfl,W0,hv,hip,kN,kS⟩:=h;refine⟨_,(z5 (ps_asg (pv 1) (pg_tup rfl (zY (pgn 2 yq.nd) (zY (pgn 3 yq.nd) (zY (pgn 4 yq.nd) pgs_nil)))))
    (z5 (pset 5 yq.nd (pcl (yK T) hr T.x29 (pa2 (pix zN (pv 0) (zr op_sub (pv 2) z7)) (pv 3))))
    (z5 (zM (zk op_isN (pv 5 (hv:=Or.inr (Or.inl rfl))) ym (zw _))
     (z8 (zi ym)) zj)
    (z5 (zM (zk op_in_seq (pv 5 (hv:=Or.inr (Or.inl rfl))) (pv 4) rfl)
     (z8 (zi (zK (pa3 (pv 2) (pv 3) (zQ zA rfl T.w14 boot_tuple (pa1 (yB (ls:=["_law_one"]) (fr:=[("_law_number",5)]) (csf (z6 yf) n__law_toggled) rfl (pi_tup (pv 4)) (fun _ _ _ _=>pgc 0 (by decide+kernel) rfl rfl) (fun _ _ _ _=>pf_one (zk op_ne (pvc (z6 yf) 0) (pvc (z6 yf) 1) (zw _))) (fun _ _ _ _=>(pvc (z6 yf) 0))))))))) zj)
    (z8 (zi (zK (pa3 (pv 2) (pv 3) (zQ zA rfl T.w14 boot_tuple (pa1 (z9 call_sortT rfl T.w11 boot_sorted (pa1 (zr op_catA (pv 4) (zK (pa1 (pv 5 (hv:=Or.inr (Or.inl rfl)))))))))))))))))),?_⟩
  obtain⟨hs,hc⟩:=yk hip;obtain⟨t0,a,b,rfl,g1,g2,g3⟩:=hv;obtain⟨sd,heap,ch⟩:=pl;dsimp only at g1 g2 g3 hs hc kN kS;have hcl:ch.length<=6:=by
   have:=pair_len hc;rw[onR_len W0.ln]at this;exact le_trans this W0.l6
  refine⟨_,rfl,t0,_,rfl,SqT.of g1,rfl,_,_,rfl,_,_,rfl,_,_,rfl,rfl,?_⟩;obtain⟨ra,rv,eA,hra,arv⟩:=W0.on hs;refine⟨_,rfl,_,rfl,_,_,rfl,rfl,R,_,sd-1,_,rfl,rfl,SqT.of W0.at_,eA,_,rfl,ra,a,rv,onR one other sd,heap,rfl,hra,arv,g2,by rw[onR_len W0.ln];have:=W0.l6;omega,(fun h hh=>le_trans (W0.bR sd h hh).1 (by decide)),fun H2 sn=>?_⟩;cases hf:zD (onR one other sd) heap with
  |none =>
   refine⟨_,rfl,rfl,_,rfl,ite2 (fun _=>?_) (fun z=>absurd (decide_eq_true rfl) z)⟩;exact kN (by unfold zT;rw[hf]) H2 sn
  |some m =>
   have pf:=pairF hc hf;refine⟨_,rfl,rfl,_,rfl,ite2 (fun z=>?_) (fun _=>?_)⟩
   ·have:=of_decide_eq_true z;cases this
   refine⟨_,rfl,_,rfl,b,_,rfl,.inr (SqT.of (sn _ _ g3)),rfl,yu _,_,rfl,?_⟩;have ei:inV (optV (some m)) (ch.map V.int)=decide (m∈ch):=inV_ints m _;rw[if_neg Bool.false_ne_true,ei];refine ite2 (fun z=>?_) (fun z=>?_)
   ·have hm:m∈ch:=of_decide_eq_true z;refine⟨_,rfl,_,rfl,_,rfl,b,rfl,⟨_,SqT.of (sn _ _ g3)⟩,comp_tup (xs:=ch.map V.int) (fun i ys σ' H'=>H'=H2/\(∃v,σ'=[v,some (optV (some m))])/\ys=((ch.take i).filter (fun x=>!decide (x=m))).map V.int) ⟨rfl,⟨_,rfl⟩,rfl⟩ ?_ ?_ ?_⟩
    ·rintro i ys σ' H' hi ⟨eH,_,rfl⟩;subst eH;refine⟨SqT.of (sn _ _ g3),?_⟩;rw[length_map];have h1:=List.length_filter_le (fun x=>!decide (x=m)) (ch.take i);have h2:(ch.take i).length<=ch.length:=by rw[length_take];omega
     exact le_trans (m:=50) (by omega) (by decide)
    ·rintro i x ys σ' H' hx ⟨eH,⟨v,rfl⟩,rfl⟩;subst eH;obtain⟨z,hz,rfl⟩:=yI hx;have ed:(!decide (V.int z=optV (some m)))= !decide (z=m):=by
      show(!decide (V.int z=V.int m))=_;simp
     refine⟨_,rfl,_,rfl,rfl,_,rfl,?_⟩;rw[ed];refine ite2 (fun hc=>⟨_,rfl,rfl,⟨_,rfl⟩,?_⟩) (fun hc=>⟨rfl,⟨_,rfl⟩,?_⟩)
     ·rw[filter_take _ hz,if_pos hc,map_append];rfl
     ·rw[filter_take _ hz,if_neg hc,append_nil]
    ·rintro ys σ' H3 ⟨eH,_,rfl⟩ l hl;subst eH;rw[length_map,take_length,pf.filt hm];refine⟨l,_,rfl,.inl ⟨SqL.of z0,fun t ht=>?_⟩⟩;refine⟨by show 3<=sizeLine;decide,fun r hr=>?_⟩;have s3:=(Same.new (o:=.lst (ch.tail.map V.int)) hl).trans (Same.new (o:=.tup (ch.tail.map V.int)) ht);have s4:=Same.new (o:=.tup [.int sd,.ref a,.ref t]) hr;exact kS (heap,ch.tail) (by unfold zT;rw[hf];exact if_pos hm) _ _ ⟨r,a,t,rfl,z0,s4 _ _ (s3 _ _ (sn _ _ g2)),s4 _ _ z0⟩ (sn.trans (s3.trans s4))
   ·have hm:¬m∈ch:=fun e=>z (decide_eq_true e);refine⟨_,rfl,_,rfl,_,rfl,_,rfl,by show 1<=sizeLine;decide,fun t ht=>?_⟩;have s3:=Same.new (o:=.tup [V.int m]) ht;refine cat_one (z:=m) (s3 _ _ (sn _ _ g3)) z0 (by omega) fun v H4 hv s4=>?_;obtain⟨c,rfl,gc⟩:=hv;refine⟨c,ch++[m],rfl,SqT.of gc,by rw[length_append];show ch.length+1<64;omega,fun so l hperm hord hl=>?_⟩;have eso:=pf.sort hperm hord;subst eso;refine⟨l,_,rfl,.inl ⟨SqL.of z0,fun t2 ht2=>?_⟩⟩;refine⟨by show 3<=sizeLine;decide,fun r hr=>?_⟩;have s5:=(Same.new (o:=.lst ((m::ch).map V.int)) hl).trans (Same.new (o:=.tup ((m::ch).map V.int)) ht2);have s6:=Same.new (o:=.tup [.int sd,.ref a,.ref t2]) hr;exact kS (heap,m::ch) (by unfold zT;rw[hf];exact if_neg hm) _ _ ⟨r,a,t2,rfl,z0,s6 _ _ (s5 _ _ (s4 _ _ (s3 _ _ (sn _ _ g2)))),s6 _ _ z0⟩ (sn.trans (s3.trans (s4.trans (s5.trans s6))))
def n__law_joined:List Str:=["_law_heaps","_law_found","_law_heap_here","_law_part"]
theorem sc__law_joined:FnScope n__law_joined ["_law_heaps"] (z6 s__law_joined):=FS
inductive sp_law_joined(vs:List V)(H:Hp)(Q:VK)(E:XK):Prop
 |mk (a:Addr) (xs:List V) (ls:List (List Int)):vs=[.ref a]->H a=some (.lst xs)->All2 Tup1 H ls xs->ls.flatten.length<1000->(∀(p:Addr)(ms:List Int)(H':Hp),H' p=some (.tup (ms.map V.int))->IsJoin ls ms->Same H H'->H p=none->Q (.ref p) H')->sp_law_joined vs H Q E
theorem ok__law_joined(T:Txt K mg A):FnOk P w K mg base CX0 1 A.a35 A.f35 ["_law_heaps"] sp_law_joined:=by
 refine T.x35.F.ok sc__law_joined (by walk_at "n") fun _ _ _ s H vs Q E hr h=>?_
 ·obtain⟨a,xs,ls,rfl,ha,h2,hln,k⟩:=h;refine⟨_,(z5 (pset 1 sc__law_joined.nd (zF yt))
    (z5 (ps_for PassesOwn.never rfl (pi_list (pv 0)) (pgn 2 sc__law_joined.nd)
     (z8 (ps_for PassesOwn.never rfl (pi_tup (pv 2)) (pgn 3 sc__law_joined.nd)
     (z8 (zM (zk op_lt (pe_bm PySem.F.plainAttrs_list PySem.F.slot_list_count PySem.F.type_list_count mt_countL (pv 1) (pa1 (pv 3))) (pe_bm PySem.F.plainAttrs_tuple PySem.F.slot_tuple_count PySem.F.type_tuple_count mt_countT (pv 2) (pa1 (pv 3))) (zw _))
     (z8 (ya (pe_bm PySem.F.plainAttrs_list PySem.F.slot_list_append PySem.F.type_list_append zZ (pv 1) (pa1 (pv 3))))) zj)))))
    (z8 (zi (zQ zA rfl T.w14 boot_tuple (pa1 (pe_sortRB rfl T.w11 (pv 1)))))))),?_⟩
  refine⟨by show 0<=sizeLine;decide,fun f hf=>?_⟩;have hlc:∀i j (x:List Int),ls[i]? =some x->((ls.take i).flatten++x.take j).length<1000:=fun i j x hx=>by
   have hi:=(List.getElem?_eq_some_iff.mp hx).1;have ex:=(List.getElem?_eq_some_iff.mp hx).2;have e1:ls.flatten=(ls.take i).flatten++(x++(ls.drop (i+1)).flatten):=by
    conv=>lhs;rw[<-List.take_append_drop i ls]
    rw[List.flatten_append,List.drop_eq_getElem_cons hi,ex,flatten_cons]
   rw[e1]at hln;simp only[length_append,length_take]at hln ⊢;omega
  refine⟨_,rfl,a,rfl,⟨_,SqL.of (Same.new hf _ _ ha)⟩,for_list (xs:=xs) (fun i σ' H'=>(∃v w,σ'=[some (.ref a),some (.ref f),v,w])/\Same H H'/\ ∃fs:List Int,H' f=some (.lst (fs.map V.int))/\fs.length<=(ls.take i).flatten.length/\ ∀x,fs.count x=maxC (ls.take i) x) ⟨⟨_,_,rfl⟩,Same.new hf,[],z0,le_refl _,fun _=>rfl⟩ ?_ ?_ ?_⟩
  ·rintro i σ' H' _ ⟨_,s,_⟩;exact SqL.of (s _ _ ha)
  ·rintro i x σ' H' hx ⟨⟨v,w',rfl⟩,s,fs,gf,hfl,hfc⟩;obtain⟨hs,hhs,q,rfl,hq⟩:=h2.get hx;refine⟨_,rfl,q,rfl,⟨_,SqT.of (s _ _ hq)⟩,for_tup (xs:=hs.map V.int) (fun j σ' H'=>(∃w,σ'=[some (.ref a),some (.ref f),some (.ref q),w])/\Same H H'/\ ∃fs:List Int,H' f=some (.lst (fs.map V.int))/\fs.length<=((ls.take i).flatten++hs.take j).length/\ ∀x,fs.count x=max (maxC (ls.take i) x) (min (hs.count x) (maxC (ls.take i) x+(hs.take j).count x))) ⟨⟨_,rfl⟩,s,fs,gf,by rw[List.take_zero,append_nil];exact hfl,fun x=>by rw[hfc];simp;omega⟩ ?_ ?_ ?_⟩
   ·rintro j σ' H2 _ ⟨_,s2,_⟩;exact SqT.of (s2 _ _ hq)
   ·rintro j x σ' H2 hx2 ⟨⟨w2,rfl⟩,s2,fs2,gf2,hfl2,hfc2⟩;obtain⟨z,hz,rfl⟩:=yI hx2;have hj:=(List.getElem?_eq_some_iff.mp hz).1;have ez:=(List.getElem?_eq_some_iff.mp hz).2;have e1:∀x,(hs.take (j+1)).count x=(hs.take j).count x+if z=x then 1 else 0:=fun x=>by
     rw[take_succ_eq_append_getElem hj,List.count_append,ez,List.count_singleton];simp
    have e2:(hs.take (j+1)).count z<=hs.count z:=List.Sublist.count_le z (List.take_sublist _ _);have e3:=e1 z;rw[if_pos rfl]at e3;have hl64:=hlc i j hs hhs;have e4:((ls.take i).flatten++hs.take (j+1)).length=((ls.take i).flatten++hs.take j).length+1:=by
     simp only[length_append,length_take];omega
    refine⟨_,rfl,.inl ⟨rfl,_,SqL.of gf2⟩,_,rfl,f,_,_,rfl,rfl,SqL.of gf2,rfl,yu _,?_⟩;refine⟨_,rfl,.inr (.inl ⟨rfl,.inr ⟨_,s2 _ _ hq⟩⟩),_,rfl,q,_,_,rfl,rfl,SqT.of (s2 _ _ hq),rfl,yu _,?_⟩;refine⟨_,_,rfl,rfl,_,rfl,?_⟩;rw[cntV_ints,cntV_ints];refine ite2 (fun hlt=>?_) (fun hlt=>?_)
    ·have hlt':fs2.count z<hs.count z:=by have:=of_decide_eq_true hlt;omega
     refine⟨_,rfl,.inl ⟨rfl,_,SqL.of gf2⟩,_,rfl,f,_,_,rfl,rfl,gf2,?_,⟨_,rfl⟩,?_,fs2++[z],by rw[z0,map_append];rfl,?_,fun x=>?_⟩
     ·rw[length_map];exact lt_of_lt_of_le (show fs2.length<1000 by omega) (by decide)
     ·exact fun b o e=>by rw[zh (zt e hf)];exact s2 _ _ e
     ·rw[e4,length_append];show fs2.length+1<=_;omega
     ·rw[List.count_append,List.count_singleton,hfc2 x,e1 x];by_cases e:z=x
      ·subst e;have:=joinStep (hfc2 z) (by omega) hlt';rw[hfc2 z]at this;simpa using this
      ·have e':(z==x)=false:=by simpa using e
       rw[if_neg e,e'];simp
    ·have hlt':¬fs2.count z<hs.count z:=fun h=>hlt (decide_eq_true (by omega));refine⟨⟨_,rfl⟩,s2,fs2,gf2,by omega,fun x=>?_⟩;rw[hfc2 x,e1 x];by_cases e:z=x
     ·subst e;have:=joinStay (hfc2 z) (by omega) hlt';rw[hfc2 z]at this;simpa using this
     ·rw[if_neg e];simp
   ·rintro σ' H2 ⟨⟨w2,rfl⟩,s2,fs2,gf2,hfl2,hfc2⟩;rw[length_map,take_length]at hfl2 hfc2;have hi:=(List.getElem?_eq_some_iff.mp hhs).1;have ez:=(List.getElem?_eq_some_iff.mp hhs).2;have et:ls.take (i+1)=ls.take i++[hs]:=by rw[take_succ_eq_append_getElem hi,ez]
    refine⟨⟨_,_,rfl⟩,s2,fs2,gf2,?_,fun x=>?_⟩
    ·rw[et,List.flatten_append];simpa using hfl2
    ·rw[et,maxC_append,hfc2 x];show _=max _ (max (hs.count x) 0);omega
  ·rintro σ' H2 ⟨⟨v,w2,rfl⟩,s2,fs2,gf2,hfl2,hfc2⟩;rw[<-h2.length,take_length]at hfl2 hfc2;refine⟨_,rfl,f,fs2,rfl,.inl (SqL.of gf2),le_trans (m:=1000) (by omega) (by decide),fun ms l hperm hord hl=>?_⟩;refine⟨l,_,rfl,.inl ⟨SqL.of z0,fun p hp=>?_⟩⟩;exact k p ms _ z0 ⟨hord,fun x=>by rw[hperm.count_eq,hfc2]⟩ (s2.trans ((Same.new hl).trans (Same.new hp))) (s2.free ((Same.new hl).free hp))
def n__law_put:List Str:=["_law_one","_law_other"]
theorem sc__law_put:FnScope n__law_put ["_law_one","_law_other"] (z6 s__law_put):=FS
inductive sp_lput(vs:List V)(H:Hp)(Q:VK)(E:XK):Prop
 |mk (a b:Addr) (ns ms:List Int):vs=[.ref a,.ref b]->H a=some (.tup (ns.map V.int))->H b=some (.tup (ms.map V.int))->(ns++ms).length<=1000->(∀(p:Addr)(H':Hp),H' p=some (.tup ((sortD (ns++ms)).map V.int))->Same H H'->Q (.ref p) H')->sp_lput vs H Q E
theorem ok__law_put(T:Txt K mg A):FnOk P w K mg base CX0 1 A.a36 A.f36 ["_law_one","_law_other"] sp_lput:=by
 refine T.x36.F.ok sc__law_put (by walk_at "n") fun _ _ _ s H vs Q E hr h=>?_
 ·obtain⟨a,b,ns,ms,rfl,ha,hb,hl,k⟩:=h;refine⟨_,(z8 (zi (zQ zA rfl T.w14 boot_tuple (pa1 (pe_sortRB rfl T.w11 (zr op_catA (pv 0) (pv 1))))))),?_⟩;refine⟨_,rfl,_,rfl,cat_any ha hb hl fun v H1 hv s1=>?_⟩;obtain⟨q,rfl,hq⟩:=hv;refine⟨q,ns++ms,rfl,.inr (SqT.of hq),le_trans hl (by decide),fun ns' l hperm hord hl0=>⟨l,_,rfl,.inl ⟨SqL.of z0,fun d hd=>?_⟩⟩⟩;have e:=sortD_eq hperm hord;subst e;exact k d _ z0 (s1.trans ((Same.new hl0).trans (Same.new hd)))
def n__law_less:List Str:=["_law_heap_here","_law_out","_law_rest","_law_part"]
theorem sc__law_less:FnScope n__law_less ["_law_heap_here","_law_out"] (z6 s__law_less):=FS
inductive sp_lless(vs:List V)(H:Hp)(Q:VK)(E:XK):Prop
 |mk (a b:Addr) (ns ms:List Int):vs=[.ref b,.ref a]->H a=some (.tup (ns.map V.int))->H b=some (.tup (ms.map V.int))->lies ns ms=true->(∀(p:Addr)(H':Hp),H' p=some (.tup ((zW ns ms).map V.int))->Same H H'->Q (.ref p) H')->sp_lless vs H Q E
theorem ok__law_less(T:Txt K mg A):FnOk P w K mg base CX0 1 A.a37 A.f37 ["_law_heap_here","_law_out"] sp_lless:=by
 refine T.x37.F.ok sc__law_less (by walk_at "n") fun _ _ _ s H vs Q E hr h=>?_
 ·obtain⟨a,b,ns,ms,rfl,ha,hb,hc,k⟩:=h;refine⟨_,(z5 (pset 2 sc__law_less.nd (zQ call_list_of rfl T.w7 boot_list (pa1 (pv 0))))
    (z5 (ps_for PassesOwn.never rfl (pi_tup (pv 1)) (pgn 3 sc__law_less.nd)
     (z8 (ya (pe_bm PySem.F.plainAttrs_list PySem.F.slot_list_remove PySem.F.type_list_remove mt_remove (pv 2) (pa1 (pv 3))))))
    (z8 (zi (zQ zA rfl T.w14 boot_tuple (pa1 (pv 2))))))),?_⟩
  refine⟨_,rfl,b,_,rfl,.inr (SqT.of hb),fun l hl0=>?_⟩;have s0:=Same.new (o:=.lst (ms.map V.int)) hl0;refine⟨_,rfl,a,rfl,⟨_,SqT.of (s0 _ _ ha)⟩,for_tup (xs:=ns.map V.int) (fun i σ' H'=>(∃v,σ'=[some (.ref b),some (.ref a),some (.ref l),v])/\Same H H'/\H' l=some (.lst ((zW (ns.take i) ms).map V.int))) ⟨⟨_,rfl⟩,s0,z0⟩ ?_ ?_ ?_⟩
  ·rintro i σ' H' _ ⟨_,s',_⟩;exact SqT.of (s' _ _ ha)
  ·rintro i x σ' H' hx ⟨⟨v,rfl⟩,s',gl⟩;obtain⟨z,hz,rfl⟩:=yI hx;have hi:=(List.getElem?_eq_some_iff.mp hz).1;have ez:=(List.getElem?_eq_some_iff.mp hz).2;refine⟨_,rfl,.inl ⟨rfl,_,SqL.of gl⟩,_,rfl,l,_,z,rfl,rfl,gl,take_in hc hz,⟨_,rfl⟩,s'.updN hl0,?_⟩;rw[z0,take_succ_eq_append_getElem hi,ez,takeOut_snoc]
  ·rintro σ' H' ⟨⟨v,rfl⟩,s',gl⟩;rw[length_map,take_length]at gl;exact⟨_,rfl,l,_,rfl,.inl ⟨SqL.of gl,fun p hp=>k p _ z0 (s'.trans (Same.new hp))⟩⟩
def n__law_crossed:List Str:=["_law_rules","_law_place","_law_side","_law_heap_here","_law_choice","_law_out","_law_more"]
theorem yb:FnScope n__law_crossed ["_law_rules","_law_place"] (z6 zI):=FS
inductive sp_lcrossed(vs:List V)(H:Hp)(Q:VK)(E:XK):Prop
 |mk (R p q:Addr) (rs qs:List V) (one other:List (List Int)) (pl:Plc) (v:V) (n:Int) (iw:Nat):vs=[.ref R,v]->H R=some (.tup [.ref p,.ref q])->H p=some (.tup rs)->All2 Tup1 H one rs->H q=some (.tup qs)->All2 Tup1 H other qs->Rul one other->zC pl v H->WP one other n iw pl->n<=700->(∀v' H',zC (crossG one other pl) v' H'->Same H H'->Q v' H')->sp_lcrossed vs H Q E
theorem ok__law_crossed(T:Txt K mg A):FnOk P w K mg base CX0 3 A.a38 A.f38 ["_law_rules","_law_place"] sp_lcrossed:=by
 refine T.x38.F.ok yb (by walk_at "n") fun _ _ _ s H vs Q E hr h=>?_
 ·obtain⟨R,p,q,rs,qs,one,other,pl,v,n,iw,rfl,hR,hp,h2,hq,g2,RR,hv,w,hn,k⟩:=h;refine⟨_,(z5 (ps_asg (pv 1) (pg_tup rfl (zY (pgn 2 yb.nd) (zY (pgn 3 yb.nd) (zY (pgn 4 yb.nd) pgs_nil)))))
    (z5 (pset 5 yb.nd (pcl (ok__law_joined T) hr T.x35 (pa1 (yB (ls:=["_law_number"]) (fr:=[("_law_rules",0),("_law_side",2)]) (csf (z6 zI) n__law_crossed) rfl (pi_tup (pv 4)) (fun _ _ _ _=>pgc 0 (by decide+kernel) rfl rfl) (fun _ _ _ _=>pf_nil) (fun _ _ _ _=>(pix (ix_tupK K rfl) (pix (ix_tupK K rfl) (pvc (z6 zI) 1) (zr op_sub (pvc (z6 zI) 2) z7)) (pvc (z6 zI) 0)))))))
    (z5 (pset 6 yb.nd (pcl (ok__law_joined T) hr T.x35 (pa1 (yB (ls:=["_law_number"]) (fr:=[("_law_rules",0),("_law_side",2)]) (csf (z6 zI) n__law_crossed) rfl (pi_tup (pv 4)) (fun _ _ _ _=>pgc 0 (by decide+kernel) rfl rfl) (fun _ _ _ _=>pf_nil) (fun _ _ _ _=>(pix (ix_tupK K rfl) (pix (ix_tupK K rfl) (pvc (z6 zI) 1) (zr op_sub z7 (pvc (z6 zI) 2))) (pvc (z6 zI) 0)))))))
    (z8 (zi (zK (pa3 (zr op_sub z7 (pv 2 (hv:=Or.inr (Or.inl rfl)))) (pcl (ok__law_put T) hr T.x36 (pa2 (pcl (ok__law_less T) hr T.x37 (pa2 (pv 3) (pv 5))) (pv 6))) (pv 4)))))))),?_⟩
  obtain⟨t,hh,hc,rfl,g1,g2',g3⟩:=hv;obtain⟨hs,hpr⟩:=yk w.ip;have hcl:=w.chl RR;have hcr:=w.clen RR;have hjl:=w.jlen RR;have hlen:=w.hep.len;have hln:=RR.ln;have h6:=RR.l6;have hb1:=RR.b1;have hb2:=RR.b2;obtain⟨sd,heap,ch⟩:=pl;dsimp only at g1 g2' g3 hs hpr hcl hcr hjl hlen;refine⟨_,rfl,t,_,rfl,SqT.of g1,rfl,_,_,rfl,_,_,rfl,_,_,rfl,rfl,?_⟩;have hRR:∀s:Int,(s=1\/s=2)-> ∀H',Same H H'-> ∃(a:Addr)(rv:List V),atI [V.ref p,V.ref q] (s-1)=some (.ref a)/\H' a=some (.tup rv)/\All2 Tup1 H' (onR one other s) rv:=fun s hs H' s'=>by
   rcases hs with h|h <;>subst h
   ·exact⟨p,rs,zo (j:=0) rfl,s' _ _ hp,h2.mv s'.tups⟩
   ·exact⟨q,qs,zo (j:=1) rfl,s' _ _ hq,g2.mv s'.tups⟩
  have hbR:∀s:Int,∀h∈onR one other s,h.length<=64/\ ∀y∈h,1<=y:=fun s h hh'=>by
   unfold onR at hh';split at hh'
   ·exact hb1 h hh'
   ·exact hb2 h hh'
  have hBR:∀s,RuleB (onR one other s):=fun s h hh'=>le_trans (hbR s h hh').1 (by decide);have chb:∀s:Int,∀j∈ch,0<=j/\j<(onR one other s).length:=fun s j hj=>by
   have h1:=isCh_mem (pair_all hpr).1 j hj;rw[onR_len hln]at h1 ⊢;exact h1
  have hs':3-sd=1\/3-sd=2:=by omega
  obtain⟨ra1,rv1,eA1,hra1,arv1⟩:=hRR (sd) hs H (Same.refl _);refine⟨_,rfl,hc,rfl,⟨_,SqT.of ((Same.refl _) _ _ g3)⟩,comp_tup (xs:=ch.map V.int) (fun i ys σ' H''=>H''=H/\(∃v,σ'=[v,some (.ref R),some (.int sd)])/\All2 Tup1 H (zG (onR one other (sd)) (ch.take i)) ys) ⟨rfl,⟨_,rfl⟩,.nil⟩ ?_ ?_ ?_⟩
  ·rintro i ys σ' H'' hi ⟨rfl,_,h3⟩;refine⟨SqT.of ((Same.refl _) _ _ g3),?_⟩;rw[<-h3.length];unfold zG;rw[length_map,length_take];exact yj (by omega)
  ·rintro i x ys σ' H'' hx ⟨rfl,⟨v,rfl⟩,h3⟩;obtain⟨z,hz,rfl⟩:=yI hx;have hi:=(List.getElem?_eq_some_iff.mp hz).1;have ez:=(List.getElem?_eq_some_iff.mp hz).2;have hb:=chb (sd) z (mem_of_getElem? hz);obtain⟨w',hw,r⟩:=pick_at arv1 hb.1 hb.2;refine⟨_,rfl,_,rfl,_,_,rfl,rfl,R,_,sd-1,_,rfl,rfl,SqT.of ((Same.refl _) _ _ hR),eA1,_,rfl,ra1,_,z,_,rfl,rfl,SqT.of hra1,hw,rfl,⟨_,rfl⟩,?_⟩;rw[take_succ_eq_append_getElem hi,ez];unfold zG;rw[map_append];exact h3.snoc r
  rintro ys σ' H'' ⟨rfl,_,h3⟩ l hl0;rw[length_map,take_length]at h3;refine⟨l,ys,_,rfl,z0,h3.mv (Same.new hl0).tups,(hBR sd).pick hcl,fun j1 ms H1 hj1 hjn sD _=>?_⟩;have e1:=joinX_eq hjn;have s1:=(Same.new (o:=.lst ys) hl0).trans sD;obtain⟨ra2,rv2,eA2,hra2,arv2⟩:=hRR (3-sd) hs' H1 s1;refine⟨_,rfl,hc,rfl,⟨_,SqT.of (s1 _ _ g3)⟩,comp_tup (xs:=ch.map V.int) (fun i ys σ' H''=>H''=H1/\(∃v,σ'=[v,some (.ref R),some (.int sd)])/\All2 Tup1 H1 (zG (onR one other (3-sd)) (ch.take i)) ys) ⟨rfl,⟨_,rfl⟩,.nil⟩ ?_ ?_ ?_⟩
  ·rintro i ys σ' H'' hi ⟨rfl,_,h3⟩;refine⟨SqT.of (s1 _ _ g3),?_⟩;rw[<-h3.length];unfold zG;rw[length_map,length_take];exact yj (by omega)
  ·rintro i x ys σ' H'' hx ⟨rfl,⟨v,rfl⟩,h3⟩;obtain⟨z,hz,rfl⟩:=yI hx;have hi:=(List.getElem?_eq_some_iff.mp hz).1;have ez:=(List.getElem?_eq_some_iff.mp hz).2;have hb:=chb (3-sd) z (mem_of_getElem? hz);obtain⟨w',hw,r⟩:=pick_at arv2 hb.1 hb.2;refine⟨_,rfl,_,rfl,_,_,rfl,rfl,R,_,2-sd,_,rfl,rfl,SqT.of (s1 _ _ hR),(by rw[show(2-sd:Int)=3-sd-1 by omega];exact eA2),_,rfl,ra2,_,z,_,rfl,rfl,SqT.of hra2,hw,rfl,⟨_,rfl⟩,?_⟩;rw[take_succ_eq_append_getElem hi,ez];unfold zG;rw[map_append];exact h3.snoc r
  rintro ys2 σ' H2 ⟨rfl,_,h32⟩ l2 hl2;rw[length_map,take_length]at h32;refine⟨l2,ys2,_,rfl,z0,h32.mv (Same.new hl2).tups,(hBR (3-sd)).pick hcl,fun j2 ms2 H3 hj2 hjn2 sE _=>?_⟩;have e2:=joinX_eq hjn2;have s2:=(Same.new (o:=.lst ys2) hl2).trans sE;have s03:=s1.trans s2;have hlj:lies ms heap=true:=by rw[<-e1];exact pair_join hpr
  rw[e1,e2]at hcr;refine⟨_,rfl,_,_,rfl,rfl,_,rfl,_,rfl,j1,hh,ms,heap,rfl,s2 _ _ hj1,s03 _ _ g2',hlj,fun t6 H6 ht6 s6=>?_⟩;refine⟨_,rfl,t6,j2,zW ms heap,ms2,rfl,ht6,s6 _ _ hj2,by omega,fun p8 H8 hp8 s8=>?_⟩;refine⟨_,rfl,by show 3<=sizeLine;decide,fun t9 ht9=>?_⟩;have s9:=Same.new (o:=.tup [V.int (3-sd),V.ref p8,V.ref hc]) ht9;have s09:=s03.trans (s6.trans (s8.trans s9));refine k _ _ ⟨t9,p8,hc,rfl,z0,?_,s09 _ _ g3⟩ s09;show _=some (HO.tup ((sortD (zW (yi (zG (onR one other sd) ch)) heap++yi (zG (onR one other (3-sd)) ch))).map V.int));rw[e1,e2];exact s9 _ _ hp8
def n__law_walk:List Str:=["_law_rules","_law_heap_here","_law_limit","_law_rows","_law_further"]
theorem sc__law_walk:FnScope n__law_walk ["_law_rules","_law_heap_here","_law_limit"] (z6 s__law_walk):=FS
inductive sp_lwalk(vs:List V)(H:Hp)(Q:VK)(E:XK):Prop
 |mk (R h p q:Addr) (rs qs:List V) (one other:List (List Int)) (hs:List Int) (n:Int) (L:Nat):vs=[.ref R,.ref h,.int (L:Int)]->Two H R p q rs qs one other->Rul one other->H h=some (.tup (hs.map V.int))->Hep n hs->n<=700->L<=100000->(∀(l:Addr)(k:Nat)(xs:List V)(H':Hp),H' l=some (.lst xs)->All2 zC H' (yr one other hs k) xs->Live one other hs k->((EndAt one other hs k/\k+1<=L)\/k=L)->Same H H'->H l=none->Q (.ref l) H')->sp_lwalk vs H Q E
theorem ok__law_walk(T:Txt K mg A):FnOk P w K mg base CX0 4 A.a39 A.f39 ["_law_rules","_law_heap_here","_law_limit"] sp_lwalk:=by
 refine T.x39.F.ok sc__law_walk (by walk_at "n") fun _ _ _ s H vs Q E hr h=>?_
 ·obtain⟨R,h,p,q,rs,qs,one,other,hs,n,L,rfl,W0,RR,gh,hh,hn,hL,k⟩:=h;refine⟨_,(z5 (pset 3 sc__law_walk.nd (zF (pa1 (zK (pa3 z7 (pv 1) (zK yt))))))
    (z5 (ps_while PassesOwn.never (zk op_le (z9 zl rfl T.w6 PySem.boot_len (pa1 (pv 3))) (pv 2) (zw _))
     (z8 (zM (zk op_eq (zr op_mod (z9 zl rfl T.w6 PySem.boot_len (pa1 (pv 3))) z7) z7 (zw _))
     (z8 (ya (pe_bm PySem.F.plainAttrs_list PySem.F.slot_list_append PySem.F.type_list_append zZ (pv 3) (pa1 (pcl (ok__law_crossed T) hr T.x38 (pa2 (pv 0) (pix zE (pv 3) (pe_un un_neg z7)))))))) (z5 (pset 4 sc__law_walk.nd (pcl (ok__law_toggled T) hr T.x34 (pa2 (pv 0) (pix zE (pv 3) (pe_un un_neg z7)))))
    (z5 (zM (zk op_isN (pv 4) ym (zw _))
     (z8 (zi (pv 3))) zj)
    (z8 (ya (pe_bm PySem.F.plainAttrs_list PySem.F.slot_list_append PySem.F.type_list_append zZ (pv 3) (pa1 (pv 4))))))))))
    (z8 (zi (pv 3))))),?_⟩
  refine⟨_,rfl,by show 0<=sizeLine;decide,fun c0 hc0=>⟨by show 3<=sizeLine;decide,fun t ht=>⟨by show 1<=sizeLine;decide,fun l hl=>?_⟩⟩⟩;have sT:=(Same.new (o:=.tup []) hc0).trans (Same.new (o:=.tup [V.int 1,V.ref h,V.ref c0]) ht);have sL:=sT.trans (Same.new (o:=.lst [V.ref t]) hl);have nl:H l=none:=sT.free hl;have gt:=Same.new (o:=.lst [V.ref t]) hl _ _ (z0 (H:=upd H c0 (.tup [])) (a:=t) (o:=.tup [V.int 1,V.ref h,V.ref c0]));have gc:=Same.new (o:=.lst [V.ref t]) hl _ _ (Same.new (o:=.tup [V.int 1,V.ref h,V.ref c0]) ht _ _ (z0 (H:=H) (a:=c0) (o:=.tup [])));refine⟨fun m σ' H'=>∃(k:Nat)(xs:List V)(v4:Option V),m=L-k/\k<=L/\ σ'=[some (.ref R),some (.ref h),some (.int (L:Int)),some (.ref l),v4]/\H' l=some (.lst xs)/\All2 zC H' (yr one other hs k) xs/\Live one other hs k/\Same H H',⟨_,0,[V.ref t],_,rfl,zero_le _,rfl,z0,.cons ⟨t,h,c0,rfl,gt,sL _ _ gh,gc⟩ .nil,fun i hi=>absurd hi (Nat.not_lt_zero _),sL⟩,?_⟩;clear gt gc sL sT hl ht hc0;rintro m σ' H' ⟨k',xs,v4,rfl,hkL,rfl,gl,a2,Lv,s⟩;obtain⟨ys,v,rfl,hy,hv⟩:=walk_last a2;have w:=wk_ok RR hh k' Lv;have lx:((ys++[v]).length:Int)=(k':Int)+1:=by rw[length_append,hy];rfl
  have hly:(ys++[v]).length<sizeLine:=by
   rw[length_append,hy];exact lt_of_le_of_lt (show k'+1<=1000001 by omega) (by decide)
  have fin:∀(H2:Hp)(v':V)(v4:Option V),zC (wk one other hs (k'+1)) v' H2->Live one other hs (k'+1)->Same H' H2->k'+1<=L-> ∃m',m'<L-k'/\ ∃(k:Nat)(xs:List V)(v5:Option V),m'=L-k/\k<=L/\[some (V.ref R),some (V.ref h),some (V.int (L:Int)),some (V.ref l),v4]=[some (.ref R),some (.ref h),some (.int (L:Int)),some (.ref l),v5]/\upd H2 l (.lst (ys++[v]++[v'])) l=some (.lst xs)/\All2 zC (upd H2 l (.lst (ys++[v]++[v']))) (yr one other hs k) xs/\Live one other hs k/\Same H (upd H2 l (.lst (ys++[v]++[v']))):=fun H2 v' v4 hv' L' s2 hc=>by
   have tS:Tups H2 (upd H2 l (.lst (ys++[v]++[v']))):=Tups.set (s2 _ _ gl);exact⟨L-(k'+1),by omega,k'+1,_,_,rfl,hc,rfl,z0,walk_snoc a2 (s2.tups.trans tS) (zC.mv tS hv'),L',(s.trans s2).updN nl⟩
  refine⟨_,rfl,l,_,rfl,.inl (SqL.of gl),_,rfl,_,_,rfl,rfl,_,rfl,ite2 (fun hc=>?_) (fun hc=>?_)⟩
  ·have hc':k'+1<=L:=by
    have:=of_decide_eq_true hc;rw[lx]at this;omega
   refine⟨_,fun σ' H' h=>h,?_⟩;refine⟨_,rfl,l,_,rfl,.inl (SqL.of gl),_,_,rfl,rfl,by omega,rfl,_,rfl,ite2 (fun h1=>?_) (fun h1=>?_)⟩
   ·have e0:k'%2=0:=by
     have:((ys++[v]).length:Int)%2=1:=V.int.inj (of_decide_eq_true h1);rw[lx]at this;omega
    refine⟨_,rfl,.inl ⟨rfl,_,SqL.of gl⟩,_,rfl,_,rfl,_,rfl,l,_,_,_,rfl,rfl,SqL.of gl,atI_last _ _,R,p,q,rs,qs,one,other,_,v,n,k',rfl,s _ _ W0.at_,s _ _ W0.hp,W0.h2.mv s.tups,s _ _ W0.hq,W0.g2.mv s.tups,RR,hv,w,hn,fun v' H2 hv' s2=>⟨l,_,_,rfl,rfl,s2 _ _ gl,hly,fin H2 v' _ ?_ (Lv.next fun z=>by have:=z.od;omega) s2 hc'⟩⟩;rw[wk,if_pos e0];exact hv'
   ·have e0:¬k'%2=0:=fun z=>h1 (decide_eq_true (congrArg V.int (show((ys++[v]).length:Int)%2=1 by rw[lx];omega)));refine⟨_,rfl,_,rfl,_,rfl,l,_,_,_,rfl,rfl,SqL.of gl,atI_last _ _,R,p,q,rs,qs,one,other,_,v,rfl,W0.mv s.tups,hv,w.ip,fun hno H2 s2=>?_,fun pc hpc v' H2 hv' s2=>?_⟩
    ·refine⟨_,rfl,rfl,_,rfl,ite2 (fun _=>?_) (fun z=>absurd (decide_eq_true rfl) z)⟩;exact⟨_,rfl,k l k' _ H2 (s2 _ _ gl) (a2.imp fun _ _ z=>z.mv s2.tups) Lv (.inl ⟨⟨Lv,by omega,partner_none.mp hno⟩,hc'⟩) (s.trans s2) nl⟩
    ·obtain⟨t9,h9,c9,rfl,q1,q2,q3⟩:=id hv';refine⟨_,rfl,rfl,_,rfl,ite2 (fun z=>by have:=of_decide_eq_true z;cases this) (fun _=>?_)⟩;refine⟨_,rfl,.inl ⟨rfl,_,SqL.of (s2 _ _ gl)⟩,_,rfl,l,_,_,rfl,rfl,s2 _ _ gl,hly,fin H2 _ _ ?_ (Lv.next fun z=>?_) s2 hc'⟩
     ·rw[wk,if_neg e0,tog_of hpc];exact hv'
     ·have:=partner_none.mpr z.no;rw[hpc]at this;cases this
  ·have hc':L<=k':=by
    refine Nat.le_of_not_lt fun z=>hc (decide_eq_true ?_);rw[lx];omega
   exact⟨_,rfl,k l k' _ H' gl a2 Lv (.inr (by omega)) s nl⟩
def n__law_heap:List Str:=["_law_state","_law_size","_law_top","_law_parts"]
theorem sc__law_heap:FnScope n__law_heap ["_law_state","_law_size","_law_top"] (z6 s__law_heap):=FS
inductive sp_heap(vs:List V)(H:Hp)(Q:VK)(E:XK):Prop
 |mk (st ga ca:Addr) (N:Nat) (size topp:Int):vs=[.ref st,.int size,.int topp]->StAt H st ga ca N->N<=10^7->0<=size->size<=60->0<topp->topp<=10^60->(∀(p:Addr)(ns:List Int)(H':Hp),(ns.length:Int)<=size->(∀x∈ns,1<=x/\x<=topp)->ns.Pairwise (· >= ·)->H' p=some (.tup (ns.map V.int))->H p=none->StAt H' st ga ca (N+434)->Keep [st,ga] H H'->Q (.ref p) H')->sp_heap vs H Q E
theorem ok__law_heap(T:Txt K mg A):FnOk P w K mg base CX0 3 A.a40 A.f40 ["_law_state","_law_size","_law_top"] sp_heap:=by
 refine T.x40.F.ok sc__law_heap (by walk_at "n") fun _ _ _ s H vs Q E hr h=>?_
 ·obtain⟨st,ga,ca,N,size,topp,rfl,S,hN,h0,h1,t0,t1,k⟩:=h;refine⟨_,(z5 (ps_comp (i:=3) (ls:=["_law_k"]) (fr:=[("_law_state",0),("_law_top",2)]) (csf (z6 s__law_heap) n__law_heap) rfl (pi_range1 rfl T.w10 (pa1 (pcl (zq T) hr T.x27 (pa2 (pv 0 (hv:=Or.inr (Or.inl rfl))) (zr yL (pv 1) z7))))) (fun _ _ _ _=>pgc 0 (by decide+kernel) rfl rfl) (fun _ _ _ _=>pf_nil) (fun _ _ _ _=>(zr yL z7 (pe_call (zq T) (hr.mono (by decide)) (glc (z6 s__law_heap)) T.x27.g T.x27.F.kp T.x27.b .nil pass0 (pa2 (pvc (z6 s__law_heap) 1) (pvc (z6 s__law_heap) 2))))) sc__law_heap.nd rfl rfl rfl)
    (z8 (zi (zQ zA rfl T.w14 boot_tuple (pa1 (pe_sortR rfl T.w11 (pv 3))))))),?_⟩
  refine⟨_,rfl,_,rfl,_,_,rfl,rfl,st,ga,ca,N,size+1,rfl,S,by omega,by omega,Int.le_trans (show size+1<=61 by omega) (by decide),fun many H2 m0 m1 S2 K2'=>?_⟩;refine⟨_,rfl,by omega,by omega,comp_range (fun i ys σ' H'=>(∃v,σ'=[v,some (.ref st),some (.int topp)])/\ ∃ns:List Int,ys=ns.map V.int/\ns.length=i/\(∀x∈ns,1<=x/\x<=topp)/\StAt H' st ga ca (N+7+7*i)/\Keep [st,ga] H H')
   ⟨⟨_,rfl⟩,[],rfl,rfl,(fun _ hx=>nomatch hx),S2,K2'⟩ ?_ ?_ ?_⟩
  ·rintro i ys σ' H' hi ⟨_,ns,rfl,hl,_⟩;rw[length_map,hl];exact yj (by omega)
  ·rintro i ys σ' H' hi ⟨⟨v,rfl⟩,ns,rfl,hl,hb,S',K'⟩;refine⟨_,rfl,_,rfl,st,ga,ca,N+7+7*i,topp,rfl,S',by omega,t0,t1,fun r H3 h0 h1 S3 K3=>?_⟩;refine⟨_,_,rfl,rfl,⟨_,rfl⟩,ns++[1+r],by simp,by simp[hl],fun x hx=>?_,S3.mono (by omega),K'.trans K3⟩;rcases mem_append.mp hx with hx|hx
   ·exact hb x hx
   ·have:x=1+r:=by simpa using hx
    omega
  ·rintro ys σ' H' ⟨_,ns,rfl,hl,hb,S',K'⟩ p3 hp3;refine⟨_,rfl,p3,ns,rfl,.inl (SqL.of z0),by omega,fun ns' p4 hperm hord hp4=>?_⟩;refine⟨p4,_,rfl,.inl ⟨SqL.of z0,fun p5 hp5=>?_⟩⟩;have s3:Same H' (upd (upd (upd H' p3 (.lst (ns.map V.int))) p4 (.lst (ns'.map V.int))) p5 (.tup (ns'.map V.int))):=(Same.new hp3).trans ((Same.new hp4).trans (Same.new hp5));have S5:=S'.same s3;have n5:H' p5=none:=((Same.new hp3).trans (Same.new hp4)).free hp5;refine k p5 ns' _ (by rw[hperm.length_eq];omega) (fun x hx=>hb x (hperm.mem_iff.mp hx)) hord z0 (K'.free n5 (S'.nin n5)) (S5.mono (by omega)) (K'.trans s3.keep)
def n__law_partings:List Str:=["_law_n","_law_top","_law_found","_law_part"]
theorem sc__law_partings:FnScope n__law_partings ["_law_n","_law_top"] (z6 yn):=FS
def sp_lparts(n:Nat):Sp:=fun vs H Q _=>∃(m g:Nat),m<n/\vs=[.int m,.int g]/\m<=24/\g<=1000/\
 ∀(l:Addr)(xs:List V)(H':Hp),H' l=some (.lst xs)->All2 Tup1 H' (partF n m g) xs->Same H H'->H l=none->Q (.ref l) H'
theorem okr__law_partings(T:Txt K mg A):∀n:Nat,FnOk P w K mg base CX0 n A.a41 A.f41 ["_law_n","_law_top"] (sp_lparts n)
 | 0=>FnOk.none (fun _ _ _ _ ⟨_,_,h,_⟩=>absurd h (Nat.not_lt_zero _))
 |n+1=>by
  have ih:=okr__law_partings T n;refine T.x41.F.ok sc__law_partings (by walk_at "n") fun _ _ _ s H vs Q E hr h=>?_
  ·obtain⟨m,g,hm,rfl,hm24,hg,k⟩:=h;refine⟨_,(z5 (zM (zk op_eq (pv 0) z7 (zw _))
      (z8 (zi (zF (pa1 (zK yt))))) zj)
     (z5 (pset 2 sc__law_partings.nd (zF yt))
     (z5 (ps_for PassesOwn.never rfl (pi_down rfl T.w10 (pa3 (z9 (call_min2 rfl) rfl T.w9 boot_min (pa2 (pv 0) (pv 1))) z7 (pe_un un_neg z7))) (pgn 3 sc__law_partings.nd)
      (z8 (ya (pe_bm PySem.F.plainAttrs_list PySem.F.slot_list_extend PySem.F.type_list_extend mt_extend (pv 2) (pa1 (yB (ls:=["_law_rest"]) (fr:=[("_law_part",3)]) (csf (z6 yn) n__law_partings) rfl (pi_list (pe_call ih hr rfl T.x41.g T.x41.F.kp T.x41.b .nil pass0 (pa2 (zr op_sub (pv 0) (pv 3 (hv:=Or.inr (Or.inl rfl)))) (pv 3 (hv:=Or.inr (Or.inl rfl)))))) (fun _ _ _ _=>pgc 0 (by decide+kernel) rfl rfl) (fun _ _ _ _=>pf_nil) (fun _ _ _ _=>(zr (op_catAK K rfl) (zK (pa1 (pvc (z6 yn) 1))) (pvc (z6 yn) 0)))))))))
     (z8 (zi (pv 2)))))),?_⟩
   dsimp only[yH];refine seqJoin (fun σ' H'=>m≠0/\H'=H/\ σ'=[some (.int m),some (.int g),none,none]) (fun nx hnx=>?_) ?_
   ·refine⟨_,rfl,rfl,_,rfl,?_⟩;refine ite2 (fun h0=>?_) (fun h0=>hnx _ _ ⟨fun z=>h0 (by rw[z];rfl),rfl,rfl⟩);have e0:m=0:=by
     have:=of_decide_eq_true h0;injection this with this
     omega
    refine⟨by show 0<=sizeLine;decide,fun e he=>⟨by show 1<=sizeLine;decide,fun l hl=>?_⟩⟩;refine k l [.ref e] _ z0 ?_ ((Same.new he).trans (Same.new hl)) ((Same.new he).free hl);rw[yF,if_pos e0];exact .cons ⟨e,rfl,Same.new hl _ _ z0⟩ .nil
   rintro σ1 H1 ⟨m0,rfl,rfl⟩;refine⟨by show 0<=sizeLine;decide,fun l hl=>?_⟩;have hmin:(if(g:Int)<(m:Int)then(g:Int)else(m:Int))=((min m g:Nat):Int):=by split <;>omega
   refine⟨_,rfl,_,rfl,_,_,rfl,_,rfl,min m g,?_,by omega,for_down (n:=min m g) (fun i σ' H'=>Same H1 H'/\i<=min m g/\ ∃xs v,σ'=[some (.int m),some (.int g),some (.ref l),v]/\H' l=some (.lst xs)/\All2 Tup1 H' (partP n m (min m g) i) xs) ⟨Same.new hl,zero_le _,[],_,rfl,z0,.nil⟩ ?_ ?_⟩
   ·show [V.int (if(g:Int)<(m:Int)then(g:Int)else(m:Int)),V.int 0,V.int (-1)]=_;rw[hmin]
   ·rintro i σ' H' hi ⟨s,_,xs,v,rfl,gl,h2⟩;have ep:((min m g:Nat):Int)-(i:Int)=((min m g-i:Nat):Int):=by omega
    have em:(m:Int)-((min m g-i:Nat):Int)=((m-(min m g-i):Nat):Int):=by omega
    have hlx:xs.length<=2^(m-min m g+i):=by
     rw[<-h2.length];exact partP_len (partF_len n) (Nat.min_le_left _ _) i (by omega)
    rw[ep];refine⟨_,rfl,.inl ⟨rfl,_,SqL.of gl⟩,_,rfl,_,rfl,_,_,rfl,rfl,_,rfl,m-(min m g-i),min m g-i,by omega,?_,by omega,by omega,fun l2 xs2 H2 gl2 h3 s2 nl2=>?_⟩
    ·show [V.int ((m:Int)-((min m g-i:Nat):Int)),V.int ((min m g-i:Nat):Int)]=_;rw[em]
    have hlx2:xs2.length<=2^(m-min m g+i):=by
     rw[<-h3.length];have e1:m-(min m g-i)=m-min m g+i:=by omega
     exact le_trans (partF_len n (m-(min m g-i)) (min m g-i)) (by rw[e1];exact le_refl _)
    have hpw:2^(m-min m g+i)+2^(m-min m g+i)<=sizeLine:=by
     have:2^(m-min m g+i)+2^(m-min m g+i)=2^(m-min m g+i+1):=by rw[Nat.pow_succ];omega
     rw[this];exact pow24 (by omega)
    refine⟨l2,rfl,⟨_,SqL.of gl2⟩,comp_list (xs:=xs2) (fun j ys σ' H3=>Same H2 H3/\(∃v,σ'=[v,some (.int ((min m g-i:Nat):Int))])/\All2 Tup1 H3 (((partF n (m-(min m g-i)) (min m g-i)).take j).map (((min m g-i:Nat):Int):: ·)) ys) ⟨fun _ _ h=>h,⟨_,rfl⟩,.nil⟩ ?_ ?_ ?_⟩
    ·rintro j ys σ' H3 hj ⟨s3,_,h4⟩;refine⟨SqL.of (s3 _ _ gl2),?_⟩;rw[<-h4.length,length_map,length_take];omega
    ·rintro j x ys σ' H3 hx ⟨s3,⟨v,rfl⟩,h4⟩;obtain⟨hs,hhs,q,rfl,hq⟩:=h3.get hx;have hj:=(List.getElem?_eq_some_iff.mp hhs).1;have eh:=(List.getElem?_eq_some_iff.mp hhs).2;refine⟨_,rfl,by show 1<=sizeLine;decide,fun t ht=>⟨_,rfl,?_⟩⟩;have hl1:hs.length<=100:=by
      have:=partF_mem _ _ _ hs (mem_of_getElem? hhs);omega
     refine cat_front (Same.new ht _ _ (s3 _ _ hq)) z0 hl1 fun v H4 hv s4=>?_;have sn:=(Same.new (o:=.tup [V.int ((min m g-i:Nat):Int)]) ht).trans s4;refine⟨s3.trans sn,⟨_,rfl⟩,?_⟩;rw[take_succ_eq_append_getElem hj,map_append,eh];exact(h4.mv sn.tups).snoc hv
    ·rintro ys σ' H3 ⟨s3,_,h4⟩ l3 hl3;have et:(partF n (m-(min m g-i)) (min m g-i)).take xs2.length=partF n (m-(min m g-i)) (min m g-i):=by rw[<-h3.length,take_length]
     rw[et]at h4;have hly:ys.length=xs2.length:=by rw[<-h4.length,length_map,h3.length]
     have sn:=s2.trans (s3.trans (Same.new (o:=.lst ys) hl3));refine⟨l,l3,xs,ys,rfl,rfl,sn _ _ gl,z0,by omega,?_⟩;have tn:Tups H' (upd (upd H3 l3 (.lst ys)) l (.lst (xs++ys))):=sn.tups.trans (Tups.set (sn _ _ gl));have tn3:Tups H3 (upd (upd H3 l3 (.lst ys)) l (.lst (xs++ys))):=(Same.new hl3).tups.trans (Tups.set (sn _ _ gl));refine⟨fun b o e=>?_,by omega,xs++ys,_,rfl,z0,?_⟩
     ·rw[zh (zt e hl)];exact sn _ _ (s _ _ e)
     ·rw[partP_succ];exact(h2.mv tn).append (h4.mv tn3)
   ·rintro σ' H' ⟨s,_,xs,v,rfl,gl,h2⟩;refine⟨_,rfl,k l xs H' gl ?_ s hl⟩;rw[yF,if_neg m0];exact h2
theorem ok__law_partings(T:Txt K mg A):FnOk P w K mg base CX0 26 A.a41 A.f41 ["_law_n","_law_top"] (sp_lparts 26):=okr__law_partings T 26
def n__law_keepers:List Str:=["_law_rule_here","_law_n"]
theorem sc__law_keepers:FnScope n__law_keepers ["_law_rule_here","_law_n"] (z6 y9):=FS
inductive sp_keepers(vs:List V)(H:Hp)(Q:VK)(E:XK):Prop
 |mk (p:Addr) (rs:List V) (rule:List (List Int)) (m:Nat):vs=[.ref p,.int (m:Int)]->H p=some (.tup rs)->All2 Tup1 H rule rs->rule.length<=60->(∀h∈rule,h.length<=1000)->m<=24->(∀(l:Addr)(xs:List V)(H':Hp),H' l=some (.lst xs)->All2 Tup1 H' (keptG rule m) xs->Same H H'->H l=none->Q (.ref l) H')->sp_keepers vs H Q E
theorem ok__law_keepers(T:Txt K mg A):FnOk P w K mg base CX0 27 A.a42 A.f42 ["_law_rule_here","_law_n"] sp_keepers:=by
 refine T.x42.F.ok sc__law_keepers (by walk_at "n") fun _ _ _ s H vs Q E hr h=>?_
 ·obtain⟨p,rs,rule,m,rfl,hp,h2,hln,hlr,hm,k⟩:=h;refine⟨_,(z8 (zi (yB (ls:=["_law_heap_here"]) (fr:=[("_law_rule_here",0)]) (csf (z6 y9) n__law_keepers) rfl (pi_list (pcl (ok__law_partings T) hr T.x41 (pa2 (pv 1) (pv 1)))) (fun _ _ _ _=>pgc 0 (by decide+kernel) rfl rfl) (fun _ _ _ _=>pf_one (zk op_isN (pe_call (yK T) (hr.mono (by decide)) (glc (z6 y9)) T.x29.g T.x29.F.kp T.x29.b .nil pass0 (pa2 (pvc (z6 y9) 1) (pvc (z6 y9) 0))) ym (zw _))) (fun _ _ _ _=>(pvc (z6 y9) 0))))),?_⟩;refine⟨_,rfl,_,rfl,m,m,by omega,rfl,hm,by omega,fun l xs H1 gl h1 s1 nl=>?_⟩;have hlx:xs.length<=sizeLine:=by rw[<-h1.length];exact le_trans (partF_len _ _ _) (pow24 hm)
  refine⟨l,rfl,⟨_,SqL.of gl⟩,comp_list (xs:=xs) (fun i ys σ' H'=>Same H1 H'/\(∃v,σ'=[v,some (.ref p)])/\ys.length<=i/\All2 Tup1 H' (((partF 26 m m).take i).filter fun h=>(zD rule h).isNone) ys) ⟨fun _ _ h=>h,⟨_,rfl⟩,le_refl _,.nil⟩ ?_ ?_ ?_⟩
  ·rintro i ys σ' H' hi ⟨s,_,hy,_⟩;exact⟨SqL.of (s _ _ gl),by omega⟩
  ·rintro i x ys σ' H' hx ⟨s,⟨v,rfl⟩,hy,h3⟩;obtain⟨hs,hhs,q,rfl,hq⟩:=h1.get hx;have sn:=s1.trans s;refine⟨_,rfl,_,rfl,p,q,rs,rule,hs,rfl,sn _ _ hp,h2.mv sn.tups,s _ _ hq,hln,hlr,fun H2 s2=>⟨rfl,_,rfl,?_⟩⟩;rw[optV_none];refine ite2 (fun hc=>⟨_,rfl,s.trans s2,⟨_,rfl⟩,by simp;omega,?_⟩) (fun hc=>⟨s.trans s2,⟨_,rfl⟩,by omega,?_⟩)
   ·rw[filter_take _ hhs,if_pos hc];exact(h3.mv s2.tups).snoc ⟨q,rfl,s2 _ _ (s _ _ hq)⟩
   ·rw[filter_take _ hhs,if_neg hc,append_nil];exact h3.mv s2.tups
  ·rintro ys σ' H' ⟨s,_,hy,h3⟩ l2 hl2;rw[<-h1.length,take_length]at h3;have sn:=s1.trans (s.trans (Same.new (o:=.lst ys) hl2));exact k l2 ys _ z0 (h3.mv (Same.new hl2).tups) sn ((s1.trans s).free hl2)
def n__law_drawn:List Str:=["_law_state","_law_rule_here","_law_n","_law_heaps","_law_kept"]
theorem yO:FnScope n__law_drawn ["_law_state","_law_rule_here"] (z6 s__law_drawn):=FS
inductive sp_drawn(vs:List V)(H:Hp)(Q:VK)(E:XK):Prop
 |mk (st ga ca:Addr) (N:Nat) (p:Addr) (rs:List V) (rule:List (List Int)):vs=[.ref st,.ref p]->StAt H st ga ca N->N<=10^5->H p=some (.tup rs)->All2 Tup1 H rule rs->rule.length<=60->(∀h∈rule,h.length<=1000)->(∀(q:Addr)(hs:List Int)(n:Int)(H':Hp),H' q=some (.tup (hs.map V.int))->Hep n hs->n<=60->StAt H' st ga ca (N+500)->Keep [st,ga] H H'->Q (.ref q) H')->sp_drawn vs H Q E
theorem ok__law_drawn(T:Txt K mg A):FnOk P w K mg base CX0 32 A.a43 A.f43 ["_law_state","_law_rule_here"] sp_drawn:=by
 refine T.x43.F.ok yO (by walk_at "n") fun _ _ _ s H vs Q E hr h=>?_
 ·obtain⟨st,ga,ca,N,p,rs,rule,rfl,S,hN,hp,h2,hln,hb,k⟩:=h;refine⟨_,(z5 (zM (zk op_eq (pcl (zq T) hr T.x27 (pa2 (pv 0) z7)) z7 (zw _))
     (z8 (zi (pcl (ok__law_heap T) hr T.x40 (pa3 (pv 0) z7 z7)))) zj)
    (z5 (pset 2 yO.nd (pcl (zq T) hr T.x27 (pa2 (pv 0) z7)))
    (z5 (pset 3 yO.nd (pcl (ok__law_partings T) hr T.x41 (pa2 (pv 2) (pv 2))))
    (z5 (pset 4 yO.nd (pcl (ok__law_keepers T) hr T.x42 (pa2 (pv 1) (pv 2))))
    (z5 (zM (PW.pt (pw_and (zR (pv 4) (fun _=>rfl)) (pw_and1 (zk op_gt (pcl (zq T) hr T.x27 (pa2 (pv 0) z7)) z7 (zw _)))))
     (z8 (pset 3 yO.nd (pv 4))) zj)
    (z8 (zi (pix zE (pv 3) (pcl (zq T) hr T.x27 (pa2 (pv 0) (z9 zl rfl T.w6 PySem.boot_len (pa1 (pv 3))))))))))))),?_⟩
  dsimp only[yH,yc];refine seqJoin (fun σ' H'=>σ'=[some (.ref st),some (.ref p),none,none,none]/\StAt H' st ga ca (N+7)/\Keep [st,ga] H H') (fun nx hnx=>?_) ?_
  ·refine⟨_,rfl,st,ga,ca,_,2,rfl,S,by omega,by decide,by decide,fun r H2 r0 r1 S2 K2=>⟨rfl,_,rfl,ite2 (fun _=>?_) (fun _=>hnx _ _ ⟨rfl,S2,K2⟩)⟩⟩;refine⟨_,rfl,st,ga,ca,_,8,6,rfl,S2,by omega,by decide,by decide,by decide,by decide,fun p9 ns9 H9 l9 b9 pw9 g9 np9 S9 K9=>?_⟩;have key:∀l:List Int,(∀x∈l,1<=x/\x<=6)->l.sum<=6*(l.length:Int):=fun l=>by
    induction l with
    |nil=>intro _;decide
    |cons b l ih =>
     intro hb;have h1:=hb b (by simp);have h2:=ih fun y hy=>hb y (mem_cons_of_mem _ hy);rw[List.sum_cons,length_cons];omega
   have:=key ns9 b9;exact k p9 ns9 ns9.sum H9 g9 ⟨pw9,fun y hy=>(b9 y hy).1,rfl⟩ (by omega) (S9.mono (by omega)) (K2.trans K9)
  rintro _ H2 ⟨rfl,S2,K2⟩;refine⟨_,rfl,st,ga,ca,_,13,rfl,S2,by omega,by decide,by decide,fun nn H5 n0 n12 S5 K5=>?_⟩;obtain⟨m,rfl⟩:∃m:Nat,nn=(m:Int):=⟨nn.toNat,by omega⟩;refine⟨_,rfl,_,rfl,m,m,by omega,rfl,by omega,by omega,fun hl_ hx H6 ghl ah s6 nhl=>?_⟩;have S6:=S5.same s6;have K26:=K2.trans (K5.trans s6.keep);refine⟨_,rfl,_,rfl,p,rs,rule,m,rfl,(K2.trans (K5.trans s6.keep)).tups S _ _ hp,h2.mv (K26.tups S),hln,hb,by omega,fun kl kx H7 gkl ak s7 nkl=>?_⟩;have S7:=S6.same s7;have K27:=K26.trans s7.keep;have gh7:=s7 _ _ ghl;have ah7:=ah.mv s7.tups;obtain⟨h00,hm0⟩:=partF_ne 26 m m (by omega) (by omega);have nh:=S5.nin nhl;have nk:=S6.nin nkl;have few:=part_few (n:=m) (by omega);have kfew:(keptG rule m).length<=1575:=le_trans (List.length_filter_le _ _) few;dsimp only[yH,yc];refine seqJoin (fun σ' H'=>∃(l:Addr)(xs:List V)(L:List (List Int)),σ'=[some (.ref st),some (.ref p),some (.int (m:Int)),some (.ref l),some (.ref kl)]/\H' l=some (.lst xs)/\All2 Tup1 H' L xs/\(∀h∈L,Hep (m:Int) h)/\0<L.length/\L.length<=1575/\l∉[st,ga]/\StAt H' st ga ca (N+21)/\Keep [st,ga] H H') (fun nx hnx=>?_) ?_
  ·have skip:∀(H8:Hp),Keep [st,ga] H7 H8->StAt H8 st ga ca (N+21)->nx [some (.ref st),some (.ref p),some (.int (m:Int)),some (.ref hl_),some (.ref kl)] H8:=fun H8 K8 S8 =>
    hnx _ _ ⟨hl_,hx,_,rfl,K8.at gh7 nh,ah7.mv (K8.tups S7),fun h hh=>part_hep 26 m m h (by omega) hh,List.length_pos_of_mem hm0,few,nh,S8,K27.trans K8⟩
   refine⟨_,rfl,!kx.isEmpty,.inl ⟨_,SqL.of gkl,rfl⟩,?_⟩;cases kx with
   |nil=>exact iteF (iteF (skip _ (Same.refl _).keep (S7.mono (by omega))))
   |cons kv kr =>
    refine iteT ⟨_,rfl,st,ga,ca,_,4,rfl,S7,by omega,by decide,by decide,fun r H8 r0 r1 S8 K8=>⟨_,_,rfl,rfl,_,rfl,ite2 (fun _=>?_) (fun _=>skip _ K8 (S8.mono (by omega)))⟩⟩;exact⟨_,rfl,hnx _ _ ⟨kl,_,_,rfl,K8.at gkl nk,ak.mv (K8.tups S7),fun h hh=>(kept_hep hh (by omega)).1,by rw[ak.length];exact Nat.succ_pos _,kfew,nk,S8.mono (by omega),K27.trans K8⟩⟩
  rintro _ H8 ⟨l,xs,L,rfl,gl,aL,hep,lpos,lfew,nl,S8,K8⟩;have lx:=aL.length;refine⟨_,rfl,_,rfl,_,rfl,l,_,rfl,.inl (SqL.of gl),st,ga,ca,_,(xs.length:Int),rfl,S8,by omega,by omega,Int.le_trans (show(xs.length:Int)<=1575 by omega) (by decide),fun at_ H9 a0 a1 S9 K9=>?_⟩;obtain⟨j,rfl⟩:∃j:Nat,at_=(j:Int):=⟨at_.toNat,by omega⟩;obtain⟨y,hy⟩:∃y,xs[j]? =some y:=⟨_,getElem?_eq_getElem (by omega)⟩;obtain⟨h1,hh1,hp1,rfl,gh1⟩:=aL.get hy;exact⟨l,_,_,_,rfl,rfl,SqL.of (K9.at gl nl),zo hy,k hp1 h1 (m:Int) H9 (K9.tups S8 _ _ gh1) (hep h1 (mem_of_getElem? hh1)) (by omega) (S9.mono (by omega)) (K8.trans K9)⟩
def n__law_long:List Str:=["_law_sided","_law_heap_here","_law_limit","_law_sorts","_law_told","e"]
theorem zP:FnScope n__law_long ["_law_sided","_law_heap_here","_law_limit"] (z6 s__law_long):=FS
inductive sp_long(A:Adr)(vs:List V)(H:Hp)(Q:VK)(E:XK):Prop
 |mk (x h p q:Addr) (rs qs:List V) (one other:List (List Int)) (hs:List Int) (n:Int) (M:Nat):vs=[.ref x,.ref h,.int (M:Int)]->Sided A.w21 H x p q rs qs one other->Rul one other->H h=some (.tup (hs.map V.int))->Hep n hs->n<=700->(1<=M/\M<=10000)->zD one hs=none->((∀(l:Addr)(k:Nat)(xs:List V)(H':Hp),H' l=some (.lst xs)->All2 zC H' (yr one other hs k) xs->EndAt one other hs k->k+1<=M->Same H H'->H l=none->Q (.ref l) H'))->((∀(t:Addr)(v:V)(H':Hp),Live one other hs (M-1)-> ¬EndAt one other hs (M-1)->H' t=some (.tup [v,.int 1])->zC (wk one other hs (M-1)) v H'->Same H H'->Q (.ref t) H'))->sp_long A vs H Q E
theorem yE(T:Txt K mg A):FnOk P w K mg base CX0 14 A.a44 A.f44 ["_law_sided","_law_heap_here","_law_limit"] (sp_long A):=by
 refine T.x44.F.ok zP (by walk_at "n") fun _ _ _ s H vs Q E hr h=>?_
 ·obtain⟨x,h,p,q,rs,qs,one,other,hs,n,M,rfl,S,R,gh,hh,hn,hM,h0,k,kL⟩:=h;refine⟨_,(z5 (pset 3 zP.nd (zF yt))
    (z5 (pset 4 zP.nd ym)
    (z5 (ps_tryR (i:=5) (j:=4) rfl rfl (px_call (ok_walk_of T) (hr.mono (by decide)) rfl T.x24.g T.x24.F.kp T.x24.b .nil (pa3 (pv 0) (pv 1) (pv 2))) rfl T.w28 (fun _=>(z5 (pset 3 zP.nd (zF (pa3 (z9 (zc (K:=K)) rfl T.w5 boot_isinstance (pa2 (pv 5) (zu (v:=.ref A.w12) rfl T.w28 rfl))) (z9 (zc (K:=K)) rfl T.w5 boot_isinstance (pa2 (pv 5) (zu (v:=.ref A.w14) rfl T.w30 rfl))) (z9 (zc (K:=K)) rfl T.w5 boot_isinstance (pa2 (pv 5) (zu (v:=.ref A.w15) rfl T.w31 rfl))))))
    (z5 (pset 3 zP.nd (zr op_cat (pv 3) (zF (pa3 (z9 (zc (K:=K)) rfl T.w5 boot_isinstance (pa2 (pv 5) (zu (v:=.ref A.w1) rfl T.w17 rfl))) (z9 (zc (K:=K)) rfl T.w5 boot_isinstance (pa2 (pv 5) (zu (v:=.ref A.w16) rfl T.w32 rfl))) (z9 (zc (K:=K)) rfl T.w5 boot_isinstance (pa2 (pv 5) (zu (v:=.ref A.w18) rfl T.w34 rfl)))))))
    (z5 (pset 3 zP.nd (zr op_cat (pv 3) (zF (pa3 (z9 (zc (K:=K)) rfl T.w5 boot_isinstance (pa2 (pv 5) (zu (v:=.ref A.w19) rfl T.w35 rfl))) (z9 (zc (K:=K)) rfl T.w5 boot_isinstance (pa2 (pv 5) (zu (v:=.ref A.w8) rfl T.w24 rfl))) (z9 (zc (K:=K)) rfl T.w5 boot_isinstance (pa2 (pv 5) (zu (v:=.ref A.w7) rfl T.w23 rfl)))))))
    (z5 (pset 3 zP.nd (zr op_cat (pv 3) (zF (pa3 (z9 (zc (K:=K)) rfl T.w5 boot_isinstance (pa2 (pv 5) (zu (v:=.ref A.w4) rfl T.w20 rfl))) (z9 (zc (K:=K)) rfl T.w5 boot_isinstance (pa2 (pv 5) (zu (v:=.ref A.w5) rfl T.w21 rfl))) (z9 (zc (K:=K)) rfl T.w5 boot_isinstance (pa2 (pv 5) (zu (v:=.ref A.w3) rfl T.w19 rfl)))))))
    (z5 (pset 3 zP.nd (zr op_cat (pv 3) (zF (pa3 (z9 (zc (K:=K)) rfl T.w5 boot_isinstance (pa2 (pv 5) (zu (v:=.ref A.w2) rfl T.w18 rfl))) (z9 (zc (K:=K)) rfl T.w5 boot_isinstance (pa2 (pv 5) (zu (v:=.ref A.w6) rfl T.w22 rfl))) (z9 (zc (K:=K)) rfl T.w5 boot_isinstance (pa2 (pv 5) (zu (v:=.ref A.w11) rfl T.w27 rfl)))))))
    (z5 (pset 3 zP.nd (zr op_cat (pv 3) (zF (pa3 (z9 (zc (K:=K)) rfl T.w5 boot_isinstance (pa2 (pv 5) (zu (v:=.ref A.w9) rfl T.w25 rfl))) (z9 (zc (K:=K)) rfl T.w5 boot_isinstance (pa2 (pv 5) (zu (v:=.ref A.w13) rfl T.w29 rfl))) (z9 (zc (K:=K)) rfl T.w5 boot_isinstance (pa2 (pv 5) (zu (v:=.ref A.w20) rfl T.w36 rfl)))))))
    (z5 (pset 3 zP.nd (zr op_cat (pv 3) (zF (pa2 (z9 (zc (K:=K)) rfl T.w5 boot_isinstance (pa2 (pv 5) (zu (v:=.ref A.w17) rfl T.w33 rfl))) (z9 (zc (K:=K)) rfl T.w5 boot_isinstance (pa2 (pv 5) (zu (v:=.ref A.w10) rfl T.w26 rfl)))))))
    (z8 (zM (PW.pt (pw_and (pt_truthK K rfl (z9 (zc (K:=K)) rfl T.w5 boot_isinstance (pa2 (pv 5) (zu (v:=.ref A.w0) rfl T.w16 rfl))) (fun _=>rfl)) (pw_and1 (pt_truthK K rfl (z9 (zc (K:=K)) rfl T.w5 boot_isinstance (pa2 (pv 5) (yN (v:=.ty "ValueError") rfl T.w0 boot_ValueError rfl))) (fun _=>rfl)))))
     (z8 (pset 4 zP.nd (zK (pa2 (pe_fldX (K:=K) rfl (pv 5) rfl) z7)))) zj)))))))))) zj zP.nd rfl rfl rfl (by first|exact Or.inl rfl|exact Or.inr rfl))
    (z5 (zM (PW.pt (pw_and (zR (pv 3) (fun _=>rfl)) (pw_and1 (zk op_ne (pe_bm PySem.F.plainAttrs_list PySem.F.slot_list_count PySem.F.type_list_count mt_countL (pv 3) (pa1 pe_bl)) z7 (zw _)))))
     (z8 (zi ym)) zj)
    (z8 (zi (pv 4))))))),?_⟩
  obtain⟨hp0,hk⟩:=T.kin;refine⟨by show 0<=sizeLine;decide,fun y hy=>?_⟩;have sl:=Same.new (o:=.lst []) hy;have gy:=z0 (H:=H) (a:=y) (o:=.lst []);generalize upd H y (.lst [])=H0 at sl gy ⊢;refine⟨_,rfl,_,rfl,_,rfl,x,h,p,q,rs,qs,one,other,hs,n,M,rfl,S.mv sl,R,sl _ _ gh,hh,hn,hM,.inr ⟨h0,fun l k' xs H1 gl a2 en h4 s1 nl=>?_,fun dx v H1 L hne g1 hv s1=>?_⟩⟩
  ·dsimp only[yH,yc];refine⟨_,rfl,false,.inl ⟨_,SqL.of (s1 _ _ gy),rfl⟩,iteF ?_⟩;exact⟨_,rfl,k l k' xs H1 gl a2 en h4 (sl.trans s1) (sl.free nl)⟩
  ·refine⟨_,rfl,Takes.mkG (T.w93.isX hk) (T.w93.isX hk) T.w41,fun e hen=>?_⟩;obtain⟨HE,hHE⟩:∃HE,HE=upd H1 e (.ext (IsExcD e (.ref A.w12) (some dx))):=⟨_,rfl⟩;rw[<-hHE];have he:HE e=some (.ext (IsExcD e (.ref A.w12) (some dx))):=by rw[hHE];exact z0
   have sE:Same H1 HE:=by rw[hHE];exact Same.new hen
   refine cut4 fun nx0 hx0=>?_;refine⟨_,rfl,e,A.w12,_,_,_,_,rfl,(fun _ h=>h),he,T.w39,T.w83,_,rfl,e,A.w12,_,_,_,_,rfl,(fun _ h=>h),he,T.w39,T.w64,_,rfl,e,A.w12,_,_,_,_,rfl,(fun _ h=>h),he,T.w39,T.w65,by show 3<=sizeLine;decide,fun y0 hy0=>?_⟩;obtain⟨Y0,hY0⟩:∃Y0,Y0=upd HE y0 (.lst [V.bl true,V.bl false,V.bl false]):=⟨_,rfl⟩;rw[<-hY0];have sy0:Same HE Y0:=by rw[hY0];exact Same.new hy0
   have gy0:Y0 y0=some (.lst [V.bl true,V.bl false,V.bl false]):=by rw[hY0];exact z0
   have ny0:HE y0=none:=hy0;refine⟨_,rfl,_,rfl,e,A.w12,_,_,_,_,rfl,(fun _ h=>h),(sy0 _ _ he),T.w39,T.w66,_,rfl,e,A.w12,_,_,_,_,rfl,(fun _ h=>h),(sy0 _ _ he),T.w39,T.w67,_,rfl,e,A.w12,_,_,_,_,rfl,(fun _ h=>h),(sy0 _ _ he),T.w39,T.w68,by show 3<=sizeLine;decide,fun m1 hm1=>?_⟩;refine⟨y0,m1,_,_,rfl,rfl,Same.new hm1 _ _ gy0,z0,by show 6<=sizeLine;decide,fun y1 hy1=>?_⟩;obtain⟨Y1,hY1⟩:∃H',H'=upd (upd Y0 m1 (.lst [V.bl false,V.bl false,V.bl false])) y1 (.lst ([V.bl true,V.bl false,V.bl false]++[V.bl false,V.bl false,V.bl false])):=⟨_,rfl⟩;rw[<-hY1];have sy1:Same HE Y1:=by rw[hY1];exact sy0.trans ((Same.new hm1).trans (Same.new hy1))
   have gy1:Y1 y1=some (.lst [V.bl true,V.bl false,V.bl false,V.bl false,V.bl false,V.bl false]):=by rw[hY1];exact z0
   have ny1:HE y1=none:=(sy0.trans (Same.new hm1)).free hy1;refine⟨_,rfl,_,rfl,e,A.w12,_,_,_,_,rfl,(fun _ h=>h),(sy1 _ _ he),T.w39,T.w69,_,rfl,e,A.w12,_,_,_,_,rfl,(fun _ h=>h),(sy1 _ _ he),T.w39,T.w70,_,rfl,e,A.w12,_,_,_,_,rfl,(fun _ h=>h),(sy1 _ _ he),T.w39,T.w71,by show 3<=sizeLine;decide,fun m2 hm2=>?_⟩;refine⟨y1,m2,_,_,rfl,rfl,Same.new hm2 _ _ gy1,z0,by show 9<=sizeLine;decide,fun y2 hy2=>?_⟩;obtain⟨Y2,hY2⟩:∃H',H'=upd (upd Y1 m2 (.lst [V.bl false,V.bl false,V.bl false])) y2 (.lst ([V.bl true,V.bl false,V.bl false,V.bl false,V.bl false,V.bl false]++[V.bl false,V.bl false,V.bl false])):=⟨_,rfl⟩;rw[<-hY2];have sy2:Same HE Y2:=by rw[hY2];exact sy1.trans ((Same.new hm2).trans (Same.new hy2))
   have gy2:Y2 y2=some (.lst [V.bl true,V.bl false,V.bl false,V.bl false,V.bl false,V.bl false,V.bl false,V.bl false,V.bl false]):=by rw[hY2];exact z0
   have ny2:HE y2=none:=(sy1.trans (Same.new hm2)).free hy2;refine⟨_,rfl,_,rfl,e,A.w12,_,_,_,_,rfl,(fun _ h=>h),(sy2 _ _ he),T.w39,T.w72,_,rfl,e,A.w12,_,_,_,_,rfl,(fun _ h=>h),(sy2 _ _ he),T.w39,T.w73,_,rfl,e,A.w12,_,_,_,_,rfl,(fun _ h=>h),(sy2 _ _ he),T.w39,T.w74,by show 3<=sizeLine;decide,fun m3 hm3=>?_⟩;refine⟨y2,m3,_,_,rfl,rfl,Same.new hm3 _ _ gy2,z0,by show 12<=sizeLine;decide,fun y3 hy3=>?_⟩;obtain⟨Y3,hY3⟩:∃H',H'=upd (upd Y2 m3 (.lst [V.bl false,V.bl false,V.bl false])) y3 (.lst ([V.bl true,V.bl false,V.bl false,V.bl false,V.bl false,V.bl false,V.bl false,V.bl false,V.bl false]++[V.bl false,V.bl false,V.bl false])):=⟨_,rfl⟩;rw[<-hY3];have sy3:Same HE Y3:=by rw[hY3];exact sy2.trans ((Same.new hm3).trans (Same.new hy3))
   have gy3:Y3 y3=some (.lst [V.bl true,V.bl false,V.bl false,V.bl false,V.bl false,V.bl false,V.bl false,V.bl false,V.bl false,V.bl false,V.bl false,V.bl false]):=by rw[hY3];exact z0
   have ny3:HE y3=none:=(sy2.trans (Same.new hm3)).free hy3
   try dsimp only[yH,yc]
   subst hx0;refine cut2 fun nx1 hx1=>?_;refine⟨_,rfl,_,rfl,e,A.w12,_,_,_,_,rfl,(fun _ h=>h),(sy3 _ _ he),T.w39,T.w75,_,rfl,e,A.w12,_,_,_,_,rfl,(fun _ h=>h),(sy3 _ _ he),T.w39,T.w76,_,rfl,e,A.w12,_,_,_,_,rfl,(fun _ h=>h),(sy3 _ _ he),T.w39,T.w77,by show 3<=sizeLine;decide,fun m4 hm4=>?_⟩;refine⟨y3,m4,_,_,rfl,rfl,Same.new hm4 _ _ gy3,z0,by show 15<=sizeLine;decide,fun y4 hy4=>?_⟩;obtain⟨Y4,hY4⟩:∃H',H'=upd (upd Y3 m4 (.lst [V.bl false,V.bl false,V.bl false])) y4 (.lst ([V.bl true,V.bl false,V.bl false,V.bl false,V.bl false,V.bl false,V.bl false,V.bl false,V.bl false,V.bl false,V.bl false,V.bl false]++[V.bl false,V.bl false,V.bl false])):=⟨_,rfl⟩;rw[<-hY4];have sy4:Same HE Y4:=by rw[hY4];exact sy3.trans ((Same.new hm4).trans (Same.new hy4))
   have gy4:Y4 y4=some (.lst [V.bl true,V.bl false,V.bl false,V.bl false,V.bl false,V.bl false,V.bl false,V.bl false,V.bl false,V.bl false,V.bl false,V.bl false,V.bl false,V.bl false,V.bl false]):=by rw[hY4];exact z0
   have ny4:HE y4=none:=(sy3.trans (Same.new hm4)).free hy4;refine⟨_,rfl,_,rfl,e,A.w12,_,_,_,_,rfl,(fun _ h=>h),(sy4 _ _ he),T.w39,T.w78,_,rfl,e,A.w12,_,_,_,_,rfl,(fun _ h=>h),(sy4 _ _ he),T.w39,T.w79,_,rfl,e,A.w12,_,_,_,_,rfl,(fun _ h=>h),(sy4 _ _ he),T.w39,T.w80,by show 3<=sizeLine;decide,fun m5 hm5=>?_⟩;refine⟨y4,m5,_,_,rfl,rfl,Same.new hm5 _ _ gy4,z0,by show 18<=sizeLine;decide,fun y5 hy5=>?_⟩;obtain⟨Y5,hY5⟩:∃H',H'=upd (upd Y4 m5 (.lst [V.bl false,V.bl false,V.bl false])) y5 (.lst ([V.bl true,V.bl false,V.bl false,V.bl false,V.bl false,V.bl false,V.bl false,V.bl false,V.bl false,V.bl false,V.bl false,V.bl false,V.bl false,V.bl false,V.bl false]++[V.bl false,V.bl false,V.bl false])):=⟨_,rfl⟩;rw[<-hY5];have sy5:Same HE Y5:=by rw[hY5];exact sy4.trans ((Same.new hm5).trans (Same.new hy5))
   have gy5:Y5 y5=some (.lst [V.bl true,V.bl false,V.bl false,V.bl false,V.bl false,V.bl false,V.bl false,V.bl false,V.bl false,V.bl false,V.bl false,V.bl false,V.bl false,V.bl false,V.bl false,V.bl false,V.bl false,V.bl false]):=by rw[hY5];exact z0
   have ny5:HE y5=none:=(sy4.trans (Same.new hm5)).free hy5
   try dsimp only[yH,yc]
   subst hx1;refine⟨_,rfl,_,rfl,e,A.w12,_,_,_,_,rfl,(fun _ h=>h),(sy5 _ _ he),T.w39,T.w82,_,rfl,e,A.w12,_,_,_,_,rfl,(fun _ h=>h),(sy5 _ _ he),T.w39,T.w84,by show 2<=sizeLine;decide,fun m6 hm6=>?_⟩;refine⟨y5,m6,_,_,rfl,rfl,Same.new hm6 _ _ gy5,z0,by show 20<=sizeLine;decide,fun y6 hy6=>?_⟩;obtain⟨Y6,hY6⟩:∃H',H'=upd (upd Y5 m6 (.lst [V.bl false,V.bl false])) y6 (.lst ([V.bl true,V.bl false,V.bl false,V.bl false,V.bl false,V.bl false,V.bl false,V.bl false,V.bl false,V.bl false,V.bl false,V.bl false,V.bl false,V.bl false,V.bl false,V.bl false,V.bl false,V.bl false]++[V.bl false,V.bl false])):=⟨_,rfl⟩;rw[<-hY6];have sy6:Same HE Y6:=by rw[hY6];exact sy5.trans ((Same.new hm6).trans (Same.new hy6))
   have gy6:Y6 y6=some (.lst [V.bl true,V.bl false,V.bl false,V.bl false,V.bl false,V.bl false,V.bl false,V.bl false,V.bl false,V.bl false,V.bl false,V.bl false,V.bl false,V.bl false,V.bl false,V.bl false,V.bl false,V.bl false,V.bl false,V.bl false]):=by rw[hY6];exact z0
   have ny6:HE y6=none:=(sy5.trans (Same.new hm6)).free hy6;have hlk:List.lookup ("place" : Str) [(("place" : Str),v)]=some v:=by simp[List.lookup]
   have g6:=(sE.trans sy6) _ _ g1;have v6:=hv.mv (sE.trans sy6).tups;refine⟨_,rfl,e,A.w12,_,_,_,_,rfl,(fun _ h=>h),(sy6 _ _ he),T.w39,T.w81,true,rfl,iteT ⟨_,rfl,e,A.w12,_,_,_,_,rfl,(fun _ h=>h),(sy6 _ _ he),T.w39,T.w85,true,rfl,iteT ?_⟩⟩;refine⟨_,rfl,e,A.w12,dx,_,_,rfl,sy6 _ _ he,g6,T.w95,T.w91,hlk,by show 2<=sizeLine;decide,fun t ht=>?_⟩;have st:=Same.new (o:=.tup [v,V.int 1]) ht;have gt:=z0 (H:=Y6) (a:=t) (o:=.tup [v,V.int 1]);generalize upd Y6 t (.tup [v,V.int 1])=HZ at st gt ⊢;dsimp only[yH,yc];have gz:=st _ _ gy6;refine⟨_,rfl,true,.inl ⟨_,SqL.of gz,rfl⟩,iteT ?_⟩;refine⟨_,rfl,.inl ⟨rfl,_,SqL.of gz⟩,y6,_,_,rfl,rfl,SqL.of gz,rfl,rfl,rfl,_,rfl,iteNS rfl ?_⟩;exact⟨_,rfl,kL t v _ L hne gt (v6.mv st.tups) (sl.trans (s1.trans (sE.trans (sy6.trans st))))⟩
def n__law_not_kept:List Str:=["_law_sided","_law_heap_here","_law_limit","_law_sorts","_law_told","e"]
theorem zv:FnScope n__law_not_kept ["_law_sided","_law_heap_here","_law_limit"] (z6 s__law_not_kept):=FS
inductive sp_not_kept(A:Adr)(vs:List V)(H:Hp)(Q:VK)(E:XK):Prop
 |mk (x h p q:Addr) (rs qs:List V) (one other:List (List Int)) (hs:List Int) (n:Int) (M:Nat) (z:Int):vs=[.ref x,.ref h,.int (M:Int)]->Sided A.w21 H x p q rs qs one other->Rul one other->H h=some (.tup (hs.map V.int))->Hep n hs->n<=700->(1<=M/\M<=10000)->zD one hs=some z->(∀H',Same H H'->Q (.int z) H')->sp_not_kept A vs H Q E
theorem ok__law_not_kept(T:Txt K mg A):FnOk P w K mg base CX0 14 A.a45 A.f45 ["_law_sided","_law_heap_here","_law_limit"] (sp_not_kept A):=by
 refine T.x45.F.ok zv (by walk_at "n") fun _ _ _ s H vs Q E hr h=>?_
 ·obtain⟨x,h,p,q,rs,qs,one,other,hs,n,M,z,rfl,S,R,gh,hh,hn,hM,h0,k⟩:=h;refine⟨_,(z5 (pset 3 zv.nd (zF yt))
    (z5 (pset 4 zv.nd ym)
    (z5 (ps_tryX (i:=5) rfl rfl (px_call (ok_walk_of T) (hr.mono (by decide)) rfl T.x24.g T.x24.F.kp T.x24.b .nil (pa3 (pv 0) (pv 1) (pv 2))) rfl T.w22 (fun _=>(z5 (pset 3 zv.nd (zF (pa3 (z9 (zc (K:=K)) rfl T.w5 boot_isinstance (pa2 (pv 5) (zu (v:=.ref A.w6) rfl T.w22 rfl))) (z9 (zc (K:=K)) rfl T.w5 boot_isinstance (pa2 (pv 5) (zu (v:=.ref A.w14) rfl T.w30 rfl))) (z9 (zc (K:=K)) rfl T.w5 boot_isinstance (pa2 (pv 5) (zu (v:=.ref A.w15) rfl T.w31 rfl))))))
    (z5 (pset 3 zv.nd (zr op_cat (pv 3) (zF (pa3 (z9 (zc (K:=K)) rfl T.w5 boot_isinstance (pa2 (pv 5) (zu (v:=.ref A.w1) rfl T.w17 rfl))) (z9 (zc (K:=K)) rfl T.w5 boot_isinstance (pa2 (pv 5) (zu (v:=.ref A.w16) rfl T.w32 rfl))) (z9 (zc (K:=K)) rfl T.w5 boot_isinstance (pa2 (pv 5) (zu (v:=.ref A.w18) rfl T.w34 rfl)))))))
    (z5 (pset 3 zv.nd (zr op_cat (pv 3) (zF (pa3 (z9 (zc (K:=K)) rfl T.w5 boot_isinstance (pa2 (pv 5) (zu (v:=.ref A.w19) rfl T.w35 rfl))) (z9 (zc (K:=K)) rfl T.w5 boot_isinstance (pa2 (pv 5) (zu (v:=.ref A.w8) rfl T.w24 rfl))) (z9 (zc (K:=K)) rfl T.w5 boot_isinstance (pa2 (pv 5) (zu (v:=.ref A.w7) rfl T.w23 rfl)))))))
    (z5 (pset 3 zv.nd (zr op_cat (pv 3) (zF (pa3 (z9 (zc (K:=K)) rfl T.w5 boot_isinstance (pa2 (pv 5) (zu (v:=.ref A.w4) rfl T.w20 rfl))) (z9 (zc (K:=K)) rfl T.w5 boot_isinstance (pa2 (pv 5) (zu (v:=.ref A.w5) rfl T.w21 rfl))) (z9 (zc (K:=K)) rfl T.w5 boot_isinstance (pa2 (pv 5) (zu (v:=.ref A.w3) rfl T.w19 rfl)))))))
    (z5 (pset 3 zv.nd (zr op_cat (pv 3) (zF (pa3 (z9 (zc (K:=K)) rfl T.w5 boot_isinstance (pa2 (pv 5) (zu (v:=.ref A.w2) rfl T.w18 rfl))) (z9 (zc (K:=K)) rfl T.w5 boot_isinstance (pa2 (pv 5) (zu (v:=.ref A.w11) rfl T.w27 rfl))) (z9 (zc (K:=K)) rfl T.w5 boot_isinstance (pa2 (pv 5) (zu (v:=.ref A.w9) rfl T.w25 rfl)))))))
    (z5 (pset 3 zv.nd (zr op_cat (pv 3) (zF (pa3 (z9 (zc (K:=K)) rfl T.w5 boot_isinstance (pa2 (pv 5) (zu (v:=.ref A.w13) rfl T.w29 rfl))) (z9 (zc (K:=K)) rfl T.w5 boot_isinstance (pa2 (pv 5) (zu (v:=.ref A.w20) rfl T.w36 rfl))) (z9 (zc (K:=K)) rfl T.w5 boot_isinstance (pa2 (pv 5) (zu (v:=.ref A.w17) rfl T.w33 rfl)))))))
    (z5 (pset 3 zv.nd (zr op_cat (pv 3) (zF (pa2 (z9 (zc (K:=K)) rfl T.w5 boot_isinstance (pa2 (pv 5) (zu (v:=.ref A.w12) rfl T.w28 rfl))) (z9 (zc (K:=K)) rfl T.w5 boot_isinstance (pa2 (pv 5) (zu (v:=.ref A.w10) rfl T.w26 rfl)))))))
    (z8 (zM (PW.pt (pw_and (pt_truthK K rfl (z9 (zc (K:=K)) rfl T.w5 boot_isinstance (pa2 (pv 5) (zu (v:=.ref A.w0) rfl T.w16 rfl))) (fun _=>rfl)) (pw_and1 (pt_truthK K rfl (z9 (zc (K:=K)) rfl T.w5 boot_isinstance (pa2 (pv 5) (yN (v:=.ty "ValueError") rfl T.w0 boot_ValueError rfl))) (fun _=>rfl)))))
     (z8 (pset 4 zv.nd (pe_fldX (K:=K) rfl (pv 5) rfl))) zj)))))))))) zv.nd rfl rfl)
    (z5 (zM (zk op_ne (pe_bm PySem.F.plainAttrs_list PySem.F.slot_list_count PySem.F.type_list_count mt_countL (pv 3) (pa1 pe_bl)) z7 (zw _))
     (z8 (zi ym)) zj)
    (z8 (zi (pv 4))))))),?_⟩
  obtain⟨hp0,hk⟩:=T.kin;refine⟨by show 0<=sizeLine;decide,fun y hy=>?_⟩;have sl:=Same.new (o:=.lst []) hy;generalize upd H y (.lst [])=H0 at sl ⊢;refine⟨_,rfl,_,rfl,_,rfl,x,h,p,q,rs,qs,one,other,hs,n,M,rfl,S.mv sl,R,sl _ _ gh,hh,hn,hM,.inl ⟨z,h0,fun dx H1 g1 s1=>?_⟩⟩;refine⟨_,rfl,Takes.mkG (T.w92.isX hk) (T.w92.isX hk) T.w40,fun e hen=>?_⟩;obtain⟨HE,hHE⟩:∃HE,HE=upd H1 e (.ext (IsExcD e (.ref A.w6) (some dx))):=⟨_,rfl⟩;rw[<-hHE];have he:HE e=some (.ext (IsExcD e (.ref A.w6) (some dx))):=by rw[hHE];exact z0
  have sE:Same H1 HE:=by rw[hHE];exact Same.new hen
  refine cut4 fun nx0 hx0=>?_;refine⟨_,rfl,e,A.w6,_,_,_,_,rfl,(fun _ h=>h),he,T.w38,T.w54,_,rfl,e,A.w6,_,_,_,_,rfl,(fun _ h=>h),he,T.w38,T.w42,_,rfl,e,A.w6,_,_,_,_,rfl,(fun _ h=>h),he,T.w38,T.w43,by show 3<=sizeLine;decide,fun y0 hy0=>?_⟩;obtain⟨Y0,hY0⟩:∃Y0,Y0=upd HE y0 (.lst [V.bl true,V.bl false,V.bl false]):=⟨_,rfl⟩;rw[<-hY0];have sy0:Same HE Y0:=by rw[hY0];exact Same.new hy0
  have gy0:Y0 y0=some (.lst [V.bl true,V.bl false,V.bl false]):=by rw[hY0];exact z0
  have ny0:HE y0=none:=hy0;refine⟨_,rfl,_,rfl,e,A.w6,_,_,_,_,rfl,(fun _ h=>h),(sy0 _ _ he),T.w38,T.w44,_,rfl,e,A.w6,_,_,_,_,rfl,(fun _ h=>h),(sy0 _ _ he),T.w38,T.w45,_,rfl,e,A.w6,_,_,_,_,rfl,(fun _ h=>h),(sy0 _ _ he),T.w38,T.w46,by show 3<=sizeLine;decide,fun m1 hm1=>?_⟩;refine⟨y0,m1,_,_,rfl,rfl,Same.new hm1 _ _ gy0,z0,by show 6<=sizeLine;decide,fun y1 hy1=>?_⟩;obtain⟨Y1,hY1⟩:∃H',H'=upd (upd Y0 m1 (.lst [V.bl false,V.bl false,V.bl false])) y1 (.lst ([V.bl true,V.bl false,V.bl false]++[V.bl false,V.bl false,V.bl false])):=⟨_,rfl⟩;rw[<-hY1];have sy1:Same HE Y1:=by rw[hY1];exact sy0.trans ((Same.new hm1).trans (Same.new hy1))
  have gy1:Y1 y1=some (.lst [V.bl true,V.bl false,V.bl false,V.bl false,V.bl false,V.bl false]):=by rw[hY1];exact z0
  have ny1:HE y1=none:=(sy0.trans (Same.new hm1)).free hy1;refine⟨_,rfl,_,rfl,e,A.w6,_,_,_,_,rfl,(fun _ h=>h),(sy1 _ _ he),T.w38,T.w47,_,rfl,e,A.w6,_,_,_,_,rfl,(fun _ h=>h),(sy1 _ _ he),T.w38,T.w48,_,rfl,e,A.w6,_,_,_,_,rfl,(fun _ h=>h),(sy1 _ _ he),T.w38,T.w49,by show 3<=sizeLine;decide,fun m2 hm2=>?_⟩;refine⟨y1,m2,_,_,rfl,rfl,Same.new hm2 _ _ gy1,z0,by show 9<=sizeLine;decide,fun y2 hy2=>?_⟩;obtain⟨Y2,hY2⟩:∃H',H'=upd (upd Y1 m2 (.lst [V.bl false,V.bl false,V.bl false])) y2 (.lst ([V.bl true,V.bl false,V.bl false,V.bl false,V.bl false,V.bl false]++[V.bl false,V.bl false,V.bl false])):=⟨_,rfl⟩;rw[<-hY2];have sy2:Same HE Y2:=by rw[hY2];exact sy1.trans ((Same.new hm2).trans (Same.new hy2))
  have gy2:Y2 y2=some (.lst [V.bl true,V.bl false,V.bl false,V.bl false,V.bl false,V.bl false,V.bl false,V.bl false,V.bl false]):=by rw[hY2];exact z0
  have ny2:HE y2=none:=(sy1.trans (Same.new hm2)).free hy2;refine⟨_,rfl,_,rfl,e,A.w6,_,_,_,_,rfl,(fun _ h=>h),(sy2 _ _ he),T.w38,T.w50,_,rfl,e,A.w6,_,_,_,_,rfl,(fun _ h=>h),(sy2 _ _ he),T.w38,T.w51,_,rfl,e,A.w6,_,_,_,_,rfl,(fun _ h=>h),(sy2 _ _ he),T.w38,T.w52,by show 3<=sizeLine;decide,fun m3 hm3=>?_⟩;refine⟨y2,m3,_,_,rfl,rfl,Same.new hm3 _ _ gy2,z0,by show 12<=sizeLine;decide,fun y3 hy3=>?_⟩;obtain⟨Y3,hY3⟩:∃H',H'=upd (upd Y2 m3 (.lst [V.bl false,V.bl false,V.bl false])) y3 (.lst ([V.bl true,V.bl false,V.bl false,V.bl false,V.bl false,V.bl false,V.bl false,V.bl false,V.bl false]++[V.bl false,V.bl false,V.bl false])):=⟨_,rfl⟩;rw[<-hY3];have sy3:Same HE Y3:=by rw[hY3];exact sy2.trans ((Same.new hm3).trans (Same.new hy3))
  have gy3:Y3 y3=some (.lst [V.bl true,V.bl false,V.bl false,V.bl false,V.bl false,V.bl false,V.bl false,V.bl false,V.bl false,V.bl false,V.bl false,V.bl false]):=by rw[hY3];exact z0
  have ny3:HE y3=none:=(sy2.trans (Same.new hm3)).free hy3
  try dsimp only[yH,yc]
  subst hx0;refine cut2 fun nx1 hx1=>?_;refine⟨_,rfl,_,rfl,e,A.w6,_,_,_,_,rfl,(fun _ h=>h),(sy3 _ _ he),T.w38,T.w53,_,rfl,e,A.w6,_,_,_,_,rfl,(fun _ h=>h),(sy3 _ _ he),T.w38,T.w55,_,rfl,e,A.w6,_,_,_,_,rfl,(fun _ h=>h),(sy3 _ _ he),T.w38,T.w56,by show 3<=sizeLine;decide,fun m4 hm4=>?_⟩;refine⟨y3,m4,_,_,rfl,rfl,Same.new hm4 _ _ gy3,z0,by show 15<=sizeLine;decide,fun y4 hy4=>?_⟩;obtain⟨Y4,hY4⟩:∃H',H'=upd (upd Y3 m4 (.lst [V.bl false,V.bl false,V.bl false])) y4 (.lst ([V.bl true,V.bl false,V.bl false,V.bl false,V.bl false,V.bl false,V.bl false,V.bl false,V.bl false,V.bl false,V.bl false,V.bl false]++[V.bl false,V.bl false,V.bl false])):=⟨_,rfl⟩;rw[<-hY4];have sy4:Same HE Y4:=by rw[hY4];exact sy3.trans ((Same.new hm4).trans (Same.new hy4))
  have gy4:Y4 y4=some (.lst [V.bl true,V.bl false,V.bl false,V.bl false,V.bl false,V.bl false,V.bl false,V.bl false,V.bl false,V.bl false,V.bl false,V.bl false,V.bl false,V.bl false,V.bl false]):=by rw[hY4];exact z0
  have ny4:HE y4=none:=(sy3.trans (Same.new hm4)).free hy4;refine⟨_,rfl,_,rfl,e,A.w6,_,_,_,_,rfl,(fun _ h=>h),(sy4 _ _ he),T.w38,T.w57,_,rfl,e,A.w6,_,_,_,_,rfl,(fun _ h=>h),(sy4 _ _ he),T.w38,T.w58,_,rfl,e,A.w6,_,_,_,_,rfl,(fun _ h=>h),(sy4 _ _ he),T.w38,T.w60,by show 3<=sizeLine;decide,fun m5 hm5=>?_⟩;refine⟨y4,m5,_,_,rfl,rfl,Same.new hm5 _ _ gy4,z0,by show 18<=sizeLine;decide,fun y5 hy5=>?_⟩;obtain⟨Y5,hY5⟩:∃H',H'=upd (upd Y4 m5 (.lst [V.bl false,V.bl false,V.bl false])) y5 (.lst ([V.bl true,V.bl false,V.bl false,V.bl false,V.bl false,V.bl false,V.bl false,V.bl false,V.bl false,V.bl false,V.bl false,V.bl false,V.bl false,V.bl false,V.bl false]++[V.bl false,V.bl false,V.bl false])):=⟨_,rfl⟩;rw[<-hY5];have sy5:Same HE Y5:=by rw[hY5];exact sy4.trans ((Same.new hm5).trans (Same.new hy5))
  have gy5:Y5 y5=some (.lst [V.bl true,V.bl false,V.bl false,V.bl false,V.bl false,V.bl false,V.bl false,V.bl false,V.bl false,V.bl false,V.bl false,V.bl false,V.bl false,V.bl false,V.bl false,V.bl false,V.bl false,V.bl false]):=by rw[hY5];exact z0
  have ny5:HE y5=none:=(sy4.trans (Same.new hm5)).free hy5
  try dsimp only[yH,yc]
  subst hx1;refine⟨_,rfl,_,rfl,e,A.w6,_,_,_,_,rfl,(fun _ h=>h),(sy5 _ _ he),T.w38,T.w61,_,rfl,e,A.w6,_,_,_,_,rfl,(fun _ h=>h),(sy5 _ _ he),T.w38,T.w62,by show 2<=sizeLine;decide,fun m6 hm6=>?_⟩;refine⟨y5,m6,_,_,rfl,rfl,Same.new hm6 _ _ gy5,z0,by show 20<=sizeLine;decide,fun y6 hy6=>?_⟩;obtain⟨Y6,hY6⟩:∃H',H'=upd (upd Y5 m6 (.lst [V.bl false,V.bl false])) y6 (.lst ([V.bl true,V.bl false,V.bl false,V.bl false,V.bl false,V.bl false,V.bl false,V.bl false,V.bl false,V.bl false,V.bl false,V.bl false,V.bl false,V.bl false,V.bl false,V.bl false,V.bl false,V.bl false]++[V.bl false,V.bl false])):=⟨_,rfl⟩;rw[<-hY6];have sy6:Same HE Y6:=by rw[hY6];exact sy5.trans ((Same.new hm6).trans (Same.new hy6))
  have gy6:Y6 y6=some (.lst [V.bl true,V.bl false,V.bl false,V.bl false,V.bl false,V.bl false,V.bl false,V.bl false,V.bl false,V.bl false,V.bl false,V.bl false,V.bl false,V.bl false,V.bl false,V.bl false,V.bl false,V.bl false,V.bl false,V.bl false]):=by rw[hY6];exact z0
  have ny6:HE y6=none:=(sy5.trans (Same.new hm6)).free hy6;have hlk:List.lookup ("number" : Str) [(("number" : Str),V.int z)]=some (V.int z):=by simp[List.lookup]
  have g6:=(sE.trans sy6) _ _ g1;refine⟨_,rfl,e,A.w6,_,_,_,_,rfl,(fun _ h=>h),(sy6 _ _ he),T.w38,T.w59,true,rfl,iteT ⟨_,rfl,e,A.w6,_,_,_,_,rfl,(fun _ h=>h),(sy6 _ _ he),T.w38,T.w63,true,rfl,iteT ?_⟩⟩;refine⟨_,rfl,e,A.w6,dx,_,_,rfl,sy6 _ _ he,g6,T.w94,T.w90,hlk,?_⟩;dsimp only[yH,yc];refine⟨_,rfl,.inl ⟨rfl,_,SqL.of gy6⟩,y6,_,_,rfl,rfl,SqL.of gy6,rfl,rfl,rfl,_,rfl,iteNS rfl ?_⟩;exact⟨_,rfl,k _ (sl.trans (s1.trans (sE.trans sy6)))⟩
def n__law_second:List Str:=["_law_state","_law_sided","_law_rules","_law_heap_here","_law_due"]
theorem sc__law_second:FnScope n__law_second ["_law_state","_law_sided","_law_rules"] (z6 s__law_second):=FS
theorem sided_keep{C:Addr}{H H':Hp}{x p q st ga ca:Addr}{rs qs:List V}{one other:List (List Int)}{N:Nat}(B:Sided C H x p q rs qs one other)(S:StAt H st ga ca N)(K:Keep [st,ga] H H')(nx:x∉[st,ga]):Sided C H' x p q rs qs one other :=
 ⟨let⟨dx,e⟩:=B.ob;⟨dx,K.at e nx⟩,K.tups S _ _ B.hp,B.h2.mv (K.tups S),K.tups S _ _ B.hq,B.g2.mv (K.tups S),B.ln,B.l6,B.b1,B.b2⟩
theorem ins_nin{H:Hp}{x st ga ca C dx:Addr}{N:Nat}{fs:List (Str×V)}(S:StAt H st ga ca N)(e:H x=some (.ins C dx fs)):x∉[st,ga]:=fun z=>by
 obtain⟨gs,cs,q,n,h1,h2,_⟩:=S.ex;simp only[mem_cons,not_mem_nil,or_false]at z;rcases z with z|z
 ·rw[z,h1]at e;cases e
 ·rw[z,h2]at e;cases e
theorem place_sm{one other:List (List Int)}{n:Int}{hs:List Int}{i:Nat}{v w:V}{H:Hp}(RR:Rul one other)(hh:Hep n hs)(hn:n<=700)(L:Live one other hs i)(a:zC (wk one other hs i) v H)(b:zC (wk one other hs i) w H)(m:Nat):SmG (m+3) H v w:=by
 have w9:=wk_ok RR hh i L;have:=w9.hep.len;exact zC.sm (by omega) (le_trans (w9.chl RR) (by decide)) a b
theorem walk_sm{one other:List (List Int)}{n:Int}{hs:List Int}{k:Nat}{f d:Addr}{xs ys:List V}{H:Hp}(RR:Rul one other)(hh:Hep n hs)(hn:n<=700)(L:Live one other hs k)(hk:k<=2000)(h1:H f=some (.lst xs))(h2:H d=some (.lst ys))(a:All2 zC H (yr one other hs k) xs)(b:All2 zC H (yr one other hs k) ys)(m:Nat:=2):SmG (m+4) H (.ref f) (.ref d) :=
 SmG.lstR (n:=m+3) h1 h2 a b (by rw[zX];omega) (fun r y z hr p1 p2=>by
  obtain⟨i,hi,rfl⟩:=mem_map.mp hr;exact place_sm RR hh hn (fun j hj=>L j (by have:=mem_range.mp hi;omega)) p1 p2 m)
theorem too_sm{one other:List (List Int)}{n:Int}{hs:List Int}{i:Nat}{t t2:Addr}{v w:V}{H:Hp}(RR:Rul one other)(hh:Hep n hs)(hn:n<=700)(L:Live one other hs i)(g1:H t=some (.tup [v,.int 1]))(g2:H t2=some (.tup [w,.int 1]))(a:zC (wk one other hs i) v H)(b:zC (wk one other hs i) w H):SmG 6 H (.ref t) (.ref t2):=by
 refine SmG.tup g1 g2 rfl (by show 2<=100000;decide) (fun i y z hy hz=>?_)
 match i,hy,hz with
 | 0,hy,hz=>cases hy;cases hz;exact place_sm RR hh hn L a b 2
 | 1,hy,hz=>cases hy;cases hz;exact .int _
theorem no_end{one other:List (List Int)}{hs:List Int}{k M:Nat}(L:Live one other hs (M-1))(hne:¬EndAt one other hs (M-1))(e:EndAt one other hs k)(hk:k+1<=M):False:=by
 by_cases h:k=M-1
 ·rw[h]at e;exact hne e
 ·exact L k (by omega) e.od e.no
theorem walk_get{one other:List (List Int)}{hs:List Int}{k i:Nat}{xs:List V}{H:Hp}(a:All2 zC H (yr one other hs k) xs)(hi:i<=k):∃v,xs[i]? =some v/\zC (wk one other hs i) v H:=by
 have hl:=a.length;rw[zX]at hl;obtain⟨y,hy⟩:∃y,xs[i]? =some y:=⟨_,getElem?_eq_getElem (by omega)⟩;obtain⟨pl,hpl,hv⟩:=a.get hy;rw[walkL_at one other hs hi]at hpl;obtain rfl:=Option.some.inj hpl;exact⟨y,hy,hv⟩
inductive sp_second(A:Adr)(vs:List V)(H:Hp)(Q:VK)(E:XK):Prop
 |mk (st ga ca:Addr) (N:Nat) (x R p q:Addr) (rs qs:List V) (one other:List (List Int)):vs=[.ref st,.ref x,.ref R]->StAt H st ga ca N->N<=10^5->Two H R p q rs qs one other->Sided A.w21 H x p q rs qs one other->Rul one other->x∉[st,ga]->(∀H',Keep [st,ga] H H'->Tups H H'->Q (.bl true) H')->sp_second A vs H Q E
theorem ok__law_second(T:Txt K mg A):FnOk P w K mg base CX0 34 A.a46 A.f46 ["_law_state","_law_sided","_law_rules"] (sp_second A):=by
 refine T.x46.F.ok sc__law_second (by walk_at "n") fun _ _ _ s H vs Q E hr h=>?_
 ·obtain⟨st,ga,ca,N,x,R,p,q,rs,qs,one,other,rfl,S,hN,W0,B,RR,nx,k⟩:=h;refine⟨_,(z5 (pset 3 sc__law_second.nd (pcl (ok__law_drawn T) hr T.x43 (pa2 (pv 0) (pix zN (pv 2) z7))))
    (z5 (zM (zk op_notN (pcl (yK T) hr T.x29 (pa2 (pix zN (pv 2) z7) (pv 3))) ym (zw _))
     (z8 (zi pe_bl)) zj)
    (z5 (pset 4 sc__law_second.nd (pcl (ok__law_walk T) hr T.x39 (pa3 (pv 2) (pv 3) z7)))
    (z5 (zM (zk op_gt (z9 zl rfl T.w6 PySem.boot_len (pa1 (pv 4))) z7 (zw _))
     (z8 (zi (pcl (zO T) hr T.x33 (pa2 (pcl (yE T) hr T.x44 (pa3 (pv 1) (pv 3) z7)) (zK (pa2 (pix zE (pv 4) z7) z7)))))) zj)
    (z8 (zi (pcl (zO T) hr T.x33 (pa2 (pe_callD (ok_walk_of T) (hr.mono (by decide)) rfl T.x24.g T.x24.F.kp T.x24.d pass01 (pa2 (pv 1) (pv 3))) (pv 4))))))))),?_⟩
  have l6:=RR.l6;have b1:∀h∈one,h.length<=1000:=fun h hh=>le_trans (RR.b1 h hh).1 (by decide);refine⟨_,rfl,_,rfl,R,_,0,_,rfl,rfl,SqT.of W0.at_,zo (j:=0) rfl,st,ga,ca,N,p,rs,one,rfl,S,hN,W0.hp,W0.h2,by omega,b1,fun h hs n H2 gh hh hn S2 K2=>?_⟩;have t2:=K2.tups S;have W2:=W0.mv t2;have B2:=sided_keep B S K2 nx;refine⟨_,rfl,R,_,0,_,rfl,rfl,SqT.of W2.at_,zo (j:=0) rfl,_,rfl,p,h,rs,one,hs,rfl,W2.hp,W2.h2,gh,by omega,b1,fun H3 s3=>?_⟩;have K3:=K2.trans s3.keep;have t3:=t2.trans s3.tups;cases hf:zD one hs with
  |some z=>exact⟨rfl,_,rfl,iteT (k _ K3 t3)⟩
  |none =>
   refine⟨rfl,_,rfl,iteF ?_⟩;have W3:=W2.mv s3.tups;have B3:=B2.mv s3;have gh3:=s3 _ _ gh;refine⟨_,rfl,_,rfl,R,h,p,q,rs,qs,one,other,hs,n,60,rfl,W3,RR,gh3,hh,by omega,by decide,fun l kk xs H4 gl a2 L hk s4 nl=>?_⟩;have lx:=a2.length;rw[zX]at lx;have B4:=B3.mv s4;have K4:=K3.trans s4.keep;have t4:=t3.trans s4.tups;refine⟨_,rfl,l,_,rfl,.inl (SqL.of gl),_,_,rfl,rfl,_,rfl,ite2 (fun hc=>?_) (fun hc=>?_)⟩
   ·have h60:60<kk+1:=by have:=of_decide_eq_true hc;omega
    refine⟨_,rfl,_,rfl,x,h,p,q,rs,qs,one,other,hs,n,60,rfl,B4,RR,s4 _ _ gh3,hh,by omega,by decide,hf,fun l2 k2 ys H5 gl2 a22 en h5 s5 nl2=>?_,fun t v H5 L5 hne gt hv s5=>?_⟩
    ·exfalso;rcases hk with⟨z1,z2⟩|z
     ·omega
     ·exact L k2 (by omega) en.od en.no
    ·obtain⟨v',hv',pv'⟩:=walk_get (i:=59) (a2.imp (H':=H5) fun _ _ z=>z.mv s5.tups) (by omega);refine⟨_,rfl,l,_,_,_,rfl,rfl,SqL.of (s5 _ _ gl),zo (j:=59) hv',by show 2<=sizeLine;decide,fun t2 ht2=>?_⟩;have s6:=Same.new (o:=.tup [v',V.int 1]) ht2;exact⟨_,_,rfl,too_sm RR hh (by omega) L5 (s6 _ _ gt) z0 (hv.mv s6.tups) (pv'.mv s6.tups),fun H7 s7=>k _ (K4.trans (s5.trans (s6.trans s7)).keep) (t4.trans (s5.trans (s6.trans s7)).tups)⟩
   ·have h60:kk+1<=60:=Nat.le_of_not_lt fun z=>hc (decide_eq_true (by omega));have en:EndAt one other hs kk:=by
     rcases hk with z|z
     ·exact z.1
     ·omega
    obtain⟨M,hM⟩:∃M:Nat,M=1000:=⟨_,rfl⟩;refine⟨_,rfl,_,rfl,x,h,p,q,rs,qs,one,other,hs,n,M,by rw[hM];rfl,B4,RR,s4 _ _ gh3,hh,by omega,by omega,.inr ⟨hf,fun l2 k2 ys H5 gl2 a22 en2 h5 s5 nl2=>?_,fun dx v H5 L5 hne gt hv s5=>(no_end L5 hne en (by omega)).elim⟩⟩;obtain rfl:=en2.uniq en;exact⟨_,rfl,_,_,rfl,walk_sm RR hh (by omega) L (by omega) gl2 (s5 _ _ gl) a22 (a2.imp fun _ _ z=>z.mv s5.tups),fun H7 s7=>k _ (K4.trans (s5.trans s7).keep) (t4.trans (s5.trans s7).tups)⟩
def n_is_walk:List Str:=["sided","rows","heap"]
theorem sc_is_walk:FnScope n_is_walk ["sided","rows"] (z6 s_is_walk):=FS
inductive sp_is_walk(A:Adr)(vs:List V)(H:Hp)(Q:VK)(E:XK):Prop
 |mk (x l p q:Addr) (rs qs:List V) (one other:List (List Int)) (rows:List Plc) (xs:List V):vs=[.ref x,.ref l]->Sided A.w21 H x p q rs qs one other->Rul one other->H l=some (.lst xs)->All2 zC H rows xs->rows.length<=5000->(∀r∈rows,∃n:Int,n<=700/\Hep n r.2.1)->(∀H',Same H H'->Q (.bl (isWB one other rows)) H')->sp_is_walk A vs H Q E
theorem ok_is_walk(T:Txt K mg A):FnOk P w K mg base CX0 9 A.a47 A.f47 ["sided","rows"] (sp_is_walk A):=by
 refine T.x47.F.ok sc_is_walk (by walk_at "n") fun _ _ _ s H vs Q E hr h=>?_
 ·obtain⟨x,l,p,q,rs,qs,one,other,rows,xs,rfl,S,R,gl,a2,hlen,hg,k⟩:=h;refine⟨_,(z5 (zM (zk op_eq (z9 zl rfl T.w6 PySem.boot_len (pa1 (pv 1))) z7 (zw _))
     (z8 (zi pe_bl)) zj)
    (z5 (pset 2 sc_is_walk.nd (pix zN (pix zE (pv 1) z7) z7))
    (z5 (zM (pt_not (zR (pcl (ok_keeps T) hr T.x6 (pa2 (pix zN (pe_meth0 (pv 0) T.w86 T.x7.mt (yJ T) (hr.mono (by decide)) T.x7.b .nil pass0) z7) (pv 2))) (fun _=>rfl)))
     (z8 (zi pe_bl)) zj)
    (z8 (zi (pcm (op_eqL' eqk_place (huR hr)) (pcl (ok_first_places T) hr T.x22 (pa3 (pv 0) (pv 2) (zr yL (z9 zl rfl T.w6 PySem.boot_len (pa1 (pv 1))) z7))) (pv 1))))))),?_⟩
  have lx:=a2.length;have l6:=S.l6;obtain⟨dx,hx⟩:=S.ob;refine⟨_,rfl,l,_,rfl,.inl (SqL.of gl),rfl,_,rfl,ite2 (fun hc=>?_) (fun hc=>?_)⟩
  ·have e:rows=[]:=List.eq_nil_of_length_eq_zero (by have:(xs.length:Int)=0:=V.int.inj (of_decide_eq_true hc);omega);have:=k H (Same.refl _);rw[e,isWB_nil]at this;exact this
  have hpos:0<rows.length:=Nat.pos_of_ne_zero fun z=>hc (decide_eq_true (by rw[<-lx,z];rfl));obtain⟨r,hr⟩:∃r,rows.head? =some r:=by
   cases rows with
   |nil=>cases hpos
   |cons r t=>exact⟨r,rfl⟩
  obtain⟨n,hn,hep⟩:=hg r (List.mem_of_head? hr);obtain⟨v,hv,t,h,c,rfl,g1,g2,g3⟩:=a2.head hr;refine⟨_,rfl,l,_,0,_,rfl,rfl,SqL.of gl,zo (j:=0) hv,t,_,1,_,rfl,rfl,SqT.of g1,zo (j:=1) rfl,?_⟩;refine⟨_,rfl,x,dx,_,rfl,hx,fl2_no _ _ (by decide+kernel) (by decide+kernel),x,dx,p,q,rfl,hx,fun t2 H2 ht2 s2=>?_⟩;refine⟨t2,_,0,_,rfl,rfl,SqT.of ht2,zo (j:=0) rfl,_,rfl,p,h,rs,one,r.2.1,rfl,s2 _ _ S.hp,S.h2.mv s2.tups,s2 _ _ g2,by omega,fun H3 s3=>⟨_,rfl,?_⟩⟩;have s23:=s2.trans s3;cases hf:zD one r.2.1 with
  |some z =>
   refine iteT ?_;have:=k H3 s23;rw[isWB_no hr (by rw[hf];exact fun z=>by cases z)]at this;exact this
  |none =>
   refine iteF ⟨_,rfl,_,rfl,_,rfl,l,_,rfl,.inl (SqL.of (s23 _ _ gl)),_,_,rfl,rfl,x,h,p,q,rs,qs,one,other,r.2.1,n,.int ((xs.length+1:Nat):Int),xs.length+1,rfl,S.mv s23,R,s23 _ _ g2,hep,by omega,.inr rfl,by omega,(fun z=>by cases z),fun l2 k' ys H4 gl2 b2 L _ he s4 nl2=>?_⟩;have s24:=s23.trans s4;refine⟨_,rfl,_,rows,⟨l2,ys,rfl,SqL.of gl2,b2⟩,⟨l,xs,rfl,SqL.of (s24 _ _ gl),a2.imp fun _ _ z=>z.mv s24.tups⟩,?_⟩;have:=k H4 s24;rw[isWB_eq hr hf L (he.imp_right fun z=>by omega)]at this;have e:decide (yr one other r.2.1 k'=rows)=decide (rows=yr one other r.2.1 k'):=by
    by_cases c:rows=yr one other r.2.1 k'
    ·rw[decide_eq_true c,decide_eq_true c.symm]
    ·rw[decide_eq_false c,decide_eq_false fun z=>c z.symm]
   rw[e];exact this
def n__law_left_out:List Str:=["_law_sided","_law_heap_here","_law_told","e"]
theorem yv:FnScope n__law_left_out ["_law_sided","_law_heap_here"] (z6 s__law_left_out):=FS
inductive sp_left_out(A:Adr)(vs:List V)(H:Hp)(Q:VK)(E:XK):Prop
 |mk (x h p q:Addr) (rs qs:List V) (one other:List (List Int)) (hs:List Int) (n:Int):vs=[.ref x,.ref h]->Sided A.w21 H x p q rs qs one other->Rul one other->H h=some (.tup (hs.map V.int))->Hep n hs->n<=700->zD one hs=none->((∀(l:Addr)(k:Nat)(xs:List V)(H':Hp),H' l=some (.lst xs)->All2 zC H' (yr one other hs k) xs->EndAt one other hs k->k+1<=1000->Same H H'->H l=none->Q (.ref l) H'))->((∀(t:Addr)(v:V)(H':Hp),Live one other hs (1000-1)-> ¬EndAt one other hs (1000-1)->H' t=some (.tup [v,.int 1])->zC (wk one other hs (1000-1)) v H'->Same H H'->Q (.ref t) H'))->sp_left_out A vs H Q E
theorem ok__law_left_out(T:Txt K mg A):FnOk P w K mg base CX0 14 A.a48 A.f48 ["_law_sided","_law_heap_here"] (sp_left_out A):=by
 refine T.x48.F.ok yv (by walk_at "n") fun _ _ _ s H vs Q E hr h=>?_
 ·obtain⟨x,h,p,q,rs,qs,one,other,hs,n,rfl,S,R,gh,hh,hn,h0,k,kL⟩:=h;refine⟨_,(z5 (pset 2 yv.nd ym)
    (z5 (ps_tryR (i:=3) (j:=2) rfl rfl (px_callD (ok_walk_of T) (hr.mono (by decide)) rfl T.x24.g T.x24.F.kp T.x24.d (pa2 (pv 0) (pv 1))) rfl T.w28 (fun _=>(z8 (pset 2 yv.nd (zK (pa2 (pe_fldX (K:=K) rfl (pv 3) rfl) z7))))) zj yv.nd rfl rfl rfl (by first|exact Or.inl rfl|exact Or.inr rfl))
    (z8 (zi (pv 2))))),?_⟩
  obtain⟨hp0,hk⟩:=T.kin;obtain⟨M,hM⟩:∃M:Nat,M=1000:=⟨_,rfl⟩;rw[<-hM]at k kL;refine⟨_,rfl,_,rfl,x,h,p,q,rs,qs,one,other,hs,n,M,by rw[hM];rfl,S,R,gh,hh,hn,by omega,.inr ⟨h0,fun l k' xs H1 gl a2 en h4 s1 nl=>⟨_,rfl,k l k' xs H1 gl a2 en h4 s1 nl⟩,fun dx v H1 L hne g1 hv s1=>?_⟩⟩;have hlk:List.lookup ("place" : Str) [(("place" : Str),v)]=some v:=by simp[List.lookup]
  refine⟨_,rfl,Takes.mkG (T.w93.isX hk) (T.w93.isX hk) T.w41,fun e he=>?_⟩;have ne:dx≠e:=fun y=>by rw[y,he]at g1;cases g1
  refine⟨_,rfl,e,A.w12,dx,_,_,rfl,z0,by rw[zh ne];exact g1,T.w95,T.w91,hlk,by show 2<=sizeLine;decide,fun t ht=>?_⟩;have s2:=(Same.new (o:=.ext (IsExcD e (.ref A.w12) (some dx))) he).trans (Same.new (o:=.tup [v,V.int 1]) ht);exact⟨_,rfl,kL t v _ L hne z0 (hv.mv s2.tups) (s1.trans s2)⟩
def n_sum_of:List Str:=["heap"]
theorem sc_sum_of:FnScope n_sum_of ["heap"] (z6 s_sum_of):=FS
inductive sp_sum_of(K:W.Frag)(vs:List V)(H:Hp)(Q:VK)(E:XK):Prop
 |mk (a:Addr) (ns:List Int):vs=[.ref a]->SqT K H a (ns.map V.int)->Q (.int ns.sum) H->sp_sum_of K vs H Q E
theorem ok_sum_of(T:Txt K mg A):FnOk P w K mg base CX0 1 A.a49 A.f49 ["heap"] (sp_sum_of K):=by
 refine T.x49.F.ok sc_sum_of (by walk_at "n") fun _ _ _ s H vs Q E hr h=>?_
 ·obtain⟨a,ns,rfl,hS,k⟩:=h;refine⟨_,(z8 (zi (z9 (call_sum_ints rfl) rfl T.w13 boot_sum (pa1 (pv 0))))),?_⟩;exact⟨_,rfl,a,ns,rfl,.inr hS,k⟩
def n_choices_among:List Str:=["numbers","choices","number"]
theorem yw:FnScope n_choices_among ["numbers"] (z6 yp):=FS
inductive sp_choices(vs:List V)(H:Hp)(Q:VK)(E:XK):Prop
 |mk (a:Addr) (ns:List Int):vs=[.ref a]->H a=some (.lst (ns.map V.int))->ns.length<=6->(∀(l:Addr)(xs:List V)(H':Hp),H' l=some (.lst xs)->All2 Tup1 H' (chG ns) xs->Same H H'->H l=none->Q (.ref l) H')->sp_choices vs H Q E
theorem ok_choices_among(T:Txt K mg A):FnOk P w K mg base CX0 1 A.a50 A.f50 ["numbers"] sp_choices:=by
 refine T.x50.F.ok yw (by walk_at "n") fun _ _ _ s H vs Q E hr h=>?_
 ·obtain⟨a,ns,rfl,ha,hln,k⟩:=h;refine⟨_,(z5 (pset 1 yw.nd (zF (pa1 (zK yt))))
    (z5 (ps_for PassesOwn.never rfl (pi_list (pv 0)) (pgn 2 yw.nd)
     (z8 (pset 1 yw.nd (zr op_cat (pv 1) (yB (ls:=["choice"]) (fr:=[("number",2)]) (csf (z6 yp) n_choices_among) rfl (pi_list (pv 1)) (fun _ _ _ _=>pgc 0 (by decide+kernel) rfl rfl) (fun _ _ _ _=>pf_nil) (fun _ _ _ _=>(zr (op_catAK K rfl) (pvc (z6 yp) 0) (zK (pa1 (pvc (z6 yp) 1))))))))))
    (z8 (zi (pv 1))))),?_⟩
  refine⟨by show 0<=sizeLine;decide,fun e he=>⟨by show 1<=sizeLine;decide,fun l0 hl0=>?_⟩⟩;have ne0:H l0=none:=(Same.new he).free hl0;refine⟨_,rfl,a,rfl,⟨_,SqL.of ((Same.new he).trans (Same.new hl0) _ _ ha)⟩,for_list (xs:=ns.map V.int) (fun i σ' H'=>Same H H'/\i<=6/\ ∃l xs v,σ'=[some (.ref a),some (.ref l),v]/\H' l=some (.lst xs)/\H l=none/\All2 Tup1 H' (chG (ns.take i)) xs) ?_ ?_ ?_ ?_⟩
  ·refine⟨(Same.new he).trans (Same.new hl0),zero_le _,l0,[.ref e],_,rfl,z0,ne0,.cons ⟨e,rfl,?_⟩ .nil⟩;exact Same.new hl0 _ _ z0
  ·rintro i σ' H' _ ⟨s,_⟩;exact SqL.of (s _ _ ha)
  ·rintro i x σ' H' hx ⟨s,hi6,l,xs,v,rfl,gl,nl,h2⟩;obtain⟨z,hz,rfl⟩:=yI hx;have hi:=(List.getElem?_eq_some_iff.mp hz).1;have ez:=(List.getElem?_eq_some_iff.mp hz).2;have hlen:=chG_len i (ns.take i) (by rw[length_take];omega);have hmem:=chG_mem i (ns.take i) (by rw[length_take];omega);have hlx:xs.length<=64:=by
    rw[<-h2.length,hlen];exact le_trans (Nat.pow_le_pow_right (by decide) hi6) (by decide)
   refine⟨_,rfl,_,rfl,l,rfl,⟨_,SqL.of gl⟩,comp_list (xs:=xs) (fun j ys σ' H2=>Same H' H2/\(∃v,σ'=[v,some (.int z)])/\All2 Tup1 H2 (((chG (ns.take i)).take j).map (· ++[z])) ys) ⟨fun _ _ h=>h,⟨_,rfl⟩,.nil⟩ ?_ ?_ ?_⟩
   ·rintro j ys σ' H2 hj ⟨s2,_,h3⟩;refine⟨SqL.of (s2 _ _ gl),?_⟩;rw[<-h3.length,length_map,length_take];refine le_trans (m:=64) (by omega) (by decide)
   ·rintro j x ys σ' H2 hx ⟨s2,⟨v,rfl⟩,h3⟩;obtain⟨hs,hhs,q,rfl,hq⟩:=h2.get hx;have hj:=(List.getElem?_eq_some_iff.mp hhs).1;have eh:=(List.getElem?_eq_some_iff.mp hhs).2;refine⟨_,rfl,_,rfl,by show 1<=sizeLine;decide,fun t ht=>?_⟩;have hl1:hs.length<=60:=by
     have:=(hmem hs (mem_of_getElem? hhs)).1;omega
    refine cat_one (Same.new ht _ _ (s2 _ _ hq)) z0 hl1 fun v H3 hv s3=>?_;have sn:=(Same.new (o:=.tup [V.int z]) ht).trans s3;refine⟨s2.trans sn,⟨_,rfl⟩,?_⟩;rw[take_succ_eq_append_getElem hj,map_append,eh];exact(h3.mv sn.tups).snoc hv
   ·rintro ys σ' H2 ⟨s2,⟨v,rfl⟩,h3⟩ l2 hl2;have et:(chG (ns.take i)).take xs.length=chG (ns.take i):=by rw[<-h2.length,take_length]
    rw[et]at h3;have hly:ys.length<=64:=by
     rw[<-h3.length,length_map,h2.length];exact hlx
    refine⟨l,l2,xs,ys,rfl,rfl,Same.new hl2 _ _ (s2 _ _ gl),z0,le_trans (m:=128) (by omega) (by decide),fun l3 hl3=>?_⟩;have sn:=s2.trans ((Same.new (o:=.lst ys) hl2).trans (Same.new (o:=.lst (xs++ys)) hl3));refine⟨s.trans sn,by omega,l3,xs++ys,_,rfl,z0,(s.trans (s2.trans (Same.new hl2))).free hl3,?_⟩;rw[take_succ_eq_append_getElem hi,ez,chG_snoc];exact(h2.mv sn.tups).append (h3.mv ((Same.new hl2).trans (Same.new hl3)).tups)
  ·rintro σ' H' ⟨s,_,l,xs,v,rfl,gl,nl,h2⟩;rw[length_map,take_length]at h2;exact⟨_,rfl,k l xs H' gl h2 s nl⟩
def n_choices_of:List Str:=["rule"]
theorem sc_choices_of:FnScope n_choices_of ["rule"] (z6 s_choices_of):=FS
inductive sp_choices_of(vs:List V)(H:Hp)(Q:VK)(E:XK):Prop
 |mk (a:Addr) (rs:List V):vs=[.ref a]->H a=some (.tup rs)->rs.length<=6->(∀(l:Addr)(xs:List V)(H':Hp),H' l=some (.lst xs)->All2 Tup1 H' (chG (upto rs.length)) xs->Same H H'->H l=none->Q (.ref l) H')->sp_choices_of vs H Q E
theorem ok_choices_of(T:Txt K mg A):FnOk P w K mg base CX0 2 A.a51 A.f51 ["rule"] sp_choices_of:=by
 refine T.x51.F.ok sc_choices_of (by walk_at "n") fun _ _ _ s H vs Q E hr h=>?_
 ·obtain⟨a,rs,rfl,ha,hln,k⟩:=h;refine⟨_,(z8 (zi (pcl (ok_choices_among T) hr T.x50 (pa1 (zQ (call_list_rng rfl) rfl T.w7 boot_list (pa1 (pe_rng1 rfl T.w10 (pa1 (z9 zl rfl T.w6 PySem.boot_len (pa1 (pv 0))))))))))),?_⟩;refine⟨_,rfl,a,_,rfl,.inr (SqT.of ha),_,rfl,fun r hr'=>⟨r,_,rfl,z0,by omega,by omega,fun l hl=>?_⟩⟩;rw[toNat_natCast];refine⟨l,upto rs.length,rfl,z0,by rw[upto_len];exact hln,fun l2 xs H' gl h2 s nl=>?_⟩;exact k l2 xs H' gl h2 (((Same.new hr').trans (Same.new hl)).trans s) (((Same.new hr').trans (Same.new hl)).free nl)
def n_sums_of:List Str:=["rule"]
theorem sc_sums_of:FnScope n_sums_of ["rule"] (z6 s_sums_of):=FS
def CS(z:List Int×Int)(v:V)(H:Hp):Prop:=∃ q c,v= .ref q/\H q=some (.tup [.ref c,.int z.2])/\H c=some (.tup (z.1.map V.int))
theorem CS.mv{H H':Hp}{z:List Int×Int}{v:V}(t:Tups H H'):CS z v H->CS z v H'
 |⟨q,c,e,h1,h2⟩=>⟨q,c,e,t _ _ h1,t _ _ h2⟩
noncomputable def sumX(rule:List (List Int))(c:List Int):Int:=(yi (zG rule c)).sum
inductive sp_sums_of(vs:List V)(H:Hp)(Q:VK)(E:XK):Prop
 |mk (p:Addr) (rs:List V) (rule:List (List Int)):vs=[.ref p]->H p=some (.tup rs)->All2 Tup1 H rule rs->rule.length<=6->RuleJ rule->(∀(l:Addr)(xs:List V)(H':Hp),H' l=some (.lst xs)->All2 CS H' ((chG (upto rule.length)).map fun c=>(c,sumX rule c)) xs->Same H H'->Q (.ref l) H')->sp_sums_of vs H Q E
theorem ok_sums_of(T:Txt K mg A):FnOk P w K mg base CX0 4 A.a52 A.f52 ["rule"] sp_sums_of:=by
 refine T.x52.F.ok sc_sums_of (by walk_at "n") fun _ _ _ s H vs Q E hr h=>?_
 ·obtain⟨p,rs,rule,rfl,hp,h2,h6,hJ,k⟩:=h;refine⟨_,(z8 (zi (yB (ls:=["choice"]) (fr:=[("rule",0)]) (csf (z6 s_sums_of) n_sums_of) rfl (pi_list (pcl (ok_choices_of T) hr T.x51 (pa1 (pv 0 (hv:=Or.inr (Or.inl rfl)))))) (fun _ _ _ _=>pgc 0 (by decide+kernel) rfl rfl) (fun _ _ _ _=>pf_nil) (fun _ _ _ _=>(zK (pa2 (pvc (z6 s_sums_of) 0) (pe_call (ok_sum_of T) (hr.mono (by decide)) (glc (z6 s_sums_of)) T.x49.g T.x49.F.kp T.x49.b .nil pass0 (pa1 (pe_call (ok_joined_of T) (hr.mono (by decide)) (glc (z6 s_sums_of)) T.x14.g T.x14.F.kp T.x14.b .nil pass0 (pa2 (pvc (z6 s_sums_of) 1) (pvc (z6 s_sums_of) 0))))))))))),?_⟩;have hrl:=h2.length;refine⟨_,rfl,p,rs,rfl,hp,by omega,fun cl cs H1 gc h4 s1 ncl=>?_⟩;rw[<-hrl]at h4;have hcl:=h4.length;have h64:(chG (upto rule.length)).length<=64:=by
   rw[chG_len _ _ (upto_len _)];exact le_trans (Nat.pow_le_pow_right (by decide) h6) (by decide)
  refine⟨cl,rfl,⟨_,SqL.of gc⟩,compK_mapL CS ((chG (upto rule.length)).map fun c=>(c,sumX rule c)) [some (.ref p)] (by rw[length_map];exact hcl) (le_trans (m:=64) (by omega) (by decide)) (fun _ _ _ _ s h=>h.mv s.tups) rfl gc (fun j x b H' P hx hb s' hP=>?_) (fun zs H2 l s2 a2 hl=>?_)⟩
  ·obtain⟨ch,hch,c,rfl,gcc⟩:=h4.get hx;rw[getElem?_map,hch]at hb;have s02:=s1.trans s';obtain⟨cm1,cm2⟩:=chG_mem rule.length (upto rule.length) (upto_len _) ch (mem_of_getElem? hch);have chb:∀j∈ch,0<=j/\j<rule.length:=fun j hj=>by
    have:=upto_mem (cm2 j hj);omega
   refine⟨_,rfl,_,rfl,_,rfl,p,c,rs,rule,ch,rfl,s02 _ _ hp,h2.mv s02.tups,s' _ _ gcc,⟨hJ.pick (by omega),by omega⟩,chb,fun q ms H4 gq hj hl4 s4 nq=>?_⟩;have ej:=joinX_eq hj;refine⟨q,ms,rfl,SqT.of gq,by show 2<=sizeLine;decide,fun T1 hT1=>?_⟩;have s5:=Same.new (o:=.tup [V.ref c,V.int ms.sum]) hT1;refine hP _ _ (s4.trans s5) ?_;rw[<-Option.some.inj hb];refine⟨T1,c,rfl,?_,s5 _ _ (s4 _ _ (s' _ _ gcc))⟩;rw[z0];show _=some (HO.tup [V.ref c,V.int (sumX rule ch)]);unfold sumX;rw[ej]
  ·exact k l zs _ z0 (a2.imp fun _ _ h=>h.mv (Same.new hl).tups) (s1.trans (s2.trans (Same.new hl)))
def n_first_unlike:List Str:=["one","other","row","fellow"]
theorem sc_first_unlike:FnScope n_first_unlike ["one","other"] (z6 s_first_unlike):=FS
inductive sp_first_unlike(vs:List V)(H:Hp)(Q:VK)(E:XK):Prop
 |mk (p q:Addr) (rs qs:List V) (one other:List (List Int)):vs=[.ref p,.ref q]->H p=some (.tup rs)->All2 Tup1 H one rs->H q=some (.tup qs)->All2 Tup1 H other qs->one.length=other.length->one.length<=6->RuleJ one->RuleJ other->(∀c,sumX one c=sumX other c)->(∀H',Same H H'->Q .non H')->sp_first_unlike vs H Q E
theorem ok_first_unlike(T:Txt K mg A):FnOk P w K mg base CX0 5 A.a53 A.f53 ["one","other"] sp_first_unlike:=by
 refine T.x53.F.ok sc_first_unlike (by walk_at "n") fun _ _ _ s H vs Q E hr h=>?_
 ·obtain⟨p,q,rs,qs,one,other,rfl,hp,h2,hq,g2,hl,h6,hJ,hJ2,hm,k⟩:=h;refine⟨_,(z5 (zM (zk op_ne (z9 zl rfl T.w6 PySem.boot_len (pa1 (pv 0))) (z9 zl rfl T.w6 PySem.boot_len (pa1 (pv 1))) (zw _))
     (z8 ps_never) zj)
    (z5 (ps_for PassesOwn.never rfl (pi_zip false false rfl T.w15 (pa2 (pcl (ok_sums_of T) hr T.x52 (pa1 (pv 0))) (pcl (ok_sums_of T) hr T.x52 (pa1 (pv 1))))) (pg_tup rfl (zY (pgn 2 sc_first_unlike.nd) (zY (pgn 3 sc_first_unlike.nd) pgs_nil)))
     (z8 (zM (zk op_ne (pix zN (pv 2) z7) (pix zN (pv 3) z7) (zw _))
     (z8 (zi (zK (pa3 (pix zN (pv 2) z7) (pix zN (pv 2) z7) (pix zN (pv 3) z7))))) zj)))
    (z8 (zi ym)))),?_⟩
  have hrl:=h2.length;have hql:=g2.length;refine⟨_,rfl,p,_,rfl,.inr (SqT.of hp),_,rfl,q,_,rfl,.inr (SqT.of hq),rfl,_,rfl,iteNS (by rw[<-hrl,<-hql,hl]) ?_⟩;refine⟨_,rfl,p,rs,one,rfl,hp,h2,h6,hJ,fun l1 xs H1 gl1 a1 s1=>?_⟩;refine⟨_,rfl,q,qs,other,rfl,s1 _ _ hq,g2.mv s1.tups,by omega,hJ2,fun l2 ys H2 gl2 a2 s2=>?_⟩;rw[<-hl]at a2;have a1:=a1.imp (H':=H2) fun _ _ h=>h.mv s2.tups;have gl1:=s2 _ _ gl1;refine⟨l1,l2,rfl,⟨_,SqL.of gl1⟩,⟨_,SqL.of gl2⟩,for_zip (xs:=xs) (ys:=ys) (fun i σ' H'=>Same H2 H'/\ ∃v w,σ'=[some (.ref p),some (.ref q),v,w]) ⟨Same.refl _,_,_,rfl⟩ ?_ ?_ ?_⟩
  ·rintro i σ' H' _ ⟨s',_⟩;exact⟨SqL.of (s' _ _ gl1),SqL.of (s' _ _ gl2)⟩
  ·rintro i x y σ' H' T' hx hy ⟨s',v,w',rfl⟩ hT;obtain⟨z1,hz1,q1,c1,rfl,e1,f1⟩:=a1.get hx;obtain⟨z2,hz2,q2,c2,rfl,e2,f2⟩:=a2.get hy;rw[getElem?_map]at hz1 hz2;have ez:z1.2=z2.2:=by
    cases hc:(chG (upto one.length))[i]? with
    |none=>rw[hc]at hz1;cases hz1
    |some c =>
     rw[hc]at hz1 hz2;rw[<-Option.some.inj hz1,<-Option.some.inj hz2];exact hm c
   have sT:=Same.new (o:=.tup [V.ref q1,V.ref q2]) hT;have gT:=z0 (H:=H') (a:=T') (o:=.tup [V.ref q1,V.ref q2]);generalize upd H' T' (.tup [V.ref q1,V.ref q2])=H3 at sT gT;have e1':=sT _ _ (s' _ _ e1);have e2':=sT _ _ (s' _ _ e2);refine⟨T',_,rfl,SqT.of gT,rfl,_,_,rfl,_,_,rfl,rfl,?_⟩;refine⟨_,rfl,q1,_,_,_,rfl,rfl,SqT.of e1',zo (j:=1) rfl,_,rfl,q2,_,_,_,rfl,rfl,SqT.of e2',zo (j:=1) rfl,rfl,_,rfl,iteNS (by rw[ez]) ?_⟩;exact⟨s'.trans sT,_,_,rfl⟩
  ·rintro σ' H' ⟨s',v,w',rfl⟩;exact k H' (s1.trans (s2.trans s'))
def n_Beside___init__:List Str:=["self","one","other","unlike"]
theorem sc_Beside___init__:FnScope n_Beside___init__ ["self","one","other"] (z6 s_Beside___init__):=FS
inductive sp_bes_init(A:Adr)(vs:List V)(H:Hp)(Q:VK)(E:XK):Prop
 |mk (x dx p q:Addr) (rs qs:List V) (one other:List (List Int)):vs=[.ref x,.ref p,.ref q]->H x=some (.ins A.w21 dx [])->H p=some (.tup rs)->All2 Tup1 H one rs->H q=some (.tup qs)->All2 Tup1 H other qs->Rul one other->(∀(H':Hp),H' x=some (.ins A.w21 dx (fl2 p q))->(∀b o,H b=some o->b≠x->H' b=some o)->Q .non H')->sp_bes_init A vs H Q E
theorem ok_Beside___init__(T:Txt K mg A):FnOk P w K mg base CX0 6 A.a54 A.f54 ["self","one","other"] (sp_bes_init A):=by
 refine T.x54.F.ok sc_Beside___init__ (by walk_at "n") fun _ _ _ s H vs Q E hr h=>?_
 ·obtain⟨x,dx,p,q,rs,qs,one,other,rfl,hx,hp,h2,hq,g2,R,k⟩:=h;refine⟨_,(z5 (pset 3 sc_Beside___init__.nd (pcl (ok_first_unlike T) hr T.x53 (pa2 (pv 1) (pv 2))))
    (z5 (zM (zk op_notN (pv 3) ym (zw _))
     (z8 ps_never) zj)
    (z5 (ps_fld (pv 0) (pv 1) rfl)
    (z8 (ps_fld (pv 0) (pv 2) rfl))))),?_⟩
  refine⟨_,rfl,_,rfl,p,q,rs,qs,one,other,rfl,hp,h2,hq,g2,R.ln,R.l6,R.j1,R.j2,R.eq,fun H1 s1=>?_⟩;refine⟨_,rfl,rfl,_,rfl,ite2 (fun z=>by simp at z) (fun _=>?_)⟩;refine⟨_,rfl,_,rfl,x,A.w21,dx,[],rfl,s1 _ _ hx,T.w86,T.w88,(by show 0<1000;decide),_,rfl,_,rfl,x,A.w21,dx,_,rfl,z0,T.w86,T.w89,(by show 1<1000;decide),?_⟩;refine k _ z0 fun b o e hb=>?_;rw[zh hb,zh hb];exact s1 _ _ e
def n__law_far:List Str:=["_law_state","_law_many","_law_one","_law_other","_law_part","_law_k","_law_heap_here","_law_rules","_law_sided","_law_due","_law_way","_law_rows"]
theorem zH:FnScope n__law_far ["_law_state"] (z6 s__law_far):=FS
inductive sp_far(A:Adr)(vs:List V)(H:Hp)(Q:VK)(E:XK):Prop
 |mk (st ga ca:Addr) (N:Nat):vs=[.ref st]->StAt H st ga ca N->N<=10^5->(∀H',Q (.bl true) H')->sp_far A vs H Q E
theorem ok__law_far(T:Txt K mg A):FnOk P w K mg base CX0 36 A.a55 A.f55 ["_law_state"] (sp_far A):=by
 refine T.x55.F.ok zH (by walk_at "n") fun _ _ _ s H vs Q E hr h=>?_
 ·obtain⟨st,ga,ca,N,rfl,S,hN,k⟩:=h;refine⟨_,(z5 (pset 1 zH.nd (zr yL z7 (pcl (zq T) hr T.x27 (pa2 (pv 0) z7))))
    (z5 (pset 2 zH.nd (zF yt))
    (z5 (pset 3 zH.nd (zF yt))
    (z5 (pset 4 zH.nd z7)
    (z5 (ps_for PassesOwn.never rfl (pi_range1 rfl T.w10 (pa1 (pv 1))) (pgn 5 zH.nd)
     (z5 (ya (pe_bm PySem.F.plainAttrs_list PySem.F.slot_list_append PySem.F.type_list_append zZ (pv 2) (pa1 (zK (pa2 (pv 4) (pv 4))))))
    (z5 (pset 4 zH.nd (zr op_mul z7 (pv 4)))
    (z8 (ya (pe_bm PySem.F.plainAttrs_list PySem.F.slot_list_append PySem.F.type_list_append zZ (pv 3) (pa1 (zK (pa1 (pv 4))))))))))
    (z5 (pset 6 zH.nd (zr op_repA (zK (pa1 (pv 4))) (zr op_sub (zr yL (zr yM z7 (zr op_sub (pv 4) z7)) (pcl (zq T) hr T.x27 (pa2 (pv 0) z7))) z7)))
    (z5 (pset 7 zH.nd (zK (pa2 (zQ zA rfl T.w14 boot_tuple (pa1 (pv 2))) (zQ zA rfl T.w14 boot_tuple (pa1 (pv 3))))))
    (z5 (zM (zk op_eq (pcl (zq T) hr T.x27 (pa2 (pv 0) z7)) z7 (zw _))
     (z5 (pset 6 zH.nd (zr op_repA (zK (pa1 z7)) (zr yL z7 (pcl (zq T) hr T.x27 (pa2 (pv 0) z7)))))
    (z8 (pset 7 zH.nd (zK (pa2 (zQ zA rfl T.w14 boot_tuple (pa1 (pv 3))) (zQ zA rfl T.w14 boot_tuple (pa1 (pv 2)))))))) zj)
    (z5 (pset 8 zH.nd (pe_make T.w87 (ok_Beside___init__ T) (hr.mono (by decide)) rfl T.w37 T.x54.b .nil pass0 (pa2 (pix zN (pv 7) z7) (pix zN (pv 7) z7))))
    (z5 (pset 9 zH.nd (pcl (ok__law_walk T) hr T.x39 (pa3 (pv 7) (pv 6) z7)))
    (z5 (pset 10 zH.nd (pcl (zq T) hr T.x27 (pa2 (pv 0) z7)))
    (z5 (zM (PW.pt (pw_or (zk op_eq (pv 10) z7 (zw _)) (pw_or1 (zk op_gt (z9 zl rfl T.w6 PySem.boot_len (pa1 (pv 9))) z7 (zw _)))))
     (z8 (zi (pcl (zO T) hr T.x33 (pa2 (pcl (ok__law_left_out T) hr T.x48 (pa2 (pv 8) (pv 6))) (pe_ifExp (zk op_le (z9 zl rfl T.w6 PySem.boot_len (pa1 (pv 9))) z7 (zw _)) (pv 9) (zK (pa2 (pix zE (pv 9) z7) z7))))))) zj)
    (z5 (pset 11 zH.nd (pcl (yE T) hr T.x44 (pa3 (pv 8) (pv 6) (z9 zl rfl T.w6 PySem.boot_len (pa1 (pv 9))))))
    (z5 (zM (pt_not (zR (pcl (zO T) hr T.x33 (pa2 (pv 11) (pv 9))) (fun _=>rfl)))
     (z8 (zi pe_bl)) zj)
    (z5 (zM (zk op_eq (pv 10) z7 (zw _))
     (z8 (zi (pcl (zO T) hr T.x33 (pa2 (pcl (ok_is_walk T) hr T.x47 (pa2 (pv 8) (pv 11))) pe_bl)))) zj)
    (z5 (zM (zk op_eq (pv 10) z7 (zw _))
     (z8 (zi (pcl (zO T) hr T.x33 (pa2 (pcl (ok_is_walk T) hr T.x47 (pa2 (pv 8) (pe_slice sl_list (pv 11) po_none (po_some (pe_un un_neg z7))))) pe_bl)))) zj)
    (z8 (zi (pe_or (pcm op_eq (z9 zl rfl T.w6 PySem.boot_len (pa1 (pv 9))) z7) (pe_one (pcl (zO T) hr T.x33 (pa2 (pcl (yE T) hr T.x44 (pa3 (pv 8) (pv 6) (zr op_sub (z9 zl rfl T.w6 PySem.boot_len (pa1 (pv 9))) z7))) (zK (pa2 (pix zE (pv 9) (pe_un un_neg z7)) z7)))))))))))))))))))))))),?_⟩
  refine cut4 fun nx0 hx0=>?_;refine⟨_,rfl,st,ga,ca,_,4,rfl,S,by omega,by decide,by decide,fun r H1 r0 r1 S1 K1=>⟨_,_,rfl,rfl,?_⟩⟩;obtain⟨m,hm⟩:∃m:Nat,3+r=(m:Int):=⟨(3+r).toNat,by omega⟩;have hm36:3<=m/\m<=6:=by omega
  dsimp only;rw[hm];refine⟨by show 0<=sizeLine;decide,fun oa hoa=>⟨by show 0<=sizeLine;decide,fun ob hob=>?_⟩⟩;have sa:=Same.new (o:=.lst []) hoa;have sb:=Same.new (o:=.lst []) hob;have goa:=sb _ _ (z0 (H:=H1) (a:=oa) (o:=.lst []));have gob:=z0 (H:=upd H1 oa (.lst [])) (a:=ob) (o:=.lst []);have nob:H1 ob=none:=sa.free hob;have nab:oa≠ob:=fun z=>by rw[z,z0]at hob;cases hob
  have s2:=sa.trans sb;generalize upd (upd H1 oa (.lst [])) ob (.lst [])=H2 at sb goa gob s2 ⊢;clear sa sb hob
  try dsimp only[yH,tAsg,tC,yc]
  subst hx0;refine cut1 fun nx1 hx1=>?_;refine⟨_,rfl,_,rfl,by omega,by omega,?_⟩;rw[toNat_natCast];refine for_range (n:=m) (fun i σ' H'=>(∃(xs ys:List V)(v5:Option V),σ'=[some (.ref st),some (.int (m:Int)),some (.ref oa),some (.ref ob),some (.int ((2:Int)^i)),v5,none,none,none,none,none,none]/\H' oa=some (.lst xs)/\H' ob=some (.lst ys)/\All2 Tup1 H' ((List.range i).map fun i=>[(2:Int)^i,(2:Int)^i]) xs/\All2 Tup1 H' ((List.range i).map fun i=>[(2:Int)^(i+1)]) ys)/\Same H1 H') ⟨⟨[],[],_,rfl,goa,gob,.nil,.nil⟩,s2⟩ ?_ ?_
  ·rintro i σ' H' hi ⟨⟨xs,ys,v5,rfl,ga',gb',ax,ay⟩,s⟩;have lx:=ax.length;have ly:=ay.length;rw[length_map,List.length_range]at lx ly;refine⟨_,rfl,.inl ⟨rfl,_,SqL.of ga'⟩,_,rfl,_,rfl,by show 2<=sizeLine;decide,fun t ht=>?_⟩;have st1:=Same.new (o:=.tup [V.int ((2:Int)^i),V.int ((2:Int)^i)]) ht;have gt1:=z0 (H:=H') (a:=t) (o:=.tup [V.int ((2:Int)^i),V.int ((2:Int)^i)]);generalize upd H' t (.tup [V.int ((2:Int)^i),V.int ((2:Int)^i)])=H3 at st1 gt1 ⊢;refine⟨oa,_,_,rfl,rfl,st1 _ _ ga',yj (by omega),?_⟩;have sA:Same H1 (upd H3 oa (.lst (xs++[V.ref t]))):=(s.trans st1).updN hoa;have tA:Tups H3 (upd H3 oa (.lst (xs++[V.ref t]))):=Tups.set (st1 _ _ ga');have gA:=z0 (H:=H3) (a:=oa) (o:=.lst (xs++[V.ref t]));have gB:upd H3 oa (.lst (xs++[V.ref t])) ob=some (.lst ys):=by rw[zh nab.symm];exact st1 _ _ gb'
   have axA:All2 Tup1 (upd H3 oa (.lst (xs++[V.ref t]))) ((List.range (i+1)).map fun i=>[(2:Int)^i,(2:Int)^i]) (xs++[V.ref t]):=by
    rw[List.range_succ,map_append];exact((ax.mv st1.tups).mv tA).snoc ⟨t,rfl,tA _ _ gt1⟩
   have ayA:=(ay.mv st1.tups).mv tA;generalize upd H3 oa (.lst (xs++[V.ref t]))=H4 at sA tA gA gB axA ayA ⊢;refine⟨_,rfl,_,_,rfl,rfl,.inl ⟨by decide,by decide⟩,?_⟩;have ep:(2:Int)*2^i=2^(i+1):=by rw[Int.pow_succ,Int.mul_comm]
   dsimp only;rw[ep];refine⟨_,rfl,.inl ⟨rfl,_,SqL.of gB⟩,_,rfl,by show 1<=sizeLine;decide,fun t2 ht2=>?_⟩;have st2:=Same.new (o:=.tup [V.int ((2:Int)^(i+1))]) ht2;have gt2:=z0 (H:=H4) (a:=t2) (o:=.tup [V.int ((2:Int)^(i+1))]);generalize upd H4 t2 (.tup [V.int ((2:Int)^(i+1))])=H5 at st2 gt2 ⊢;refine⟨ob,_,_,rfl,rfl,st2 _ _ gB,yj (by omega),⟨_,_,_,rfl,by rw[zh nab];exact st2 _ _ gA,z0,?_,?_⟩,(sA.trans st2).updN nob⟩
   ·exact(axA.mv st2.tups).mv (Tups.set (st2 _ _ gB))
   ·rw[List.range_succ,map_append];exact((ayA.mv st2.tups).mv (Tups.set (st2 _ _ gB))).snoc ⟨t2,rfl,Tups.set (st2 _ _ gB) _ _ gt2⟩
  ·rintro σ' H' ⟨⟨xs,ys,v5,rfl,ga',gb',ax,ay⟩,s⟩
   try dsimp only[yH,yc]
   subst hx1;refine cut2 fun nx2 hx2=>?_;have SH:=S1.same s;have px:(1:Int)<=2^m:=pow_pos1 m;have p8:(8:Int)<=2^m/\(2:Int)^m<=64:=by
    have:∀m:Nat,m<7->3<=m->(8:Int)<=2^m/\(2:Int)^m<=64:=by decide
    exact this m (by omega) hm36.1
   refine⟨_,rfl,by show 1<=sizeLine;decide,fun t1 ht1=>?_⟩;have st1:=Same.new (o:=.tup [V.int ((2:Int)^m)]) ht1;have gt1:=z0 (H:=H') (a:=t1) (o:=.tup [V.int ((2:Int)^m)]);generalize upd H' t1 (.tup [V.int ((2:Int)^m)])=H3 at st1 gt1 ⊢;have S3:=SH.same st1;refine⟨_,rfl,_,_,rfl,rfl,_,_,rfl,rfl,⟨by omega,Int.le_trans (show(2:Int)^m-1<=64 by omega) (by decide)⟩,_,rfl,st,ga,ca,_,10,rfl,S3,by omega,by decide,by decide,fun d H4 d0 d1 S4 K4=>⟨_,_,rfl,rfl,_,_,rfl,rfl,?_⟩⟩;obtain⟨KK,hK,K1',K7,K100⟩:=far_rows hm36 ⟨d0,d1⟩;dsimp only;rw[hK];refine rep_any (xs:=[V.int ((2:Int)^m)]) (K4.tups S3 _ _ gt1) (fun z=>by cases z) K1' (by show 1*KK<=100000;omega) fun h H5 s5 gh=>?_;have eh:(replicate KK [V.int ((2:Int)^m)]).flatten=(replicate KK ((2:Int)^m)).map V.int:=by
    rw[List.map_replicate];clear hK K1' K7 K100 gh
    induction KK with
    |zero=>rfl
    |succ n ih=>rw[List.replicate_succ,flatten_cons,ih,List.replicate_succ];rfl
   rw[eh]at gh;have t35:Tups H3 H5:=(K4.tups S3).trans s5.tups;have S5:=S4.same s5;have noa:=S1.nin hoa;have nobb:=S1.nin nob;have ga5:=s5 _ _ (K4.at (st1 _ _ ga') noa);have gb5:=s5 _ _ (K4.at (st1 _ _ gb') nobb);have ax5:=(ax.mv st1.tups).mv t35;have ay5:=(ay.mv st1.tups).mv t35;clear ax ay ga' gb' SH S3 S4 K4 gt1 st1 t35 s5;refine⟨_,rfl,oa,_,rfl,.inl ⟨SqL.of ga5,fun pa hpa=>?_⟩⟩;have s6:=Same.new (o:=.tup xs) hpa;have gpa:=z0 (H:=H5) (a:=pa) (o:=.tup xs);generalize upd H5 pa (.tup xs)=H6 at s6 gpa ⊢;refine⟨_,rfl,ob,_,rfl,.inl ⟨SqL.of (s6 _ _ gb5),fun pb hpb=>?_⟩⟩;have s7:=Same.new (o:=.tup ys) hpb;have gpb:=z0 (H:=H6) (a:=pb) (o:=.tup ys);generalize upd H6 pb (.tup ys)=H7 at s7 gpb ⊢;refine⟨by show 2<=sizeLine;decide,fun R hR0=>?_⟩;have s8:=Same.new (o:=.tup [V.ref pa,V.ref pb]) hR0;have gR:=z0 (H:=H7) (a:=R) (o:=.tup [V.ref pa,V.ref pb]);generalize upd H7 R (.tup [V.ref pa,V.ref pb])=H8 at s8 gR ⊢;have s58:=s6.trans (s7.trans s8);have S8:=S5.same s58;have RA:=far_rul hm36.2;have W8:Two H8 R pa pb xs ys (farA m) (farB m):=⟨gR,(s7.trans s8) _ _ gpa,ax5.mv s58.tups,s8 _ _ gpb,ay5.mv s58.tups,RA.ln,RA.l6,RA.b1,RA.b2⟩;have gh8:=s58 _ _ gh;have ga8:=s58 _ _ ga5;have gb8:=s58 _ _ gb5;clear s58 s6 s7 s8 gR gpa gpb gh ga5 gb5 ax5 ay5 S5
   try dsimp only[yH,yc]
   subst hx2;refine seqJoin (fun σ' HA=>∃(h R p q:Addr)(rs qs:List V)(one other:List (List Int))(hs:List Int)(n:Int),σ'=[some (.ref st),some (.int (m:Int)),some (.ref oa),some (.ref ob),some (.int ((2:Int)^m)),v5,some (.ref h),some (.ref R),none,none,none,none]/\HA h=some (.tup (hs.map V.int))/\Hep n hs/\n<=700/\zD one hs=none/\Rul one other/\Two HA R p q rs qs one other/\StAt HA st ga ca (N+28)) (fun nx hnx=>?_) ?_
   ·refine⟨_,rfl,st,ga,ca,_,2,rfl,S8,by omega,by decide,by decide,fun w H9 w0 w1 S9 K9=>⟨rfl,_,rfl,ite2 (fun _=>?_) (fun _=>hnx _ _ ⟨h,R,pa,pb,xs,ys,farA m,farB m,_,_,rfl,K9.tups S8 _ _ gh8,far_hep KK px,K7,farA_first,RA,W8.mv (K9.tups S8),S9.mono (by omega)⟩)⟩⟩;refine⟨by show 1<=sizeLine;decide,fun t1 ht1=>?_⟩;have st1:=Same.new (o:=.tup [V.int 1]) ht1;have gt1:=z0 (H:=H9) (a:=t1) (o:=.tup [V.int 1]);generalize upd H9 t1 (.tup [V.int 1])=HB at st1 gt1 ⊢;have SB:=S9.same st1;refine⟨_,rfl,st,ga,ca,_,51,rfl,SB,by omega,by decide,by decide,fun e HC e0 e1 SC KC=>⟨_,_,rfl,rfl,?_⟩⟩;obtain⟨J,hJ⟩:∃J:Nat,10+e=(J:Int):=⟨(10+e).toNat,by omega⟩;dsimp only;rw[hJ];refine rep_any (xs:=[V.int 1]) (KC.tups SB _ _ gt1) (fun z=>by cases z) (by omega) (by show 1*J<=100000;omega) fun h' HD sD gh'=>?_;have eh':(replicate J [V.int 1]).flatten=(replicate J (1:Int)).map V.int:=by
     rw[List.map_replicate];clear hJ gh'
     induction J with
     |zero=>rfl
     |succ n ih=>rw[List.replicate_succ,flatten_cons,ih,List.replicate_succ];rfl
    rw[eh']at gh';have t8D:Tups H8 HD:=((K9.tups S8).trans st1.tups).trans ((KC.tups SB).trans sD.tups);have SD:=SC.same sD;have gaD:=sD _ _ (KC.at (st1 _ _ (K9.at ga8 noa)) noa);have gbD:=sD _ _ (KC.at (st1 _ _ (K9.at gb8 nobb)) nobb);have WD:=W8.mv t8D;refine⟨_,rfl,ob,_,rfl,.inl ⟨SqL.of gbD,fun pc hpc=>?_⟩⟩;have s6:=Same.new (o:=.tup ys) hpc;have gpc:=z0 (H:=HD) (a:=pc) (o:=.tup ys);generalize upd HD pc (.tup ys)=HE at s6 gpc ⊢;refine⟨_,rfl,oa,_,rfl,.inl ⟨SqL.of (s6 _ _ gaD),fun pd hpd=>?_⟩⟩;have s7:=Same.new (o:=.tup xs) hpd;have gpd:=z0 (H:=HE) (a:=pd) (o:=.tup xs);generalize upd HE pd (.tup xs)=HF at s7 gpd ⊢;refine⟨by show 2<=sizeLine;decide,fun R2 hR2=>?_⟩;have s8:=Same.new (o:=.tup [V.ref pc,V.ref pd]) hR2;have gR2:=z0 (H:=HF) (a:=R2) (o:=.tup [V.ref pc,V.ref pd]);generalize upd HF R2 (.tup [V.ref pc,V.ref pd])=HG at s8 gR2 ⊢;have sDG:=s6.trans (s7.trans s8);have RB:=RA.swap;exact hnx _ _ ⟨h',R2,pc,pd,ys,xs,farB m,farA m,_,_,rfl,sDG _ _ gh',far_hep J (Int.le_refl 1),by omega,farB_first,RB,⟨gR2,(s7.trans s8) _ _ gpc,WD.g2.mv sDG.tups,s8 _ _ gpd,WD.h2.mv sDG.tups,RB.ln,RB.l6,RB.b1,RB.b2⟩,(SD.same sDG).mono (by omega)⟩
   ·rintro _ HA ⟨h,R,p,q,rs,qs,one,other,hs,n,rfl,gh,hh,hn,hf,RR,W0,SA⟩;clear W8 gh8 ga8 gb8 RA S8 noa nobb hoa nob nab s2 goa gob eh;refine cut2 fun nx3 hx3=>?_;refine⟨_,rfl,R,_,0,_,rfl,rfl,SqT.of W0.at_,zo (j:=0) rfl,_,rfl,R,_,1,_,rfl,rfl,SqT.of W0.at_,zo (j:=1) rfl,fun x dx nx ndx ne=>?_⟩;have sx:Same HA (upd (upd HA dx (.own x)) x (.ins A.w21 dx [])):=(Same.new ndx).trans (Same.new (by rw[zh ne.symm];exact nx));have Wx:=W0.mv sx.tups;refine⟨x,dx,p,q,rs,qs,one,other,rfl,z0,Wx.hp,Wx.h2,Wx.hq,Wx.g2,RR,fun HB hxB hkB=>⟨rfl,?_⟩⟩;have sB:Same HA HB:=fun b o hb=>hkB b o (sx _ _ hb) (fun e=>by rw[e,nx]at hb;cases hb);have WB:=W0.mv sB.tups;have SB:=SA.same sB;have BB:Sided A.w21 HB x p q rs qs one other:=⟨⟨dx,hxB⟩,WB.hp,WB.h2,WB.hq,WB.g2,W0.ln,W0.l6,W0.b1,W0.b2⟩;have nX:=ins_nin SB hxB;have ghB:=sB _ _ gh;clear hkB Wx sx W0 SA sB hxB ne nx ndx gh;refine⟨_,rfl,_,rfl,R,h,p,q,rs,qs,one,other,hs,n,1400,rfl,WB,RR,ghB,hh,hn,by decide,fun l kk xs2 HC gl a2 L hk sC nl=>?_⟩;have lx:=a2.length;rw[zX]at lx;have nl':=SB.nin nl;have SC:=SB.same sC;have BC:=BB.mv sC;have ghC:=sC _ _ ghB;clear SB BB ghB WB sC
    try dsimp only[yH,yc]
    subst hx3;refine⟨_,rfl,st,ga,ca,_,4,rfl,SC,by omega,by decide,by decide,fun way HD w0 w1 SD KD=>?_⟩;have BD:=sided_keep BC SC KD nX;have ghD:=KD.tups SC _ _ ghC;have glD:=KD.at gl nl';have a2D:=a2.imp (H':=HD) fun _ _ z=>z.mv (KD.tups SC);clear SC BC ghC gl a2 SD KD;dsimp only[yH,yc];refine seqJoin (fun σ' H'=>H'=HD/\kk+1<=1400/\ σ'=[some (.ref st),some (.int (m:Int)),some (.ref oa),some (.ref ob),some (.int ((2:Int)^m)),v5,some (.ref h),some (.ref R),some (.ref x),some (.ref l),some (.int way),none]) (fun nx hnx=>?_) ?_
    ·refine' two_ways (fun J=>?main) ?pf
     case main =>
      refine⟨_,rfl,rfl,_,rfl,ite2 (fun _=>iteT J) (fun _=>⟨_,rfl,l,_,rfl,.inl (SqL.of glD),_,_,rfl,rfl,_,rfl,ite2 (fun _=>J) (fun hc=>hnx _ _ ⟨rfl,?_,rfl⟩)⟩)⟩;exact Nat.le_of_not_lt fun z=>hc (decide_eq_true (by omega))
     case pf =>
      refine⟨_,rfl,_,rfl,x,h,p,q,rs,qs,one,other,hs,n,rfl,BD,RR,ghD,hh,hn,hf,fun l2 k2 zs H5 gl2 a22 en h5 s5 nl2=>?_,fun t v H5 L5 hne gt hv s5=>?_⟩
      ·have ek:k2=kk:=by
        rcases hk with⟨z1,_⟩|z
        ·exact en.uniq z1
        ·exact(L k2 (by omega) en.od en.no).elim
       subst ek;refine⟨_,rfl,l,_,rfl,.inl (SqL.of (s5 _ _ glD)),_,_,rfl,rfl,_,rfl,ite2 (fun _=>?_) (fun z=>absurd (decide_eq_true (by omega)) z)⟩;exact⟨_,rfl,_,_,rfl,walk_sm RR hh hn L (by omega) gl2 (s5 _ _ glD) a22 (a2D.imp fun _ _ z=>z.mv s5.tups),fun H7 s7=>k _⟩
      ·obtain⟨u,hu⟩:∃u:Nat,u=1000-1:=⟨_,rfl⟩;rw[<-hu]at L5 hne hv;have ek:u+1<=kk:=by
        rcases hk with⟨z1,z2⟩|z
        ·refine Nat.le_of_not_lt fun z=>?_;by_cases hku:kk=u
         ·rw[hku]at z1;exact hne z1
         ·exact L5 kk (by omega) z1.od z1.no
        ·omega
       obtain⟨v',hv',pv'⟩:=walk_get (i:=u) (a2D.imp (H':=H5) fun _ _ z=>z.mv s5.tups) (by omega);have hat:atI xs2 999=some v':=by rw[show(999:Int)=((u:Nat):Int)by rw[hu];rfl];exact zo hv'
       refine⟨_,rfl,l,_,rfl,.inl (SqL.of (s5 _ _ glD)),_,_,rfl,rfl,_,rfl,ite2 (fun z=>absurd (of_decide_eq_true z) (by omega)) (fun _=>?_)⟩;refine⟨_,rfl,l,_,_,_,rfl,rfl,SqL.of (s5 _ _ glD),hat,by show 2<=sizeLine;decide,fun t2 ht2=>?_⟩;have s6:=Same.new (o:=.tup [v',V.int 1]) ht2;exact⟨_,_,rfl,too_sm RR hh hn L5 (s6 _ _ gt) z0 (hv.mv s6.tups) (pv'.mv s6.tups),fun H7 s7=>k _⟩
    rintro _ _ ⟨rfl,h14,rfl⟩;have en:EndAt one other hs kk:=by
     rcases hk with z|z
     ·exact z.1
     ·omega
    have od:=en.od;have el:(xs2.length:Int)=((kk+1:Nat):Int):=by omega
    refine⟨_,rfl,_,rfl,_,rfl,l,_,rfl,.inl (SqL.of glD),x,h,p,q,rs,qs,one,other,hs,n,kk+1,by rw[el];rfl,BD,RR,ghD,hh,hn,by omega,hf,fun lc kc xc HE glc ac enc hkc sE nlc=>?_,fun t v H5 L5 hne gt hv s5=>(no_end L5 hne en (by omega)).elim⟩;obtain rfl:=enc.uniq en;have glE:=sE _ _ glD;have a2E:=a2D.imp (H':=HE) fun _ _ z=>z.mv sE.tups;dsimp only[yH,yc];refine⟨_,rfl,_,rfl,_,_,rfl,walk_sm RR hh hn L (by omega) glc glE ac a2E,fun HF sF=>⟨_,rfl,iteF ?_⟩⟩;have sDF:=sE.trans sF;have BF:=BD.mv sDF;have glF:=sF _ _ glE;have glcF:=sF _ _ glc;have acF:=ac.imp (H':=HF) fun _ _ z=>z.mv sF.tups;have a2F:=a2E.imp (H':=HF) fun _ _ z=>z.mv sF.tups;have ghF:=sDF _ _ ghD;have lc':=ac.length;rw[zX]at lc';have pr:∀r∈yr one other hs kc,∃n:Int,n<=700/\Hep n r.2.1:=fun r hr=>by
     obtain⟨i,hi,rfl⟩:=mem_map.mp hr;exact⟨n,hn,(wk_ok RR hh i fun j hj=>en.lv j (by have:=mem_range.mp hi;omega)).hep⟩
    have tr1:isWB one other (yr one other hs kc)=true:=@decide_eq_true _ (Classical.propDecidable _) ⟨hs,kc,hf,en,rfl⟩;refine⟨_,rfl,rfl,_,rfl,ite2 (fun _=>?_) (fun _=>?_)⟩
    ·refine⟨_,rfl,_,rfl,x,lc,p,q,rs,qs,one,other,_,_,rfl,BF,RR,glcF,acF,by rw[zX];omega,pr,fun HG sG=>?_⟩;rw[tr1];exact⟨_,_,rfl,.bl _,fun HH sH=>k _⟩
    dsimp only[yH,yc];refine⟨_,rfl,rfl,_,rfl,ite2 (fun _=>?_) (fun _=>?_)⟩
    ·refine⟨_,rfl,_,rfl,?_⟩;dsimp only[tNoPart,tNil];refine⟨_,rfl,_,rfl,lc,_,rfl,SqL.of glcF,fun l3 hl3=>?_⟩;have ec:cutV xc none (some (-2))=xc.take (kc-1):=by
      unfold cutV;have e:HT.sIx xc.length xc.length (some (-2))=kc-1:=by
       show(if(-2:Int)<0 then((-2:Int)+(xc.length:Int)).toNat else min (-2:Int).toNat xc.length)=_;rw[if_pos (by decide)];omega
      rw[e,HT.sIx_none,List.drop_zero,Nat.sub_zero]
     rw[ec];have s3:=Same.new (o:=.lst (xc.take (kc-1))) hl3;have g3:=z0 (H:=HF) (a:=l3) (o:=.lst (xc.take (kc-1)));refine⟨x,l3,p,q,rs,qs,one,other,(yr one other hs kc).take (kc-1),_,rfl,BF.mv s3,RR,g3,(acF.take (kc-1)).imp fun _ _ z=>z.mv s3.tups,by rw[length_take,zX];omega,fun r hr=>pr r (List.mem_of_mem_take hr),fun HG sG=>?_⟩;rw[cut_noW en hf rfl];exact⟨_,_,rfl,.bl _,fun HH sH=>k _⟩
    ·have od2:=en.od;refine⟨_,rfl,l,_,rfl,.inl (SqL.of glF),rfl,_,rfl,ite2 (fun _=>k _) (fun h2=>?_)⟩;have k3:3<=kc:=by
      refine Nat.le_of_not_lt fun z=>h2 (decide_eq_true (congrArg V.int ?_));omega
     have el2:(xs2.length:Int)-1=((kc:Nat):Int):=by omega
     refine⟨_,rfl,_,rfl,_,rfl,l,_,rfl,.inl (SqL.of glF),_,_,rfl,rfl,x,h,p,q,rs,qs,one,other,hs,n,kc,by show [V.ref x,V.ref h,V.int ((xs2.length:Int)-1)]=_;rw[el2],BF,RR,ghF,hh,hn,by omega,hf,fun l2 k2 zs H5 gl2 a22 en2 h5 s5 nl2=>?_,fun t v H5 L5 hne gt hv s5=>?_⟩
     ·exfalso;have:=en2.uniq en;omega
     ·obtain⟨v',hv',pv'⟩:=walk_get (i:=kc-1) (a2F.imp (H':=H5) fun _ _ z=>z.mv s5.tups) (by omega);have hat:atI xs2 (-2)=some v':=by
       unfold atI ixN;rw[if_neg (by decide),if_pos (by omega)];show xs2[_]? =_;rw[show(-2+(xs2.length:Int)).toNat=kc-1 by omega];exact hv'
      refine⟨_,rfl,_,rfl,l,_,_,_,rfl,rfl,SqL.of (s5 _ _ glF),hat,by show 2<=sizeLine;decide,fun t2 ht2=>?_⟩;have s6:=Same.new (o:=.tup [v',V.int 1]) ht2;exact⟨_,_,rfl,too_sm RR hh hn L5 (s6 _ _ gt) z0 (hv.mv s6.tups) (pv'.mv s6.tups),fun H7 s7=>k _⟩
def n_law:List Str:=["_law_script","_law_state","_law_rules","_law_sided","_law_heap_here","_law_limit","_law_number","_law_due","_law_told"]
theorem sc_law:FnScope n_law ["_law_script"] (z6 s_law):=FS
inductive sp_law(K:W.Frag)(vs:List V)(H:Hp)(Q:VK)(E:XK):Prop
 |mk (a:Addr) (ns:List Int):vs=[.ref a]->SqL K H a (ns.map V.int)->ns.length<=63->(∀H',Q (.bl true) H')->sp_law K vs H Q E
theorem ok_law(T:Txt K mg A):FnOk P w K mg base CX0 40 A.a56 A.f56 ["_law_script"] (sp_law K):=by
 refine T.x56.F.ok sc_law (by walk_at "n") fun _ _ _ s H vs Q E hr h=>?_
 ·obtain⟨a,ns,rfl,hS,hl,k⟩:=h;refine⟨_,(z5 (pset 1 sc_law.nd (pcl (ok__law_start T) hr T.x25 (pa1 (pv 0))))
    (z5 (zM (zk op_eq (pcl (zq T) hr T.x27 (pa2 (pv 1) z7)) z7 (zw _))
     (z8 (zi (pcl (ok__law_far T) hr T.x55 (pa1 (pv 1))))) zj)
    (z5 (pset 2 sc_law.nd (pcl (ok__law_matched T) hr T.x32 (pa2 (pv 1) z7)))
    (z5 (pset 3 sc_law.nd (pe_make T.w87 (ok_Beside___init__ T) (hr.mono (by decide)) rfl T.w37 T.x54.b .nil pass0 (pa2 (pix zN (pv 2) z7) (pix zN (pv 2) z7))))
    (z5 (pset 4 sc_law.nd (pcl (ok__law_drawn T) hr T.x43 (pa2 (pv 1) (pix zN (pv 2) z7))))
    (z5 (pset 5 sc_law.nd (zr yL z7 (pcl (zq T) hr T.x27 (pa2 (pv 1) (pix zE (zF (pa3 z7 z7 z7)) (pcl (zq T) hr T.x27 (pa2 (pv 1) z7)))))))
    (z5 (pset 6 sc_law.nd (pcl (yK T) hr T.x29 (pa2 (pix zN (pv 2) z7) (pv 4))))
    (z5 (zM (zk op_notN (pv 6) ym (zw _))
     (z8 (zi (pe_and (pcl (zO T) hr T.x33 (pa2 (pcl (ok__law_not_kept T) hr T.x45 (pa3 (pv 3) (pv 4) (pv 5))) (pv 6))) (pe_one (pcm op_eq (pcl (ok__law_not_kept T) hr T.x45 (pa3 (pv 3) (pv 4) z7)) (pv 6)))))) zj)
    (z5 (pset 7 sc_law.nd (pcl (ok__law_walk T) hr T.x39 (pa3 (pv 2) (pv 4) (pv 5))))
    (z5 (zM (zk op_gt (z9 zl rfl T.w6 PySem.boot_len (pa1 (pv 7))) (pv 5) (zw _))
     (z8 (zi (pcl (zO T) hr T.x33 (pa2 (pcl (yE T) hr T.x44 (pa3 (pv 3) (pv 4) (pv 5))) (zK (pa2 (pix zE (pv 7) (zr op_sub (pv 5) z7)) z7)))))) zj)
    (z5 (zM (PW.pt (pw_or (zk op_ne (pix zN (pix zE (pv 7) (pe_un un_neg z7)) z7) z7 (zw _)) (pw_or1 (zk op_notN (pcl (yK T) hr T.x29 (pa2 (pix zN (pv 2) z7) (pix zN (pix zE (pv 7) (pe_un un_neg z7)) z7))) ym (zw _)))))
     (z8 (zi pe_bl)) zj)
    (z5 (pset 8 sc_law.nd (zF (pa3 (pe_callD (ok_walk_of T) (hr.mono (by decide)) rfl T.x24.g T.x24.F.kp T.x24.d pass01 (pa2 (pv 3) (pv 4))) (pe_callK (ok_walk_of T) (hr.mono (by decide)) rfl T.x24.g T.x24.F.kp T.x24.k pass01 (pa2 (pv 3) (pv 4)) (pk_cons (pv 5) pk_nil)) (pcl (yE T) hr T.x44 (pa3 (pv 3) (pv 4) (z9 zl rfl T.w6 PySem.boot_len (pa1 (pv 7))))))))
    (z5 (zM (pt_not (zR (pcl (zO T) hr T.x33 (pa2 (pv 8) (zF (pa3 (pv 7) (pv 7) (pv 7))))) (fun _=>rfl)))
     (z8 (zi pe_bl)) zj)
    (z5 (ya (pe_bm PySem.F.plainAttrs_list PySem.F.slot_list_append PySem.F.type_list_append zZ (pix zE (pv 8) z7) (pa1 (pix zE (pv 7) z7))))
    (z5 (ya (pe_bm0 PySem.F.plainAttrs_list PySem.F.slot_list_clear PySem.F.type_list_clear mt_clear (pix zE (pv 8) z7)))
    (z5 (zM (pt_not (zR (pcl (ok__law_second T) hr T.x46 (pa3 (pv 1) (pv 3) (pv 2))) (fun _=>rfl)))
     (z8 (zi pe_bl)) zj)
    (z5 (zM (PW.pt (pw_and (zk op_gt (z9 zl rfl T.w6 PySem.boot_len (pa1 (pv 7))) z7 (zw _)) (pw_and1 (pt_not (zR (pcl (zO T) hr T.x33 (pa2 (pcl (yE T) hr T.x44 (pa3 (pv 3) (pv 4) (zr op_sub (z9 zl rfl T.w6 PySem.boot_len (pa1 (pv 7))) z7))) (zK (pa2 (pix zE (pv 7) (pe_un un_neg z7)) z7)))) (fun _=>rfl))))))
     (z8 (zi pe_bl)) zj)
    (z8 (zi (pcl (zO T) hr T.x33 (pa2 (pe_callD (ok_walk_of T) (hr.mono (by decide)) rfl T.x24.g T.x24.F.kp T.x24.d pass01 (pa2 (pv 3) (pv 4))) (pv 7)))))))))))))))))))))),?_⟩
  refine⟨_,rfl,a,ns,rfl,hS,hl,fun st ga ca H1 S1 n1 n2 n3 s1=>?_⟩;dsimp only[yH,yc];refine seqJoin (fun σ' H'=>σ'=[some (.ref a),some (.ref st),none,none,none,none,none,none,none]/\StAt H' st ga ca 7) (fun nx hnx=>?_) ?_
  ·refine⟨_,rfl,st,ga,ca,_,24,rfl,S1,by decide,by decide,by decide,fun r H2 r0 r1 S2 K2=>⟨rfl,_,rfl,ite2 (fun _=>?_) (fun _=>hnx _ _ ⟨rfl,S2⟩)⟩⟩;exact⟨_,rfl,st,ga,ca,_,rfl,S2,by decide,fun H3=>k H3⟩
  rintro _ H2 ⟨rfl,S2⟩;refine cut4 fun nx0 hx0=>?_;refine⟨_,rfl,st,ga,ca,_,6,rfl,S2,by decide,by decide,by decide,fun R p q rs qs one other n H6 hR hp a1 hq a2 mt hn S6 K6=>?_⟩;have RR:Rul one other:=Rul.of mt (by omega);have W0:Two H6 R p q rs qs one other:=⟨hR,hp,a1,hq,a2,RR.ln,RR.l6,RR.b1,RR.b2⟩;refine⟨_,rfl,R,_,0,_,rfl,rfl,SqT.of W0.at_,zo (j:=0) rfl,_,rfl,R,_,1,_,rfl,rfl,SqT.of W0.at_,zo (j:=1) rfl,fun x dx nx ndx ne=>?_⟩;have sx:Same H6 (upd (upd H6 dx (.own x)) x (.ins A.w21 dx [])):=(Same.new ndx).trans (Same.new (by rw[zh ne.symm];exact nx));have Wx:=W0.mv sx.tups;refine⟨x,dx,p,q,rs,qs,one,other,rfl,z0,Wx.hp,Wx.h2,Wx.hq,Wx.g2,RR,fun H7 hx7 hk7=>⟨rfl,?_⟩⟩;have s67:Same H6 H7:=fun b o hb=>hk7 b o (sx _ _ hb) (fun e=>by rw[e,nx]at hb;cases hb);have W7:=W0.mv s67.tups;have S7:=S6.same s67;have B7:Sided A.w21 H7 x p q rs qs one other:=⟨⟨dx,hx7⟩,W7.hp,W7.h2,W7.hq,W7.g2,W0.ln,W0.l6,W0.b1,W0.b2⟩;have nX:=ins_nin S7 hx7;clear hk7 Wx sx W0 K6 S6 hR hp a1 hq a2 s67 hx7 ne nx ndx S2 S1 mt;have l6:=RR.l6;have l6':other.length<=6:=RR.swap.l6;have b1:∀h∈one,h.length<=1000:=fun h hh=>le_trans (RR.b1 h hh).1 (by decide);have b2:∀h∈other,h.length<=1000:=fun h hh=>le_trans (RR.b2 h hh).1 (by decide);refine⟨_,rfl,_,rfl,R,_,0,_,rfl,rfl,SqT.of W7.at_,zo (j:=0) rfl,st,ga,ca,_,p,rs,one,rfl,S7,by decide,W7.hp,W7.h2,by omega,b1,fun h hs n H8 gh hh hn S8 K8=>?_⟩;have W8:=W7.mv (K8.tups S7);have B8:=sided_keep B7 S7 K8 nX;refine⟨_,rfl,by show 3<=sizeLine;decide,fun ll hll=>?_⟩;have sll:=Same.new (o:=.lst [V.int 5,V.int 40,V.int 120]) hll;have gll:=z0 (H:=H8) (a:=ll) (o:=.lst [V.int 5,V.int 40,V.int 120]);have nll:=S8.nin hll;generalize upd H8 ll (.lst [V.int 5,V.int 40,V.int 120])=H9 at sll gll ⊢;have S9:=S8.same sll;refine⟨_,rfl,st,ga,ca,_,3,rfl,S9,by decide,by decide,by decide,fun i3 HA i0 i1 SA KA=>?_⟩;obtain⟨lim,hat,l0,l1⟩:∃lim:Int,atI [V.int 5,V.int 40,V.int 120] i3=some (.int lim)/\0<lim/\lim<=120:=by
   have:i3=0\/i3=1\/i3=2:=by omega
   rcases this with rfl|rfl|rfl
   ·exact⟨5,rfl,by decide,by decide⟩
   ·exact⟨40,rfl,by decide,by decide⟩
   ·exact⟨120,rfl,by decide,by decide⟩
  refine⟨ll,_,_,_,rfl,rfl,SqL.of (KA.at gll nll),hat,st,ga,ca,_,lim,rfl,SA,by decide,l0,Int.le_trans l1 (by decide),fun lr HB r0 r1 SB KB=>⟨_,_,rfl,rfl,?_⟩⟩;obtain⟨M,hM⟩:∃M:Nat,2+lr=(M:Int):=⟨(2+lr).toNat,by omega⟩;have K8B:=sll.keep.trans (KA.trans KB);have tB:=(sll.tups.trans (KA.tups S9)).trans (KB.tups SA);have WB:=W8.mv tB;have BB:=sided_keep B8 S8 K8B nX;have ghB:=tB _ _ gh;have hM2:2<=M/\M<=121:=by omega
  clear gll nll sll hll S9 KA SA KB K8B W8 B8 S8 K8 W7 B7 S7 gh hat;dsimp only[yc];rw[hM];subst hx0;refine cut2 fun nx1 hx1=>?_;refine⟨_,rfl,R,_,0,_,rfl,rfl,SqT.of WB.at_,zo (j:=0) rfl,_,rfl,p,h,rs,one,hs,rfl,WB.hp,WB.h2,ghB,by omega,b1,fun HC sC=>?_⟩;have WC:=WB.mv sC.tups;have BC:=BB.mv sC;have ghC:=sC _ _ ghB;have SC:=SB.same sC;clear WB BB ghB SB tB;dsimp only[yH,yc];cases hf:zD one hs with
  |some z =>
   refine⟨_,rfl,rfl,_,rfl,iteT ?_⟩;refine⟨_,rfl,_,rfl,_,rfl,x,h,p,q,rs,qs,one,other,hs,n,M,z,rfl,BC,RR,ghC,hh,by omega,by omega,hf,fun HD sD=>?_⟩;refine⟨_,rfl,_,_,rfl,.int _,fun HE sE=>⟨_,rfl,iteT ?_⟩⟩;have sCE:=sD.trans sE;exact⟨_,rfl,_,rfl,x,h,p,q,rs,qs,one,other,hs,n,2,z,rfl,BC.mv sCE,RR,sCE _ _ ghC,hh,by omega,by decide,hf,fun HF sF=>⟨_,rfl,rfl,by show Q (V.bl (decide (V.int z=V.int z))) HF;rw[decide_eq_true rfl];exact k _⟩⟩
  |none =>
   refine⟨_,rfl,rfl,_,rfl,iteF ?_⟩
   try dsimp only[yH,yc]
   subst hx1;refine cut2 fun nx2 hx2=>?_;refine⟨_,rfl,_,rfl,_,rfl,R,h,p,q,rs,qs,one,other,hs,n,M,rfl,WC,RR,ghC,hh,by omega,by omega,fun l kk xs HD gl a2 L hk sD nl=>?_⟩;have lx:=a2.length;rw[zX]at lx;have nl':=SC.nin nl;have SD:=SC.same sD;have WD:=WC.mv sD.tups;have BD:=BC.mv sD;have ghD:=sD _ _ ghC;clear SC WC BC ghC sC;refine⟨_,rfl,l,_,rfl,.inl (SqL.of gl),_,rfl,_,_,rfl,rfl,_,rfl,ite2 (fun hc=>?_) (fun hc=>?_)⟩
   ·have hgt:M<kk+1:=by have:=of_decide_eq_true hc;omega
    refine⟨_,rfl,_,rfl,_,rfl,x,h,p,q,rs,qs,one,other,hs,n,M,rfl,BD,RR,ghD,hh,by omega,by omega,hf,fun l2 k2 ys H5 gl2 a22 en h5 s5 nl2=>?_,fun t v H5 L5 hne gt hv s5=>?_⟩
    ·exfalso;rcases hk with⟨z1,z2⟩|z
     ·omega
     ·exact L k2 (by omega) en.od en.no
    ·obtain⟨v',hv',pv'⟩:=walk_get (i:=M-1) (a2.imp (H':=H5) fun _ _ z=>z.mv s5.tups) (by omega);have hat:atI xs ((M:Int)-1)=some v':=by rw[show(M:Int)-1=((M-1:Nat):Int)by omega];exact zo hv'
     refine⟨_,rfl,_,rfl,_,_,rfl,rfl,l,_,_,_,rfl,rfl,SqL.of (s5 _ _ gl),hat,by show 2<=sizeLine;decide,fun t2 ht2=>?_⟩;have s6:=Same.new (o:=.tup [v',V.int 1]) ht2;exact⟨_,_,rfl,too_sm RR hh (by omega) L5 (s6 _ _ gt) z0 (hv.mv s6.tups) (pv'.mv s6.tups),fun H7 s7=>k _⟩
   try dsimp only[yH,yc]
   subst hx2;refine cut1 fun nx3 hx3=>?_;have hle:kk+1<=M:=Nat.le_of_not_lt fun z=>hc (decide_eq_true (by omega));have en:EndAt one other hs kk:=by
    rcases hk with z|z
    ·exact z.1
    ·omega
   obtain⟨ys,vl,rfl,hyl,tl,hl2,cl,rfl,e1,e2,e3⟩:=walk_last a2;obtain⟨sd1,sd2,sd3⟩:=en.side RR hh;rw[sd1]at e1;refine⟨_,rfl,_,rfl,l,_,_,_,rfl,rfl,SqL.of gl,atI_last _ _,tl,_,0,_,rfl,rfl,SqT.of e1,zo (j:=0) rfl,rfl,_,rfl,iteNS rfl ?_⟩;refine⟨_,rfl,R,_,1,_,rfl,rfl,SqT.of WD.at_,zo (j:=1) rfl,_,rfl,_,rfl,l,_,_,_,rfl,rfl,SqL.of gl,atI_last _ _,tl,_,1,_,rfl,rfl,SqT.of e1,zo (j:=1) rfl,q,hl2,qs,other,_,rfl,WD.hq,WD.g2,e2,by omega,b2,fun HE sE=>?_⟩;rw[sd3];refine⟨rfl,_,rfl,iteF ?_⟩
   try dsimp only[yH,yc]
   subst hx3;refine cut4 fun nx4 hx4=>?_;have od:=en.od;have SE:=SD.same sE;have WE:=WD.mv sE.tups;have BE:=BD.mv sE;have ghE:=sE _ _ ghD;have glE:=sE _ _ gl;have a2E:=a2.imp (H':=HE) fun _ _ z=>z.mv sE.tups;clear SD WD BD ghD gl a2 e1 e2 e3 sd2 hk hc;obtain⟨M1,hM1⟩:∃M:Nat,M=1000:=⟨_,rfl⟩
   try dsimp only[yH,yc]
   refine⟨_,rfl,_,rfl,x,h,p,q,rs,qs,one,other,hs,n,M1,by rw[hM1];rfl,BE,RR,ghE,hh,by omega,by omega,.inr ⟨hf,fun la ka xa HF gla aa ena hka sF nla=>?_,fun dx v H5 L5 hne gt hv s5=>(no_end L5 hne en (by omega)).elim⟩⟩;obtain rfl:=ena.uniq en;refine⟨_,rfl,_,rfl,_,rfl,x,h,p,q,rs,qs,one,other,hs,n,M,rfl,BE.mv sF,RR,sF _ _ ghE,hh,by omega,by omega,.inr ⟨hf,fun lb kb xb HG glb ab enb hkb sG nlb=>?_,fun dx v H5 L5 hne gt hv s5=>(no_end L5 hne en (by omega)).elim⟩⟩;obtain rfl:=enb.uniq en;have sEG:=sF.trans sG;have lxG:((ys++[V.ref tl]).length:Int)=((kb+1:Nat):Int):=by rw[<-lx]
   refine⟨_,rfl,_,rfl,_,rfl,l,_,rfl,.inl (SqL.of (sEG _ _ glE)),x,h,p,q,rs,qs,one,other,hs,n,kb+1,by rw[lxG];rfl,BE.mv sEG,RR,sEG _ _ ghE,hh,by omega,by omega,hf,fun lc kc xc HH glc ac enc hkc sH nlc=>?_,fun t v H5 L5 hne gt hv s5=>(no_end L5 hne en (by omega)).elim⟩;obtain rfl:=enc.uniq en;refine⟨by show 3<=sizeLine;decide,fun tt htt=>?_⟩;have sT:=Same.new (o:=.lst [V.ref la,V.ref lb,V.ref lc]) htt;have gT:=z0 (H:=HH) (a:=tt) (o:=.lst [V.ref la,V.ref lb,V.ref lc]);have sHT:=sH.trans sT;have sGT:=sG.trans sHT;have sET:=sF.trans sGT;have nT:HE tt=none:=(sF.trans (sG.trans sH)).free htt;generalize upd HH tt (.lst [V.ref la,V.ref lb,V.ref lc])=HT at sT gT sHT sGT sET ⊢;dsimp only[yH,yc];refine⟨_,rfl,_,rfl,_,rfl,_,rfl,by show 3<=sizeLine;decide,fun dd hdd=>?_⟩;have sD3:=Same.new (o:=.lst [V.ref l,V.ref l,V.ref l]) hdd;have gD3:=z0 (H:=HT) (a:=dd) (o:=.lst [V.ref l,V.ref l,V.ref l]);generalize upd HT dd (.lst [V.ref l,V.ref l,V.ref l])=HU at sD3 gD3 ⊢;have sEU:=sET.trans sD3;have a2U:=a2E.imp (H':=HU) fun _ _ z=>z.mv sEU.tups;have one_sm:∀{f:Addr}{zs:List V},HU f=some (.lst zs)->All2 zC HU (yr one other hs kc) zs->SmG 5 HU (.ref f) (.ref l):=fun hf' az=>walk_sm RR hh (by omega) L (by omega) hf' (sEU _ _ glE) az a2U 1;refine⟨_,_,rfl,SmG.lst (sD3 _ _ gT) gD3 rfl (by show 3<=100000;decide) (fun i y z hy hz=>?_),fun HV sV=>⟨_,rfl,iteF ?_⟩⟩
   ·match i,hy,hz with
    | 0,hy,hz=>cases hy;cases hz;exact one_sm ((sGT.trans sD3) _ _ gla) (aa.imp fun _ _ z=>z.mv (sGT.trans sD3).tups)
    | 1,hy,hz=>cases hy;cases hz;exact one_sm ((sHT.trans sD3) _ _ glb) (ab.imp fun _ _ z=>z.mv (sHT.trans sD3).tups)
    | 2,hy,hz=>cases hy;cases hz;exact one_sm ((sT.trans sD3) _ _ glc) (ac.imp fun _ _ z=>z.mv (sT.trans sD3).tups)
   have sEV:=sEU.trans sV;have gTV:=(sD3.trans sV) _ _ gT;have glaV:=(sGT.trans (sD3.trans sV)) _ _ gla;have glbV:=(sHT.trans (sD3.trans sV)) _ _ glb;obtain⟨v0,hv0,pv0⟩:=walk_get (i:=0) a2E (zero_le _);have lxa:xa.length<sizeLine:=by rw[<-aa.length,zX];exact lt_of_le_of_lt (show kc+1<=1000 by omega) (by decide)
   refine⟨_,rfl,tt,_,0,_,rfl,rfl,SqL.of gTV,zo (j:=0) rfl,.inl ⟨rfl,_,SqL.of glaV⟩,_,rfl,l,_,0,_,rfl,rfl,SqL.of (sEV _ _ glE),zo (j:=0) hv0,la,_,_,rfl,rfl,glaV,lxa,?_⟩;have sW:=sEV.updN (o:=.lst (xa++[v0])) nla;have nab:lb≠la:=fun z=>by rw[z]at nlb;rw[gla]at nlb;cases nlb
   have nta:tt≠la:=fun z=>by rw[z]at htt;rw[(sG.trans sH) _ _ gla]at htt;cases htt
   have ntb:tt≠lb:=fun z=>by rw[z]at htt;rw[sH _ _ glb]at htt;cases htt
   have gTW:upd HV la (.lst (xa++[v0])) tt=some (.lst [V.ref la,V.ref lb,V.ref lc]):=by rw[zh nta];exact gTV
   have glbW:upd HV la (.lst (xa++[v0])) lb=some (.lst xb):=by rw[zh nab];exact glbV
   generalize upd HV la (.lst (xa++[v0]))=HW at sW gTW glbW ⊢;refine⟨_,rfl,tt,_,1,_,rfl,rfl,SqL.of gTW,zo (j:=1) rfl,.inl ⟨rfl,_,SqL.of glbW⟩,lb,_,rfl,rfl,glbW,?_⟩;have sX:=sW.updN (o:=.lst []) (sF.free nlb);generalize upd HW lb (.lst [])=HX at sX ⊢;clear gTW glbW sW
   try dsimp only[yH,yc]
   subst hx4;refine cut1 fun nx5 hx5=>?_;have SX:=SE.same sX;have WX:=WE.mv sX.tups;have BX:=BE.mv sX;refine⟨_,rfl,_,rfl,_,rfl,st,ga,ca,_,x,R,p,q,rs,qs,one,other,rfl,SX,by decide,WX,BX,RR,nX,fun HY KY tY=>⟨_,rfl,iteF ?_⟩⟩;have glY:=KY.at (sX _ _ glE) nl';have BY:=sided_keep BX SX KY nX;have ghY:=tY _ _ (sX _ _ ghE);have a2Y:=a2E.imp (H':=HY) fun _ _ z=>z.mv (sX.tups.trans tY)
   try dsimp only[yH,yc]
   subst hx5;clear SX WX BX sX sEV gTV glaV glbV sEU a2U gD3 sD3 gT sT sHT sGT sET
   try dsimp only[yH,yc]
   refine seqJoin (fun σ' HZ=>σ'=[some (.ref a),some (.ref st),some (.ref R),some (.ref x),some (.ref h),some (.int (M:Int)),some .non,some (.ref l),some (.ref tt)]/\Same HY HZ) (fun nx hnx=>?_) ?_
   ·refine⟨_,rfl,l,_,rfl,.inl (SqL.of glY),_,_,rfl,rfl,_,rfl,ite2 (fun h2=>?_) (fun _=>iteF (hnx _ _ ⟨rfl,Same.refl _⟩))⟩;have h2':2<kc+1:=by have:=of_decide_eq_true h2;omega
    have el:((ys++[V.ref tl]).length:Int)-1=((kc:Nat):Int):=by omega
    refine⟨_,rfl,_,rfl,_,rfl,l,_,rfl,.inl (SqL.of glY),_,_,rfl,rfl,x,h,p,q,rs,qs,one,other,hs,n,kc,by show [V.ref x,V.ref h,V.int (((ys++[V.ref tl]).length:Int)-1)]=_;rw[el],BY,RR,ghY,hh,by omega,by omega,hf,fun l2 k2 zs H5 gl2 a22 en2 h5 s5 nl2=>?_,fun t v H5 L5 hne gt hv s5=>?_⟩
    ·exfalso;have:=en2.uniq en;omega
    ·obtain⟨v',hv',pv'⟩:=walk_get (i:=kc-1) (a2Y.imp (H':=H5) fun _ _ z=>z.mv s5.tups) (by omega);have hat:atI (ys++[V.ref tl]) (-2)=some v':=by
      unfold atI ixN;rw[if_neg (by decide),if_pos (by omega)];show(ys++[V.ref tl])[_]? =_;rw[show(-2+((ys++[V.ref tl]).length:Int)).toNat=kc-1 by omega];exact hv'
     refine⟨_,rfl,_,rfl,l,_,_,_,rfl,rfl,SqL.of (s5 _ _ glY),hat,by show 2<=sizeLine;decide,fun t2 ht2=>?_⟩;have s6:=Same.new (o:=.tup [v',V.int 1]) ht2;refine⟨_,_,rfl,too_sm RR hh (by omega) L5 (s6 _ _ gt) z0 (hv.mv s6.tups) (pv'.mv s6.tups),fun H7 s7=>⟨_,rfl,iteF ?_⟩⟩;exact hnx _ _ ⟨rfl,s5.trans (s6.trans s7)⟩
   ·rintro _ HZ ⟨rfl,sZ⟩;refine⟨_,rfl,_,rfl,x,h,p,q,rs,qs,one,other,hs,n,M1,by rw[hM1];rfl,BY.mv sZ,RR,sZ _ _ ghY,hh,by omega,by omega,.inr ⟨hf,fun l2 k2 zs H5 gl2 a22 en2 h5 s5 nl2=>?_,fun dx v H5 L5 hne gt hv s5=>(no_end L5 hne en (by omega)).elim⟩⟩;obtain rfl:=en2.uniq en;exact⟨_,rfl,_,_,rfl,walk_sm RR hh (by omega) L (by omega) gl2 ((sZ.trans s5) _ _ glY) a22 (a2Y.imp fun _ _ z=>z.mv (sZ.trans s5).tups),fun H7 s7=>k _⟩
end
theorem all_mk{l:W.OpenLaw}{w:World}{K:W.Frag}{mg:Str->Option Value}{fa:Addr}{A:Adr}(hfa:mg "law"=some (.ref fa))(T:Txt K mg A) :
  ∃fd:FuncData,(∀(s:Shared)(v:Value),BindsTo s fd ⟨[v],[]⟩ [("_law_script",v)])/\ ∀base:Heap,K.In base->base.Ns mainGlobals mg->FnOk l.prog w K mg base CX0 40 fa fd ["_law_script"] (sp_law K):=by
 have e:=hfa.symm.trans T.x56.g;cases e;obtain⟨_,_,_,_,_,_,_,_,_,e,_⟩:=T.x56.F.ex;exact⟨A.f56,fun s v=>by rw[e];exact .of_eq rfl,fun base _ _=>ok_law T⟩
theorem walk{l:W.OpenLaw}{q:Program}{loose:List Str}{XP:(Str->Option Value)->Heap->Prop}{YP:World->Heap->Prop}{d:DefRec}{K:Params->W.Frag}(hn:l.most=some 63)(hdf:d.params.defaults=[])(hY:∀(w:World) (h:Heap),YP w h->(K w.params).In h)(F:∀(w:World) (mg:Str->Option Value) (fa:Addr) (h:Heap),(K w.params).In h->h.Ns mainGlobals mg->mg d.name=some (.ref fa)->
   ∃fd:FuncData,(∀(s:Shared) (u:Value),BindsTo s fd ⟨[u],[]⟩ [("_law_script",u)])/\ ∀base:Heap,(K w.params).In base->base.Ns mainGlobals mg->FnOk l.prog w (K w.params) mg base CX0 40 fa fd ["_law_script"] (sp_law (K w.params))) :
  W.WalkO q loose XP YP l.row.toRowW d [] (fun f vs=>PySem.call f vs) :=
 L2.walk_of (n:=63) (k:=40) (x :="_law_script") (CX:=fun _=>CX0) (sp:=fun w=>sp_law (K w.params)) hn (by decide) hdf ⟨fun _=>rfl,by decide,by decide⟩ hY F (fun _ _ a ns hl _ hS=>⟨a,ns,rfl,hS,hl,fun _=>rfl⟩) fun _ _ _ _ _ z=>z
end My
namespace PySem.W.Fast
def Z:=Nat
def tw10475831710046890126:=Z
def tw9692746033767422186:=Z
def tw6853064185147310119:=Z
def tw3304272394236964545:=Z
def tw7795181224642254547:=Z
def tw3507959953330644857:=Z
def tw10060298665080756098:=Z
def tw3103806095461550246:=Z
def tw17022540525169112985:=Z
def tw4377910898457608229:=Z
def tw15683184679430300980:=Z
def tw3926701379281197994:=Z
def tw13617680452751809218:=Z
def tw15443741549682687774:=Z
def tw6361312592785753039:=Z
def tw16473855087634310833:=Z
def tw8170541304497351877:=Z
def tw10351284379953019699:=Z
def tw4281498989556105458:=Z
def tw475730922141881213:=Z
def tw11446302600341365495:=Z
def tw2581545570830154808:=Z
def tw18215955670617021109:=Z
def tw4010473497497121832:=Z
def tw4103577622990004314:=Z
def tw8775960610802292536:=Z
def tw4742754377914432532:=Z
def tw3002690191022852375:=Z
def tw12156285782616648225:=Z
def tw11009775473180008964:=Z
def tw18149826644015219677:=Z
def tw10104993103382018884:=Z
def tw10076179756171500042:=Z
def tw7758825293065830792:=Z
def tw16891908123426943127:=Z
def tw15913703246094079976:=Z
def tw120185881658904315:=Z
def tw1939504826208469077:=Z
def tw10267258768688822443:=Z
def tw14096615622607463978:=Z
def tw2738882998427839918:=Z
def tw11291638808746708754:=Z
def tw6551717876081930608:=Z
def tw11485849450034608455:=Z
def tw5230199970202846969:=Z
def tw2994341416451368923:=Z
def tw18343781123405112778:=Z
def tw16653610869224609775:=Z
def tw12207986716643413492:=Z
def tw17558845450469140715:=Z
def tw7840773187843141747:=Z
def tw6460100221616710426:=Z
def tw16376341832802379056:=Z
def tw4899121880998505920:=Z
def tw5271903848114436215:=Z
def tw12647740700945582503:=Z
def tw11556485769612099406:=Z
def tw1988792114709098124:=Z
def tw12551454803412233106:=Z
def tw17755826705789305500:=Z
def tw9234368045633365490:=Z
def tw11173699995093090896:=Z
def tw17311754048236685268:=Z
def tw14174434862392616579:=Z
def tw5332365300396490092:=Z
def tw10468092502784647302:=Z
def tw10875222772216740424:=Z
def tw10694673387518867955:=Z
def tw7955385086043341157:=Z
def tw17418824426127475792:=Z
def tw9982402428537415349:=Z
def tw632555591414348138:=Z
def tw795311809931946448:=Z
def tw4903664949148160450:=Z
def tw10154581728714073521:=Z
def tw12100758860495577526:=Z
def tw16190534006849219339:=Z
def tw6920018714688543233:=Z
def tw974261475453700968:=Z
def tw16491587930583474578:=Z
def tw2546980366726455447:=Z
def tw5807424587446746860:=Z
def tw4378715711273787237:=Z
def tw5141983472264942918:=Z
def tw6994309125131015022:=Z
def tw1153436996652011397:=Z
def tw9544676305219457109:=Z
def tw14887777846200653610:=Z
def tw11818001911585141913:=Z
def tw1978834649732580428:=Z
def tw9310214948066780283:=Z
def tw14246345187886887009:=Z
def tw10669535936550973348:=Z
def tw1003283427887359988:=Z
def tw15567050962996400699:=Z
def tw3129494585082636997:=Z
def tw5089119949195350792:=Z
def tw15397584603054647600:=Z
def tw3147030530346188052:=Z
def tw1697871550372197404:=Z
def tw8742227650775359135:=Z
def tw8928328932482169916:=Z
def tw13509165235814078597:=Z
def tw2541137382629825273:=Z
def tw9777439956208048499:=Z
def tw17520199995743026069:=Z
def tw10022322837334354755:=Z
def tw628169420443703737:=Z
def tw3071179634719110322:=Z
def tw8419776025309642587:=Z
def tw5450173469960954712:=Z
def tw17755823614436311036:=Z
def tw8914305510018840137:=Z
def tw14540848274603998233:=Z
def tw3603799469893375175:=Z
def tw13305845638641328603:=Z
def tw16768895151465380885:=Z
def tw2967215587575572307:=Z
def tw18294008065051457506:=Z
def tw8545412515667596690:=Z
def tw9776082946156069646:=Z
def tw9197419237967285438:=Z
def tw2558972469218427675:=Z
def tw5444593433825026609:=Z
def tw4410984759378656931:=Z
def tw1228144331986045611:=Z
def tw17087021699323793067:=Z
def tw12896668694879123975:=Z
def tw2506754501014930536:=Z
def tw1622216817449938765:=Z
def tw3560153987359278155:=Z
def tw162981299590531681:=Z
def tw5973615189621026136:=Z
def tw16794541376850240971:=Z
def tw18388864878264614110:=Z
def tw4290670091493098142:=Z
def tw14204521030365225409:=Z
def tw5760194363988228622:=Z
def tw9821841713448419355:=Z
def tw12235200995579462720:=Z
def tw18380879058886515692:=Z
def tw13210264536724366181:=Z
def tw8349654963441855704:=Z
def tw14990585076456444981:=Z
def tw15208293353057556833:=Z
def tw17753669451740562125:=Z
def tw8394252986955385179:=Z
def tw6308476313042985891:=Z
def tw9657438372255553349:=Z
def tw12557418823734944081:=Z
def tw9499894940547877886:=Z
def tw12774938989131379255:=Z
def tw2046586303686380053:=Z
def tw7390035458246856243:=Z
def tw13764298222654501881:=Z
def tw3150438358442634004:=Z
def tw3271349600988228904:=Z
def tw3994175492180173103:=Z
def tw13657073858083259964:=Z
def tw6404749568981634765:=Z
def tw1459408595814660658:=Z
def tw3060455739626379784:=Z
def tw11219054546232707337:=Z
def tw10285113211496886543:=Z
def tw11124992621762772115:=Z
def tw13649148850813428887:=Z
def tw12669904048707123867:=Z
def tw9603102578684737068:=Z
def tw781901912369844441:=Z
def tw9001507209985170963:=Z
def tw7797005089967097521:=Z
def tw6290731315833424926:=Z
def tw2530192340489354419:=Z
def tw14924583911149331527:=Z
def tw4141754589310309291:=Z
def tw1740750780337946564:=Z
def tw9945674306504120539:=Z
def tw6356281457823833776:=Z
def tw3386255960746674790:=Z
def tw5411407365741008002:=Z
def tw11956347118280222474:=Z
def tw2773963581152871514:=Z
def tw2402601912778500657:=Z
def tw13399537347881389500:=Z
def tw7389307867278961650:=Z
def tw8078928082088923701:=Z
def tw17075527990360316758:=Z
def tw7496969555700754199:=Z
def tw16334644748202655752:=Z
def tw11394968899077495123:=Z
def tw1341362675394194009:=Z
def tw2955422196426284161:=Z
def tw6315026730829413874:=Z
def tw4816283377791349327:=Z
def tw5916608134818448908:=Z
def tw13176602623121837968:=Z
def tw11374009010227550112:=Z
def tw10578864112584753952:=Z
def tw11680339351475043516:=Z
def tw4613823098871863750:=Z
def tw3094921189298330956:=Z
def tw17932961098030416157:=Z
def tw1546905293240098811:=Z
def tw8351015520432186145:=Z
def tw109515605634997046:=Z
def tw3083005032759739426:=Z
def tw7919810332140820860:=Z
def tw805776643849452969:=Z
def tw6837768263192099604:=Z
def tw2019179072280167419:=Z
def tw18219904849105447967:=Z
def tw16320666438246789286:=Z
def tw14370382030485503438:=Z
def tw12624773112480265612:=Z
def tw846410590444806215:=Z
def tw11160244000999766228:=Z
def tw12216909159326747167:=Z
def tw4583967630067743168:=Z
def tw17089945688522346117:=Z
def tw12060462577296130443:=Z
def tw5915407527012028376:=Z
def tw5242727073135743474:=Z
def tw3840914871139088505:=Z
def tw17928268972780012443:=Z
def tw11189323706202115253:=Z
def tw1118566308599991009:=Z
def tw16816149896640717043:=Z
def tw2884949740639361078:=Z
def tw2552967353004532415:=Z
def tw9348122950597984226:=Z
def tw15404054036068821010:=Z
def tw7518198945991445433:=Z
def tw1811462945106389115:=Z
def tw14281079692591506094:=Z
def tw8141574398173191308:=Z
def tw13537969196597791548:=Z
def tw9060948001899309811:=Z
def tw2620408550073001093:=Z
def tw10952243724452486635:=Z
def tw16025586604936615832:=Z
def tw7433045692717671242:=Z
def tw9735613009947047476:=Z
def tw13180420971778523578:=Z
def tw13982698992841375491:=Z
def tw11647572446971312835:=Z
def tw12323600428142512683:=Z
def tw5544929349454394488:=Z
def tw2242548408172624801:=Z
def tw13360881098914218743:=Z
def tw2029235343685414108:=Z
def tw11021623896846814666:=Z
def tw7237687781612693105:=Z
def tw9907613196922777495:=Z
def tw15679811055535913746:=Z
def tw2658044059190561239:=Z
def tw107356872161481892:=Z
def tw4143762739195892492:=Z
def tw12737225517235052053:=Z
def tw17609642410809115739:=Z
def tw8347908054840947594:=Z
def tw8320639169349084552:=Z
def tw14759030253945450888:=Z
def tw302235877406923252:=Z
def tw6154039092605379189:=Z
def tw7495512974737962385:=Z
def tw13292549324207925636:=Z
def tw8289379856797518210:=Z
def tw11677032457888611018:=Z
def tw10450102370768056621:=Z
def tw13214568027047762317:=Z
def tw10124352472077464230:=Z
def tw124960381396918074:=Z
def tw13034932171845714245:=Z
def tw11194141947677817809:=Z
def tw11858378494848337563:=Z
def tw12644201878770016239:=Z
def tw18260698062240109283:=Z
def tw14633696007010684510:=Z
def tw2777147423422314457:=Z
def tw2751760860341182913:=Z
def tw5081598432264521789:=Z
def tw8465386514207444811:=Z
def tw13844839055491923345:=Z
def tw2741454376547244047:=Z
def tw5891837206948544481:=Z
def tw4936599559485194045:=Z
def tw5930712730444872298:=Z
def tw269383489551833340:=Z
def tw6892667313629592348:=Z
def tw705891892139937342:=Z
def tw12079724971590977983:=Z
def tw11665946832743136886:=Z
def tw4351254588718877207:=Z
def tw3292583918824959928:=Z
def tw11833279433256702633:=Z
def tw6689379943171082426:=Z
def tw8807015975783267604:=Z
def tw8070101710909495119:=Z
def tw1550586655671788039:=Z
def tw12857254617075591071:=Z
def tw14118349722103791762:=Z
def tw3377205205482913759:=Z
def tw18418497318186057880:=Z
def tw12103713591745982027:=Z
def tw15000358551251759775:=Z
def tw3704047676099363137:=Z
def tw3026496246530729536:=Z
def tw14977459513898471370:=Z
def tw15016643453975452538:=Z
def tw6902023170054749997:=Z
def tw12703918677801430069:=Z
def tw10600818191465676871:=Z
def tw7127498653366973725:=Z
def tw14595534698224203161:=Z
def tw8927838241297568609:=Z
def tw8467493698410174883:=Z
def tw12827618035705458859:=Z
def tw2459081795042792466:=Z
def tw14100797549585561787:=Z
def tw1449617839108863535:=Z
def tw14122357734480126227:=Z
def tw1730579662353154248:=Z
def tw15982772045785102935:=Z
def tw6204299787708059938:=Z
def tw3818119075698735805:=Z
def tw7884653295099602318:=Z
def tw3149213610937208328:=Z
def tw17923253874446892613:=Z
def tw14204051251462008591:=Z
def tw4287412752047354109:=Z
def tw17757572087392433945:=Z
def tw13239362323206229471:=Z
def tw18304495886706420567:=Z
def tw3224222300657829737:=Z
def tw11872160810374426068:=Z
def tw14775072659281042406:=Z
def tw677954805218226719:=Z
def tw10490569613521381470:=Z
def tw11369939953761232480:=Z
def tw3717931600734952316:=Z
def tw2304360394653353218:=Z
def tw5947002271293661571:=Z
def tw6537278572616077581:=Z
def tw11078775260984487100:=Z
def tw10692701305439125911:=Z
def tw14292498315208356337:=Z
def tw6206417604987553297:=Z
def tw12391395691373336720:=Z
def tw340804874263811090:=Z
def tw3504473866613624430:=Z
def tw3340987846817740773:=Z
def tw13986009109595892059:=Z
def tw7500915934158604306:=Z
def tw9753855271779753856:=Z
def tw3956728521185979165:=Z
def tw6338577468932337440:=Z
def tw8117136606808856233:=Z
def tw16076354350774380304:=Z
def tw7187334520076955702:=Z
def tw12488699940788134048:=Z
def tw18116756102308531991:=Z
def tw616057848315490623:=Z
def tw16776934116408010117:=Z
def tw11628810789280575129:=Z
def tw6460267323716738613:=Z
def tw17370269649487593247:=Z
def tw4065769769744912825:=Z
def tw10102034623889359809:=Z
def tw15933299248792745116:=Z
def tw3920304531727866619:=Z
def tw13531815020292794893:=Z
def tw16731069743477295887:=Z
def tw15398247664366147876:=Z
def tw12543811334658280396:=Z
def tw8821143050300319216:=Z
def tw1334840384258394070:=Z
def tw10994053584248232400:=Z
def tw11339173295259593837:=Z
def tw4407561792993595495:=Z
def tw3547965323941992038:=Z
def tw3415915456264529287:=Z
def tw18013059363545092237:=Z
def tw3302880310135650352:=Z
def tw16170786836998823920:=Z
def tw4252005227790094948:=Z
def tw72782359784848934:=Z
def tw8190391185774835909:=Z
def tw4608591756189388064:=Z
def tw4887688433292818054:=Z
def tw5623113122791615190:=Z
def tw979683066029593809:=Z
def tw6638422600995528994:=Z
def tw16353423291313811043:=Z
def tw1357801161459038249:=Z
def tw9437072008798067706:=Z
def tw15176515348236880621:=Z
def tw14955864120623303208:=Z
def tw17000295148320856680:=Z
def tw6634497157396758657:=Z
def tw2985576169938078199:=Z
def tw8059092699073755402:=Z
def tw4233783295172293477:=Z
def tw8392358279595422010:=Z
def tw1354291494898590356:=Z
def tw13639306024258582106:=Z
end PySem.W.Fast
open PySem PySem.W PyProof.Rows
set_option maxRecDepth 100000 in
set_option maxHeartbeats 0 in
theorem PySem.Challenge.cw_shutpairs_k28_the_walk_holds : PySem.Challenge.rw_shutpairs_k28_the_walk.Holds := by
 w_on;o_law;k_head;(case hw=>w_witness2)
 k_fill
 refine My.walk (l:=PySem.Challenge.rw_shutpairs_k28_the_walk) rfl rfl (fun w h Y=>W.kIn_of Y) ?F
 case F =>
  intro w mg fa h KX G hmg;apply My.all_mk (A:=⟨_,_,_,_,_,_,_,_,_,_,_,_,_,_,_,_,_,_,_,_,_,_,_,_,_,_,_,_,_,_,_,_,_,_,_,_,_,_,_,_,_,_,_,_,_,_,_,_,_,_,_,_,_,_,_,_,_,_,_,_,_,_,_,_,_,_,_,_,_,_,_,_,_,_,_,_,_,_,_,_,_,_,_,_,_,_,_,_,_,_,_,_,_,_,_,_,_,_,_,_,_,_,_,_,_,_,_,_,_,_,_,_,_,_,_,_,_,_,_,_,_,_,_,_,_,_,_,_,_,_,_,_,_,_,_,_⟩) hmg;constructor
  all_goals try dsimp only
  iterate 21 (refine' L2.FB.of KX G ?n ?l ?c ?k ?b;(case n=>k_is);(case l=>k_is);(case c=>k_is);(case k=>k_is);(case b=>(intro _ _ _ _ _ _;(repeat intro _);exact rfl)))
  (refine' L2.FBE.of KX G ?n ?l ?lt ?c ?k ?b ?d ?e;(case n=>k_is);(case l=>k_is);(case lt=>k_is);(case c=>k_is);(case k=>k_is);(case b=>(intro _ hg _ _ _;refine' BindsTo.of_defaults rfl hg rfl ?hy ?hz;(case hy=>exact rfl);(case hz=>exact rfl)));(case d=>(intro _ hg _ _;refine' BindsTo.of_defaults rfl hg rfl ?hy ?hz;(case hy=>exact rfl);(case hz=>exact rfl)));(case e=>(intro _ hg _ _ _;refine' BindsTo.of_defaults rfl hg rfl ?hy ?hz;(case hy=>exact rfl);(case hz=>exact rfl))))
  iterate 31 (refine' L2.FB.of KX G ?n ?l ?c ?k ?b;(case n=>k_is);(case l=>k_is);(case c=>k_is);(case k=>k_is);(case b=>(intro _ _ _ _ _ _;(repeat intro _);exact rfl)))
  iterate 16 (refine' W.mg_none_of KX G ?z;(case z=>k_is))
  (exact⟨_,KX⟩)
  iterate 22 (refine' W.mg_of KX G ?z;(case z=>k_is))
  iterate 2 (constructor <;>k_is)
  iterate 2 (k_is)
  iterate 44 (kit_is)
  iterate 4 (refine' L2.MB.of ?n ?i ?l ?c ?k ?b;(case n=>k_is);(case i=>k_is);(case l=>k_is);(case c=>k_is);(case k=>k_is);(case b=>(intro _ _ _ _ _ _;(repeat intro _);exact rfl)))
  iterate 2 (constructor <;>k_is)
  iterate 4 (unfold L2.NoAttr;k_is)
  iterate 2 (constructor <;>first|k_is|(unfold L2.NoAttr;k_is)|kernel_rfl)
  iterate 2 (constructor <;>first|k_is|kernel_rfl)
