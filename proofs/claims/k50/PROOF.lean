import PyProof.Rows.All
import Wide.All
import OpenK.AllK
import Wide.FinOn
import PyProof.EqAt
import PyProof.EqKinds
import PyProof.TupleCall
import PyProof.NeKinds
import PyProof.StrLawsTight
import PyProof.ExcClass3
import PyProof.StationsW
import PyProof.ExcBaseAll.ValueError
import PyProof.NsDelKeeps
import PyProof.RulesAs
import PyProof.ExcArgsOwn
import PyProof.ExcAttrAll.ValueError
import PyProof.ZipIter
import PyProof.ListMulRoad
import KE.KDictSum
import PyProof.ListRange
import PyProof.Draws
import PyProof.EnumMake
import PyProof.Rows.Range3
import PyProof.Rows.SortShell
import PyProof.Conv_int_bool
import PyProof.Rows.SetFrom
import PyProof.Rows.SetObj
import PyProof.WalksMore
import KE.IntBitsLaws
import KE.KRevSl
import PyProof.FitsBits
import PyProof.CollectIter
import PyProof.IsRules
import PyProof.AttrMissHeap
import PyProof.WalksS
import KE.KDictOf
import PyProof.PureStr
import PyProof.StrOps2
import PyProof.SliceStr2
import PyProof.StrBlockI
import PyProof.CompFree
import PyProof.Rows.StrSplitJoin
import PyProof.StrCalls6
import PyProof.ConsumeWalk
import PyProof.StrLawsReplace
import PyProof.DictItems
import PyProof.Rows.SortRuns
import KE.KFind
import PyProof.Rows.StrSplitMax
import PyProof.Rows.SortStr
import Lean
import PySem.Challenge.RW_shutpairs_k50_whole_desk
set_option compiler.extract_closed false
local macro_rules | `(tactic| omega)=>`(tactic| first | lia | omega (config:={}))
set_option Elab.async false
set_option linter.all false
set_option maxRecDepth 100000
open List (length_map mem_cons map_cons size_toArray mem_map length_cons mem_cons_of_mem replicate getElem?_map length_append length_take take_length mem_of_getElem? mem_cons_self map_append getElem?_eq_getElem mem_append take_succ_eq_append_getElem mem_append_right all_eq_true mem_range take_of_length_le map_map getD_eq_getElem?_getD append_nil not_mem_nil length_drop mem_filter length find?_cons filter_cons all_map any_cons filterMap_cons nodup_cons flatten_cons append_assoc pairwise_cons take_succ drop_zero drop_eq_getElem_cons getElem_mem)
open Nat (le_trans le_refl ne_of_lt zero_le lt_of_lt_of_le lt_irrefl le_succ lt_succ_of_lt lt_of_le_of_lt)
open Bool (and_eq_true false_eq_true)
open Option (map_eq_some_iff)
open Int (toNat_natCast le_of_lt)
namespace L2
open PySem PySem.Spec PyProof.Rows
abbrev Key:=Sum Int Str
def xD:Key->Value->Bool
 | .inl k,v=>Value.isInt k v
 | .inr x,v=>Value.isStrOf x v
def keyH(w:World):Key->Int
 | .inl k=>hashInt k
 | .inr x=>hashStr w x
theorem zP:∀{k:Key}{v:Value},xD k v=true->(∃i t,k=Sum.inl i/\v=Value.int i t)\/(∃x t,k=Sum.inr x/\v=Value.str x t)
 | .inl i,v,h=>by
  obtain⟨t,e⟩:=Value.isInt_shape (k:=i) (v:=v) h;exact .inl ⟨i,t,rfl,e⟩
 | .inr x,v,h=>by
  obtain⟨t,e⟩:=Value.isStrOf_shape (x:=x) (v:=v) h;exact .inr ⟨x,t,rfl,e⟩
theorem keyIs_int(i:Int)(t:Tok):xD (.inl i) (.int i t)=true:=by simp[xD,Value.isInt]
theorem pG(x:Str)(t:Tok):xD (.inr x) (.str x t)=true:=by simp[xD,Value.isStrOf]
theorem key_ll(a b:Int):decide ((Sum.inl a:Key)=Sum.inl b)=(a==b):=by
 by_cases e:a=b
 ·subst e;simp
 ·have h:¬(Sum.inl a:Key)=Sum.inl b:=fun q=>e (Sum.inl.inj q);rw[decide_eq_false h];exact(beq_eq_false_iff_ne.mpr e).symm
theorem key_rr(a b:Str):decide ((Sum.inr a:Key)=Sum.inr b)=decide (a=b):=by
 by_cases e:a=b
 ·subst e;simp
 ·have h:¬(Sum.inr a:Key)=Sum.inr b:=fun q=>e (Sum.inr.inj q);rw[decide_eq_false h,decide_eq_false e]
theorem key_lr(a:Int)(b:Str):decide ((Sum.inl a:Key)=Sum.inr b)=false:=decide_eq_false (fun q=>nomatch q)
theorem key_rl(a:Str)(b:Int):decide ((Sum.inr a:Key)=Sum.inl b)=false:=decide_eq_false (fun q=>nomatch q)
def zW(prog:Program)(w:World):PySem.KeyKind prog w Key where
 is:=xD
 hash:=keyH w
 inj:=fun v a b ha hb=>by
  rcases zP ha with⟨i,t,rfl,rfl⟩|⟨x,t,rfl,rfl⟩
  ·rcases zP hb with⟨j,u,rfl,e⟩|⟨y,u,rfl,e⟩
   ·injection e with e1 _;rw[e1]
   ·exact nomatch e
  ·rcases zP hb with⟨j,u,rfl,e⟩|⟨y,u,rfl,e⟩
   ·exact nomatch e
   ·injection e with e1 _;rw[e1]
 byValue:=fun k v h=>by
  rcases zP h with⟨i,t,rfl,rfl⟩|⟨x,t,rfl,rfl⟩ <;>rfl
 pyHash:=fun hv h=>by
  rcases zP hv with⟨i,t,rfl,rfl⟩|⟨x,t,rfl,rfl⟩
  ·exact wpAny_pyHash_int h
  ·exact wpAny_pyHash_str h
 eqBool:=fun hu hv h=>by
  rcases zP hu with⟨i,t,rfl,rfl⟩|⟨x,t,rfl,rfl⟩
  ·rcases zP hv with⟨j,u,rfl,rfl⟩|⟨y,u,rfl,rfl⟩
   ·rw[key_ll]at h;exact wpAny_eqBool_int h
   ·rw[key_lr]at h;exact SeqAt.EqAt.int_str i t y u _ _ _ _ h
  ·rcases zP hv with⟨j,u,rfl,rfl⟩|⟨y,u,rfl,rfl⟩
   ·rw[key_rl]at h;exact SeqAt.EqAt.str_int x t j u _ _ _ _ h
   ·rw[key_rr]at h;exact wpAny_eqBool_str h
 «strs»:=fun k x t v h=>by
  rcases zP h with⟨i,u,rfl,e⟩|⟨y,u,rfl,e⟩
  ·exact nomatch e
  ·injection e with e1 _
   subst e1;cases v <;>rfl
theorem dU(prog:Program)(w:World)(i:Int)(t:Tok):(zW prog w).is (.inl i) (.int i t)=true:=keyIs_int i t
theorem dW(prog:Program)(w:World)(x:Str)(t:Tok):(zW prog w).is (.inr x) (.str x t)=true:=pG x t
inductive V where
 |non|bl (b:Bool)|int (i:Int)|str (x:Str)|byt (b:Array UInt8)|flt (b:UInt64)|ref (a:Addr)|ty (n:String)
 deriving DecidableEq
def RelV:V->Value->Prop
 | .non,u=>u=Value.none
 | .bl b,u=>u=Value.bool b
 | .int i,u=>∃ t,u=Value.int i t
 | .str x,u=>∃ t,u=Value.str x t
 | .byt b,u=>∃ t,u=Value.bytes b t
 | .flt b,u=>∃ t,u=Value.float b t
 | .ref a,u=>u=Value.ref a
 | .ty n,u=>u=Value.type n
abbrev Vals:List V->List Value->Prop:=Paired RelV
theorem Vals.length{xs:List V}{us:List Value}(r:Vals xs us):xs.length=us.length:=Paired.length r
theorem Vals.get:∀{xs:List V}{us:List Value}{i:Nat}{x:V},Vals xs us->xs[i]? =some x-> ∃u,us[i]? =some u/\RelV x u
 | _,_,_,_,.nil,e=>by simp at e
 | _,_,0,_,.cons r _,e=>by simp at e;subst e;exact⟨_,rfl,r⟩
 | _,_,i+1,x,.cons _ t,e=>by
  obtain⟨u,h1,h2⟩:=Vals.get (i:=i) (x:=x) t (by simpa using e);exact⟨u,by simpa using h1,h2⟩
theorem Vals.set{x:V}{u:Value}(r:RelV x u):∀{xs:List V}{us:List Value}(i:Nat),Vals xs us->Vals (xs.set i x) (us.set i u)
 | _,_,_,.nil=>.nil
 | _,_,0,.cons _ t=>.cons r t
 | _,_,i+1,.cons q t=>.cons q (Vals.set r i t)
theorem Vals.append:∀{xs ys:List V}{us ws:List Value},Vals xs us->Vals ys ws->Vals (xs++ys) (us++ws)
 | _,_,_,_,.nil,s=>s
 | _,_,_,_,.cons r t,s=>.cons r (Vals.append t s)
theorem Vals.take:∀{xs:List V}{us:List Value}(n:Nat),Vals xs us->Vals (xs.take n) (us.take n)
 | _,_,0,_=>.nil
 | _,_,_+1,.nil=>.nil
 | _,_,n+1,.cons r t=>.cons r (Vals.take n t)
theorem Vals.drop:∀{xs:List V}{us:List Value}(n:Nat),Vals xs us->Vals (xs.drop n) (us.drop n)
 | _,_,0,r=>r
 | _,_,_+1,.nil=>.nil
 | _,_,n+1,.cons _ t=>Vals.drop n t
def RelO:Option V->Option Value->Prop
 |some v,some u=>RelV v u
 |none,none=>True
 | _,_=>False
def KV{κ:Type}:List (κ×V)->List (κ×Value)->Prop:=Paired fun(p:κ×V)(q:κ×Value)=>p.1=q.1/\RelV p.2 q.2
def kV:Key->V
 | .inl i=>.int i
 | .inr x=>.str x
inductive HO where
  |lst (xs:List V)
  |tup (xs:List V)
  |dK (kvs:List (Key×V))|dT (kvs:List (List Key×V))
  |set (S:Int->Bool) (n:Nat)
  |ins (C dx:Addr) (fs:List (Str×V))
  |own (x:Addr)
  |xd (fs:List (Str×V))
  |met (f x:Addr)
  |rng (lo hi:Int)
  |frz (o:Obj) (u:HO)
  |tbl (ps:Array Value)
  |ext (φ:Heap->Prop)
abbrev Hp:=Addr->Option HO
def upd(H:Hp)(a:Addr)(o:HO):Hp:=fun b=>if b=a then some o else H b
theorem z6{H:Hp}{a:Addr}{o:HO}:upd H a o a=some o:=by unfold upd;rw[if_pos rfl]
theorem zh{H:Hp}{a b:Addr}{o:HO}(h:b≠a):upd H a o b=H b:=by unfold upd;rw[if_neg h]
theorem upd_upd{H:Hp}{a:Addr}{o u:HO}:upd (upd H a o) a u=upd H a u:=by
 funext b;unfold upd;split <;>rfl
theorem jc{H:Hp}{a b:Addr}{o u:HO}(h:H a=some o)(h':H b=some u)(d:o≠u):a≠b:=by
 intro e;subst e;rw[h]at h';exact d (Option.some.inj h')
theorem zr{H:Hp}{a b:Addr}{o:HO}(h:H a=some o)(h':H b=none):a≠b:=by
 intro e;subst e;rw[h]at h';cases h'
section
variable(P:Program)(w:World)
def zU(H:Hp)(h:Heap)(a:Addr):HO->Prop
 | .lst xs=>xs.length<=sizeLine/\ ∃(its:List Value)(n:Nat),Vals xs its/\h.get? a=some {cls:=.type "list",data:=.seq its.toArray n}
 | .tup xs=>xs.length<=sizeLine/\ ∃its:List Value,Vals xs its/\IsTup h a its.toArray/\ ∀o,h.get? a=some o->o.dict=none
 | .dK kvs=>kvs.length<=sizeLine/\(a==sysModules)=false/\ ∃vs,KV kvs vs/\h.DictOf (zW P w) a vs
 | .dT kvs=>kvs.length<=sizeLine/\(a==sysModules)=false/\ ∃xs:List (List Key×Addr×Value),
   Paired (fun(p:List Key×V)(q:List Key×Addr×Value)=>p.1=q.1/\H q.2.1=some (.tup (p.1.map kV))/\RelV p.2 q.2.2) kvs xs/\
   ∃o es ep,h.get? a=some o/\o.ExactDict/\o.data= .dict es ep/\es.toList=xs.map (entryOfKey (tupleKind (zW P w)))/\(xs.map (·.1)).Nodup
 | .set S n=>h.SetOf (intKind P w) a S n
 | .ins C dx fs=>H dx=some (.own a)/\fs.length<=1000/\dx≠a/\h.get? a=some (W.instObj C dx)/\
   ∃mA,h.Ns1 dx mA/\(∀f,RelO (fs.lookup f) (mA f))/\PySem.Within mA (fs.map (·.1))
 | .own _=>∃ o,h.get? a=some o
 | .xd fs=>∃ mA,h.Ns1 a mA/\ ∀f,RelO (fs.lookup f) (mA f)
 | .rng lo hi=>∃ t u v,h.get? a=some {cls:=.type "range",data:=.fields #[.int lo t,.int hi u,.int 1 v]}
 | .frz o u=>h.get? a=some o/\zU H h a u
 | .tbl ps=>h.get? a=some {cls:=.none,data:=.fields ps}
 | .met f x=>h.get? a=some (W.methodObj (.ref f) (.ref x))
 | .ext φ=>φ h/\(∃o,h.get? a=some o)/\ ∀h1 h2:Heap,φ h1->(∀o,h1.get? a=some o->h2.get? a=some o)-> φ h2
theorem jy{h:Heap}{its:Array Value}:∀o,(h.push {cls:=.type "tuple",data:=.seq its}).get? h.objs.size=some o->o.dict=none:=by
 intro o e;rw[Heap.get?_push_size _ rfl]at e;cases e;rfl
def HOk(H:Hp)(h:Heap):Prop:=∀ a o,H a=some o->zU P w H h a o
end
section
variable{P:Program}{w:World}{H H':Hp}{h h':Heap}{a:Addr}{o:HO}
theorem zU.lt(x:zU P w H h a o):a<h.objs.size:=by
 cases o with
 |lst xs=>obtain⟨_,_,_,_,e⟩:=x;exact Heap.lt_size e
 |tup xs=>obtain⟨_,_,_,p,_⟩:=x;exact p.lt
 |dK kvs=>obtain⟨_,_,_,_,o,_,_,e,_⟩:=x;exact Heap.lt_size e
 |dT kvs=>obtain⟨_,_,_,_,o,_,_,e,_⟩:=x;exact Heap.lt_size e
 |set S n=>obtain⟨o,_,_,_,e,_⟩:=x;exact Heap.lt_size e
 |ins C dx fs=>obtain⟨_,_,_,e,_⟩:=x;exact Heap.lt_size e
 |own y=>obtain⟨_,e⟩:=x;exact Heap.lt_size e
 |xd fs=>obtain⟨_,⟨_,_,_,e,_⟩,_⟩:=x;exact Heap.lt_size e
 |rng lo hi=>obtain⟨_,_,_,e⟩:=x;exact Heap.lt_size e
 |frz ob u=>obtain⟨e,_⟩:=x;exact Heap.lt_size e
 |tbl ps=>exact Heap.lt_size (show h.get? a=some _ from x)
 |met f y=>exact Heap.lt_size (show h.get? a=some _ from x)
 |ext φ=>obtain⟨_,⟨_,e⟩,_⟩:=x;exact Heap.lt_size e
theorem Paired.mapP{α β:Type}{F G:α-> β->Prop}:∀{l₁:List α}{l₂:List β},Paired F l₁ l₂->(∀a b,F a b->G a b)->Paired G l₁ l₂
 | _,_,.nil,_=>.nil
 | _,_,.cons r t,f=>.cons (f _ _ r) (Paired.mapP t f)
theorem zU.stay(x:zU P w H h a o)(k:∀b u,(b=a\/H b=some (.own a))->h.get? b=some u->h'.get? b=some u)(ho:∀b,H b=some (.own a)->H' b=some (.own a))(ht:∀b xs,H b=some (.tup xs)->H' b=some (.tup xs)):zU P w H' h' a o:=by
 induction o with
 |lst xs=>obtain⟨z,its,n,r,e⟩:=x;exact⟨z,its,n,r,k _ _ (.inl rfl) e⟩
 |tup xs =>
  obtain⟨z,its,r,⟨ob,e,c⟩,nd⟩:=x;have e':=k _ _ (.inl rfl) e;exact⟨z,its,r,⟨ob,e',c⟩,fun o q=>by rw[e']at q;cases q;exact nd ob e⟩
 |dK kvs=>obtain⟨z,y,vs,r,ob,es,ep,e,c⟩:=x;exact⟨z,y,vs,r,ob,es,ep,k _ _ (.inl rfl) e,c⟩
 |dT kvs =>
  obtain⟨z,y,xs,r,ob,es,ep,e,c⟩:=x;exact⟨z,y,xs,Paired.mapP r fun p q z=>⟨z.1,ht _ _ z.2.1,z.2.2⟩,ob,es,ep,k _ _ (.inl rfl) e,c⟩
 |set S n=>obtain⟨ob,es,ep,t,e,c⟩:=x;exact⟨ob,es,ep,t,k _ _ (.inl rfl) e,c⟩
 |ins C dx fs =>
  obtain⟨d,z,ne,e,mA,⟨od,es,ep,e2,c⟩,r⟩:=x;exact⟨ho _ d,z,ne,k _ _ (.inl rfl) e,mA,⟨od,es,ep,k _ _ (.inr d) e2,c⟩,r⟩
 |own y=>obtain⟨ob,e⟩:=x;exact⟨ob,k _ _ (.inl rfl) e⟩
 |xd fs=>obtain⟨mA,⟨od,es,ep,e,c⟩,r⟩:=x;exact⟨mA,⟨od,es,ep,k _ _ (.inl rfl) e,c⟩,r⟩
 |rng lo hi=>obtain⟨t,u,v,e⟩:=x;exact⟨t,u,v,k _ _ (.inl rfl) e⟩
 |frz ob u ih=>obtain⟨e,q⟩:=x;exact⟨k _ _ (.inl rfl) e,ih q⟩
 |tbl ps =>
  have e:h.get? a=some {cls:=.none,data:=.fields ps}:=x;show h'.get? a=some {cls:=.none,data:=.fields ps};exact k a _ (.inl rfl) e
 |met f y =>
  have e:h.get? a=some (W.methodObj (.ref f) (.ref y)):=x;show h'.get? a=some (W.methodObj (.ref f) (.ref y));exact k a _ (.inl rfl) e
 |ext φ=>obtain⟨p,⟨o,e⟩,st⟩:=x;exact⟨st _ _ p fun o q=>k _ _ (.inl rfl) q,⟨o,k _ _ (.inl rfl) e⟩,st⟩
theorem HOk.lt(x:HOk P w H h)(e:H a=some o):a<h.objs.size:=(x a o e).lt
theorem HOk.fresh(x:HOk P w H h)(e:h.objs.size<=a):H a=none:=by
 cases q:H a with
 |none=>rfl
 |some u=>exact absurd (lt_of_lt_of_le (x.lt q) e) (lt_irrefl _)
theorem HOk.kept(x:HOk P w H h)(k:∀b u,h.get? b=some u->h'.get? b=some u):HOk P w H h':=fun a o e =>
 (x a o e).stay (fun b u _ q=>k b u q) (fun _ q=>q) fun _ _ q=>q
theorem HOk.laid(x:HOk P w H h)(k:∀b u,h.get? b=some u->h'.get? b=some u)(hp:h.objs.size<=a)(new:zU P w (upd H a o) h' a o):HOk P w (upd H a o) h':=fun b u e=>by
 have hn:=x.fresh hp;by_cases hb:b=a
 ·subst hb;rw[z6]at e;cases e;exact new
 ·rw[zh hb]at e;exact(x b u e).stay (fun c v _ q=>k c v q) (fun c q=>by rw[zh (zr q hn)];exact q) fun c xs q=>by rw[zh (zr q hn)];exact q
end
def Rd(H:Hp)(a:Addr)(u:HO):Prop:=H a=some u\/ ∃o,H a=some (.frz o u)
theorem Rd.ok{P:Program}{w:World}{H:Hp}{h:Heap}{a:Addr}{u:HO}(r:Rd H a u)(x:HOk P w H h):zU P w H h a u:=by
 rcases r with r|⟨o,r⟩
 ·exact x a u r
 ·obtain⟨_,q⟩:=x a _ r;exact q
def Mut:Option HO->Prop
 |some (.lst _)=>True
 |some (.dK _)=>True
 |some (.dT _)=>True
 |some (.set _ _)=>True
 |some (.ins _ _ _)=>True
 |some (.ext _)=>True
 | _=>False
section
variable{P:Program}{w:World}{H:Hp}{h h':Heap}{x e:Addr}{o':HO}
theorem HOk.write(ok:HOk P w H h)(mu:Mut (H x))(he:e=x\/H e=some (.own x))(k:∀b u,b≠e->h.get? b=some u->h'.get? b=some u)(heo:∃u,h'.get? e=some u)(new:zU P w (upd H x o') h' x o'):HOk P w (upd H x o') h':=fun b u q=>by
 have nown:∀c y,H c=some (.own y)->c≠x:=fun c y r z=>by subst z;rw[r]at mu;exact mu
 have ntup:∀c xs,H c=some (.tup xs)->c≠x:=fun c xs r z=>by subst z;rw[r]at mu;exact mu
 by_cases hb:b=x
 ·subst hb;rw[z6]at q;cases q;exact new
 ·rw[zh hb]at q;by_cases hbe:b=e
  ·have q':H b=some (.own x):=by
    rcases he with z|z
    ·exact absurd (hbe.trans z) hb
    ·rw[hbe];exact z
   rw[q]at q';cases q';obtain⟨v,hv⟩:=heo;exact⟨v,by rw[hbe];exact hv⟩
  ·refine(ok b u q).stay (fun c v hc r=>k c v ?_ r) (fun c r=>by rw[zh (nown c b r)];exact r) fun c xs r=>by rw[zh (ntup c xs r)];exact r
   rcases hc with rfl|hc
   ·exact hbe
   ·rintro rfl;rcases he with z|z
    ·exact nown c b hc z
    ·rw[hc]at z;cases z;exact hb rfl
end
structure Un(fs ex:List Addr)(H H':Hp)(h h':Heap):Prop where
 keep:∀b o,h.get? b=some o->H b=none->b∉fs->b∉ex->h'.get? b=some o
 slot:∀b o,h.get? b=some o->H b=none->b∈fs->b∉ex-> ∃sl,h'.get? b=some {o with slots:=sl}
 free:∀b o,h.get? b=some o->H b=none->b∉ex->H' b=none
 there:∀b o,h.get? b=some o->b∉ex-> ∃o',h'.get? b=some o'
 tups:∀b xs,H b=some (.tup xs)->H' b=some (.tup xs)
 frzs:∀b o u,H b=some (.frz o u)->H' b=some (.frz o u)
 tbls:∀b ps,H b=some (.tbl ps)-> ∃more,H' b=some (.tbl (ps++more))
section
variable{fs fs' ex ex':List Addr}{H H1 H2:Hp}{h h1 h2 h':Heap}{a x e:Addr}{o:HO}
theorem Un.any(u:Un fs ex H H1 h h1){b:Addr}{ob:Obj}(q:h.get? b=some ob)(n:H b=none)(hx:b∉ex):∃sl,h1.get? b=some {ob with slots:=sl}:=by
 by_cases hb:b∈fs
 ·exact u.slot b ob q n hb hx
 ·exact⟨ob.slots,u.keep b ob q n hb hx⟩
theorem Un.trans(a:Un fs ex H H1 h h1)(b:Un fs ex H1 H2 h1 h2):Un fs ex H H2 h h2 where
 keep:=fun c ob q n hc hx=>b.keep c ob (a.keep c ob q n hc hx) (a.free c ob q n hx) hc hx
 slot:=fun c ob q n hc hx=>by
  obtain⟨sl,e1⟩:=a.slot c ob q n hc hx;obtain⟨sl',e2⟩:=b.slot c _ e1 (a.free c ob q n hx) hc hx;exact⟨sl',e2⟩
 free:=fun c ob q n hx=>by
  obtain⟨o',e1⟩:=a.there c ob q hx;exact b.free c o' e1 (a.free c ob q n hx) hx
 there:=fun c ob q hx=>by
  obtain⟨o',e1⟩:=a.there c ob q hx;exact b.there c o' e1 hx
 tups:=fun c xs q=>b.tups c xs (a.tups c xs q)
 frzs:=fun c ob xs q=>b.frzs c ob xs (a.frzs c ob xs q)
 tbls:=fun c ps q=>by
  obtain⟨m1,e1⟩:=a.tbls c ps q;obtain⟨m2,e2⟩:=b.tbls c _ e1;exact⟨m1++m2,by rw[e2,Array.append_assoc]⟩
theorem Un.kept(k:∀b u,h.get? b=some u->h'.get? b=some u):Un fs ex H H h h' :=
 ⟨fun b ob q _ _ _=>k b ob q,fun b ob q _ _ _=>⟨ob.slots,k b ob q⟩,fun _ _ _ n _=>n,fun b ob q _=>⟨ob,k b ob q⟩,fun _ _ q=>q,fun _ _ _ q=>q,fun _ ps q=>⟨#[],by rw[q];simp⟩⟩
theorem Un.refl:Un fs ex H H h h:=Un.kept fun _ _ q=>q
theorem Un.laid(k:∀b u,h.get? b=some u->h'.get? b=some u)(hp:h.objs.size<=a)(hn:H a=none):Un fs ex H (upd H a o) h h' where
 keep:=fun b u q _ _ _=>k b u q
 slot:=fun b u q _ _ _=>⟨u.slots,k b u q⟩
 free:=fun b u q n _=>by rw[zh (ne_of_lt (lt_of_lt_of_le (Heap.lt_size q) hp))];exact n
 there:=fun b u q _=>⟨u,k b u q⟩
 tups:=fun b xs q=>by rw[zh (zr q hn)];exact q
 frzs:=fun b u xs q=>by rw[zh (zr q hn)];exact q
 tbls:=fun b ps q=>⟨#[],by rw[zh (zr q hn),q];simp⟩
theorem Un.write(mu:Mut (H x))(he:e=x\/H e=some (.own x))(k:∀b u,b≠e->h.get? b=some u->h'.get? b=some u)(heo:∃u,h'.get? e=some u):Un fs ex H (upd H x o) h h':=by
 have hx:∀b,H b=none->b≠x:=fun b n z=>by subst z;rw[n]at mu;exact mu
 have hb:∀b,H b=none->b≠e:=fun b n z=>by
  subst z;rcases he with r|r
  ·exact hx b n r
  ·rw[n]at r;cases r
 have hm:∀b u,H b=some u-> ¬Mut (some u)->b≠x:=fun b u q nm z=>by subst z;rw[q]at mu;exact nm mu
 refine⟨fun b u q n _ _=>k b u (hb b n) q,fun b u q n _ _=>⟨u.slots,k b u (hb b n) q⟩,fun b u q n _=>by rw[zh (hx b n)];exact n,fun b u q _=>?_,
  fun b xs q=>by rw[zh (hm b _ q fun z=>z)];exact q,fun b u xs q=>by rw[zh (hm b _ q fun z=>z)];exact q,fun b ps q=>⟨#[],by rw[zh (hm b _ q fun z=>z),q];simp⟩⟩
 by_cases hbe:b=e
 ·subst hbe;exact heo
 ·exact⟨u,k b u hbe q⟩
end
def trk(h:Heap)(H:Hp):List Addr:=(List.range h.objs.size).filter fun a=>(H a).isSome
def hidT(h:Heap)(H:Hp):Heap:=W.hideAll h (trk h H)
theorem hidT_size(h:Heap)(H:Hp):(hidT h H).objs.size=h.objs.size:=W.hideAll_size _ _
theorem hidT_get{h:Heap}{H:Hp}{b:Addr}{o:Obj}(e:h.get? b=some o)(n:H b=none):(hidT h H).get? b=some o :=
 W.hideAll_get _ e fun hm=>by
  have q:(H b).isSome=true:=(mem_filter.mp hm).2;rw[n]at q;simp at q
theorem of_hidT{h:Heap}{H:Hp}{b:Addr}{o:Obj}(e:(hidT h H).get? b=some o):h.get? b=some o/\H b=none:=by
 have e':h.get? b=some o:=W.of_hideAll (trk h H) e;refine⟨e',?_⟩;cases q:H b with
 |none=>rfl
 |some x =>
  have hm:b∈trk h H:=mem_filter.mpr ⟨mem_range.mpr (Heap.lt_size e'),by simp[q]⟩;have z:(hidT h H).get? b=none:=W.hideAll_none (trk h H) hm;rw[z]at e;cases e
def allNews(g h:Heap)(L:Addr):List (Addr×Obj):=(List.range h.objs.size).filterMap fun a=>if a=L\/(g.get? a).isSome=true then none else(h.get? a).map fun o=>(a,o)
def rest(g h:Heap)(L d:Addr):List (Addr×Obj):=(allNews g h L).filter fun p=>decide (p.1≠d)
structure Mod(K:W.Frag)(mg:Str->Option Value)(base:Heap):Prop where
 kin:K.In base
 glob:base.Ns mainGlobals mg
 blt:∃mb,base.Ns builtinsNs mb/\ ∀x:Str,x≠"__name__"->mb x=bootBuiltins x
 nolimit:base.NoLimit
structure Cx where
 prog:Program
 w:World
 K:W.Frag
 mg:Str->Option Value
 base:Heap
 A:Around
 N:List Str
 s₀:Shared
 H₀:Hp
 env:Env
 outer:List Env
 stack:List Env
 ex:List Addr
 fn:Str->Bool
 calm:Bool
 pn:List (Addr×Obj)
 xe:Value->Shared->Prop
def frs(l:List Env):List Addr:=l.filterMap (·.frame)
abbrev Cx.fs(X:Cx):List Addr:=frs X.outer
def Vis(sc:Scope)(x:Str):Prop:=sc.names.lookup x=some .local\/sc.names.lookup x=some .cell\/sc.names.lookup x=some .free
def Loc(sc:Scope)(x:Str):Prop:=sc.names.lookup x=some .local\/sc.names.lookup x=some .cell
def Look(env:Env)(h:Heap)(m:Str->Option Value)(x:Str)(u:Value):Prop :=
 (env.kindOf x=some .local/\m x=some u)\/((env.kindOf x=some .cell\/env.kindOf x=some .free)/\ ∃c,env.cells.lookup x=some c/\h.IsCell c (some u))
structure Cx.Ok(X:Cx):Prop where
 mod:Mod X.K X.mg X.base
 kind:X.env.scope.kind= .function
 glob:X.env.globals=mainGlobals
 blt:X.env.builtins=builtinsNs
 above:X.s₀.heap.objs.size<=X.env.locals
 inj:∀x y c,X.env.cells.lookup x=some c->X.env.cells.lookup y=some c->x=y
 has:∀x,(X.env.kindOf x=some .cell\/X.env.kindOf x=some .free)-> ∃c,X.env.cells.lookup x=some c
 cab:∀x c,X.fn x=true->X.env.cells.lookup x=some c->X.s₀.heap.objs.size<=c
 hd:X.calm=true->X.A.handled=none
 frames:X.A.frames=some X.stack
 stk:X.stack=X.outer\/(X.stack=X.env::X.outer/\X.env.frame=some X.env.locals)
 exf:∀b∈X.ex,b≠X.env.locals/\ ∀x c,X.env.cells.lookup x=some c->c≠b
 bs:∀b o,X.base.get? b=some o->X.s₀.heap.get? b=some o/\X.H₀ b=none
 bsz:X.base.objs.size<=X.s₀.heap.objs.size
 noex:∀b o,X.base.get? b=some o->b∉X.ex
 exfs:∀b∈X.ex,b∉X.fs
 funs:X.s₀.heap.FunFrames X.base X.outer
 frf:∀b∈X.fs,X.H₀ b=none
structure Inv(X:Cx)(pins:List (Addr×Obj))(σ:List (Option V))(H:Hp)(s:Shared):Prop where
 ok:X.Ok
 os:s.os=X.s₀.os
 bare:AllBare s.gens
 base:Un X.fs X.ex X.H₀ H X.s₀.heap s.heap
 loc:∃m,s.heap.Ns X.env.locals m/\ ∀(i:Nat)(x:Str)(v:V),X.N[i]? =some x-> σ[i]? =some (some v)->Vis X.env.scope x-> ∃u,RelV v u/\Look X.env s.heap m x u
 cell:∀x c,X.env.cells.lookup x=some c-> ∃v,s.heap.IsCell c v
 free:H X.env.locals=none
 freeC:∀x c,X.env.cells.lookup x=some c->H c=none
 pin:∀p∈X.pn++pins,s.heap.get? p.1=some p.2/\H p.1=none/\p.1≠X.env.locals/\p.1∉X.fs/\ ∀v,p.2.data≠ .cell v
 hok:HOk X.prog X.w H s.heap
 len:σ.length=X.N.length
section
variable{X:Cx}{pins:List (Addr×Obj)}{σ:List (Option V)}{H H':Hp}{s:Shared}{h':Heap}
theorem Cx.Ok.nofr(ok:X.Ok){b:Addr}{o:Obj}(e:X.base.get? b=some o):b∉X.fs:=fun hb=>by
 have:=(ok.funs.mem hb).1;rw[e]at this;cases this
theorem Inv.bs(I:Inv X pins σ H s):∀b o,X.base.get? b=some o->s.heap.get? b=some o/\H b=none:=fun b o e =>
 ⟨I.base.keep b o (I.ok.bs b o e).1 (I.ok.bs b o e).2 (I.ok.nofr e) (I.ok.noex b o e),I.base.free b o (I.ok.bs b o e).1 (I.ok.bs b o e).2 (I.ok.noex b o e)⟩
theorem Inv.bk(I:Inv X pins σ H s):∀b o,X.base.get? b=some o->s.heap.get? b=some o:=fun b o e=>(I.bs b o e).1
theorem Inv.mod(I:Inv X pins σ H s):Mod X.K X.mg X.base:=I.ok.mod
theorem Inv.kIn(I:Inv X pins σ H s):X.K.In s.heap:=I.ok.mod.kin.keeps I.bk
theorem Inv.lt(I:Inv X pins σ H s):X.env.locals<s.heap.objs.size:=let⟨_,hn,_⟩:=I.loc;hn.lt
theorem Inv.sz(I:Inv X pins σ H s):X.s₀.heap.objs.size<=s.heap.objs.size:=le_trans I.ok.above (Nat.le_of_lt I.lt)
theorem Inv.nofs(I:Inv X pins σ H s){a:Addr}(h:s.heap.objs.size<=a):a∉X.fs:=fun hb=>by
 obtain⟨_,o,ho,_⟩:=I.ok.funs.mem hb;exact absurd (lt_of_lt_of_le (Heap.lt_size ho) (le_trans I.sz h)) (lt_irrefl _)
theorem Inv.cne(I:Inv X pins σ H s):∀x c,X.env.cells.lookup x=some c->c≠X.env.locals:=fun x c e z=>by
 obtain⟨v,o,ho,hd⟩:=I.cell x c e;obtain⟨m,⟨o',es,ep,ho',hd',_⟩,_⟩:=I.loc;rw[z,ho']at ho;cases ho;rw[hd']at hd;cases hd
theorem Inv.funs(I:Inv X pins σ H s):s.heap.FunFrames X.base X.outer:=by
 have all:∀(l:List Env),(∀b∈frs l,b∈X.fs)->X.s₀.heap.FunFrames X.base l->s.heap.FunFrames X.base l:=by
  intro l
  induction l with
  |nil=>intro _ _;trivial
  |cons env r ih =>
   intro hs hl;obtain⟨hk,⟨L,o,hf,hn,ho,hd⟩,hr⟩:=hl;have hL:L∈X.fs:=hs L (by unfold frs;rw[filterMap_cons,hf];exact mem_cons_self);obtain⟨sl,e⟩:=I.base.slot L o ho (I.ok.frf L hL) hL fun z=>I.ok.exfs L z hL;exact⟨hk,⟨L,_,hf,hn,e,hd⟩,ih (fun b hb=>hs b (by unfold frs;rw[filterMap_cons,hf];exact mem_cons_of_mem _ hb)) hr⟩
 exact all X.outer (fun _ hb=>hb) I.ok.funs
theorem Inv.stack(I:Inv X pins σ H s):s.heap.FunFrames X.base X.stack:=by
 rcases I.ok.stk with e|⟨e,hf⟩
 ·rw[e];exact I.funs
 ·rw[e];obtain⟨m,hn,_⟩:=I.loc;refine .cons (by rw[I.ok.kind];decide) hf hn ?_ I.funs;exact Heap.get?_none_of_le (le_trans I.ok.bsz I.ok.above)
theorem Inv.stkSub(I:Inv X pins σ H s):∀b∈frs X.stack,b∈X.env.locals::X.fs:=fun b hb=>by
 rcases I.ok.stk with e|⟨e,hf⟩
 ·rw[e]at hb;exact mem_cons_of_mem _ hb
 ·rw[e]at hb;unfold frs at hb;rw[filterMap_cons,hf]at hb;exact hb
theorem Inv.stkFree(I:Inv X pins σ H s):∀b∈frs X.stack,H b=none:=fun b hb=>by
 rcases mem_cons.mp (I.stkSub b hb)with e|hb
 ·rw[e];exact I.free
 ·obtain⟨_,o,ho,_⟩:=I.ok.funs.mem hb;exact I.base.free b o ho (I.ok.frf b hb) fun z=>I.ok.exfs b z hb
theorem Inv.step{g':Array GenState}{t':Nat}{d':Drawn}{ch:List Addr}(I:Inv X pins σ H s)(hch:∀b∈ch,(b∈X.ex\/X.s₀.heap.objs.size<=b)/\b≠X.env.locals/\(∀x c,X.env.cells.lookup x=some c->c≠b)/\ ∀p∈X.pn++pins,p.1≠b)(keep:∀b o,b≠X.env.locals->b∉X.fs->b∉ch->s.heap.get? b=some o->H b=none->h'.get? b=some o)(slot:∀b o,b≠X.env.locals->b∈X.fs->b∉ch->s.heap.get? b=some o->H b=none-> ∃sl,h'.get? b=some {o with slots:=sl})(free:∀b o,b∉ch->s.heap.get? b=some o->H b=none->H' b=none)(there:∀b o,b∉ch->s.heap.get? b=some o-> ∃o',h'.get? b=some o')(tups:∀b xs,H b=some (.tup xs)->H' b=some (.tup xs))(frzs:∀b o u,H b=some (.frz o u)->H' b=some (.frz o u))(tbls:∀b ps,H b=some (.tbl ps)-> ∃more,H' b=some (.tbl (ps++more)))(ns:∀m,s.heap.Ns X.env.locals m->h'.Ns X.env.locals m)(hok:HOk X.prog X.w H' h')(hg:AllBare g') :
  Inv X pins σ H' {s with heap:=h',gens:=g',drawn:=d',toks:=t'}:=by
 have neL:∀b o,X.s₀.heap.get? b=some o->b≠X.env.locals:=fun b o e=>ne_of_lt (lt_of_lt_of_le (Heap.lt_size e) I.ok.above);have neC:∀b o,X.s₀.heap.get? b=some o->b∉X.ex->b∉ch:=fun b o e hx hb=>by
  rcases(hch b hb).1 with z|z
  ·exact hx z
  ·exact absurd (lt_of_lt_of_le (Heap.lt_size e) z) (lt_irrefl _)
 have cellK:∀x c,X.env.cells.lookup x=some c-> ∀v,s.heap.IsCell c v->h'.IsCell c v:=fun x c e v ⟨o,ho,hd⟩=>by
  have nch:c∉ch:=fun z=>(hch c z).2.2.1 x c e rfl;by_cases hc:c∈X.fs
  ·obtain⟨sl,q⟩:=slot c o (I.cne x c e) hc nch ho (I.freeC x c e);exact⟨_,q,hd⟩
  ·exact⟨o,keep c o (I.cne x c e) hc nch ho (I.freeC x c e),hd⟩
 refine⟨I.ok,I.os,hg,⟨fun b o e n hb hx=>?_,fun b o e n hb hx=>?_,fun b o e n hx=>?_,fun b o e hx=>?_,fun b xs e=>tups b xs (I.base.tups b xs e),fun b o xs e=>frzs b o xs (I.base.frzs b o xs e),fun b ps e=>?_⟩,?_,fun x c e=>?_,?_,fun x c e=>?_,fun p hp=>?_,hok,I.len⟩
 ·exact keep b o (neL b o e) hb (neC b o e hx) (I.base.keep b o e n hb hx) (I.base.free b o e n hx)
 ·obtain⟨sl,e1⟩:=I.base.slot b o e n hb hx;obtain⟨sl',e2⟩:=slot b _ (neL b o e) hb (neC b o e hx) e1 (I.base.free b o e n hx);exact⟨sl',e2⟩
 ·obtain⟨o',e1⟩:=I.base.there b o e hx;exact free b o' (neC b o e hx) e1 (I.base.free b o e n hx)
 ·obtain⟨o',e1⟩:=I.base.there b o e hx;exact there b o' (neC b o e hx) e1
 ·obtain⟨m1,e1⟩:=I.base.tbls b ps e;obtain⟨m2,e2⟩:=tbls b _ e1;exact⟨m1++m2,by rw[e2,Array.append_assoc]⟩
 ·obtain⟨m,hn,hl⟩:=I.loc;refine⟨m,ns m hn,fun i x v e1 e2 e3=>?_⟩;obtain⟨u,r,l⟩:=hl i x v e1 e2 e3;refine⟨u,r,?_⟩;rcases l with l|⟨k,c,e,z⟩
  ·exact .inl l
  ·exact .inr ⟨k,c,e,cellK x c e _ z⟩
 ·obtain⟨v,z⟩:=I.cell x c e;exact⟨v,cellK x c e v z⟩
 ·obtain⟨m,⟨o,_,_,ho,_⟩,_⟩:=I.loc;exact free _ o (fun z=>(hch _ z).2.1 rfl) ho I.free
 ·obtain⟨v,o,ho,hd⟩:=I.cell x c e;exact free c o (fun z=>(hch c z).2.2.1 x c e rfl) ho (I.freeC x c e)
 ·obtain⟨e,n,ne,nf,d⟩:=I.pin p hp;have nch:p.1∉ch:=fun z=>(hch p.1 z).2.2.2 p hp rfl;exact⟨keep p.1 p.2 ne nf nch e n,free p.1 p.2 nch e n,ne,nf,d⟩
theorem Inv.un{t':Nat}(I:Inv X pins σ H s)(u:Un X.fs [] H H' s.heap h')(hok:HOk X.prog X.w H' h'):Inv X pins σ H' {s with heap:=h',toks:=t'}:=by
 obtain⟨m,⟨o,es,ep,ho,r⟩,_⟩:=id I.loc;obtain⟨sl,hL⟩:=u.any ho I.free (by simp);exact I.step (g':=s.gens) (d':=s.drawn) (ch:=[]) (fun _ z=>nomatch z) (fun b o _ hb _ e n=>u.keep b o e n hb (by simp)) (fun b o _ hb _ e n=>u.slot b o e n hb (by simp)) (fun b o _ e n=>u.free b o e n (by simp)) (fun b o _ e=>u.there b o e (by simp)) u.tups u.frzs u.tbls (fun m' hm=>by
  obtain⟨o',es',ep',ho',r'⟩:=hm;rw[ho]at ho';cases ho';exact⟨_,es',ep',hL,r'⟩) hok I.bare
theorem Inv.call{g':Array GenState}{t':Nat}{d':Drawn}{ch:List Addr}(I:Inv X pins σ H s)(u:Un (frs X.stack) ch H H' s.heap h')(hok:HOk X.prog X.w H' h')(hg:AllBare g')(hch:∀b∈ch,(b∈X.ex\/X.s₀.heap.objs.size<=b)/\b≠X.env.locals/\(∀x c,X.env.cells.lookup x=some c->c≠b)/\ ∀p∈X.pn++pins,p.1≠b) :
  Inv X pins σ H' {s with heap:=h',gens:=g',drawn:=d',toks:=t'}:=by
 obtain⟨m,⟨o,es,ep,ho,r⟩,_⟩:=id I.loc;obtain⟨sl,hL⟩:=u.any ho I.free fun z=>(hch _ z).2.1 rfl;exact I.step (ch:=ch) hch (fun b o hL hb hc e n=>u.keep b o e n (fun z=>(mem_cons.mp (I.stkSub b z)).elim hL hb) hc) (fun b o _ _ hc e n=>u.any e n hc) (fun b o hc e n=>u.free b o e n hc) (fun b o hc e=>u.there b o e hc) u.tups u.frzs u.tbls (fun m' hm=>by
  obtain⟨o',es',ep',ho',r'⟩:=hm;rw[ho]at ho';cases ho';exact⟨_,es',ep',hL,r'⟩) hok hg
theorem Inv.turned{t':Nat}{it:Addr}(I:Inv X pins σ H s)(k:∀b o,b≠it->s.heap.get? b=some o->h'.get? b=some o)(hn:H it=none)(hL:it≠X.env.locals)(h1:it∈X.ex\/X.s₀.heap.objs.size<=it)(h2:∀x c,X.env.cells.lookup x=some c->c≠it)(h3:∀p∈X.pn++pins,p.1≠it):Inv X pins σ H {s with heap:=h',toks:=t'}:=by
 have nit:∀b u,H b=some u->b≠it:=fun b u e z=>by rw[z,hn]at e;cases e
 refine I.step (g':=s.gens) (d':=s.drawn) (ch:=[it]) (fun b hb=>?_) (fun b o _ _ hc e _=>k b o (fun z=>hc (by simp[z])) e) (fun b o _ _ hc e _=>⟨o.slots,k b o (fun z=>hc (by simp[z])) e⟩) (fun _ _ _ _ n=>n)
  (fun b o hc e=>⟨o,k b o (fun z=>hc (by simp[z])) e⟩) (fun _ _ e=>e) (fun _ _ _ e=>e) (fun b ps e=>⟨#[],by rw[e];simp⟩) (fun m hm=>?_) (fun b u e=>?_) I.bare
 ·have e:b=it:=by simpa using hb
  subst e;exact⟨h1,hL,h2,h3⟩
 ·obtain⟨o,es,ep,ho,r⟩:=hm;exact⟨o,es,ep,k _ o (Ne.symm hL) ho,r⟩
 ·refine(I.hok b u e).stay (fun c v hc q=>k c v ?_ q) (fun _ q=>q) fun _ _ q=>q;rcases hc with z|z
  ·rw[z];exact nit b u e
  ·exact nit c _ z
theorem Inv.tok(I:Inv X pins σ H s)(t:Nat):Inv X pins σ H {s with toks:=t}:=I.un (h':=s.heap) (t':=t) Un.refl I.hok
theorem Inv.kept{t':Nat}(I:Inv X pins σ H s)(k:∀b u,s.heap.get? b=some u->h'.get? b=some u):Inv X pins σ H {s with heap:=h',toks:=t'}:=I.un (Un.kept k) (I.hok.kept k)
theorem Inv.laid{a:Addr}{o:HO}{t':Nat}(I:Inv X pins σ H s)(k:∀b u,s.heap.get? b=some u->h'.get? b=some u)(hp:s.heap.objs.size<=a)(new:zU X.prog X.w (upd H a o) h' a o) :
  Inv X pins σ (upd H a o) {s with heap:=h',toks:=t'}:=I.un (Un.laid k hp (I.hok.fresh hp)) (I.hok.laid k hp new)
theorem Inv.write{x e:Addr}{o:HO}{t':Nat}(I:Inv X pins σ H s)(mu:Mut (H x))(he:e=x\/H e=some (.own x))(k:∀b u,b≠e->s.heap.get? b=some u->h'.get? b=some u)(heo:∃u,h'.get? e=some u)(new:zU X.prog X.w (upd H x o) h' x o):Inv X pins σ (upd H x o) {s with heap:=h',toks:=t'}:=I.un (Un.write mu he k heo) (I.hok.write mu he k heo new)
theorem Inv.pins_of{pins':List (Addr×Obj)}(I:Inv X pins σ H s)(h:∀p∈pins',s.heap.get? p.1=some p.2/\H p.1=none/\p.1≠X.env.locals/\p.1∉X.fs/\ ∀v,p.2.data≠ .cell v):Inv X pins' σ H s :=
 ⟨I.ok,I.os,I.bare,I.base,I.loc,I.cell,I.free,I.freeC,fun p hp=>(mem_append.mp hp).elim (fun z=>I.pin p (List.mem_append_left _ z)) (h p),I.hok,I.len⟩
theorem xO{N:List Str}(hN:N.Nodup){i j:Nat}{x:Str}(a:N[i]? =some x)(b:N[j]? =some x):i=j:=by
 obtain⟨h1,e1⟩:=List.getElem?_eq_some_iff.mp a;obtain⟨h2,e2⟩:=List.getElem?_eq_some_iff.mp b;exact(List.getElem_inj hN).mp (e1.trans e2.symm)
theorem d7{M:Model}{A:Around}{E:Value->Shared->Prop}{i:Nat}{x:Str}{v:V}{u:Value}{Q:Unit->Shared->Prop}(I:Inv X pins σ H s)(hN:X.N.Nodup)(hi:X.N[i]? =some x)(hx:Loc X.env.scope x)(r:RelV v u)(h:∀s',Inv X pins (σ.set i (some v)) H s'->(∃a,Heap.SameBut a s.heap s'.heap/\(a=X.env.locals\/X.env.cells.lookup x=some a))->Q () s')(hf:X.fn x=true\/X.env.scope.names.lookup x=some .local:=by first|exact .inl rfl|exact .inr rfl|assumption):wpAny M A (storeName X.env x u) Q E s:=by
 obtain⟨m,hn,hl⟩:=id I.loc;have hcls:(X.env.scope.kind== .class||(X.env.scope.kind== .module&&X.env.locals !=X.env.globals))=false:=by rw[I.ok.kind];rfl
 have hiσ:i< σ.length:=by rw[I.len];exact(List.getElem?_eq_some_iff.mp hi).1
 have cne:=I.cne;have tracked:∀{a:Addr}{h':Heap},(∃o,s.heap.get? a=some o/\H a=none)->Heap.SameBut a s.heap h'->HOk X.prog X.w H h':=fun{a h'} ha hs b ob e=>by
  obtain⟨_,_,hfree⟩:=ha;refine(I.hok b ob e).stay (fun c w' hc q=>(hs.2 c ?_).trans q) (fun _ q=>q) fun _ _ q=>q;rintro rfl;rcases hc with rfl|hc
  ·rw[hfree]at e;cases e
  ·rw[hfree]at hc;cases hc
 rcases hx with hk|hk
 ·refine wpAny_storeName_local hk hn (fun h' hn' hs=>?_) hcls;obtain⟨oL,_,_,hoL,_⟩:=id hn;refine h _ ⟨I.ok,I.os,I.bare,⟨fun b o e n hb hx=>?_,fun b o e n hb hx=>?_,I.base.free,fun b o e hx=>?_,I.base.tups,I.base.frzs,I.base.tbls⟩,⟨_,hn',fun j y v' e1 e2 e3=>?_⟩,fun y c e=>?_,I.free,I.freeC,fun p hp=>?_,tracked ⟨oL,hoL,I.free⟩ hs,by simpa using I.len⟩ ⟨_,hs,.inl rfl⟩
  ·exact(hs.2 b (ne_of_lt (lt_of_lt_of_le (Heap.lt_size e) I.ok.above))).trans (I.base.keep b o e n hb hx)
  ·obtain⟨sl,e1⟩:=I.base.slot b o e n hb hx;exact⟨sl,(hs.2 b (ne_of_lt (lt_of_lt_of_le (Heap.lt_size e) I.ok.above))).trans e1⟩
  ·obtain⟨o',e1⟩:=I.base.there b o e hx;exact⟨o',(hs.2 b (ne_of_lt (lt_of_lt_of_le (Heap.lt_size e) I.ok.above))).trans e1⟩
  ·by_cases hj:j=i
   ·subst hj;rw[hi]at e1;cases e1;rw[List.getElem?_set_self hiσ]at e2;cases e2;exact⟨u,r,.inl ⟨hk,by simp⟩⟩
   ·rw[List.getElem?_set_ne (Ne.symm hj)]at e2;obtain⟨u',r',q⟩:=hl j y v' e1 e2 e3;refine⟨u',r',?_⟩;rcases q with⟨k,e⟩|⟨k,c,e,z⟩
    ·refine .inl ⟨k,?_⟩;have:y≠x:=fun e=>hj (xO hN e1 (e▸hi));simp[this,e]
    ·exact .inr ⟨k,c,e,z.sameBut hs (cne y c e)⟩
  ·obtain⟨w',z⟩:=I.cell y c e;exact⟨w',z.sameBut hs (cne y c e)⟩
  ·obtain⟨e,n,ne,nf,d⟩:=I.pin p hp;exact⟨(hs.2 p.1 ne).trans e,n,ne,nf,d⟩
 ·have hfn:X.fn x=true:=by
   rcases hf with z|z
   ·exact z
   ·rw[z]at hk;cases hk
  obtain⟨c,hc⟩:=I.ok.has x (.inl hk);obtain⟨w',z⟩:=I.cell x c hc;refine wpAny_storeName_cell I.ok.kind hk hc z (fun h' hc' hs=>?_);obtain⟨oc,hoc,hocd⟩:=id z;refine h {s with heap:=h'} ⟨I.ok,I.os,I.bare,⟨fun b o e n hb hx=>?_,fun b o e n hb hx=>?_,I.base.free,fun b o e hx=>?_,I.base.tups,I.base.frzs,I.base.tbls⟩,⟨m,hn.sameBut hs (Ne.symm (cne x c hc)),fun j y v' e1 e2 e3=>?_⟩,fun y c' e=>?_,I.free,I.freeC,fun p hp=>?_,tracked ⟨oc,hoc,I.freeC x c hc⟩ hs,by simpa using I.len⟩ ⟨c,hs,.inr hc⟩
  ·exact(hs.2 b (ne_of_lt (lt_of_lt_of_le (Heap.lt_size e) (I.ok.cab x c hfn hc)))).trans (I.base.keep b o e n hb hx)
  ·obtain⟨sl,e1⟩:=I.base.slot b o e n hb hx;exact⟨sl,(hs.2 b (ne_of_lt (lt_of_lt_of_le (Heap.lt_size e) (I.ok.cab x c hfn hc)))).trans e1⟩
  ·obtain⟨o',e1⟩:=I.base.there b o e hx;exact⟨o',(hs.2 b (ne_of_lt (lt_of_lt_of_le (Heap.lt_size e) (I.ok.cab x c hfn hc)))).trans e1⟩
  ·by_cases hj:j=i
   ·subst hj;rw[hi]at e1;cases e1;rw[List.getElem?_set_self hiσ]at e2;cases e2;exact⟨u,r,.inr ⟨.inl hk,c,hc,hc'⟩⟩
   ·rw[List.getElem?_set_ne (Ne.symm hj)]at e2;obtain⟨u',r',q⟩:=hl j y v' e1 e2 e3;refine⟨u',r',?_⟩;rcases q with q|⟨k,c',e,z'⟩
    ·exact .inl q
    ·refine .inr ⟨k,c',e,z'.sameBut hs ?_⟩;rintro rfl;exact hj (xO hN e1 (I.ok.inj _ _ _ e hc▸hi))
  ·by_cases hcc:c'=c
   ·subst hcc;exact⟨_,hc'⟩
   ·obtain⟨w2,z2⟩:=I.cell y c' e;exact⟨w2,z2.sameBut hs hcc⟩
  ·obtain⟨e,n,ne,nf,d⟩:=I.pin p hp;refine⟨(hs.2 p.1 ?_).trans e,n,ne,nf,d⟩;intro q;rw[q,hoc]at e;have q':oc=p.2:=Option.some.inj e;exact d w' (by rw[<-q'];exact hocd)
theorem jI{M:Model}{A:Around}{E:Value->Shared->Prop}{i:Nat}{x:Str}{v:V}{u:Value}{Q:Unit->Shared->Prop}(I:Inv X pins σ H s)(hN:X.N.Nodup)(hi:X.N[i]? =some x)(hx:Loc X.env.scope x)(r:RelV v u)(h:∀s',Inv X pins (σ.set i (some v)) H s'->Q () s')(hf:X.fn x=true\/X.env.scope.names.lookup x=some .local:=by first|exact .inl rfl|exact .inr rfl|assumption):wpAny M A (storeName X.env x u) Q E s :=
 d7 I hN hi hx r (fun s' I' _=>h s' I') hf
theorem Inv.call'{s':Shared}{ch:List Addr}(I:Inv X pins σ H s)(ho:s'.os=s.os)(u:Un (frs X.stack) ch H H' s.heap s'.heap)(hok:HOk X.prog X.w H' s'.heap)(hg:AllBare s'.gens)(hch:∀b∈ch,(b∈X.ex\/X.s₀.heap.objs.size<=b)/\b≠X.env.locals/\(∀x c,X.env.cells.lookup x=some c->c≠b)/\ ∀p∈X.pn++pins,p.1≠b):Inv X pins σ H' s':=by
 obtain⟨h',g',d',t',o'⟩:=s';have e:o'=s.os:=ho;subst e;exact I.call (g':=g') (t':=t') (d':=d') u hok hg hch
end
abbrev XK:=Value->Option Addr->Hp->Prop
abbrev St:=List (Option V)
abbrev VK:=V->Hp->Prop
abbrev TE:=St->Hp->VK->Prop
abbrev TT:=St->Hp->(Bool->Hp->Prop)->Prop
abbrev TA:=St->Hp->(List V->Hp->Prop)->Prop
structure Ends where
 nx:St->Hp->Prop
 rt:VK
 bk:St->Hp->Prop:=fun _ _=>False
 ct:St->Hp->Prop:=fun _ _=>False
abbrev TS:=Ends->St->Hp->Prop
def EP(X:Cx)(pins:List (Addr×Obj))(σ:St)(Q:VK)(u:Value)(s':Shared):Prop:=∃ v H',Inv X pins σ H' s'/\RelV v u/\Q v H'
def TP(X:Cx)(pins:List (Addr×Obj))(σ:St)(Q:Bool->Hp->Prop)(b:Bool)(s':Shared):Prop:=∃ H',Inv X pins σ H' s'/\Q b H'
def AP(X:Cx)(pins:List (Addr×Obj))(σ:St)(Q:List V->Hp->Prop)(us:List Value)(s':Shared):Prop:=∃ vs H',Inv X pins σ H' s'/\Vals vs us/\Q vs H'
def SP(X:Cx)(pins:List (Addr×Obj))(D:Ends)(f:Flow)(s':Shared):Prop :=
 match f with
 | .next=>∃ σ' H',Inv X pins σ' H' s'/\D.nx σ' H'
 | .brk=>∃ σ' H',Inv X pins σ' H' s'/\D.bk σ' H'
 | .cont=>∃ σ' H',Inv X pins σ' H' s'/\D.ct σ' H'
 | .ret u=>∃ v σ' H',Inv X pins σ' H' s'/\RelV v u/\D.rt v H'
def PE(X:Cx)(e:Expr)(t:TE):Prop :=
 ∀(pins:List (Addr×Obj))(s:Shared)(σ:St)(H:Hp)(Q:VK),Inv X pins σ H s->t σ H Q->wpAny (model X.prog X.w) X.A (eval e X.env) (EP X pins σ Q) X.xe s
def PT(X:Cx)(e:Expr)(t:TT):Prop :=
 ∀(pins:List (Addr×Obj))(s:Shared)(σ:St)(H:Hp)(Q:Bool->Hp->Prop),Inv X pins σ H s->t σ H Q->wpAny (model X.prog X.w) X.A (isTrue e X.env (eval e X.env)) (TP X pins σ Q) X.xe s
def PW(X:Cx)(e:Expr)(t:TT):Prop :=
 ∀(whole:Sem Value)(pins:List (Addr×Obj))(s:Shared)(σ:St)(H:Hp)(Q:Bool->Hp->Prop),Inv X pins σ H s->t σ H Q->wpAny (model X.prog X.w) X.A (isTrue e X.env whole) (TP X pins σ Q) X.xe s
theorem PW.pt{X:Cx}{e:Expr}{t:TT}(h:PW X e t):PT X e t:=h _
def PA(X:Cx)(es:List Expr)(t:TA):Prop :=
 ∀(pos:Pos)(pins:List (Addr×Obj))(s:Shared)(σ:St)(H:Hp)(Q:List V->Hp->Prop),Inv X pins σ H s->t σ H Q->wpAny (model X.prog X.w) X.A (spliced (backTo pos (starEach es X.env))) (AP X pins σ Q) X.xe s
def PS(X:Cx)(st:Stmt)(t:TS):Prop :=
 ∀(pins:List (Addr×Obj))(s:Shared)(σ:St)(H:Hp)(D:Ends),Inv X pins σ H s->t D σ H->wpAny (model X.prog X.w) X.A (exec st X.env) (SP X pins D) X.xe s
def PSs(X:Cx)(st:List Stmt)(t:TS):Prop :=
 ∀(pins:List (Addr×Obj))(s:Shared)(σ:St)(H:Hp)(D:Ends),Inv X pins σ H s->t D σ H->wpAny (model X.prog X.w) X.A (execs st X.env) (SP X pins D) X.xe s
theorem thn{α:Type}{t:Sem α}{Q Q':α->Shared->Prop}{M:Model}{A:Around}{E:Value->Shared->Prop}{s:Shared}(h:wpAny M A t Q E s)(hQ:∀a s,Q a s->Q' a s):wpAny M A t Q' E s:=wpAny_mono h hQ fun _ _ x=>x
section
variable{X:Cx}
def tVar(i:Nat):TE:=fun σ H Q=>∃ v,σ[i]? =some (some v)/\Q v H
def tC(v:V):TE:=fun _ H Q=>Q v H
theorem pe_var{i:Nat}{x:Str}{pos:Pos}(hN:X.N[i]? =some x)(hv:Vis X.env.scope x)(hd:(x==("__debug__" : Str))=false:=by decide)(hcd:(x==("__classdict__" : Str))=false:=by decide):PE X (.Name x pos) (tVar i):=by
 intro pins s σ H Q I h;obtain⟨v,e,h⟩:=h;obtain⟨m,hn,hl⟩:=I.loc;obtain⟨u,r,l⟩:=hl i x v hN e hv;have fin:EP X pins σ Q u s:=⟨v,H,I,r,h⟩;rcases l with⟨hk,hm⟩|⟨hk,c,hc,hcell⟩
 ·exact wpAny_Name (wpAny_loadName_local I.ok.kind hk hn hm fin) hd
 ·rcases hk with hk|hk
  ·exact wpAny_Name (wpAny_loadName_cell I.ok.kind hk hc hcell fin) hd
  ·exact wpAny_Name (wpAny_loadName_free I.ok.kind hk hc hcell fin hcd) hd
theorem zc{i j pos}:PE X (.Constant (.int i) j pos) (tC (.int i)):=fun _ _ _ H _ I h=>wpAny_Constant_int ⟨.int i,H,I.tok _,⟨_,rfl⟩,h⟩
theorem cA{b j pos}:PE X (.Constant (.bool b) j pos) (tC (.bl b)):=fun _ _ _ H _ I h=>Constant_bool ⟨.bl b,H,I,rfl,h⟩
theorem vt{j pos}:PE X (.Constant .none j pos) (tC .non):=fun _ _ _ H _ I h=>Constant_none ⟨.non,H,I,rfl,h⟩
theorem zj{x j pos}:PE X (.Constant (.str x) j pos) (tC (.str x)):=fun _ _ _ H _ I h=>Calls.Constant_str ⟨.str x,H,I.tok _,⟨_,rfl⟩,h⟩
def Gl(X:Cx)(x:Str):Prop:=X.env.kindOf x=some .globalImplicit
theorem wb{E:Value->Shared->Prop}{pins:List (Addr×Obj)}{s:Shared}{σ:St}{H:Hp}{x:Str}{u:Value}{pos:Pos}{Q:Value->Shared->Prop}(I:Inv X pins σ H s)(hg:Gl X x)(hm:X.mg x=some u)(h:Q u s)(hd:(x==("__debug__" : Str))=false:=by decide):wpAny (model X.prog X.w) X.A (eval (.Name x pos) X.env) Q E s :=
 Calls.Name_function_global I.ok.kind hg (Calls.loadGlobal_global (by rw[I.ok.glob];exact I.mod.glob.keeps I.bk) hm h) hd
theorem wa{E:Value->Shared->Prop}{pins:List (Addr×Obj)}{s:Shared}{σ:St}{H:Hp}{x:Str}{u:Value}{pos:Pos}{Q:Value->Shared->Prop}(I:Inv X pins σ H s)(hg:Gl X x)(hm:X.mg x=none)(hv:bootBuiltins x=some u)(h:Q u s)(hn:x≠"__name__" :=by decide)(hd:(x==("__debug__" : Str))=false:=by decide):wpAny (model X.prog X.w) X.A (eval (.Name x pos) X.env) Q E s:=by
 obtain⟨mb,h1,h2⟩:=I.mod.blt;exact Calls.Name_function_global I.ok.kind hg (Calls.loadGlobal_builtin (by rw[I.ok.glob];exact I.mod.glob.keeps I.bk) hm (by rw[I.ok.blt];exact h1.keeps I.bk) ((h2 x hn).trans hv) h) hd
theorem yz{x:Str}{v:V}{u:Value}{pos:Pos}(hg:Gl X x)(hm:X.mg x=some u)(r:RelV v u)(hd:(x==("__debug__" : Str))=false:=by decide):PE X (.Name x pos) (tC v) :=
 fun _ _ _ H _ I h=>wb I hg hm ⟨v,H,I,r,h⟩ hd
theorem pe_bltn{x:Str}{v:V}{u:Value}{pos:Pos}(hg:Gl X x)(hm:X.mg x=none)(hv:bootBuiltins x=some u)(r:RelV v u)(hn:x≠"__name__" :=by decide)(hd:(x==("__debug__" : Str))=false:=by decide):PE X (.Name x pos) (tC v) :=
 fun _ _ _ H _ I h=>wa I hg hm hv ⟨v,H,I,r,h⟩ hn hd
variable{a b:Expr}{ta tb:TE}{pos:Pos}
variable{tA tB':TT}{rest:List Expr}
def tAnd(t u:TT):TT:=fun σ H Q=>t σ H fun c H1=>if c=true then u σ H1 Q else Q false H1
def tOr(t u:TT):TT:=fun σ H Q=>t σ H fun c H1=>if c=true then Q true H1 else u σ H1 Q
def tNot(t:TT):TT:=fun σ H Q=>t σ H fun c H1=>Q (!c) H1
theorem qt(ha:PT X a tA):PW X (.BoolOp .And [a] pos) tA:=by
 intro wh pins s σ H Q I h;refine isTrue_and (thn (ha pins s σ H Q I h) fun c s1 e=>?_);cases c with
 |true=>exact isTrue_and_nil e
 |false=>exact e
theorem xa(ha:PT X a tA):PW X (.BoolOp .Or [a] pos) tA:=by
 intro wh pins s σ H Q I h;refine isTrue_or (thn (ha pins s σ H Q I h) fun c s1 e=>?_);cases c with
 |false=>exact isTrue_or_nil e
 |true=>exact e
theorem gZ(ha:PT X a tA)(hb:PW X (.BoolOp .And (b::rest) pos) tB'):PW X (.BoolOp .And (a::b::rest) pos) (tAnd tA tB'):=by
 intro wh pins s σ H Q I h;refine isTrue_and (thn (ha pins s σ H _ I h) fun c s1 ⟨H1,I1,q1⟩=>?_);cases c with
 |true=>exact hb wh pins s1 σ H1 Q I1 q1
 |false=>exact⟨H1,I1,q1⟩
theorem cE(ha:PT X a tA)(hb:PW X (.BoolOp .Or (b::rest) pos) tB'):PW X (.BoolOp .Or (a::b::rest) pos) (tOr tA tB'):=by
 intro wh pins s σ H Q I h;refine isTrue_or (thn (ha pins s σ H _ I h) fun c s1 ⟨H1,I1,q1⟩=>?_);cases c with
 |true=>exact⟨H1,I1,q1⟩
 |false=>exact hb wh pins s1 σ H1 Q I1 q1
theorem wJ(ha:PT X a tA):PT X (.UnaryOp .Not a pos) (tNot tA):=by
 intro pins s σ H Q I h;exact isTrue_not (ha pins s σ H (fun c H1=>Q (!c) H1) I h)
def tAndV(ta tb:TE):TE:=fun σ H Q=>ta σ H fun x H1=>∃ c,x= .bl c/\if c=true then tb σ H1 Q else Q (.bl false) H1
theorem pe_one{op}{t:TE}(h:PE X a t):PE X (.BoolOp op [a] pos) t:=fun pins s σ H Q I hw=>BoolOp_one (h pins s σ H Q I hw)
theorem pe_and(ha:PE X a ta)(hb:PE X (.BoolOp .And (b::rest) pos) tb):PE X (.BoolOp .And (a::b::rest) pos) (tAndV ta tb):=by
 intro pins s σ H Q I h;refine BoolOp_and (thn (ha pins s σ H _ I h) fun v s1 ⟨x,H1,I1,r1,q1⟩=>?_);obtain⟨c,rfl,q1⟩:=q1;cases r1;refine wpAny_truthy_bool ?_;cases c with
 |true=>exact hb pins s1 σ H1 Q I1 q1
 |false=>exact⟨.bl false,H1,I1,rfl,q1⟩
def tIf(t:TT)(ta tb:TE):TE:=fun σ H Q=>t σ H fun c H1=>if c=true then ta σ H1 Q else tb σ H1 Q
theorem rf{c:Expr}(hc:PT X c tA)(ha:PE X a ta)(hb:PE X b tb):PE X (.IfExp c a b pos) (tIf tA ta tb):=by
 intro pins s σ H Q I h;refine wpAny_IfExp (thn (hc pins s σ H _ I h) fun d s1 ⟨H1,I1,q1⟩=>?_);cases d with
 |true=>exact ha pins s1 σ H1 Q I1 q1
 |false=>exact hb pins s1 σ H1 Q I1 q1
end
def SqL(K:W.Frag)(H:Hp)(a:Addr)(xs:List V):Prop :=
 Rd H a (.lst xs)\/
  ∃(o:Obj)(its:Array Value)(n:Nat),K.lookup a=some o/\o.cls= .type "list"/\o.dict=none/\o.data= .seq its n/\its.size<=sizeLine/\Vals xs its.toList
def SqT(K:W.Frag)(H:Hp)(a:Addr)(xs:List V):Prop :=
 Rd H a (.tup xs)\/
  ∃(o:Obj)(its:Array Value)(n:Nat),K.lookup a=some o/\o.cls= .type "tuple"/\o.data= .seq its n/\its.size<=sizeLine/\Vals xs its.toList
def absV:Value->Option V
 | .none=>some .non
 | .bool b=>some (.bl b)
 | .int i _=>some (.int i)
 | .str x _=>some (.str x)
 | .bytes b _=>some (.byt b)
 | .float b _=>some (.flt b)
 | .ref a=>some (.ref a)
 | .type n=>some (.ty n)
 | _=>none
theorem RelV.abs{x:V}{u:Value}(r:RelV x u):absV u=some x:=by
 cases x with
 |non=>cases r;rfl
 |bl _=>cases r;rfl
 |int _=>obtain⟨t,rfl⟩:=r;rfl
 |str _=>obtain⟨t,rfl⟩:=r;rfl
 |byt _=>obtain⟨t,rfl⟩:=r;rfl
 |flt _=>obtain⟨t,rfl⟩:=r;rfl
 |ref _=>cases r;rfl
 |ty _=>cases r;rfl
theorem RelV.inj{x y:V}{u:Value}(r:RelV x u)(q:RelV y u):x=y:=Option.some.inj (r.abs.symm.trans q.abs)
theorem Vals.inj:∀{xs ys:List V}{us:List Value},Vals xs us->Vals ys us->xs=ys
 | _,_,_,.nil,.nil=>rfl
 | _,_,_,.cons r t,.cons r' t'=>by rw[r.inj r',Vals.inj t t']
section
variable{X:Cx}{pins:List (Addr×Obj)}{σ:St}{H:Hp}{s:Shared}{a:Addr}{xs ys:List V}
theorem SqL.of{K:W.Frag}(h:H a=some (.lst xs)):SqL K H a xs:=.inl (.inl h)
theorem SqT.of{K:W.Frag}(h:H a=some (.tup xs)):SqT K H a xs:=.inl (.inl h)
theorem Inv.list(I:Inv X pins σ H s)(h:SqL X.K H a xs):∃its:List Value,Vals xs its/\PlainL s.heap a its.toArray/\xs.length<=sizeLine:=by
 rcases h with h|⟨o,its,n,hk,hc,hd,hs,hz,r⟩
 ·obtain⟨z,its,n,r,e⟩:=h.ok I.hok;exact⟨its,r,⟨_,n,e,rfl,rfl,rfl⟩,z⟩
 ·refine⟨its.toList,r,⟨o,n,I.kIn a o hk,hc,hd,by simpa using hs⟩,?_⟩;have e:=r.length;simp only[Array.length_toList]at e;omega
theorem Inv.tuple(I:Inv X pins σ H s)(h:SqT X.K H a xs):∃its:List Value,Vals xs its/\IsTup s.heap a its.toArray/\xs.length<=sizeLine:=by
 rcases h with h|⟨o,its,n,hk,hc,hs,hz,r⟩
 ·obtain⟨z,its,r,p,_⟩:=h.ok I.hok;exact⟨its,r,p,z⟩
 ·refine⟨its.toList,r,⟨o,I.kIn a o hk,hc,n,by simpa using hs⟩,?_⟩;have e:=r.length;simp only[Array.length_toList]at e;omega
theorem Inv.list_inj(I:Inv X pins σ H s)(h:SqL X.K H a xs)(h':SqL X.K H a ys):xs=ys:=by
 obtain⟨its,r,⟨o,n,e,_,_,d⟩,_⟩:=I.list h;obtain⟨its',r',⟨o',n',e',_,_,d'⟩,_⟩:=I.list h';rw[e]at e';cases e';rw[d]at d';injection d' with d1 _
 have:its=its':=by simpa using congrArg Array.toList d1
 subst this;exact r.inj r'
theorem Inv.tuple_inj(I:Inv X pins σ H s)(h:SqT X.K H a xs)(h':SqT X.K H a ys):xs=ys:=by
 obtain⟨its,r,⟨o,e,_,n,d⟩,_⟩:=I.tuple h;obtain⟨its',r',⟨o',e',_,n',d'⟩,_⟩:=I.tuple h';rw[e]at e';cases e';rw[d]at d';injection d' with d1 _
 have:its=its':=by simpa using congrArg Array.toList d1
 subst this;exact r.inj r'
end
abbrev Cx.wish(X:Cx)(E:Value->Shared->Prop):Cx:={X with xe:=E}
abbrev Cx.nox(X:Cx):Cx:=X.wish fun _ _=>False
theorem Cx.Ok.wish{X:Cx}(ok:X.Ok)(E:Value->Shared->Prop):(X.wish E).Ok :=
 ⟨ok.mod,ok.kind,ok.glob,ok.blt,ok.above,ok.inj,ok.has,ok.cab,ok.hd,ok.frames,ok.stk,ok.exf,ok.bs,ok.bsz,ok.noex,ok.exfs,ok.funs,ok.frf⟩
theorem Cx.Ok.unwish{X:Cx}{E:Value->Shared->Prop}(ok:(X.wish E).Ok):X.Ok :=
 ⟨ok.mod,ok.kind,ok.glob,ok.blt,ok.above,ok.inj,ok.has,ok.cab,ok.hd,ok.frames,ok.stk,ok.exf,ok.bs,ok.bsz,ok.noex,ok.exfs,ok.funs,ok.frf⟩
section
variable{X:Cx}{pins:List (Addr×Obj)}{σ:St}{H:Hp}{s:Shared}{E:Value->Shared->Prop}
theorem Inv.wish(I:Inv X pins σ H s)(E:Value->Shared->Prop):Inv (X.wish E) pins σ H s:=⟨I.ok.wish E,I.os,I.bare,I.base,I.loc,I.cell,I.free,I.freeC,I.pin,I.hok,I.len⟩
theorem Inv.unwish(I:Inv (X.wish E) pins σ H s):Inv X pins σ H s:=⟨I.ok.unwish,I.os,I.bare,I.base,I.loc,I.cell,I.free,I.freeC,I.pin,I.hok,I.len⟩
theorem SP.unwish{D:Ends}{f:Flow}{s':Shared}(h:SP (X.wish E) pins D f s'):SP X pins D f s':=by
 cases f with
 |next=>obtain⟨σ',H',I,q⟩:=h;exact⟨σ',H',I.unwish,q⟩
 |brk=>obtain⟨σ',H',I,q⟩:=h;exact⟨σ',H',I.unwish,q⟩
 |cont=>obtain⟨σ',H',I,q⟩:=h;exact⟨σ',H',I.unwish,q⟩
 |ret u=>obtain⟨v,σ',H',I,r,q⟩:=h;exact⟨v,σ',H',I.unwish,r,q⟩
theorem PSs.nox{st:List Stmt}{t:TS}(h:PSs X.nox st t):PSs X st t:=fun pins s σ H D I hw =>
 wpAny_mono (h pins s σ H D (I.wish _) hw) (fun _ _ q=>q.unwish) fun _ _ z=>False.elim z
end
section
variable{X:Cx}{st:Stmt}{rest:List Stmt}{t u:TS}{e:Expr}{te:TE}{pos:Pos}
def d8:TS:=fun D σ H=>D.nx σ H
def tSeq(t u:TS):TS:=fun D σ H=>t {D with nx:=u D} σ H
theorem zk:PSs X [] d8:=fun _ _ σ H _ I h=>wpAny_execs_nil ⟨σ,H,I,h⟩
theorem z8(h1:PS X st t)(h2:PSs X rest u):PSs X (st::rest) (tSeq t u):=by
 intro pins s σ H D I h;refine wpAny_execs_cons (thn (h1 pins s σ H {D with nx:=u D} I h) fun f s1 q=>?_);cases f with
 |next =>
  obtain⟨σ',H',I',q⟩:=q;exact h2 pins s1 σ' H' D I' q
 |ret v=>exact q
 |brk=>exact q
 |cont=>exact q
theorem z9(h1:PS X st t):PSs X [st] t:=by
 intro pins s σ H D I h;refine wpAny_execs_cons (thn (h1 pins s σ H D I h) fun f s1 q=>?_);cases f with
 |next=>exact wpAny_execs_nil q
 |ret v=>exact q
 |brk=>exact q
 |cont=>exact q
theorem Inv.quiet{pins:List (Addr×Obj)}{σ:St}{H:Hp}{s:Shared}(I:Inv X pins σ H s):interactive X.env=false:=by simp[interactive,I.ok.kind]
def tDrop(te:TE):TS:=fun D σ H=>te σ H fun _ H1=>D.nx σ H1
theorem yB(he:PE X e te)(hs:swapsWith e none pos.line X.env=pure false:=by rfl):PS X (.Expr e pos) (tDrop te):=by
 intro pins s σ H D I h;exact wpAny_Expr_any (thn (he pins s σ H _ I h) fun v s1 ⟨x,H1,I1,r1,q1⟩=>⟨σ,H1,I1,q1⟩) I.quiet hs
def tRet(te:TE):TS:=fun D σ H=>te σ H D.rt
theorem zo(he:PE X e te):PS X (.Return (some e) pos) (tRet te):=by
 intro pins s σ H D I h;exact wpAny_Return_some (thn (he pins s σ H _ I h) fun v s1 ⟨x,H1,I1,r1,q1⟩=>⟨x,σ,H1,I1,r1,q1⟩)
def tIfS(c:TT)(t u:TS):TS:=fun D σ H=>c σ H fun b H1=>if b=true then t D σ H1 else u D σ H1
theorem zC{c:Expr}{a b:List Stmt}{tc:TT}(hc:PT X c tc)(ha:PSs X a t)(hb:PSs X b u):PS X (.If c a b pos) (tIfS tc t u):=by
 intro pins s σ H D I h;refine wpAny_If (thn (hc pins s σ H _ I h) fun d s1 ⟨H1,I1,q1⟩=>?_);cases d with
 |true=>exact ha pins s1 σ H1 D I1 q1
 |false=>exact hb pins s1 σ H1 D I1 q1
def tNever:TS:=fun _ _ _=>False
theorem rm:PS X st tNever:=fun _ _ _ _ _ _ h=>h.elim
end
abbrev TG:=V->St->Hp->(St->Hp->Prop)->Prop
abbrev TGs:=List V->St->Hp->(St->Hp->Prop)->Prop
def PG(X:Cx)(target:Expr)(t:TG):Prop :=
 ∀(pins:List (Addr×Obj))(s:Shared)(σ:St)(H:Hp)(v:V)(u:Value)(Q:St->Hp->Prop),Inv X pins σ H s->RelV v u->t v σ H Q->
  wpAny (model X.prog X.w) X.A (assign target X.env u) (fun _ s'=>∃ σ' H',Inv X pins σ' H' s'/\Q σ' H') X.xe s
def PGs(X:Cx)(ts:List Expr)(t:TGs):Prop :=
 ∀(pins:List (Addr×Obj))(s:Shared)(σ:St)(H:Hp)(vs:List V)(us:List Value)(Q:St->Hp->Prop),Inv X pins σ H s->Vals vs us->t vs σ H Q->
  wpAny (model X.prog X.w) X.A (assignInOrder ((assignEach ts X.env).map (·.2)) us) (fun _ s'=>∃ σ' H',Inv X pins σ' H' s'/\Q σ' H') X.xe s
abbrev TSet:=V->V->V->Hp->(Hp->Prop)->Prop
def PSet(X:Cx)(t:TSet):Prop :=
 ∀(pins:List (Addr×Obj))(s:Shared)(σ:St)(H:Hp)(o i v:V)(ov iv u:Value)(Q:Hp->Prop),Inv X pins σ H s->RelV o ov->RelV i iv->RelV v u->t o i v H Q->
  wpAny (model X.prog X.w) X.A (setItem ov iv u) (fun _ s'=>∃ H',Inv X pins σ H' s'/\Q H') X.xe s
abbrev TIp:=V->V->Hp->VK->Prop
def PIp(X:Cx)(op:Operator)(t:TIp):Prop :=
 ∀(pins:List (Addr×Obj))(s:Shared)(σ:St)(H:Hp)(x y:V)(v u:Value)(Q:VK),Inv X pins σ H s->RelV x v->RelV y u->t x y H Q->
  wpAny (model X.prog X.w) X.A (inplaceOp op v u) (EP X pins σ Q) X.xe s
section
variable{X:Cx}{pos:Pos}
def jX(i:Nat):TG:=fun v σ H Q=>Q (σ.set i (some v)) H
theorem cB{i:Nat}{x:Str}(hN:X.N.Nodup)(hi:X.N[i]? =some x)(hx:Loc X.env.scope x)(hf:X.fn x=true\/X.env.scope.names.lookup x=some .local:=by first|exact .inl rfl|exact .inr rfl|assumption):PG X (.Name x pos) (jX i):=by
 intro pins s σ H v u Q I r h;exact wpAny_assign_Name (jI I hN hi hx r (fun s' I'=>⟨_,H,I',h⟩) hf)
def gNil:TGs:=fun vs σ H Q=>vs=[]/\Q σ H
def gCons(t:TG)(u:TGs):TGs:=fun vs σ H Q=>∃ v r,vs=v::r/\t v σ H fun σ' H'=>u r σ' H' Q
theorem jD:PGs X [] gNil:=by
 intro pins s σ H vs us Q I r h;obtain⟨e,h⟩:=h;subst e;cases r;exact assignInOrder_nil ⟨σ,H,I,h⟩
theorem zR{e:Expr}{es:List Expr}{t:TG}{u:TGs}(h1:PG X e t)(h2:PGs X es u)(hs:(assignEach (e::es) X.env).map (·.2)=assign e X.env::(assignEach es X.env).map (·.2):=by rfl):PGs X (e::es) (gCons t u):=by
 intro pins s σ H vs us Q I r h;obtain⟨v,vr,e1,h⟩:=h;subst e1;cases r with
 |cons r rr =>
  rw[hs];refine assignInOrder_cons (thn (h1 pins s σ H _ _ _ I r h) fun _ s1 ⟨σ1,H1,I1,q1⟩=>?_);exact h2 pins s1 σ1 H1 _ _ Q I1 rr q1
def gTup(K:W.Frag)(n:Nat)(t:TGs):TG:=fun v σ H Q=>∃ a xs,v= .ref a/\SqT K H a xs/\xs.length=n/\t xs σ H Q
theorem vv{es:List Expr}{k:Nat}{t:TGs}{n:Nat}(hc:X.calm=true)(h:PGs X es t)(hn:(assignEach es X.env).length=n:=by rfl)(hst:(assignEach es X.env).findIdx? (·.1)=none:=by rfl):PG X (.Tuple es k pos) (gTup X.K n t):=by
 intro pins s σ H v u Q I r hw;obtain⟨a,xs,e1,hq,hl,hw⟩:=hw;subst e1;cases r;obtain⟨its,rv,ht,hz⟩:=I.tuple hq;refine assign_Tuple_tuple (I.ok.hd hc) ht (by simp[hn,<-hl,rv.length]) hst fun h' hx=>?_;have I1:Inv X pins σ H {s with heap:=h'}:=I.kept (t':=s.toks) fun b o e=>hx b o (ne_of_lt (Heap.lt_size e)) e;exact h pins _ σ H xs _ Q I1 (by simpa using rv) hw
def gSub(to ti:TE)(t:TSet):TG:=fun v σ H Q=>to σ H fun o H1=>ti σ H1 fun i H2=>t o i v H2 fun H3=>Q σ H3
theorem pg_sub{o i:Expr}{to ti:TE}{t:TSet}(ho:PE X o to)(hi:PE X i ti)(hs:PSet X t)(ha:∀v,assign (.Subscript o i pos) X.env v=(do
   let ov <-holding [v] (eval o X.env)
   let iv <-holding [v,ov] (eval i X.env)
   standAt pos
   holding [v,ov,iv] (setItem ov iv v)
   release [v,ov,iv] []):=by intro _;rfl):PG X (.Subscript o i pos) (gSub to ti t):=by
 intro pins s σ H v u Q I r h;rw[ha];refine wpAny_bind (wpAny_holding (thn (ho pins s σ H _ I h) fun ov s1 ⟨x,H1,I1,r1,q1⟩=>?_));refine wpAny_bind (wpAny_holding (thn (hi pins s1 σ H1 _ I1 q1) fun iv s2 ⟨y,H2,I2,r2,q2⟩=>?_));refine wpAny_bind (wpAny_standAt (wpAny_bind (wpAny_holding (thn (hs pins s2 σ H2 x y v ov iv u _ I2 r1 r2 r q2) fun _ s3 ⟨H3,I3,q3⟩=>?_))));exact wpAny_release ⟨σ,H3,I3,q3⟩
def tAsg(te:TE)(g:TG):TS:=fun D σ H=>te σ H fun x H1=>g x σ H1 D.nx
theorem gY{tg e:Expr}{te:TE}{g:TG}(he:PE X e te)(hg:PG X tg g)(hs:swapsWithSole [tg] e pos.line X.env=pure false:=by rfl)(hw:swappedStores [tg] e X.env=pure none:=by rfl)(h1:(assignEach [tg] X.env).map (·.2)=[assign tg X.env]:=by rfl):PS X (.Assign [tg] e pos) (tAsg te g):=by
 intro pins s σ H D I h;refine wpAny_Assign_stores (thn (he pins s σ H _ I h) fun v s1 ⟨x,H1,I1,r1,q1⟩=>?_) hs hw;rw[h1];exact thn (hg pins s1 σ H1 x v _ I1 r1 q1) fun _ s2 q=>q
theorem ps_set{i:Nat}{x:Str}{e:Expr}{te:TE}{pos':Pos}(hN:X.N.Nodup)(hi:X.N[i]? =some x)(hx:Loc X.env.scope x)(he:PE X e te)(hs:swapsWith e (some (.Name x pos')) pos.line X.env=pure false:=by rfl)(hf:X.fn x=true\/X.env.scope.names.lookup x=some .local:=by first|exact .inl rfl|exact .inr rfl|assumption) :
  PS X (.Assign [.Name x pos'] e pos) (tAsg te (jX i)):=by
 intro pins s σ H D I h;refine wpAny_Assign_Name (thn (he pins s σ H _ I h) fun v s1 ⟨y,H1,I1,r1,q1⟩=>?_) hs;exact jI I1 hN hi hx r1 (fun s2 I2=>⟨_,H1,I2,q1⟩) hf
def tPar(i j:Nat)(ta:TA):TS:=fun D σ H=>ta σ H fun vs H1=>∃ v w,vs=[v,w]/\D.nx ((σ.set i (some v)).set j (some w)) H1
theorem ps_par{i j:Nat}{x y:Str}{a b:Expr}{ta:TA}{px py pt:Pos}{kt k2 pt2}(hc:X.calm=true)(hN:X.N.Nodup)(hi:X.N[i]? =some x)(hj:X.N[j]? =some y)(hij:i≠j)(hx:X.env.scope.names.lookup x=some .local)(hy:X.env.scope.names.lookup y=some .local)(ha:PA X [a,b] ta)(hw:swappedStores [.Tuple [.Name x px,.Name y py] kt pt] (.Tuple [a,b] k2 pt2) X.env=pure (some [x,y]))(hs:swapsWithSole [.Tuple [.Name x px,.Name y py] kt pt] (.Tuple [a,b] k2 pt2) pos.line X.env=pure false:=by rfl) :
  PS X (.Assign [.Tuple [.Name x px,.Name y py] kt pt] (.Tuple [a,b] k2 pt2) pos) (tPar i j ta):=by
 intro pins s σ H D I h;rw[exec_Assign_arm];refine wpAny_bind (wpAny_standAt ?_);rw[hs];refine wpAny_bind (wpAny_pure ?_);rw[if_neg (by decide)];refine wpAny_bind (Tuple_ (thn (ha _ pins s σ H _ I h) fun us s1 ⟨vs,H1,I1,r1,q1⟩=>?_));obtain⟨v,w,e1,q1⟩:=q1;subst e1;obtain⟨u1,u2,rfl,rv,rw'⟩:∃u1 u2,us=[u1,u2]/\RelV v u1/\RelV w u2:=by
  cases r1 with
  |cons p q =>
   cases q with
   |cons p' q' =>
    cases q';exact⟨_,_,rfl,p,p'⟩
 refine wpAny_newObj_type ?_ (by show 2<=sizeLine;decide);have I2:Inv X pins σ H1 {s1 with heap:=s1.heap.push {cls:=.type "tuple",data:=.seq [u1,u2].toArray}}:=I1.kept (t':=s1.toks) fun b o e=>Heap.get?_push_of_some _ e;rw[hw];refine wpAny_bind (wpAny_pure ?_);show wpAny (model X.prog X.w) X.A (do rule "assign.swapped-stores";let items <-unpackItems (.ref s1.heap.objs.size) 2 none;assignInOrder [fun v=>bindName X.env y v,fun v=>bindName X.env x v] items.reverse;pure Flow.next) _ _ _;refine wpAny_bind (wpAny_rule (wpAny_bind (unpackItems_tuple (items:=#[u1,u2]) (I.ok.hd hc) (IsTup.new s1.heap _) fun h' hx'=>?_)));have I3:=I2.kept (h':=h') (t':=s1.toks) fun b o e=>hx' b o (ne_of_lt (Heap.lt_size e)) e;show wpAny _ _ (assignInOrder [fun v=>bindName X.env y v,fun v=>bindName X.env x v] [u2,u1] >>= fun _=>pure Flow.next) _ _ _;refine wpAny_bind (assignInOrder_cons (wpAny_bindName (jI I3 hN hj (.inl hy) rw' (fun s2 I4=>?_) (.inr hy))));refine assignInOrder_cons (wpAny_bindName (jI I4 hN hi (.inl hx) rv (fun s3 I5=>assignInOrder_nil (wpAny_pure ?_)) (.inr hx)));rw[List.set_comm _ _ (Ne.symm hij)]at I5;exact⟨_,H1,I5,q1⟩
def tAug(i:Nat)(te:TE)(ti:TIp):TS:=fun D σ H=>∃ x,σ[i]? =some (some x)/\te σ H fun y H1=>ti x y H1 fun z H2=>D.nx (σ.set i (some z)) H2
theorem ps_aug{i:Nat}{x:Str}{e:Expr}{te:TE}{op:Operator}{ti:TIp}{pos':Pos}(hN:X.N.Nodup)(hi:X.N[i]? =some x)(hx:Loc X.env.scope x)(he:PE X e te)(ho:PIp X op ti)(hf:X.fn x=true\/X.env.scope.names.lookup x=some .local:=by first|exact .inl rfl|exact .inr rfl|assumption) :
  PS X (.AugAssign (.Name x pos') op e pos) (tAug i te ti):=by
 intro pins s σ H D I h;obtain⟨v,e1,h⟩:=h;obtain⟨m,hn,hl⟩:=I.loc;have vis:Vis X.env.scope x:=by rcases hx with k|k;exact .inl k;exact .inr (.inl k)
 obtain⟨u,r,l⟩:=hl i x v hi e1 vis;refine wpAny_AugAssign_Name ?_;have go:wpAny (model X.prog X.w) X.A (eval e X.env) (fun w s₂=>wpAny (model X.prog X.w) X.A (inplaceOp op u w) (fun r s₃=>wpAny (model X.prog X.w) X.A (storeName X.env x r) (fun _=>SP X pins D .next) X.xe s₃) X.xe s₂) X.xe s:=by
  refine thn (he pins s σ H _ I h) fun w s1 ⟨y,H1,I1,r1,q1⟩=>?_;refine thn (ho pins s1 σ H1 v y u w _ I1 r r1 q1) fun z s2 ⟨zv,H2,I2,r2,q2⟩=>?_;exact jI I2 hN hi hx r2 (fun s3 I3=>⟨_,H2,I3,q2⟩) hf
 rcases l with⟨hk,hm⟩|⟨hk,c,hc,hcell⟩
 ·exact wpAny_loadName_local I.ok.kind hk hn hm go
 ·rcases hk with hk|hk
  ·exact wpAny_loadName_cell I.ok.kind hk hc hcell go
  ·rcases hx with k|k
   ·have:X.env.scope.names.lookup x=some .free:=hk;rw[k]at this;cases this
   ·have:X.env.scope.names.lookup x=some .free:=hk;rw[k]at this;cases this
def tAugS(to ti te:TE)(tget:V->V->Hp->VK->Prop)(tip:TIp)(tset:TSet):TS:=fun D σ H=>to σ H fun o H1=>ti σ H1 fun i H2=>tget o i H2 fun x H3=>te σ H3 fun y H4=>tip x y H4 fun z H5=>tset o i z H5 fun H6=>D.nx σ H6
def PGet(X:Cx)(t:V->V->Hp->VK->Prop):Prop :=
 ∀(pins:List (Addr×Obj))(s:Shared)(σ:St)(H:Hp)(o i:V)(ov iv:Value)(Q:VK),Inv X pins σ H s->RelV o ov->RelV i iv->t o i H Q->
  wpAny (model X.prog X.w) X.A (getItem ov iv) (EP X pins σ Q) X.xe s
theorem ps_augS{o i e:Expr}{to ti te:TE}{tget:V->V->Hp->VK->Prop}{tip:TIp}{tset:TSet}{op:Operator}{tpos:Pos}(ho:PE X o to)(hi:PE X i ti)(hg:PGet X tget)(he:PE X e te)(hp:PIp X op tip)(hs:PSet X tset)(ha:∀ov iv new,augStore i ov iv new=(do holding [new,ov,iv] (setItem ov iv new);release [new,ov,iv] [];pure .next):=by intros;rfl):PS X (.AugAssign (.Subscript o i tpos) op e pos) (tAugS to ti te tget tip tset):=by
 intro pins s σ H D I h;refine wpAny_AugAssign_SubscriptAny (thn (ho pins s σ H _ I h) fun ov s1 ⟨x1,H1,I1,r1,q1⟩=>?_) ha;refine thn (hi pins s1 σ H1 _ I1 q1) fun iv s2 ⟨x2,H2,I2,r2,q2⟩=>?_;refine thn (hg pins s2 σ H2 x1 x2 ov iv _ I2 r1 r2 q2) fun old s3 ⟨x3,H3,I3,r3,q3⟩=>?_;refine thn (he pins s3 σ H3 _ I3 q3) fun v s4 ⟨x4,H4,I4,r4,q4⟩=>?_;refine thn (hp pins s4 σ H4 x3 x4 old v _ I4 r3 r4 q4) fun new s5 ⟨x5,H5,I5,r5,q5⟩=>?_;exact thn (hs pins s5 σ H5 x1 x2 x5 ov iv new _ I5 r1 r2 r5 q5) fun _ s6 ⟨H6,I6,q6⟩=>⟨σ,H6,I6,q6⟩
def ipI(f:Int->Int->Int):TIp:=fun x y H Q=>∃ i j,x= .int i/\y= .int j/\Q (.int (f i j)) H
theorem ip_add:PIp X .Add (ipI fun i j=>i+j):=by
 intro pins s σ H x y v u Q I r1 r2 h;obtain⟨i,j,e1,e2,q⟩:=h;subst e1;subst e2;obtain⟨t,rfl⟩:=r1;obtain⟨t',rfl⟩:=r2;exact iadd_int ⟨.int _,H,I.tok _,⟨_,rfl⟩,q⟩
end
section
variable{X:Cx}{pos:Pos}
def tWhile(c:TT)(tb:TS):TS:=fun D σ H=>∃ W0:Nat->St->Hp->Prop,(∃m,W0 m σ H)/\ ∀m σ H,W0 m σ H->
 c σ H fun b H1=>if b=true then ∃N:St->Hp->Prop,(∀ σ' H',N σ' H'-> ∃m',m'<m/\W0 m' σ' H')/\tb {D with nx:=N,ct:=N,bk:=D.nx} σ H1 else D.nx σ H1
theorem bp{c:Expr}{body:List Stmt}{tc:TT}{tb:TS}(hp:PassesOwn (model X.prog X.w) X.A X.env X.xe)(hc:PT X c tc)(hb:PSs X body tb):PS X (.While c body [] pos) (tWhile tc tb):=by
 intro pins s σ H D I h;obtain⟨W0,⟨m0,w0⟩,turn⟩:=h;refine wpAny_While (codeAny_whileLoop (fun n s'=>∃ σ' H',Inv X pins σ' H' s'/\W0 n σ' H') ?_ m0 ⟨σ,H,I,w0⟩);rintro n s1 ⟨σ1,H1,I1,w1⟩;refine wpAny_passesOwn hp (thn (hc pins s1 σ1 H1 _ I1 (turn n σ1 H1 w1)) fun b s2 ⟨H2,I2,q2⟩=>?_);cases b with
 |true =>
  obtain⟨N,hN,q2⟩:=q2;rw[if_pos rfl];refine wpAny_passesOwn hp (thn (hb pins s2 σ1 H2 _ I2 q2) fun f s3 q3=>?_);cases f with
  |next =>
   obtain⟨σ3,H3,I3,n3⟩:=q3;obtain⟨m',hm,w3⟩:=hN σ3 H3 n3;exact⟨m',hm,σ3,H3,I3,w3⟩
  |cont =>
   obtain⟨σ3,H3,I3,n3⟩:=q3;obtain⟨m',hm,w3⟩:=hN σ3 H3 n3;exact⟨m',hm,σ3,H3,I3,w3⟩
  |brk=>exact q3
  |ret v=>exact q3
 |false =>
  rw[if_neg Bool.false_ne_true];exact wpAny_execs_nil ⟨σ1,H2,I2,q2⟩
end
structure It where
 go:Nat->Hp->Prop
 yld:Nat->Hp->V->Hp->Prop
 stop:Nat->Hp->Prop
def FpOk(X:Cx)(pins:List (Addr×Obj))(H:Hp)(b:Addr):Prop :=
 H b=none/\b≠X.env.locals/\b∉X.fs/\(b∈X.ex\/X.s₀.heap.objs.size<=b)/\(∀x c,X.env.cells.lookup x=some c->c≠b)/\ ∀p∈X.pn++pins,p.1≠b
theorem Inv.fpOk{X:Cx}{pins:List (Addr×Obj)}{σ:St}{H H':Hp}{s:Shared}{b:Addr}(I:Inv X pins σ H s)(hb:s.heap.objs.size<=b)(hn:H' b=none):FpOk X pins H' b:=by
 refine⟨hn,Nat.ne_of_gt (lt_of_lt_of_le I.lt hb),I.nofs hb,.inr (le_trans I.sz hb),fun x c e z=>?_,fun p hp z=>?_⟩
 ·obtain⟨v,q⟩:=I.cell x c e;exact absurd (lt_of_lt_of_le q.lt (by rw[z];exact hb)) (lt_irrefl _)
 ·exact absurd (lt_of_lt_of_le (Heap.lt_size (I.pin p hp).1) (by rw[z];exact hb)) (lt_irrefl _)
structure Turn(P:Program)(w:World)(K:W.Frag)(tg:Expr)(J:It)(fp:List Addr)(it:Addr)(tn:Nat->Heap->Prop):Prop where
 mem:it∈fp
 obj:∀i h,tn i h-> ∀b∈fp,∃o,h.get? b=some o/\ ∀v,o.data≠ .cell v
 keep:∀i h h',tn i h->(∀b∈fp,∀o,h.get? b=some o->h'.get? b=some o)->tn i h'
 item:∀(X:Cx),X.prog=P->X.w=w->X.K=K->X.calm=true-> ∀(i:Nat)(pins:List (Addr×Obj))(s:Shared)(σ:St)(H:Hp)(E:Value->Shared->Prop),Inv X pins σ H s->(∀b∈fp,FpOk X pins H b)->tn i s.heap->J.go i H->
  wpAny (model P w) X.A (pyNext (.ref it)) (fun r s1=>∃ u,r=some u/\
   wpAny (model P w) X.A (letOwnedTupleGo tg (.ref it) u) (fun _ s2=>∃ x H',Inv X pins σ H' s2/\RelV x u/\J.yld i H x H'/\tn (i+1) s2.heap/\ ∀b∈fp,H' b=none) E s1) E s
 done:∀(X:Cx),X.prog=P->X.w=w->X.K=K->X.calm=true-> ∀(i:Nat)(pins:List (Addr×Obj))(s:Shared)(σ:St)(H:Hp)(E:Value->Shared->Prop),Inv X pins σ H s->(∀b∈fp,FpOk X pins H b)->tn i s.heap->J.stop i H->
  wpAny (model P w) X.A (pyNext (.ref it)) (fun r s1=>r=none/\Inv X pins σ H s1) E s
 self:∀(A:Around)(i:Nat)(s:Shared)(Q:Value->Shared->Prop)(E:Value->Shared->Prop),tn i s.heap->Q (.ref it) s->wpAny (model P w) A (pyIter (.ref it)) Q E s
abbrev TI:=St->Hp->(It->Hp->Prop)->Prop
def PIE(X:Cx)(pins:List (Addr×Obj))(σ:St)(tg:Expr)(R:It->Hp->Prop)(itv:Value)(s2:Shared):Prop :=
 ∃(it:Addr)(fp:List Addr)(tn:Nat->Heap->Prop)(J:It)(H':Hp),itv= .ref it/\Inv X pins σ H' s2/\Turn X.prog X.w X.K tg J fp it tn/\tn 0 s2.heap/\(∀b∈fp,FpOk X pins H' b)/\R J H'
def PI(X:Cx)(tg iter:Expr)(wi:TI):Prop :=
 ∀(pins:List (Addr×Obj))(s:Shared)(σ:St)(H:Hp)(R:It->Hp->Prop),Inv X pins σ H s->wi σ H R->
  wpAny (model X.prog X.w) X.A (eval iter X.env) (fun v s1=>wpAny (model X.prog X.w) X.A (pyIter v) (PIE X pins σ tg R) X.xe s1) X.xe s
theorem go_of{M:Model}{A:Around}{E:Value->Shared->Prop}{s:Shared}{tg:Expr}{it:Addr}{u:Value}{o:Obj}{n:String}{vs:Array Value}{Q:Unit->Shared->Prop}(ho:s.heap.get? it=some o)(hc:o.cls= .type n)(hd:o.data= .fields vs)(hn:["enumerate","zip","dict_itemiterator","dict_reverseitemiterator","odict_iterator","itertools.zip_longest","itertools.pairwise"].contains n=false)(hQ:Q () s):wpAny M A (letOwnedTupleGo tg (.ref it) u) Q E s:=by
 unfold letOwnedTupleGo;cases tg <;>first
  |exact wpAny_pure hQ
  |(cases u <;>first
    |exact wpAny_pure hQ
    |(refine wpAny_bind (wpAny_load ho ?_)
      rw[hc,hd];show wpAny M A (if(["enumerate","zip","dict_itemiterator","dict_reverseitemiterator","odict_iterator","itertools.zip_longest","itertools.pairwise"].contains n&&vs[0]? ==some (rawInt _))=true then _ else _) Q E s;rw[if_neg (by intro h;rw[hn,Bool.false_and]at h;cases h)];exact wpAny_pure hQ))
def Itl(K:W.Frag)(a:Addr):It :=
 ⟨fun i H=>∃ xs x,SqL K H a xs/\xs[i]? =some x,fun i H x H'=>H'=H/\ ∀xs,SqL K H a xs->xs[i]? =some x,fun i H=>∃ xs,SqL K H a xs/\xs.length<=i⟩
def Itt(K:W.Frag)(a:Addr):It :=
 ⟨fun i H=>∃ xs x,SqT K H a xs/\xs[i]? =some x,fun i H x H'=>H'=H/\ ∀xs,SqT K H a xs->xs[i]? =some x,fun i H=>∃ xs,SqT K H a xs/\xs.length<=i⟩
def Itr(lo:Int)(n:Nat):It:=⟨fun i _=>i<n,fun i H x H'=>H'=H/\x= .int (lo+i),fun i _=>n<=i⟩
theorem turn_list{P:Program}{w:World}{K:W.Frag}{tg:Expr}(a it:Addr):Turn P w K tg (Itl K a) [it] it (fun i h=>h.IsListIter it a i) where
 mem:=by simp
 obj:=fun i h st b hb=>by
  have e:b=it:=by simpa using hb
  subst e;obtain⟨o,e,c,d⟩:=st;exact⟨o,e,fun v z=>by rw[d]at z;cases z⟩
 keep:=fun i h h' st k=>st.at fun o e=>k it (by simp) o e
 item:=by
  intro X hP hw hK hc i pins s σ H E I hf st hg;subst hP hw hK;obtain⟨xs,x,hq,hx⟩:=hg;obtain⟨its,rv,p,hz⟩:=I.list hq;obtain⟨u,hu,ru⟩:=rv.get hx;obtain⟨f0,f1,f2,f3,f4,f5⟩:=hf it (by simp);refine wpAny_pyNext_list_item st p.isList (x:=u) (by simpa using hu) fun h' st' sb=>?_;have I1:Inv X pins σ H {s with heap:=h'}:=I.turned (t':=s.toks) (fun b o hb e=>(sb.2 b hb).trans e) f0 f1 f3 f4 f5;obtain⟨o,e,c,d⟩:=id st';exact⟨u,rfl,go_of (s:={s with heap:=h'}) e c d (by decide) ⟨x,H,I1,ru,⟨rfl,fun ys hy=>by rw[I.list_inj hy hq];exact hx⟩,st',fun b hb=>(hf b hb).1⟩⟩
 done:=by
  intro X hP hw hK hc i pins s σ H E I hf st hg;subst hP hw hK;obtain⟨xs,hq,hx⟩:=hg;obtain⟨its,rv,p,hz⟩:=I.list hq;obtain⟨f0,f1,f2,f3,f4,f5⟩:=hf it (by simp);have hl:=rv.length;exact wpAny_pyNext_list_end (I.ok.hd hc) st p.isList (by simp;omega) fun h' eb=>⟨rfl,I.turned (t':=s.toks) (fun b o hb e=>eb b o hb e) f0 f1 f3 f4 f5⟩
 self:=fun _ _ _ _ _ st h=>wpAny_pyIter_listiter st h
theorem turn_tuple{P:Program}{w:World}{K:W.Frag}{tg:Expr}(a it:Addr):Turn P w K tg (Itt K a) [it] it (fun i h=>h.IsTupleIter it a i) where
 mem:=by simp
 obj:=fun i h st b hb=>by
  have e:b=it:=by simpa using hb
  subst e;obtain⟨o,e,c,d⟩:=st;exact⟨o,e,fun v z=>by rw[d]at z;cases z⟩
 keep:=fun i h h' st k=>st.at fun o e=>k it (by simp) o e
 item:=by
  intro X hP hw hK hc i pins s σ H E I hf st hg;subst hP hw hK;obtain⟨xs,x,hq,hx⟩:=hg;obtain⟨its,rv,p,hz⟩:=I.tuple hq;obtain⟨u,hu,ru⟩:=rv.get hx;obtain⟨f0,f1,f2,f3,f4,f5⟩:=hf it (by simp);refine wpAny_pyNext_tuple_item st (show s.heap.IsTuple a its.toArray from p) (x:=u) (by simpa using hu) fun h' st' sb=>?_;have I1:Inv X pins σ H {s with heap:=h'}:=I.turned (t':=s.toks) (fun b o hb e=>(sb.2 b hb).trans e) f0 f1 f3 f4 f5;obtain⟨o,e,c,d⟩:=id st';exact⟨u,rfl,go_of (s:={s with heap:=h'}) e c d (by decide) ⟨x,H,I1,ru,⟨rfl,fun ys hy=>by rw[I.tuple_inj hy hq];exact hx⟩,st',fun b hb=>(hf b hb).1⟩⟩
 done:=by
  intro X hP hw hK hc i pins s σ H E I hf st hg;subst hP hw hK;obtain⟨xs,hq,hx⟩:=hg;obtain⟨its,rv,p,hz⟩:=I.tuple hq;obtain⟨f0,f1,f2,f3,f4,f5⟩:=hf it (by simp);have hl:=rv.length;exact wpAny_pyNext_tuple_end (I.ok.hd hc) st (show s.heap.IsTuple a its.toArray from p) (by simp;omega) fun h' eb=>⟨rfl,I.turned (t':=s.toks) (fun b o hb e=>eb b o hb e) f0 f1 f3 f4 f5⟩
 self:=fun _ _ _ _ _ st h=>wpAny_pyIter_tupleiter st h
theorem turn_range{P:Program}{w:World}{K:W.Frag}{tg:Expr}(it:Addr)(lo:Int)(n:Nat):Turn P w K tg (Itr lo n) [it] it (fun i h=>IsRangeIter h it (lo+(i:Nat)*1) ((n:Int)-(i:Nat)) 1) where
 mem:=by simp
 obj:=fun i h st b hb=>by
  have e:b=it:=by simpa using hb
  subst e;exact⟨_,st,fun v z=>by
   have z':Data.fields _=Data.cell v:=z;cases z'⟩
 keep:=fun i h h' st k=>k it (by simp) _ st
 item:=by
  intro X hP hw hK hc i pins s σ H E I hf st hg;subst hP hw hK;obtain⟨f0,f1,f2,f3,f4,f5⟩:=hf it (by simp);have W0:=Walks.range (prog:=X.prog) (w:=X.w) (I.ok.hd hc) it lo 1 n;refine W0.item i s _ _ hg st fun v h' tk hv st' kk=>?_;obtain⟨t,rfl⟩:=hv;have I1:Inv X pins σ H {s with heap:=h',toks:=tk}:=I.turned (fun b o hb e=>kk b o (by simpa using hb) e) f0 f1 f3 f4 f5;refine⟨_,rfl,go_of (s:={s with heap:=h',toks:=tk}) (n :="range_iterator") st' rfl rfl (by decide) ⟨.int (lo+i),H,I1,⟨t,?_⟩,⟨rfl,rfl⟩,st',fun b hb=>(hf b hb).1⟩⟩;rw[Int.mul_one]
 done:=by
  intro X hP hw hK hc i pins s σ H E I hf st hg;subst hP hw hK;obtain⟨f0,f1,f2,f3,f4,f5⟩:=hf it (by simp);exact wpAny_pyNext_range_end (I.ok.hd hc) st (by have:n<=i:=hg;omega) fun h' eb=>⟨rfl,I.turned (t':=s.toks) (fun b o hb e=>eb b o hb e) f0 f1 f3 f4 f5⟩
 self:=fun _ _ _ _ _ st h=>wpAny_pyIter_rangeiter st h
section
variable{X:Cx}{tg:Expr}
def iList(K:W.Frag)(tl:TE):TI:=fun σ H R=>tl σ H fun x H1=>∃ a,x= .ref a/\(∃xs,SqL K H1 a xs)/\R (Itl K a) H1
def iTup(K:W.Frag)(tl:TE):TI:=fun σ H R=>tl σ H fun x H1=>∃ a,x= .ref a/\(∃xs,SqT K H1 a xs)/\R (Itt K a) H1
theorem yA{l:Expr}{tl:TE}(hl:PE X l tl):PI X tg l (iList X.K tl):=by
 intro pins s σ H R I h;refine thn (hl pins s σ H _ I h) fun v s1 ⟨x,H1,I1,r1,q1⟩=>?_;obtain⟨a,e,⟨xs,hq⟩,q⟩:=q1;subst e;cases r1;obtain⟨its,rv,p,hz⟩:=I1.list hq;refine wpAny_pyIter_list p.isList ?_;refine⟨s1.heap.objs.size,[s1.heap.objs.size],_,_,H1,rfl,I1.kept (t':=s1.toks) fun b o e=>Heap.get?_push_of_some _ e,turn_list a _,⟨_,Heap.get?_push_size _ rfl,rfl,rfl⟩,fun b hb=>?_,q⟩;have e:b=s1.heap.objs.size:=by simpa using hb
 subst e;exact I1.fpOk (le_refl _) (I1.hok.fresh (le_refl _))
theorem kD{l:Expr}{tl:TE}(hl:PE X l tl):PI X tg l (iTup X.K tl):=by
 intro pins s σ H R I h;refine thn (hl pins s σ H _ I h) fun v s1 ⟨x,H1,I1,r1,q1⟩=>?_;obtain⟨a,e,⟨xs,hq⟩,q⟩:=q1;subst e;cases r1;obtain⟨its,rv,p,hz⟩:=I1.tuple hq;refine wpAny_pyIter_tuple (show s1.heap.IsTuple a its.toArray from p) ?_;refine⟨s1.heap.objs.size,[s1.heap.objs.size],_,_,H1,rfl,I1.kept (t':=s1.toks) fun b o e=>Heap.get?_push_of_some _ e,turn_tuple a _,⟨_,Heap.get?_push_size _ rfl,rfl,rfl⟩,fun b hb=>?_,q⟩;have e:b=s1.heap.objs.size:=by simpa using hb
 subst e;exact I1.fpOk (le_refl _) (I1.hok.fresh (le_refl _))
theorem range_it{pins:List (Addr×Obj)}{σ:St}{H:Hp}{s:Shared}{R:It->Hp->Prop}{E:Value->Shared->Prop}{lo hi:Int}{t u v:Tok}{tk:Nat}(I:Inv X pins σ H s)(h1:-(2^62)<=lo)(h2:lo<2^62)(h3:-(2^62)<=hi)(h4:hi<2^62)(q:R (Itr lo (hi-lo).toNat) H):wpAny (model X.prog X.w) X.A (pyIter (.ref s.heap.objs.size)) (PIE X pins σ tg R) E {s with heap:=s.heap.push {cls:=.type "range",data:=.fields #[.int lo t,.int hi u,.int 1 v]},toks:=tk}:=by
 refine wpAny_pyIter_range (IsRange.new ..) (small_one h1 h2 h3 h4) ?_;have I1:Inv X pins σ H {s with heap:=s.heap.push {cls:=.type "range",data:=.fields #[.int lo t,.int hi u,.int 1 v]},toks:=tk}:=I.kept fun b o e=>Heap.get?_push_of_some _ e;refine⟨(s.heap.push {cls:=.type "range",data:=.fields #[.int lo t,.int hi u,.int 1 v]}).objs.size,[(s.heap.push {cls:=.type "range",data:=.fields #[.int lo t,.int hi u,.int 1 v]}).objs.size],_,_,H,rfl,
  I1.kept (t':=tk) fun b o e=>Heap.get?_push_of_some _ e,turn_range _ lo (hi-lo).toNat,?_,fun b hb=>?_,q⟩
 ·have e1:lo+((0:Nat):Int)*1=lo:=by simp
  have e2:(((hi-lo).toNat:Nat):Int)-((0:Nat):Int)=Builtin.Range.rangeSize lo hi 1:=by rw[rangeSize_one];split <;>omega
  show IsRangeIter _ _ (lo+((0:Nat):Int)*1) ((((hi-lo).toNat:Nat):Int)-((0:Nat):Int)) 1;rw[e1,e2];exact Heap.get?_push_size _ rfl
 ·have e:b=(s.heap.push {cls:=.type "range",data:=.fields #[.int lo t,.int hi u,.int 1 v]}).objs.size:=by simpa using hb
  subst e;exact I1.fpOk (le_refl _) (I1.hok.fresh (le_refl _))
def iRng1(ta:TA):TI:=fun σ H R=>ta σ H fun vs H1=>∃ j:Int,vs=[.int j]/\ -(2^62)<=j/\j<2^62/\R (Itr 0 j.toNat) H1
theorem yN{a:Expr}{ta:TA}{p pos:Pos}(hg:Gl X "range")(hm:X.mg "range"=none)(ha:PA X [a] ta)(hs:starEach [a] X.env=[(false,eval a X.env)]:=by rfl):PI X tg (.Call (.Name "range" p) [a] [] pos) (iRng1 ta):=by
 intro pins s σ H R I h;refine Call_ (wa I hg hm boot_range (PyProof.Rows.callWith_type1 (thn (ha pos pins s σ H _ I h) fun us s1 ⟨vs,H1,I1,r1,q1⟩=>?_) hs rfl));obtain⟨j,e,q1,q2,q⟩:=q1;subst e;cases r1 with
 |cons r rr =>
  cases rr;obtain⟨t,rfl⟩:=r;exact call_range_1 (range_it I1 (by omega) (by omega) q1 q2 (by simpa using q))
def tFor(wi:TI)(g:TG)(tb:TS):TS:=fun D σ H=>wi σ H fun J H1=>∃ W0:Nat->Nat->St->Hp->Prop,(∃m,W0 0 m σ H1)/\ ∀i m σ H,W0 i m σ H->
 (J.stop i H/\D.nx σ H)\/(J.go i H/\ ∃N:St->Hp->Prop,(∀ σ' H',N σ' H'-> ∃m',m'<m/\W0 (i+1) m' σ' H')/\ ∀x H',J.yld i H x H'->g x σ H' fun σ2 H2=>tb {D with nx:=N,ct:=N,bk:=D.nx} σ2 H2)
def gX(fp:List Addr)(h:Heap):List (Addr×Obj):=fp.filterMap fun b=>(h.get? b).map fun o=>(b,o)
theorem kK{fp:List Addr}{h:Heap}{b:Addr}{o:Obj}(hb:b∈fp)(e:h.get? b=some o):(b,o)∈gX fp h:=List.mem_filterMap.mpr ⟨b,hb,by rw[e];rfl⟩
theorem of_pinsAt{fp:List Addr}{h:Heap}{p:Addr×Obj}(hp:p∈gX fp h):p.1∈fp/\h.get? p.1=some p.2:=by
 obtain⟨b,hb,e⟩:=List.mem_filterMap.mp hp;cases q:h.get? b with
 |none=>rw[q]at e;cases e
 |some o =>
  rw[q]at e;have e':(b,o)=p:=Option.some.inj e;subst e';exact⟨hb,q⟩
theorem Inv.pinned{pins:List (Addr×Obj)}{σ:St}{H:Hp}{s:Shared}{fp:List Addr}(I:Inv X pins σ H s)(hf:∀b∈fp,FpOk X pins H b)(ho:∀b∈fp,∃o,s.heap.get? b=some o/\ ∀v,o.data≠ .cell v):Inv X (pins++gX fp s.heap) σ H s :=
 I.pins_of fun p hp=>(mem_append.mp hp).elim (fun z=>I.pin p (mem_append_right _ z)) fun z=>by
  obtain⟨hb,e⟩:=of_pinsAt z;obtain⟨f0,f1,f2,_⟩:=hf p.1 hb;obtain⟨o,e',d⟩:=ho p.1 hb;rw[e]at e';cases e';exact⟨e,f0,f1,f2,d⟩
theorem Inv.unpinned{pins pl:List (Addr×Obj)}{σ:St}{H:Hp}{s:Shared}(I:Inv X (pins++pl) σ H s):Inv X pins σ H s:=I.pins_of fun p hp=>I.pin p (mem_append_right _ (List.mem_append_left _ hp))
theorem yu{iter:Expr}{body:List Stmt}{wi:TI}{g:TG}{tb:TS}{pos:Pos}(hp:PassesOwn (model X.prog X.w) X.A X.env X.xe)(hc:X.calm=true)(hi:PI X tg iter wi)(hg:PG X tg g)(hb:PSs X body tb)(hs:∀x,foldedSetIterable iter X.env x=pure x:=by intro _;rfl):PS X (.For tg iter body [] pos) (tFor wi g tb):=by
 intro pins s σ H D I h;refine wpAny_For (thn (hi pins s σ H _ I h) fun v s1 h1=>thn h1 fun itv s2 h2=>?_) hs;obtain⟨it,fp,tn,J,H2,e,I2,T,st2,f2,W0,⟨m0,w0⟩,turn⟩:=h2;subst e
 -- what stays true of the iterator's objects through the loop
 have stat:∀{H':Hp},(∀b∈fp,H' b=none)-> ∀b∈fp,FpOk X pins H' b:=fun hn b hb=>⟨hn b hb,(f2 b hb).2⟩;refine codeAny_forLoop_any (fun n s'=>∃ i σ' H',Inv X pins σ' H' s'/\tn i s'.heap/\(∀b∈fp,H' b=none)/\W0 i n σ' H') ?_ m0 ⟨0,σ,H2,I2,st2,fun b hb=>(f2 b hb).1,w0⟩;rintro n s3 ⟨i,σ3,H3,I3,st3,fr3,w3⟩;rcases turn i n σ3 H3 w3 with⟨stop,qn⟩|⟨go,N,hN,step⟩
 ·refine wpAny_passesOwn hp (thn (T.done X rfl rfl rfl hc i pins s3 σ3 H3 X.xe I3 (stat fr3) st3 stop) fun r s4 ⟨hr,I4⟩=>?_);subst hr;exact wpAny_execs_nil ⟨σ3,H3,I4,qn⟩
 ·refine wpAny_passesOwn hp (thn (T.item X rfl rfl rfl hc i pins s3 σ3 H3 X.xe I3 (stat fr3) st3 go) fun r s4 ⟨u,hr,h4⟩=>?_);subst hr;refine wpAny_passesOwn hp (thn h4 fun _ s5 ⟨x,H5,I5,r5,y5,st5,fr5⟩=>?_);have I5':=I5.pinned (stat fr5) (T.obj _ _ st5);refine wpAny_passesOwn hp (thn (hg _ s5 σ3 H5 x u _ I5' r5 (step x H5 y5)) fun _ s6 ⟨σ6,H6,I6,q6⟩=>?_);refine wpAny_passesOwn hp (thn (hb _ s6 σ6 H6 _ I6 q6) fun f s7 q7=>?_);have again:∀{σ7:St}{H7:Hp},Inv X (pins++gX fp s5.heap) σ7 H7 s7->N σ7 H7-> ∃m,m<n/\ ∃i σ' H',Inv X pins σ' H' s7/\tn i s7.heap/\(∀b∈fp,H' b=none)/\W0 i m σ' H':=fun{σ7 H7} I7 n7=>by
   obtain⟨m',hm,w7⟩:=hN σ7 H7 n7;refine⟨m',hm,i+1,σ7,H7,I7.unpinned,T.keep _ _ _ st5 fun b hb o e=>(I7.pin (b,o) (mem_append_right _ (mem_append_right _ (kK hb e)))).1,fun b hb=>?_,w7⟩;obtain⟨o,e,d⟩:=T.obj _ _ st5 b hb;exact(I7.pin (b,o) (mem_append_right _ (mem_append_right _ (kK hb e)))).2.1
  cases f with
  |next=>obtain⟨σ7,H7,I7,n7⟩:=q7;exact again I7 n7
  |cont=>obtain⟨σ7,H7,I7,n7⟩:=q7;exact again I7 n7
  |brk=>obtain⟨σ7,H7,I7,q7⟩:=q7;exact⟨σ7,H7,I7.unpinned,q7⟩
  |ret v=>obtain⟨x7,σ7,H7,I7,r7,q7⟩:=q7;exact⟨x7,σ7,H7,I7.unpinned,r7,q7⟩
end
theorem wC{K:W.Frag}{a:Addr}{xs:List V}{g:TG}{tb:TS}{D:Ends}{σ:St}{H:Hp}(Pv:Nat->St->Hp->Prop)(h0:Pv 0 σ H)(hl:∀i σ H,i<=xs.length->Pv i σ H->SqL K H a xs)(hs:∀i x σ H,xs[i]? =some x->Pv i σ H->g x σ H fun σ2 H2=>tb {D with nx:=Pv (i+1),ct:=Pv (i+1),bk:=D.nx} σ2 H2)(hd:∀ σ H,Pv xs.length σ H->D.nx σ H) :
  ∃W0:Nat->Nat->St->Hp->Prop,(∃m,W0 0 m σ H)/\ ∀i m σ H,W0 i m σ H->
   ((Itl K a).stop i H/\D.nx σ H)\/((Itl K a).go i H/\ ∃N:St->Hp->Prop,(∀ σ' H',N σ' H'-> ∃m',m'<m/\W0 (i+1) m' σ' H')/\ ∀x H',(Itl K a).yld i H x H'->g x σ H' fun σ2 H2=>tb {D with nx:=N,ct:=N,bk:=D.nx} σ2 H2):=by
 refine⟨fun i m σ H=>m=xs.length-i/\i<=xs.length/\Pv i σ H,⟨xs.length,by simp,zero_le _,h0⟩,?_⟩;rintro i m σ H ⟨rfl,hi,p⟩;have q:=hl i σ H hi p;by_cases hlt:i<xs.length
 ·refine .inr ⟨⟨xs,xs[i],q,by simp[hlt]⟩,Pv (i+1),fun σ' H' p'=>⟨xs.length-(i+1),by omega,rfl,hlt,p'⟩,fun x H' y=>?_⟩;obtain⟨e,y⟩:=y;subst e;exact hs i x σ _ (y xs q) p
 ·have e:i=xs.length:=by omega
  subst e;exact .inl ⟨⟨xs,q,le_refl _⟩,hd σ H p⟩
theorem uE{K:W.Frag}{a:Addr}{xs:List V}{g:TG}{tb:TS}{D:Ends}{σ:St}{H:Hp}(Pv:Nat->St->Hp->Prop)(h0:Pv 0 σ H)(hl:∀i σ H,i<=xs.length->Pv i σ H->SqT K H a xs)(hs:∀i x σ H,xs[i]? =some x->Pv i σ H->g x σ H fun σ2 H2=>tb {D with nx:=Pv (i+1),ct:=Pv (i+1),bk:=D.nx} σ2 H2)(hd:∀ σ H,Pv xs.length σ H->D.nx σ H) :
  ∃W0:Nat->Nat->St->Hp->Prop,(∃m,W0 0 m σ H)/\ ∀i m σ H,W0 i m σ H->
   ((Itt K a).stop i H/\D.nx σ H)\/((Itt K a).go i H/\ ∃N:St->Hp->Prop,(∀ σ' H',N σ' H'-> ∃m',m'<m/\W0 (i+1) m' σ' H')/\ ∀x H',(Itt K a).yld i H x H'->g x σ H' fun σ2 H2=>tb {D with nx:=N,ct:=N,bk:=D.nx} σ2 H2):=by
 refine⟨fun i m σ H=>m=xs.length-i/\i<=xs.length/\Pv i σ H,⟨xs.length,by simp,zero_le _,h0⟩,?_⟩;rintro i m σ H ⟨rfl,hi,p⟩;have q:=hl i σ H hi p;by_cases hlt:i<xs.length
 ·refine .inr ⟨⟨xs,xs[i],q,by simp[hlt]⟩,Pv (i+1),fun σ' H' p'=>⟨xs.length-(i+1),by omega,rfl,hlt,p'⟩,fun x H' y=>?_⟩;obtain⟨e,y⟩:=y;subst e;exact hs i x σ _ (y xs q) p
 ·have e:i=xs.length:=by omega
  subst e;exact .inl ⟨⟨xs,q,le_refl _⟩,hd σ H p⟩
theorem kR{lo:Int}{n:Nat}{g:TG}{tb:TS}{D:Ends}{σ:St}{H:Hp}(Pv:Nat->St->Hp->Prop)(h0:Pv 0 σ H)(hs:∀i σ H,i<n->Pv i σ H->g (.int (lo+i)) σ H fun σ2 H2=>tb {D with nx:=Pv (i+1),ct:=Pv (i+1),bk:=D.nx} σ2 H2)(hd:∀ σ H,Pv n σ H->D.nx σ H) :
  ∃W0:Nat->Nat->St->Hp->Prop,(∃m,W0 0 m σ H)/\ ∀i m σ H,W0 i m σ H->
   ((Itr lo n).stop i H/\D.nx σ H)\/((Itr lo n).go i H/\ ∃N:St->Hp->Prop,(∀ σ' H',N σ' H'-> ∃m',m'<m/\W0 (i+1) m' σ' H')/\ ∀x H',(Itr lo n).yld i H x H'->g x σ H' fun σ2 H2=>tb {D with nx:=N,ct:=N,bk:=D.nx} σ2 H2):=by
 refine⟨fun i m σ H=>m=n-i/\i<=n/\Pv i σ H,⟨n,by simp,zero_le _,h0⟩,?_⟩;rintro i m σ H ⟨rfl,hi,p⟩;by_cases hlt:i<n
 ·refine .inr ⟨hlt,Pv (i+1),fun σ' H' p'=>⟨n-(i+1),by omega,rfl,hlt,p'⟩,fun x H' y=>?_⟩;obtain⟨e,y⟩:=y;subst e y;exact hs i σ _ hlt p
 ·have e:i=n:=by omega
  subst e;exact .inl ⟨le_refl _,hd σ H p⟩
abbrev R2:=V->V->Hp->VK->Prop
def OpR(X:Cx)(f:Value->Value->Sem Value)(r:R2):Prop :=
 ∀(pins:List (Addr×Obj))(s:Shared)(σ:St)(H:Hp)(x y:V)(v u:Value)(Q:VK),Inv X pins σ H s->RelV x v->RelV y u->r x y H Q->
  wpAny (model X.prog X.w) X.A (f v u) (EP X pins σ Q) X.xe s
def UnR(X:Cx)(f:Value->Sem Value)(r:V->Hp->VK->Prop):Prop :=
 ∀(pins:List (Addr×Obj))(s:Shared)(σ:St)(H:Hp)(x:V)(v:Value)(Q:VK),Inv X pins σ H s->RelV x v->r x H Q->
  wpAny (model X.prog X.w) X.A (f v) (EP X pins σ Q) X.xe s
def kM(X:Cx)(f:Value)(r:List V->Hp->VK->Prop):Prop :=
 ∀(pins:List (Addr×Obj))(s:Shared)(σ:St)(H:Hp)(xs:List V)(us:List Value)(Q:VK),Inv X pins σ H s->Vals xs us->r xs H Q->
  wpAny (model X.prog X.w) X.A (call f us) (EP X pins σ Q) X.xe s
def TruR(X:Cx)(r:V->Hp->(Bool->Hp->Prop)->Prop):Prop :=
 ∀(pins:List (Addr×Obj))(s:Shared)(σ:St)(H:Hp)(x:V)(v:Value)(Q:Bool->Hp->Prop),Inv X pins σ H s->RelV x v->r x H Q->
  wpAny (model X.prog X.w) X.A (truthy v) (TP X pins σ Q) X.xe s
def tOp(r:R2)(ta tb:TE):TE:=fun σ H Q=>ta σ H fun x H1=>tb σ H1 fun y H2=>r x y H2 Q
def tUn(r:V->Hp->VK->Prop)(ta:TE):TE:=fun σ H Q=>ta σ H fun x H1=>r x H1 Q
def rI(C:Int->Int->Prop)(g:Int->Int->V):R2:=fun x y H Q=>∃ i j,x= .int i/\y= .int j/\C i j/\Q (g i j) H
def rI0(g:Int->Int->V):R2:=fun x y H Q=>∃ i j,x= .int i/\y= .int j/\Q (g i j) H
def rU(g:Int->V):V->Hp->VK->Prop:=fun x H Q=>∃ i,x= .int i/\Q (g i) H
section
variable{X:Cx}{a b c:Expr}{ta tb tc:TE}{pos:Pos}
theorem binT(ha:PE X a ta)(hb:PE X b tb){pins:List (Addr×Obj)}{s:Shared}{σ:St}{H:Hp}{R:V->V->Hp->Prop}(I:Inv X pins σ H s)(h:ta σ H fun x H1=>tb σ H1 fun y H2=>R x y H2){Q:Value->Shared->Prop}{f:Value->Value->Sem Value}(hf:∀v u s2 x y H2,Inv X pins σ H2 s2->RelV x v->RelV y u->R x y H2->wpAny (model X.prog X.w) X.A (f v u) Q X.xe s2) :
  wpAny (model X.prog X.w) X.A (eval a X.env) (fun v s₁=>wpAny (model X.prog X.w) X.A (eval b X.env) (fun u s₂=>wpAny (model X.prog X.w) X.A (f v u) Q X.xe s₂) X.xe s₁) X.xe s:=by
 refine thn (ha pins s σ H _ I h) fun v s1 ⟨x,H1,I1,r1,q1⟩=>?_;refine thn (hb pins s1 σ H1 _ I1 q1) fun u s2 ⟨y,H2,I2,r2,q2⟩=>?_;exact hf v u s2 x y H2 I2 r1 r2 q2
theorem zL{op:Operator}{r:R2}(ho:OpR X (binaryOp op) r)(ha:PE X a ta)(hb:PE X b tb):PE X (.BinOp a op b pos) (tOp r ta tb):=by
 intro pins s σ H Q I h;exact wpAny_BinOp (binT ha hb I h fun v u s2 x y H2 I2 rx ry q=>ho pins s2 σ H2 x y v u Q I2 rx ry q)
theorem pe_un{op:UnaryOp}{r:V->Hp->VK->Prop}(ho:UnR X (unaryOp op) r)(ha:PE X a ta):PE X (.UnaryOp op a pos) (tUn r ta):=by
 intro pins s σ H Q I h;exact UnaryOp_ (thn (ha pins s σ H _ I h) fun v s1 ⟨x,H1,I1,r1,q1⟩=>ho pins s1 σ H1 x v Q I1 r1 q1)
theorem opI{f:Value->Value->Sem Value}{C:Int->Int->Prop}{g:Int->Int->Int}(rule:∀(i j:Int) (t u:Tok) (s:Shared) (Q:Value->Shared->Prop) (E:Value->Shared->Prop),C i j->Q (.int (g i j) s.toks) {s with toks:=s.toks+1}->wpAny (model X.prog X.w) X.A (f (.int i t) (.int j u)) Q E s) :
  OpR X f (rI C fun i j=>.int (g i j)):=by
 intro pins s σ H x y v u Q I rx ry h;obtain⟨i,j,rfl,rfl,hc,q⟩:=h;obtain⟨t,rfl⟩:=rx;obtain⟨t',rfl⟩:=ry;exact rule i j t t' s _ _ hc ⟨.int (g i j),H,I.tok _,⟨_,rfl⟩,q⟩
theorem opI0{f:Value->Value->Sem Value}{g:Int->Int->Int}(rule:∀(i j:Int) (t u:Tok) (s:Shared) (Q:Value->Shared->Prop) (E:Value->Shared->Prop),Q (.int (g i j) s.toks) {s with toks:=s.toks+1}->wpAny (model X.prog X.w) X.A (f (.int i t) (.int j u)) Q E s) :
  OpR X f (rI0 fun i j=>.int (g i j)):=by
 intro pins s σ H x y v u Q I rx ry h;obtain⟨i,j,rfl,rfl,q⟩:=h;obtain⟨t,rfl⟩:=rx;obtain⟨t',rfl⟩:=ry;exact rule i j t t' s _ _ ⟨.int (g i j),H,I.tok _,⟨_,rfl⟩,q⟩
theorem opB0{f:Value->Value->Sem Value}{g:Int->Int->Bool}(rule:∀(i j:Int) (t u:Tok) (s:Shared) (Q:Value->Shared->Prop) (E:Value->Shared->Prop),Q (.bool (g i j)) s->wpAny (model X.prog X.w) X.A (f (.int i t) (.int j u)) Q E s) :
  OpR X f (rI0 fun i j=>.bl (g i j)):=by
 intro pins s σ H x y v u Q I rx ry h;obtain⟨i,j,rfl,rfl,q⟩:=h;obtain⟨t,rfl⟩:=rx;obtain⟨t',rfl⟩:=ry;exact rule i j t t' s _ _ ⟨.bl (g i j),H,I,rfl,q⟩
def CPow(i j:Int):Prop:=0<=j/\j<=1000000/\i.natAbs<2^64
def CMul(i j:Int):Prop:=(-(2^64)<i/\i<2^64)\/(-(2^64)<j/\j<2^64)
theorem CMul.ok{i j:Int}(h:CMul i j):IntMulOk i j:=by
 rcases h with⟨h1,h2⟩|⟨h1,h2⟩
 ·exact .of_left (intBits_le_64 h1 h2)
 ·exact .of_right (intBits_le_64 h1 h2)
theorem kA:OpR X (binaryOp .Add) (rI0 fun i j=>.int (i+j)):=opI0 fun _ _ _ _ _ _ _ q=>add_int q
theorem op_sub:OpR X (binaryOp .Sub) (rI0 fun i j=>.int (i-j)):=opI0 fun _ _ _ _ _ _ _ q=>sub_int q
theorem vq:OpR X (binaryOp .Mult) (rI CMul fun i j=>.int (i*j)):=opI fun _ _ _ _ _ _ _ hc q=>mul_int q hc.ok
theorem gU:OpR X (binaryOp .Mod) (rI (fun _ j=>0<j) fun i j=>.int (i%j)):=opI fun i j _ _ _ _ _ hc q=>by
 have h1:(0:Int)<j:=hc;exact mod_int' (by omega) (by rw[Int.fmod_eq_emod_of_nonneg i (by omega)];exact q)
theorem op_pow:OpR X (binaryOp .Pow) (rI CPow fun i j=>.int (i^j.toNat)):=opI fun _ _ _ _ _ _ _ hc q=>pow_int_small hc.1 hc.2.1 hc.2.2 q
theorem unI{f:Value->Sem Value}{g:Int->Int}(rule:∀(i:Int) (t:Tok) (s:Shared) (Q:Value->Shared->Prop) (E:Value->Shared->Prop),Q (.int (g i) s.toks) {s with toks:=s.toks+1}->wpAny (model X.prog X.w) X.A (f (.int i t)) Q E s) :
  UnR X f (rU fun i=>.int (g i)):=by
 intro pins s σ H x v Q I rx h;obtain⟨i,rfl,q⟩:=h;obtain⟨t,rfl⟩:=rx;exact rule i t s _ _ ⟨.int (g i),H,I.tok _,⟨_,rfl⟩,q⟩
theorem bF:UnR X (unaryOp .USub) (rU fun i=>.int (-i)):=unI fun _ _ _ _ _ q=>neg_int q
end
def scal:V->V->Bool
 | .non,.non=>true| .non,.int _=>true| .int _,.non=>true| .non,.bl _=>true| .bl _,.non=>true| .non,.str _=>true| .str _,.non=>true
 | .int _,.int _=>true| .bl _,.bl _=>true| .str _,.str _=>true| .byt _,.byt _=>true
 | .int _,.str _=>true| .str _,.int _=>true| .bl _,.str _=>true| .str _,.bl _=>true
 | _,_=>false
def rEq:R2:=fun x y H Q=>scal x y=true/\Q (.bl (decide (x=y))) H
def rNe:R2:=fun x y H Q=>scal x y=true/\Q (.bl (!decide (x=y))) H
theorem dec_int{i j:Int}:decide (V.int i=V.int j)=(i==j):=by
 rw[Bool.eq_iff_iff];simp
theorem dec_bl{i j:Bool}:decide (V.bl i=V.bl j)=(i==j):=by
 rw[Bool.eq_iff_iff];simp
theorem dec_str{i j:Str}:decide (V.str i=V.str j)=(i==j):=by
 rw[Bool.eq_iff_iff];simp
theorem dec_byt{i j:Array UInt8}:decide (V.byt i=V.byt j)=(i.toList==j.toList):=by
 rw[Bool.eq_iff_iff];cases i;cases j;simp
section
variable{X:Cx}{a b c:Expr}{ta tb tc:TE}{pos:Pos}
theorem zS{pins:List (Addr×Obj)}{σ:St}{H:Hp}{s:Shared}{Q:VK}{k k':Bool}(I:Inv X pins σ H s)(q:Q (.bl k) H)(e:k=k'):EP X pins σ Q (.bool k') s:=by
 subst e;exact⟨.bl k,H,I,rfl,q⟩
theorem zZ:OpR X (compareOp .Eq) rEq:=by
 intro pins s σ H x y v u Q I rx ry h;obtain⟨hs,q⟩:=h;cases x with
 |non =>
  cases rx;cases y with
  |non=>cases ry;exact PySem.EqNone.eq_none_none (zS I q (by simp))
  |bl j=>cases ry;exact PySem.EqNone.eq_none_bool (zS I q (by simp))
  |int j=>obtain⟨t',rfl⟩:=ry;exact PySem.EqNone.eq_none_int (zS I q (by simp))
  |str j=>obtain⟨t',rfl⟩:=ry;exact PySem.EqNone.eq_none_str (zS I q (by simp))
  | _=>exact absurd (show false=true from hs) Bool.false_ne_true
 |bl i =>
  cases rx;cases y with
  |non=>cases ry;exact PySem.EqNone.eq_bool_none (zS I q (by simp))
  |bl j=>cases ry;exact eq_bool (zS I q dec_bl)
  |str j=>obtain⟨t',rfl⟩:=ry;exact PySem.EqMixed.eq_bool_str (zS I q (by simp))
  | _=>exact absurd (show false=true from hs) Bool.false_ne_true
 |int i =>
  obtain⟨t,rfl⟩:=rx;cases y with
  |non=>cases ry;exact PySem.EqNone.eq_int_none (zS I q (by simp))
  |int j=>obtain⟨t',rfl⟩:=ry;exact eq_int (zS I q dec_int)
  |str j=>obtain⟨t',rfl⟩:=ry;exact PySem.EqMixed.eq_int_str (zS I q (by simp))
  | _=>exact absurd (show false=true from hs) Bool.false_ne_true
 |str i =>
  obtain⟨t,rfl⟩:=rx;cases y with
  |non=>cases ry;exact PySem.EqNone.eq_str_none (zS I q (by simp))
  |bl j=>cases ry;exact PySem.EqMixed.eq_str_bool (zS I q (by simp))
  |int j=>obtain⟨t',rfl⟩:=ry;exact PySem.EqMixed.eq_str_int (zS I q (by simp))
  |str j=>obtain⟨t',rfl⟩:=ry;exact eq_str (zS I q dec_str)
  | _=>exact absurd (show false=true from hs) Bool.false_ne_true
 |byt i =>
  obtain⟨t,rfl⟩:=rx;cases y with
  |byt j=>obtain⟨t',rfl⟩:=ry;exact W.eq_bytes (zS I q dec_byt)
  | _=>exact absurd (show false=true from hs) Bool.false_ne_true
 | _=>cases y <;>exact absurd (show false=true from hs) Bool.false_ne_true
theorem op_ne:OpR X (compareOp .NotEq) rNe:=by
 intro pins s σ H x y v u Q I rx ry h;obtain⟨hs,q⟩:=h;cases x with
 |non =>
  cases rx;cases y with
  |non=>cases ry;exact PySem.EqNone.ne_none_none (zS I q (by simp))
  |bl j=>cases ry;exact PySem.EqNone.ne_none_bool (zS I q (by simp))
  |int j=>obtain⟨t',rfl⟩:=ry;exact PySem.EqNone.ne_none_int (zS I q (by simp))
  |str j=>obtain⟨t',rfl⟩:=ry;exact PySem.EqNone.ne_none_str (zS I q (by simp))
  | _=>exact absurd (show false=true from hs) Bool.false_ne_true
 |bl i =>
  cases rx;cases y with
  |non=>cases ry;exact PySem.EqNone.ne_bool_none (zS I q (by simp))
  |bl j=>cases ry;exact ne_bool (zS I q (congrArg not dec_bl))
  |str j=>obtain⟨t',rfl⟩:=ry;exact PySem.EqMixed.ne_bool_str (zS I q (by simp))
  | _=>exact absurd (show false=true from hs) Bool.false_ne_true
 |int i =>
  obtain⟨t,rfl⟩:=rx;cases y with
  |non=>cases ry;exact PySem.EqNone.ne_int_none (zS I q (by simp))
  |int j=>obtain⟨t',rfl⟩:=ry;exact ne_int (zS I q (congrArg not dec_int))
  |str j=>obtain⟨t',rfl⟩:=ry;exact PySem.EqMixed.ne_int_str (zS I q (by simp))
  | _=>exact absurd (show false=true from hs) Bool.false_ne_true
 |str i =>
  obtain⟨t,rfl⟩:=rx;cases y with
  |non=>cases ry;exact PySem.EqNone.ne_str_none (zS I q (by simp))
  |bl j=>cases ry;exact PySem.EqMixed.ne_str_bool (zS I q (by simp))
  |int j=>obtain⟨t',rfl⟩:=ry;exact PySem.EqMixed.ne_str_int (zS I q (by simp))
  |str j=>obtain⟨t',rfl⟩:=ry;exact ne_str (zS I q (congrArg not dec_str))
  | _=>exact absurd (show false=true from hs) Bool.false_ne_true
 |byt i =>
  obtain⟨t,rfl⟩:=rx;cases y with
  |byt j=>obtain⟨t',rfl⟩:=ry;exact W.ne_bytes (zS I q (congrArg not dec_byt))
  | _=>exact absurd (show false=true from hs) Bool.false_ne_true
 | _=>cases y <;>exact absurd (show false=true from hs) Bool.false_ne_true
theorem mG:OpR X (compareOp .Lt) (rI0 fun i j=>.bl (decide (i<j))):=opB0 fun _ _ _ _ _ _ _ q=>lt_int q
theorem op_le:OpR X (compareOp .LtE) (rI0 fun i j=>.bl (decide (i<=j))):=opB0 fun _ _ _ _ _ _ _ q=>le_int q
theorem cy:OpR X (compareOp .Gt) (rI0 fun i j=>.bl (decide (j<i))):=opB0 fun _ _ _ _ _ _ _ q=>gt_int q
theorem op_ge:OpR X (compareOp .GtE) (rI0 fun i j=>.bl (decide (j<=i))):=opB0 fun _ _ _ _ _ _ _ q=>ge_int q
theorem mF:OpR X (compareOp .In) (fun x y H Q=>∃ i j,x= .str i/\y= .str j/\Q (.bl (!(Builtin.Str.occurrences j i 0 j.length 1).isEmpty)) H):=by
 intro pins s σ H x y v u Q I rx ry h;obtain⟨i,j,rfl,rfl,q⟩:=h;obtain⟨t,rfl⟩:=rx;obtain⟨t',rfl⟩:=ry;exact in_str (zS I q rfl)
theorem bi:OpR X (compareOp .Is) (fun x y H Q=>y= .non/\Q (.bl (decide (x= .non))) H):=by
 intro pins s σ H x y v u Q I rx ry h;obtain⟨rfl,q⟩:=h;cases ry;refine is_none_gen (zS I q ?_);cases x <;>first
  |(cases rx;rfl)
  |(obtain⟨t,rfl⟩:=rx;rfl)
theorem zu(b:Expr){op:CmpOp}(h:op≠ .In:=by decide)(h2:op≠ .NotIn:=by decide):behindInMarks op b=false:=by
 have e1:(op==CmpOp.In)=false:=by cases op <;>first|rfl|exact absurd rfl h
 have e2:(op==CmpOp.NotIn)=false:=by cases op <;>first|rfl|exact absurd rfl h2
 cases b <;>simp[behindInMarks,e1,e2]
theorem rc{op:CmpOp}{r:R2}(ho:OpR X (compareOp op) r)(ha:PE X a ta)(hb:PE X b tb)(hm:behindInMarks op b=false):PE X (.Compare a [op] [b] pos) (tOp r ta tb):=by
 intro pins s σ H Q I h;exact wpAny_Compare1 (binT ha hb I h fun v u s2 x y H2 I2 rx ry q=>ho pins s2 σ H2 x y v u Q I2 rx ry q) hm
def tTest(t:TE):TT:=fun σ H Q=>t σ H fun x H'=>∃ k,x= .bl k/\Q k H'
theorem zi{op:CmpOp}{r:R2}(ho:OpR X (compareOp op) r)(ha:PE X a ta)(hb:PE X b tb)(hm:behindInMarks op b=false):PT X (.Compare a [op] [b] pos) (tTest (tOp r ta tb)):=by
 intro pins s σ H Q I h;refine wpAny_isTrue_Compare1 (thn (ha pins s σ H _ I h) fun v s1 ⟨x,H1,I1,r1,q1⟩=>thn (hb pins s1 σ H1 _ I1 q1) fun u s2 ⟨y,H2,I2,r2,q2⟩ =>
  thn (ho pins s2 σ H2 x y v u _ I2 r1 r2 q2) fun c s3 ⟨z,H3,I3,r3,k,e,q3⟩=>?_) hm
 subst e;cases r3;exact wpAny_truthy_bool ⟨H3,I3,q3⟩
def TruV(K:W.Frag)(x:V)(H:Hp)(k:Bool):Prop :=
 match x with
 | .non=>k=false
 | .bl b=>k=b
 | .int i=>k=(i !=0)
 | .str y=>y.length<=sizeLine/\k=((y.length:Int) !=0)
 | .byt y=>y.size<=sizeLine/\k=((y.size:Int) !=0)
 | .ref p=>(∃xs,SqL K H p xs/\k= !xs.isEmpty)\/(∃xs,SqT K H p xs/\k= !xs.isEmpty)\/ ∃kvs,H p=some (.dK kvs)/\k= !kvs.isEmpty
 | _=>False
theorem isEmpty_kv{κ:Type}{kvs:List (κ×V)}{vs:List (κ×Value)}(r:KV kvs vs):(!vs.isEmpty)= !kvs.isEmpty:=by
 cases r <;>rfl
theorem gL{xs:List V}{its:List Value}(r:Vals xs its):(!its.toArray.isEmpty)= !xs.isEmpty:=by
 cases r <;>simp
theorem vk:(sizeLine:Nat)<2^63:=by rw[sizeLine_eq];decide
theorem tru_ok:TruR X (fun x H Q=>∃ k,TruV X.K x H k/\Q k H):=by
 intro pins s σ H x v Q I rx h;obtain⟨k,e,q⟩:=h;have hl:=vk;have hs:sizeLine=16777216:=sizeLine_eq;cases x with
 |non =>
  cases rx;have e':k=false:=e;subst e';exact truthy_none ⟨H,I,q⟩
 |bl b =>
  cases rx;have e':k=b:=e;subst e';exact wpAny_truthy_bool ⟨H,I,q⟩
 |int i =>
  obtain⟨t,rfl⟩:=rx;have e':k=(i !=0):=e;subst e';exact PySem.P.truthy_int ⟨H,I,q⟩
 |str y =>
  obtain⟨t,rfl⟩:=rx;obtain⟨hy,e'⟩:y.length<=sizeLine/\k=((y.length:Int) !=0):=e;subst e';exact PySem.P.truthy_str (by omega) ⟨H,I.tok _,q⟩
 |byt y =>
  obtain⟨t,rfl⟩:=rx;obtain⟨hy,e'⟩:y.size<=sizeLine/\k=((y.size:Int) !=0):=e;subst e';exact W.truthy_bytes (by omega) ⟨H,I.tok _,q⟩
 |ref p =>
  cases rx;have e':(∃xs,SqL X.K H p xs/\k= !xs.isEmpty)\/(∃xs,SqT X.K H p xs/\k= !xs.isEmpty)\/ ∃kvs,H p=some (.dK kvs)/\k= !kvs.isEmpty:=e;rcases e' with⟨xs,hx,e'⟩|⟨xs,hx,e'⟩|⟨kvs,hx,e'⟩
  ·subst e';obtain⟨its,r,pl,hz⟩:=I.list hx;have hlen:=r.length;exact wpAny_truthy_list pl.isList (by simp only[size_toArray];omega) ⟨H,I.tok _,by rw[gL r];exact q⟩
  ·subst e';obtain⟨its,r,pl,hz⟩:=I.tuple hx;have hlen:=r.length;exact truthy_tuple pl (by simp only[size_toArray];omega) ⟨H,I.tok _,by rw[gL r];exact q⟩
  ·subst e';obtain⟨hz,hS,vs,r,m⟩:kvs.length<=sizeLine/\(p==sysModules)=false/\ ∃vs,KV kvs vs/\s.heap.DictOf (zW X.prog X.w) p vs:=I.hok p _ hx;have hlen:kvs.length=vs.length:=Paired.length r;exact wpAny_truthy_dict hS m (by omega) ⟨H,I.tok _,by rw[isEmpty_kv r];exact q⟩
 | _=>exact(show False from e).elim
theorem zY(ha:PE X a ta)(he:∀whole,isTrue a X.env whole=(do let v <-whole;standAt a.pos;holding [v] (truthy v))) :
  PT X a (fun σ H Q=>ta σ H fun x H'=>∃ k,TruV X.K x H' k/\Q k H'):=by
 intro pins s σ H Q I h;exact isTrue_plain (thn (ha pins s σ H _ I h) fun v s1 ⟨x,H1,I1,r1,q1⟩=>tru_ok pins s1 σ H1 x v Q I1 r1 q1) (he _)
theorem yH:OpR X (binaryOp .Add) (fun x y H Q=>∃ i j,x= .str i/\y= .str j/\i.length+j.length<=sizeLine/\Q (.str (i++j)) H):=by
 intro pins s σ H x y v u Q I rx ry h;obtain⟨i,j,rfl,rfl,hz,q⟩:=h;obtain⟨t,rfl⟩:=rx;obtain⟨t',rfl⟩:=ry;exact add_str (fun t' tk=>⟨.str (i++j),H,I.tok _,⟨_,rfl⟩,q⟩) hz
theorem dL:OpR X (inplaceOp .Add) (fun x y H Q=>∃ i j,x= .str i/\y= .str j/\i.length+j.length<=sizeLine/\Q (.str (i++j)) H):=by
 intro pins s σ H x y v u Q I rx ry h;obtain⟨i,j,rfl,rfl,hz,q⟩:=h;obtain⟨t,rfl⟩:=rx;obtain⟨t',rfl⟩:=ry;exact iadd_str (fun t' tk=>⟨.str (i++j),H,I.tok _,⟨_,rfl⟩,q⟩) hz
theorem jS{x:V}{us:List Value}(r:Vals [x] us):∃u,us=[u]/\RelV x u:=by
 cases r with
 |cons r1 r2=>cases r2;exact⟨_,rfl,r1⟩
theorem vals2{x y:V}{us:List Value}(r:Vals [x,y] us):∃u w',us=[u,w']/\RelV x u/\RelV y w':=by
 cases r with
 |cons r1 r2 =>
  cases r2 with
  |cons r3 r4=>cases r4;exact⟨_,_,rfl,r1,r3⟩
theorem jd:kM X (.type "str") (fun xs H Q=>∃ i,xs=[.int i]/\i.natAbs.log2<1920/\Q (.str (toString i)) H):=by
 intro pins s σ H xs us Q I r h;obtain⟨i,rfl,hz,q⟩:=h;obtain⟨u,rfl,t,rfl⟩:=jS r;exact PySem.P.str_of_int hz ⟨.str _,H,I.tok _,⟨_,rfl⟩,q⟩
end
structure ObjM(h:Heap)(x dx C:Addr)(mA:Str->Option Value):Prop where
 obj:h.get? x=some (W.instObj C dx)
 ns:h.Ns1 dx mA
 ne:dx≠x
theorem tR{h:Heap}{dx:Addr}{mA:Str->Option Value}(n:h.Ns1 dx mA):∃od,h.get? dx=some od/\ ∀name,W.lookIn name od=some (mA name):=by
 obtain⟨o,es,ep,ho,hd,hk,_,hm⟩:=n;refine⟨o,ho,fun name=>?_⟩;have e:=hm name;unfold nsFind findBy at e;rw[<-Array.find?_toList]at e;unfold W.lookIn;rw[hd];dsimp only;split
 ·rename_i y q;rw[q]at e;exact congrArg some e
 ·rename_i q;rw[q]at e;have a:es.toList.any (·.refKey)=false:=by
   rw[List.any_eq_false];intro y hy;obtain⟨z,t,hkey⟩:=hk y (Array.mem_toList_iff.mp hy);simp[DictEntry.refKey,hkey]
  have a':¬es.toList.any (·.refKey)=true:=by rw[a];exact Bool.false_ne_true
  rw[if_neg a'];exact congrArg some e
theorem ObjM.look{h:Heap}{x dx C:Addr}{mA:Str->Option Value}(I:ObjM h x dx C mA):∃od,W.InstAt h x (W.instObj C dx) C (some od)/\ ∀name,W.lookIn name od=some (mA name) :=
 let⟨od,ho,hl⟩:=tR I.ns
 ⟨od,⟨I.obj,rfl,rfl,ho⟩,hl⟩
section
variable{prog:Program}{w:World}{A:Around}{E:Value->Shared->Prop}{s:Shared}{K:W.Frag}{x dx C f:Addr}{mA:Str->Option Value}{name:Str}{v:Value}
theorem get_map{expr:Bool}{Q:Value->Shared->Prop}(X:K.In s.heap)(I:ObjM s.heap x dx C mA)(hg:W.plainGet K C name=true)(hh:W.hasDictIn K C=true)(ha:W.findIn K (.ref C) name=some none)(hv:mA name=some v)(hv':W.handedIn v=true)(h:Q v {s with toks:=s.toks+1}) :
  wpAny (model prog w) A (getAttr (.ref x) name expr) Q E s:=by
 obtain⟨od,J,hl⟩:=I.look;exact W.get_value X J (W.plainGet_of hg).1 (W.findObj_own hh ha rfl (by rw[hl,hv])) hv' h
theorem get_meth{pl:Sem Bool}{Q:Value×List Value->Shared->Prop}(X:K.In s.heap)(I:ObjM s.heap x dx C mA)(hg:W.plainGet K C name=true)(hf:W.findIn K (.ref C) name=some (some (.ref f)))(ht:W.isFn K (.ref f)=true)(hv:mA name=none)(h:Q (.ref f,[.ref x]) s) :
  wpAny (model prog w) A (getMethod (.ref x) name pl) Q E s:=by
 obtain⟨od,J,hl⟩:=I.look;exact W.method_fn X J (W.plainGet_of hg).1 (W.plainGet_of hg).2 hf (beq_iff_eq.mp ht) (by show(W.lookIn name od).map (·.isSome)=some false;rw[hl,hv];rfl) h
theorem set_map{ns:List Str}{Q:Unit->Shared->Prop}(X:K.In s.heap)(I:ObjM s.heap x dx C mA)(hs:W.findIn K (.ref C) "__setattr__"=some (some (.builtin "object.__setattr__")))(hp:W.plainOver K C=true)(ht:W.takerIn K C name=some none)(hh:W.hasDictIn K C=true)(hw:PySem.Within mA ns)(hsz:ns.length<=sizeLine)(h:∀h',ObjM h' x dx C (fun y=>if y=name then some v else mA y)->Heap.SameBut dx s.heap h'->Q () {s with heap:=h',toks:=s.toks+2}) :
  wpAny (model prog w) A (setAttr (.ref x) name v) Q E s:=by
 obtain⟨od,J,hl⟩:=I.look;refine W.set_plain X J hs (W.osa_open (s:={s with toks:=s.toks+1}) (r:=none) X J hp ht fun b=>?_);obtain⟨cd,hc,hd'⟩:=W.any_some hh;have hx:s.heap.get? x=some ⟨.ref C,some dx,.plain,#[]⟩:=I.obj;refine wpAny_bind (wpAny_pure (wpAny_bind (wpAny_bind (wpAny_loadPart hx (wpAny_bind (W.Looks.here (s:={s with toks:=s.toks+1}) (W.looks_clsIn X hc) ?_))))));rw[hd'];refine wpAny_pure (a:=some dx) (wpAny_bind (wpAny_pure (wpAny_bind ?_)));refine wpAny_nsSet1 (s:={s with toks:=s.toks+1}) I.ns fun h' hn2 hs2=>?_;obtain⟨oD,esD,epD,hoD,hdD,hcD⟩:=hn2.count (PySem.Within.cons name v hw);refine wpAny_bind (wpAny_lookBehind hoD (by rw[hdD];exact pastItsLine_dict (le_trans hcD (by rw[length_cons];omega))) ?_);exact wpAny_pure (h _ ⟨(hs2.2 _ (Ne.symm I.ne)).trans I.obj,hn2,I.ne⟩ hs2)
theorem make_map{R:Result->Shared->Prop}{vs:List Value}{kw:List (Str×Value)}(X:K.In s.heap)(hm:W.makesIn K C=true)(hi:W.findIn K (.ref C) "__init__"=some (some (.ref f)))(hf:W.typeIn K (.ref f)=some (.type "function"))(h:codeAny (model prog w) (A.under (.builtin "type.__call__" ⟨.ref C::vs,kw⟩)) (.call (.ref f) ⟨.ref (s.heap.objs.size+1)::vs,kw⟩) (W.InitBack (s.heap.objs.size+1) R)
   {s with heap:=(s.heap.push W.emptyDict).push (W.instObj C s.heap.objs.size)}) :
  codeAny (model prog w) A (.call (.ref C) ⟨vs,kw⟩) R s:=by
 obtain⟨hh,g,d,t,os⟩:=s;exact W.make_core (W.makes_of X hm) (W.looks_findIn X hi) (fun self=>W.bind_fn X self hf) (.inl rfl) h
end
def putF(f:Str)(v:V):List (Str×V)->List (Str×V)
 | []=>[(f,v)]
 |(g,x)::r=>if g=f then(g,v)::r else(g,x)::putF f v r
theorem pO(f g:Str)(v:V):∀fs:List (Str×V),(putF f v fs).lookup g=if g=f then some v else fs.lookup g
 | []=>by
  show List.lookup g [(f,v)]=_;by_cases h:g=f
  ·have hb:(g==f)=true:=beq_iff_eq.mpr h;simp only[List.lookup,hb,if_pos h]
  ·have hb:(g==f)=false:=beq_eq_false_iff_ne.mpr h;simp only[List.lookup,hb,if_neg h]
 |(k,x)::r=>by
  have ih:=pO f g v r;rw[show putF f v ((k,x)::r)=(if k=f then(k,v)::r else(k,x)::putF f v r)from rfl];by_cases hk:k=f
  ·rw[if_pos hk];by_cases h:g=k
   ·have hb:(g==k)=true:=beq_iff_eq.mpr h;simp only[List.lookup,hb,if_pos (h.trans hk)]
   ·have hb:(g==k)=false:=beq_eq_false_iff_ne.mpr h;simp only[List.lookup,hb,if_neg (fun e:g=f=>h (e.trans hk.symm))]
  ·rw[if_neg hk];by_cases h:g=k
   ·have hb:(g==k)=true:=beq_iff_eq.mpr h;simp only[List.lookup,hb,if_neg (fun e:g=f=>hk (h.symm.trans e))]
   ·have hb:(g==k)=false:=beq_eq_false_iff_ne.mpr h;simp only[List.lookup,hb];exact ih
theorem pH(f:Str)(v:V):∀fs:List (Str×V),f∈(putF f v fs).map (·.1)/\ ∀g,g∈fs.map (·.1)->g∈(putF f v fs).map (·.1)
 | []=>⟨by simp[putF],fun g h=>by simp at h⟩
 |(k,x)::r=>by
  obtain⟨i1,i2⟩:=pH f v r;rw[show putF f v ((k,x)::r)=(if k=f then(k,v)::r else(k,x)::putF f v r)from rfl];by_cases hk:k=f
  ·rw[if_pos hk];subst hk;exact⟨by simp,fun g h=>by simpa using h⟩
  ·rw[if_neg hk];refine⟨?_,fun g h=>?_⟩
   ·rw[map_cons];exact mem_cons_of_mem _ i1
   ·rw[map_cons]at h ⊢;rcases mem_cons.mp h with e|e
    ·exact mem_cons.mpr (.inl e)
    ·exact mem_cons_of_mem _ (i2 g e)
theorem pJ(f:Str)(v:V):∀fs:List (Str×V),(putF f v fs).length<=fs.length+1
 | []=>by simp[putF]
 |(k,x)::r=>by
  have ih:=pJ f v r;rw[show putF f v ((k,x)::r)=(if k=f then(k,v)::r else(k,x)::putF f v r)from rfl];by_cases hk:k=f
  ·rw[if_pos hk,length_cons,length_cons];omega
  ·rw[if_neg hk,length_cons,length_cons];omega
theorem RelO.some_of{v:V}{o:Option Value}(r:RelO (some v) o):∃u,o=some u/\RelV v u:=by
 cases o with
 |none=>exact(show False from r).elim
 |some u=>exact⟨u,rfl,r⟩
theorem RelO.none_of{o:Option Value}(r:RelO none o):o=none:=by
 cases o with
 |none=>rfl
 |some u=>exact(show False from r).elim
theorem tI{v:V}{u:Value}(r:RelV v u):W.handedIn u=true:=by
 cases v with
 |non=>cases(show u=Value.none from r);rfl
 |bl b=>cases(show u=Value.bool b from r);rfl
 |int i=>obtain⟨t,e⟩:=(show ∃t,u=Value.int i t from r);cases e;rfl
 |str x=>obtain⟨t,e⟩:=(show ∃t,u=Value.str x t from r);cases e;rfl
 |byt b=>obtain⟨t,e⟩:=(show ∃t,u=Value.bytes b t from r);cases e;rfl
 |flt b=>obtain⟨t,e⟩:=(show ∃t,u=Value.float b t from r);cases e;rfl
 |ref a=>cases(show u=Value.ref a from r);rfl
 |ty n=>cases(show u=Value.type n from r);rfl
section
variable{P:Program}{w:World}{H H':Hp}{h h':Heap}{a C dx:Addr}{fs fs':List (Str×V)}
theorem xB(hok:HOk P w H h)(e:H a=some (.ins C dx fs)):∃mA,ObjM h a dx C mA/\(∀f,RelO (fs.lookup f) (mA f))/\PySem.Within mA (fs.map (·.1))/\fs.length<=1000/\H dx=some (.own a):=by
 obtain⟨d,z,ne,ob,mA,n,r,q⟩:=(show zU P w H h a (.ins C dx fs)from hok a _ e);exact⟨mA,⟨ob,n,ne⟩,r,q,z,d⟩
end
structure Cls(K:W.Frag)(C:Addr):Prop where
 pg:W.plainGet K C Str.empty=true
 hd:W.hasDictIn K C=true
 po:W.plainOver K C=true
 sa:W.findIn K (.ref C) "__setattr__"=some (some (.builtin "object.__setattr__"))
theorem Cls.get{K:W.Frag}{C:Addr}(c:Cls K C)(f:Str):W.plainGet K C f=true:=c.pg
def kz(K:W.Frag)(C:Addr)(f:Str):Prop:=W.findIn K (.ref C) f=some none
theorem kz.taker{K:W.Frag}{C:Addr}{f:Str}(n:kz K C f):W.takerIn K C f=some none:=by
 unfold W.takerIn;rw[show W.findIn K (.ref C) f=some none from n];rfl
structure Meth(K:W.Frag)(C:Addr)(m:Str)(f:Addr):Prop where
 at_:W.findIn K (.ref C) m=some (some (.ref f))
 fn:W.isFn K (.ref f)=true
 kp:W.keepIn K (.ref f)=true
section
variable{X:Cx}{pins:List (Addr×Obj)}{σ:St}{H:Hp}{s:Shared}{a C dx:Addr}{fs:List (Str×V)}{f:Str}{v:V}{A:Around}{E:Value->Shared->Prop}
theorem getattr_ok{b:Bool}{Q:Value->Shared->Prop}(I:Inv X pins σ H s)(e:H a=some (.ins C dx fs))(c:Cls X.K C)(n:kz X.K C f)(l:fs.lookup f=some v)(h:∀u s',Inv X pins σ H s'->RelV v u->Q u s'):wpAny (model X.prog X.w) A (getAttr (.ref a) f b) Q E s:=by
 obtain⟨mA,O,r,_,_,_⟩:=xB I.hok e;obtain⟨u,hu,ru⟩:=RelO.some_of (v:=v) (o:=mA f) (by rw[<-l];exact r f);exact get_map I.kIn O (c.get f) c.hd n hu (tI ru) (h u _ (I.tok _) ru)
theorem uH{m:Str}{g:Addr}{pl:Sem Bool}{Q:Value×List Value->Shared->Prop}(I:Inv X pins σ H s)(e:H a=some (.ins C dx fs))(c:Cls X.K C)(k:Meth X.K C m g)(l:fs.lookup m=none)(h:Q (.ref g,[.ref a]) s):wpAny (model X.prog X.w) A (getMethod (.ref a) m pl) Q E s:=by
 obtain⟨mA,O,r,_,_,_⟩:=xB I.hok e;have hn:mA m=none:=RelO.none_of (by rw[<-l];exact r m);exact get_meth I.kIn O (c.get m) k.at_ k.fn hn h
theorem setattr_ok{y:V}{u:Value}{Q:Unit->Shared->Prop}(I:Inv X pins σ H s)(e:H a=some (.ins C dx fs))(c:Cls X.K C)(n:kz X.K C f)(hl:fs.length<1000)(ry:RelV y u)(h:∀s',Inv X pins σ (upd H a (.ins C dx (putF f y fs))) s'->Q () s'):wpAny (model X.prog X.w) A (setAttr (.ref a) f u) Q E s:=by
 obtain⟨mA,O,r,wi,_,ho⟩:=xB I.hok e;have hz:(fs.map (·.1)).length<=sizeLine:=by rw[length_map,sizeLine_eq];omega
 refine set_map I.kIn O c.sa c.po n.taker c.hd wi hz fun h' O' sb=>h _ ?_;have hd:∃o,h'.get? dx=some o:=let⟨o,_,_,e',_⟩:=O'.ns;⟨o,e'⟩
 refine I.write (x:=a) (e:=dx) (by rw[e];exact True.intro) (.inr ho) (fun b q hb z=>(sb.2 b hb).trans z) hd ?_;refine⟨by rw[zh O.ne];exact ho,?_,O.ne,O'.obj,_,O'.ns,fun g=>?_,fun g hg=>?_⟩
 ·have:=pJ f y fs;omega
 ·show RelO ((putF f y fs).lookup g) (if g=f then some u else mA g);rw[pO];by_cases q:g=f
  ·rw[if_pos q,if_pos q];exact ry
  ·rw[if_neg q,if_neg q];exact r g
 ·by_cases q:g=f
  ·rw[q];exact(pH f y fs).1
  ·refine(pH f y fs).2 g (wi g fun z=>hg ?_);show(if g=f then some u else mA g)=none;rw[if_neg q];exact z
theorem Inv.made(I:Inv X pins σ H s):Inv X pins σ (upd (upd H s.heap.objs.size (.own (s.heap.objs.size+1))) (s.heap.objs.size+1) (.ins C s.heap.objs.size []))
  {s with heap:=(s.heap.push W.emptyDict).push (W.instObj C s.heap.objs.size)}:=by
 have e1:(s.heap.push W.emptyDict).get? s.heap.objs.size=some W.emptyDict:=Heap.get?_push_size s.heap rfl;have e2:((s.heap.push W.emptyDict).push (W.instObj C s.heap.objs.size)).get? (s.heap.objs.size+1)=some (W.instObj C s.heap.objs.size):=by
  have:=Heap.get?_push_size (s.heap.push W.emptyDict) (o:=W.instObj C s.heap.objs.size) rfl
  rwa [Heap.size_push]at this
 have e3:(s.heap.push W.emptyDict).Ns s.heap.objs.size (fun _=>none):=⟨W.emptyDict,#[],_,e1,rfl,(fun e he=>absurd he (by simp)),fun _=>rfl⟩;have I1:=I.laid (a:=s.heap.objs.size) (o:=.own (s.heap.objs.size+1)) (h':=s.heap.push W.emptyDict) (t':=s.toks) (fun b u q=>Heap.get?_push_of_some _ q) (le_refl _) ⟨_,e1⟩;refine I1.laid (a:=s.heap.objs.size+1) (o:=.ins C s.heap.objs.size []) (t':=s.toks) (fun b u q=>Heap.get?_push_of_some _ q) (Nat.le_of_eq (Heap.size_push _ _)) ?_;have ne:s.heap.objs.size≠s.heap.objs.size+1:=ne_of_lt (Nat.lt_succ_self _);refine⟨by rw[zh ne,z6],zero_le _,ne,e2,fun _=>none,(Heap.Ns1.of_empty e3).at fun o q=>Heap.get?_push_of_some _ q,fun _=>True.intro,fun y hy=>absurd rfl hy⟩
theorem attr_of{prog:Program}{w:World}{env:Env}{e:Expr}{f:Str}{pos:Pos}{s:Shared}{Q:Value->Shared->Prop}(hb:attributeBase e f env (eval e env)=eval e env)(h:wpAny (model prog w) A (eval e env) (fun o s₁=>wpAny (model prog w) A (getAttr o f true) Q E s₁) E s):wpAny (model prog w) A (eval (.Attribute e f pos) env) Q E s :=
 Attribute_any_ h (by rw[arm_eval_Attribute,hb])
end
def tFld(K:W.Frag)(ta:TE)(f:Str):TE:=fun σ H Q=>ta σ H fun x H1=>∃ a C dx fs v,x= .ref a/\H1 a=some (.ins C dx fs)/\Cls K C/\kz K C f/\fs.lookup f=some v/\Q v H1
def sFld(K:W.Frag)(ta tv:TE)(f:Str):TS:=fun D σ H=>tv σ H fun y H1=>ta σ H1 fun x H2=>∃ a C dx fs,x= .ref a/\H2 a=some (.ins C dx fs)/\Cls K C/\kz K C f/\fs.length<1000/\
 D.nx σ (upd H2 a (.ins C dx (putF f y fs)))
section
variable{X:Cx}{o e value:Expr}{f:Str}{pos pos' tpos:Pos}{ta tv:TE}
theorem kB(he:PE X e ta)(hb:attributeBase e f X.env (eval e X.env)=eval e X.env):PE X (.Attribute e f pos) (tFld X.K ta f):=by
 intro pins s σ H Q I h;refine attr_of hb (thn (he pins s σ H _ I h) fun u s1 ⟨x,H1,I1,rx,a,C,dx,fs,v,ex,ea,c,n,l,q⟩=>?_);subst ex;obtain rfl:u=Value.ref a:=rx;exact getattr_ok I1 ea c n l fun u' s2 I2 ru=>⟨v,H1,I2,ru,q⟩
theorem qr(ha:PE X o ta)(hv:PE X value tv)(hs:swapsWith value (some (.Attribute o f pos')) pos.line X.env=pure false):PS X (.Assign [.Attribute o f pos'] value pos) (sFld X.K ta tv f):=by
 intro pins s σ H D I h;refine plainObj_wpAny_Assign_Attribute (thn (hv pins s σ H _ I h) fun u s1 ⟨y,H1,I1,ry,q⟩=>thn (ha pins s1 σ H1 _ I1 q) fun ov s2 ⟨x,H2,I2,rx,a,C,dx,fs,ex,ea,c,n,l,q2⟩=>?_) hs;subst ex;obtain rfl:ov=Value.ref a:=rx;exact setattr_ok I2 ea c n l ry fun s3 I3=>⟨σ,_,I3,q2⟩
end
section
variable{X:Cx}{pins:List (Addr×Obj)}{σ:St}{H:Hp}{s:Shared}{A:Around}{E:Value->Shared->Prop}{Q:Value->Shared->Prop}{c:Value}{b:Bool}
inductive TyOf(K:W.Frag)(H:Hp):V->Value->Prop where
 |non:TyOf K H .non (.type "NoneType")
 |bl (x:Bool):TyOf K H (.bl x) (.type "bool")
 |int (i:Int):TyOf K H (.int i) (.type "int")
 |str (x:Str):TyOf K H (.str x) (.type "str")
 |flt (x:UInt64):TyOf K H (.flt x) (.type "float")
 |lst {a:Addr} {xs:List V} (e:H a=some (.lst xs)):TyOf K H (.ref a) (.type "list")
 |frz {a:Addr} {o:Obj} {xs:List V} (e:H a=some (.frz o (.lst xs))):TyOf K H (.ref a) (.type "list")
 |tup {a:Addr} {xs:List V} (e:H a=some (.tup xs)):TyOf K H (.ref a) (.type "tuple")
 |dK {a:Addr} {kvs:List (Key×V)} (e:H a=some (.dK kvs)):TyOf K H (.ref a) (.type "dict")
 |dT {a:Addr} {kvs:List (List Key×V)} (e:H a=some (.dT kvs)):TyOf K H (.ref a) (.type "dict")
 |ins {a C dx:Addr} {fs:List (Str×V)} (e:H a=some (.ins C dx fs)) (cl:Cls K C) (ha:W.findIn K (.ref C) "__class__"=some (some (.builtin "object.__class__")))
   (hn:W.specialIn K (.builtin "object.__class__") "__get__"=some (some (.builtin "getset_descriptor.__get__"))) (htk:W.takesIn K (.builtin "object.__class__")=some true)
   (hm:W.mroIn K C (.type "object")=some true):TyOf K H (.ref a) (.ref C)
theorem isinst_ok{x:V}{u t:Value}(I:Inv X pins σ H s)(rx:RelV x u)(ty:TyOf X.K H x t)(e:W.kitOne X.K t c=some b)(h:∀tk,Q (.bool b) {s with toks:=tk}) :
  wpAny (model X.prog X.w) A (call (.builtin "isinstance") [u,c]) Q E s:=by
 cases ty with
 |non=>cases(show u=Value.none from rx);exact W.kia_one W.kitx_none I.kIn True.intro e (fun z=>nomatch z) h
 |bl y=>cases(show u=Value.bool y from rx);exact W.kia_one W.kitx_bool I.kIn True.intro e (fun z=>nomatch z) h
 |int i=>obtain⟨t,q⟩:=(show ∃t,u=Value.int i t from rx);cases q;exact W.kia_one W.kitx_int I.kIn True.intro e (fun z=>nomatch z) h
 |str y=>obtain⟨t,q⟩:=(show ∃t,u=Value.str y t from rx);cases q;exact W.kia_one W.kitx_str I.kIn True.intro e (fun z=>nomatch z) h
 |flt y=>obtain⟨t,q⟩:=(show ∃t,u=Value.float y t from rx);cases q;exact W.kia_one W.kitx_float I.kIn True.intro e (fun z=>nomatch z) h
 | @lst a xs ea =>
  cases(show u=Value.ref a from rx);obtain⟨_,_,n,_,h1⟩:=(show zU X.prog X.w H s.heap a (.lst xs)from I.hok a _ ea);exact W.kia_one W.kitx_list I.kIn ⟨_,h1,rfl⟩ e (fun z=>nomatch z) h
 | @frz a ob xs ea =>
  cases(show u=Value.ref a from rx);obtain⟨_,_,_,n,_,h1⟩:=(show zU X.prog X.w H s.heap a (.frz ob (.lst xs))from I.hok a _ ea);exact W.kia_one W.kitx_list I.kIn ⟨_,h1,rfl⟩ e (fun z=>nomatch z) h
 | @tup a xs ea =>
  cases(show u=Value.ref a from rx);obtain⟨_,_,_,p,_⟩:=(show zU X.prog X.w H s.heap a (.tup xs)from I.hok a _ ea);obtain⟨o,h1,h2,_⟩:=p;exact W.kia_one W.kitx_tuple I.kIn ⟨o,h1,h2⟩ e (fun z=>nomatch z) h
 | @dK a kvs ea =>
  cases(show u=Value.ref a from rx);obtain⟨_,_,vs,_,p⟩:=(show zU X.prog X.w H s.heap a (.dK kvs)from I.hok a _ ea);obtain⟨o,es,ep,h1,h2,_⟩:=p;exact W.kia_one W.kitx_dict I.kIn ⟨o,h1,h2.1⟩ e (fun z=>nomatch z) h
 | @dT a kvs ea =>
  cases(show u=Value.ref a from rx);obtain⟨_,_,xs,_,o,es,ep,h1,h2,_⟩:=(show zU X.prog X.w H s.heap a (.dT kvs)from I.hok a _ ea);exact W.kia_one W.kitx_dict I.kIn ⟨o,h1,h2.1⟩ e (fun z=>nomatch z) h
 | @ins a C dx fs ea cl ha hn htk hm =>
  cases(show u=Value.ref a from rx);obtain⟨mA,O,_⟩:=xB I.hok ea;obtain⟨od,J,_⟩:=O.look;exact W.kia_one (W.kitx_own (cl.get _) cl.hd ha hn htk hm) I.kIn J e (fun z=>nomatch z) h
end
structure Room(k:Nat)(A:Around)(cm:Bool:=true):Prop where
 hd:cm=true->A.handled=none
 dp:A.depth+3*k+5<recursionLimit
 un:A.units+16*k+200<cLine
theorem Room.mono{j k:Nat}{A:Around}{cm:Bool}(r:Room k A cm)(h:j<=k):Room j A cm:=⟨r.hd,by have:=r.dp;omega,by have:=r.un;omega⟩
theorem Room.deeper{k:Nat}{A:Around}{cm:Bool}(r:Room (k+1) A cm)(env:Env):Room k (A.deeper env) cm :=
 ⟨r.hd,by have:=r.dp;show A.depth+1+3*k+5<_;omega,by have:=r.un;show A.units+3+16*k+200<_;omega⟩
theorem make_depth{A:Around}{C:Addr}{us:List Value}{kw:List (Str×Value)}:(A.under (.builtin "type.__call__" ⟨.ref C::us,kw⟩)).depth=A.depth+1:=by
 first|rfl|simp[Around.under,Code.weight,Code.isCreation,Code.isGuard,Code.isCaller,Code.frames,Code.isFrame,guardIds]
theorem make_units{A:Around}{C:Addr}{us:List Value}{kw:List (Str×Value)}:(A.under (.builtin "type.__call__" ⟨.ref C::us,kw⟩)).units=A.units+1:=by
 first|rfl|simp[Around.under,Code.cUnits,Code.frames,Code.isFrame]
theorem Room.make{k:Nat}{A:Around}{cm:Bool}(r:Room (k+1) A cm)(C:Addr)(us:List Value)(kw:List (Str×Value)):Room k (A.under (.builtin "type.__call__" ⟨.ref C::us,kw⟩)) cm :=
 ⟨r.hd,by have:=r.dp;rw[make_depth];omega,by have:=r.un;rw[make_units];omega⟩
theorem Room.depth{k:Nat}{A:Around}{cm:Bool}(r:Room k A cm):A.depth<recursionLimit:=by have:=r.dp;omega
theorem Room.units{k:Nat}{A:Around}{cm:Bool}(r:Room k A cm):A.units+64<cLine:=by have:=r.un;omega
def tNil:TA:=fun _ H Q=>Q [] H
def yT(ta:TE)(tr:TA):TA:=fun σ H Q=>ta σ H fun x H1=>tr σ H1 fun xs H2=>Q (x::xs) H2
section
variable{X:Cx}{e:Expr}{es:List Expr}{te:TE}{t:TA}{pos:Pos}
theorem kY:PA X [] tNil:=fun _ _ _ _ H Q I h=>Calls.spliced_nil ⟨[],H,I,.nil,h⟩
theorem kx(ha:PE X e te)(hr:PA X es t)(hs:starEach (e::es) X.env=(false,eval e X.env)::starEach es X.env:=by rfl):PA X (e::es) (yT te t):=by
 intro pos pins s σ H Q I h;rw[hs];show wpAny _ _ (spliced ((false,eval e X.env)::backTo pos (starEach es X.env))) _ _ s;refine Calls.spliced_cons (thn (ha pins s σ H _ I h) fun u s1 ⟨x,H1,I1,r1,q1⟩=>?_);exact thn (hr pos pins s1 σ H1 _ I1 q1) fun us s2 ⟨xs,H2,I2,r2,q2⟩=>⟨x::xs,H2,I2,.cons r1 r2,q2⟩
def tTup(t:TA):TE:=fun σ H Q=>t σ H fun xs H1=>xs.length<=sizeLine/\ ∀p,H1 p=none->Q (.ref p) (upd H1 p (.tup xs))
def tLst(t:TA):TE:=fun σ H Q=>t σ H fun xs H1=>xs.length<=sizeLine/\ ∀p,H1 p=none->Q (.ref p) (upd H1 p (.lst xs))
theorem zx{x1}(h:PA X es t):PE X (.Tuple es x1 pos) (tTup t):=by
 intro pins s σ H Q I hq;refine wpAny_Tuple_spliced (thn (h pos pins s σ H _ I hq) fun us s1 ⟨xs,H1,I1,r,z,q⟩=>⟨by rw[<-r.length];exact z,?_⟩);have hf:H1 s1.heap.objs.size=none:=I1.hok.fresh (le_refl _);refine⟨.ref s1.heap.objs.size,upd H1 s1.heap.objs.size (.tup xs),I1.laid (t':=s1.toks) (fun b u e=>Heap.get?_push_of_some _ e) (le_refl _) ?_,rfl,q _ hf⟩;exact⟨z,us,r,⟨_,Heap.get?_push_size _ rfl,rfl,_,rfl⟩,jy⟩
theorem jg(h:PA X es t):PE X (.List es pos) (tLst t):=by
 intro pins s σ H Q I hq;refine wpAny_List_spliced (thn (h pos pins s σ H _ I hq) fun us s1 ⟨xs,H1,I1,r,z,q⟩=>⟨by rw[<-r.length];exact z,?_⟩);have hf:H1 s1.heap.objs.size=none:=I1.hok.fresh (le_refl _);refine⟨.ref s1.heap.objs.size,upd H1 s1.heap.objs.size (.lst xs),I1.laid (t':=s1.toks) (fun b u e=>Heap.get?_push_of_some _ e) (le_refl _) ?_,rfl,q _ hf⟩;exact⟨z,us,0,r,Heap.get?_push_size _ rfl⟩
end
abbrev Sp:=List V->Hp->VK->XK->Prop
abbrev CXT:=List Env->Hp->Shared->XK->Value->Shared->Prop
structure Env0(P:Program)(w:World)(K:W.Frag)(mg:Str->Option Value)(base:Heap)(A:Around)(outer:List Env)(s:Shared)(H:Hp):Prop where
 frames:A.frames=some outer
 mod:Mod K mg base
 bs:∀b o,base.get? b=some o->s.heap.get? b=some o/\H b=none
 bsz:base.objs.size<=s.heap.objs.size
 funs:s.heap.FunFrames base outer
 frf:∀b∈frs outer,H b=none
 hok:HOk P w H s.heap
 bare:AllBare s.gens
def CE(outer:List Env)(P:Program)(w:World)(H:Hp)(s:Shared)(Q:VK)(u:Value)(s':Shared):Prop :=
 ∃v H',s'.os=s.os/\AllBare s'.gens/\Un (frs outer) [] H H' s.heap s'.heap/\HOk P w H' s'.heap/\RelV v u/\Q v H'
def CR(CX:CXT)(outer:List Env)(P:Program)(w:World)(H:Hp)(s:Shared)(Q:VK)(E:XK)(r:Result)(s':Shared):Prop :=
 match r with
 | .ok (.ret u)=>CE outer P w H s Q u s'
 | .ok _=>False
 | .error e=>CX outer H s E e s'
structure FnOk(P:Program)(w:World)(K:W.Frag)(mg:Str->Option Value)(base:Heap)(CX:CXT)(k:Nat)(f:Addr)(fd:FuncData)(ps:List Str)(sp:Sp)(cm:Bool:=true):Prop where
 len:∀vs H Q E,sp vs H Q E->vs.length=ps.length
 run:∀(A:Around)(outer:List Env)(s:Shared)(H:Hp)(args:Args)(us:List Value)(vs:List V)(Q:VK)(E:XK),Room k A cm->Env0 P w K mg base A outer s H->BindsTo s fd args (ps.zip us)->Vals vs us->sp vs H Q E->
  codeAny (model P w) A (.call (.ref f) args) (CR CX outer P w H s Q E) s
theorem Env0.make{P:Program}{w:World}{K:W.Frag}{mg:Str->Option Value}{base:Heap}{A:Around}{outer:List Env}{s:Shared}{H:Hp}(e:Env0 P w K mg base A outer s H)(C:Addr)(us:List Value)(kw:List (Str×Value)) :
  Env0 P w K mg base (A.under (.builtin "type.__call__" ⟨.ref C::us,kw⟩)) outer s H:=⟨by first|exact e.frames|(simpa [Around.under,Code.envs,Code.isFrame,pushEnvs]using e.frames),e.mod,e.bs,e.bsz,e.funs,e.frf,e.hok,e.bare⟩
section
variable{X:Cx}{pins:List (Addr×Obj)}{σ:St}{H:Hp}{s s':Shared}
theorem Inv.env0(I:Inv X pins σ H s):Env0 X.prog X.w X.K X.mg X.base X.A X.stack s H :=
 ⟨I.ok.frames,I.ok.mod,I.bs,le_trans I.ok.bsz I.sz,I.stack,I.stkFree,I.hok,I.bare⟩
theorem Inv.after{Q:VK}{u:Value}(I:Inv X pins σ H s)(h:CE X.stack X.prog X.w H s Q u s'):EP X pins σ Q u s':=by
 obtain⟨v,H',os,bare,un,hok,r,q⟩:=h;obtain⟨hh,g,d,t,os'⟩:=s';obtain rfl:os'=s.os:=os;exact⟨v,H',I.call (h':=hh) (g':=g) (d':=d) (t':=t) (ch:=[]) un hok bare (fun b z=>absurd z (by simp)),r,q⟩
end
def tCall(sp:Sp)(dvs:List V)(E:XK)(t:TA):TE:=fun σ H Q=>t σ H fun vs H1=>sp (vs++dvs) H1 Q E
def tMeth(C:Addr)(m:Str)(sp:Sp)(dvs:List V)(E:XK)(ta:TE)(t:TA):TE:=fun σ H Q=>ta σ H fun x H1=>∃ a dx fs,x= .ref a/\H1 a=some (.ins C dx fs)/\fs.lookup m=none/\
 t σ H1 fun vs H2=>sp (x::(vs++dvs)) H2 Q E
def tMake(C:Addr)(sp:Sp)(dvs:List V)(E:XK)(t:TA):TE:=fun σ H Q=>t σ H fun vs H1=>∀ x dx,H1 x=none->H1 dx=none->dx≠x->
 sp (.ref x::(vs++dvs)) (upd (upd H1 dx (.own x)) x (.ins C dx [])) (fun v H2=>v= .non/\Q (.ref x) H2) E
def wZ(K:W.Frag)(fd:FuncData)(ps:List Str)(ds:List Value):Prop :=
 ∀(s:Shared)(us:List Value),K.In s.heap->(us++ds).length=ps.length->BindsTo s fd ⟨us,[]⟩ (ps.zip (us++ds))
theorem wZ.all{K:W.Frag}{fd:FuncData}{ps:List Str}(h:∀us:List Value,us.length=ps.length->bindArgs fd ⟨us,[]⟩=pure (ps.zip us)):wZ K fd ps []:=fun s us _ hl=>by
 rw[append_nil]at hl ⊢;exact .of_eq (h us hl)
def jq(CX:CXT)(X:Cx)(E:XK):Prop:=∀(pins:List (Addr×Obj))(σ:St)(H:Hp)(s:Shared)(e:Value)(s':Shared),Inv X pins σ H s->CX X.stack H s E e s'->X.xe e s'
section
variable{cm:Bool}{X:Cx}{CX:CXT}{k:Nat}{f C:Addr}{fd:FuncData}{ps:List Str}{sp:Sp}{dvs:List V}{ds:List Value}{E:XK}{x m:Str}{p pos apos:Pos}{e o:Expr}{es:List Expr}{ta:TE}{t:TA}
theorem bv{pins:List (Addr×Obj)}{σ:St}{H:Hp}{s:Shared}{Q:VK}{us:List Value}{vs:List V}(F:FnOk X.prog X.w X.K X.mg X.base CX k f fd ps sp cm)(hr:Room k X.A cm)(hb:wZ X.K fd ps ds)(hd:Vals dvs ds)(hx:jq CX X E)(I:Inv X pins σ H s)(r:Vals vs us)(h:sp (vs++dvs) H Q E):wpAny (model X.prog X.w) X.A (call (.ref f) us) (EP X pins σ Q) X.xe s:=by
 have r2:Vals (vs++dvs) (us++ds):=r.append hd;have hl:(us++ds).length=ps.length:=by rw[<-r2.length];exact F.len _ _ _ _ h
 refine wpAny_call (codeAny_mono (F.run X.A X.stack s H ⟨us,[]⟩ (us++ds) (vs++dvs) Q E hr I.env0 (hb s us I.kIn hl) r2 h) fun r s' hq=>?_);cases r with
 |error e=>exact hx pins σ H s e s' I hq
 |ok fl =>
  cases fl with
  |ret u=>exact I.after hq
  |next=>exact False.elim hq
  |brk=>exact False.elim hq
  |cont=>exact False.elim hq
theorem yh(F:FnOk X.prog X.w X.K X.mg X.base CX k f fd ps sp cm)(hr:Room k X.A cm)(hg:Gl X x)(hm:X.mg x=some (.ref f))(hk:W.keepIn X.K (.ref f)=true)(hb:wZ X.K fd ps ds)(hd:Vals dvs ds)(hx:jq CX X E)(ha:PA X (e::es) t)(hdb:(x==("__debug__" : Str))=false:=by decide)(he:starEach (e::es) X.env=(false,eval e X.env)::starEach es X.env:=by rfl)(hpl:(backTo pos (starEach es X.env)).any (·.1)=false:=by rfl) :
  PE X (.Call (.Name x p) (e::es) [] pos) (tCall sp dvs E t):=by
 intro pins s σ H Q I h;refine wpAny_Call_Name_kw (wb I hg hm ?_ hdb);refine W.callWith_K (h₀:=X.base) I.ok.mod.kin hk (thn (ha pos pins s σ H _ I h) fun us s1 ⟨vs,H1,I1,r,q⟩=>⟨I1.kIn,?_⟩) he hpl;exact bv F hr hb hd hx I1 r q
theorem rh{pl:Sem Bool}(he:PE X o ta)(c:Cls X.K C)(hm:Meth X.K C m f)(F:FnOk X.prog X.w X.K X.mg X.base CX k f fd ps sp cm)(hr:Room k X.A cm)(hb:wZ X.K fd ps ds)(hd:Vals dvs ds)(hx:jq CX X E)(ha:PA X (e::es) t)(hst:starEach (e::es) X.env=(false,eval e X.env)::starEach es X.env:=by rfl)(hpl:(backTo pos (starEach es X.env)).any (·.1)=false:=by rfl)(ht:eval (.Call (.Attribute o m apos) (e::es) [] pos) X.env=(do
   let ov <-eval o X.env
   standAt apos.atName
   let(f,first) <-holding [ov] (getMethod ov m pl)
   callWith pos f first (backTo pos (starEach (e::es) X.env)) (backToKw pos (keywordEach [] X.env))):=by rfl) :
  PE X (.Call (.Attribute o m apos) (e::es) [] pos) (tMeth C m sp dvs E ta t):=by
 intro pins s σ H Q I h;refine W.methodCall_KW (pl:=pl) (thn (he pins s σ H _ I h) fun u s1 ⟨x,H1,I1,rx,a,dx,fs,ex,ea,l,q⟩=>?_) ht;subst ex;obtain rfl:u=Value.ref a:=rx;refine uH I1 ea c hm l ?_;refine W.callWith_K (first:=[.ref a]) (h₀:=X.base) I.ok.mod.kin hm.kp (thn (ha pos pins s1 σ H1 _ I1 q) fun us s2 ⟨vs,H2,I2,r,q2⟩=>⟨I2.kIn,?_⟩) hst hpl;exact bv (us:=.ref a::us) (vs:=.ref a::vs) F hr hb hd hx I2 (.cons rfl r) q2
theorem bo{pl:Sem Bool}(he:PE X o ta)(c:Cls X.K C)(hm:Meth X.K C m f)(F:FnOk X.prog X.w X.K X.mg X.base CX k f fd ps sp cm)(hr:Room k X.A cm)(hb:wZ X.K fd ps ds)(hd:Vals dvs ds)(hx:jq CX X E)(ht:eval (.Call (.Attribute o m apos) [] [] pos) X.env=(do
   let ov <-eval o X.env
   standAt apos.atName
   let(f,first) <-holding [ov] (getMethod ov m pl)
   callWith pos f first (backTo pos (starEach [] X.env)) (backToKw pos (keywordEach [] X.env))):=by rfl) :
  PE X (.Call (.Attribute o m apos) [] [] pos) (tMeth C m sp dvs E ta tNil):=by
 intro pins s σ H Q I h;refine W.methodCall_KW (pl:=pl) (thn (he pins s σ H _ I h) fun u s1 ⟨x,H1,I1,rx,a,dx,fs,ex,ea,l,q⟩=>?_) ht;subst ex;obtain rfl:u=Value.ref a:=rx;refine uH I1 ea c hm l ?_;exact W.callWith_K0 (first:=[.ref a]) I1.kIn hm.kp (bv (us:=[.ref a]) (vs:=[.ref a]) F hr hb hd hx I1 (.cons rfl .nil) q)
structure Mk(K:W.Frag)(C f:Addr):Prop where
 makes:W.makesIn K C=true
 init:W.findIn K (.ref C) "__init__"=some (some (.ref f))
 fn:W.isFn K (.ref f)=true
 kp:W.keepIn K (.ref C)=true
theorem run_make{pins:List (Addr×Obj)}{σ:St}{H:Hp}{s:Shared}{Q:VK}{us:List Value}{vs:List V}(M:Mk X.K C f)(F:FnOk X.prog X.w X.K X.mg X.base CX k f fd ps sp cm)(hr:Room (k+1) X.A cm)(hb:wZ X.K fd ps ds)(hd:Vals dvs ds)(hx:jq CX X E)(I:Inv X pins σ H s)(r:Vals vs us)(h:∀x dx,H x=none->H dx=none->dx≠x->sp (.ref x::(vs++dvs)) (upd (upd H dx (.own x)) x (.ins C dx [])) (fun v H2=>v= .non/\Q (.ref x) H2) E) :
  wpAny (model X.prog X.w) X.A (call (.ref C) us) (EP X pins σ Q) X.xe s:=by
 have hq:=h (s.heap.objs.size+1) s.heap.objs.size (I.hok.fresh (le_succ _)) (I.hok.fresh (le_refl _)) (ne_of_lt (Nat.lt_succ_self _));have I2:=Inv.made (C:=C) I;have r2:Vals (V.ref (s.heap.objs.size+1)::(vs++dvs)) (Value.ref (s.heap.objs.size+1)::(us++ds)):=.cons rfl (r.append hd);have hl:(Value.ref (s.heap.objs.size+1)::us++ds).length=ps.length:=by
  have e:=r2.length;rw[F.len _ _ _ _ hq]at e;exact e.symm
 refine wpAny_call (make_map (f:=f) I.kIn M.makes M.init (beq_iff_eq.mp M.fn) (codeAny_mono (F.run _ X.stack _ _ ⟨Value.ref (s.heap.objs.size+1)::us,[]⟩ (Value.ref (s.heap.objs.size+1)::(us++ds)) _ _ E (hr.make C us [])
  (I2.env0.make C us []) (hb _ (Value.ref (s.heap.objs.size+1)::us) I2.kIn hl) r2 hq) fun r s' hq'=>?_))
 cases r with
 |error e=>exact hx pins σ _ _ e s' I2 hq'
 |ok fl =>
  cases fl with
  |ret u =>
   obtain⟨v,H',I3,rv,ev,q3⟩:=I2.after hq';subst ev;exact⟨rv,⟨V.ref (s.heap.objs.size+1),H',I3,rfl,q3⟩⟩
  |next=>exact False.elim hq'
  |brk=>exact False.elim hq'
  |cont=>exact False.elim hq'
theorem pe_make0(M:Mk X.K C f)(F:FnOk X.prog X.w X.K X.mg X.base CX k f fd ps sp cm)(hr:Room (k+1) X.A cm)(hg:Gl X x)(hm:X.mg x=some (.ref C))(hb:wZ X.K fd ps ds)(hd:Vals dvs ds)(hx:jq CX X E)(hdb:(x==("__debug__" : Str))=false:=by decide):PE X (.Call (.Name x p) [] [] pos) (tMake C sp dvs E tNil):=by
 intro pins s σ H Q I h;refine wpAny_Call_Name_kw (wb I hg hm ?_ hdb);exact W.callWith_K0 I.kIn M.kp (run_make (us:=[]) M F hr hb hd hx I .nil h)
end
structure FnScope(N P:List Str)(sc:Scope):Prop where
 kind:sc.kind= .function
 co:sc.isCoroutine=false
 gen:sc.isGenerator=false
 nd:N.Nodup
 pre:N.take P.length=P
 par:∀x∈P,sc.names.lookup x=some .local\/sc.names.lookup x=some .cell
 nofree:∀y∈sc.names,y.2≠ .free
theorem t9{kindOf:Str->Option NameKind}{x:Str}:∀{binds:List (Str×Value)}{m:Str->Option Value},(∀v,(x,v)∉binds)->bindL kindOf binds m x=m x
 | [],_,_=>rfl
 |(n,v)::r,m,h=>by
  unfold bindL;rw[t9 fun w hw=>h w (mem_cons_of_mem _ hw)];split
  ·have:x≠n:=by rintro rfl;exact h v mem_cons_self
   simp[this]
  ·rfl
theorem rY{kindOf:Str->Option NameKind}{x:Str}:∀{binds:List (Str×Value)}{m:Str->Option Value},(∀v,(x,v)∉binds)->bindC kindOf binds m x=m x
 | [],_,_=>rfl
 |(n,v)::r,m,h=>by
  unfold bindC;rw[rY fun w hw=>h w (mem_cons_of_mem _ hw)];split
  ·rfl
  ·have:x≠n:=by rintro rfl;exact h v mem_cons_self
   simp[this]
theorem rZ{kindOf:Str->Option NameKind}{x:Str}{v:Value}:∀{P:List Str}{vs:List Value}{i:Nat}{m:Str->Option Value},P.Nodup->P[i]? =some x->vs[i]? =some v->kindOf x=some .local->
  bindL kindOf (P.zip vs) m x=some v
 | [],_,_,_,_,h,_,_=>by simp at h
 | _::_,[],_,_,_,_,h,_=>by simp at h
 |p::P,w::vs,0,m,nd,h1,h2,hk=>by
  simp at h1 h2;subst h1;subst h2;show bindL kindOf ((p,w)::P.zip vs) m p=_;unfold bindL;rw[t9 fun v hv=>(nodup_cons.mp nd).1 (List.of_mem_zip hv).1,if_pos hk];simp
 |p::P,w::vs,i+1,m,nd,h1,h2,hk=>by
  show bindL kindOf ((p,w)::P.zip vs) m x=_;unfold bindL;exact rZ (i:=i) (nodup_cons.mp nd).2 (by simpa using h1) (by simpa using h2) hk
theorem rX{kindOf:Str->Option NameKind}{x:Str}{v:Value}:∀{P:List Str}{vs:List Value}{i:Nat}{m:Str->Option Value},P.Nodup->P[i]? =some x->vs[i]? =some v->kindOf x≠some .local->
  bindC kindOf (P.zip vs) m x=some v
 | [],_,_,_,_,h,_,_=>by simp at h
 | _::_,[],_,_,_,_,h,_=>by simp at h
 |p::P,w::vs,0,m,nd,h1,h2,hk=>by
  simp at h1 h2;subst h1;subst h2;show bindC kindOf ((p,w)::P.zip vs) m p=_;unfold bindC;rw[rY fun v hv=>(nodup_cons.mp nd).1 (List.of_mem_zip hv).1,if_neg hk];simp
 |p::P,w::vs,i+1,m,nd,h1,h2,hk=>by
  show bindC kindOf ((p,w)::P.zip vs) m x=_;unfold bindC;exact rX (i:=i) (nodup_cons.mp nd).2 (by simpa using h1) (by simpa using h2) hk
def rJ(N:List Str)(vs:List V):St:=vs.map some++replicate (N.length-vs.length) none
def cxOf(CX:CXT)(P:Program)(w:World)(K:W.Frag)(mg:Str->Option Value)(base:Heap)(N:List Str)(qual:Str)(scope:Scope)(f:Addr)(cd:Value)(A:Around)(outer:List Env)(s:Shared)(H:Hp)(E:XK)(cm:Bool:=true):Cx where
 prog:=P
 w:=w
 K:=K
 mg:=mg
 base:=base
 A:=A.deeper (envOfC qual scope s.heap.objs.size f cd)
 N:=N
 s₀:=s
 H₀:=H
 env:=envOfC qual scope s.heap.objs.size f cd
 outer:=outer
 stack:=envOfC qual scope s.heap.objs.size f cd::outer
 ex:=[]
 calm:=cm
 fn:=fun _=>true
 pn:=[]
 xe:=fun e s'=>wpAny (model P w) (A.deeper (envOfC qual scope s.heap.objs.size f cd)) (leaving (envOfC qual scope s.heap.objs.size f cd) e) (fun _ s''=>CX outer H s E e s'') (fun e' s''=>CX outer H s E e' s'') s'
theorem cS{sc:Scope}{n:Nat}{x:Str}(h:sc.names.lookup x=some .cell):∃c,(cellsFrom n sc.names []).lookup x=some c:=by
 have q:=W.cellsFrom_some sc.names n [] (.inl h);exact Option.isSome_iff_exists.mp q
theorem inv_start{CX:CXT}{P:Program}{w:World}{K:W.Frag}{mg:Str->Option Value}{base:Heap}{N ps:List Str}{qual:Str}{scope:Scope}{f:Addr}{cd:Value}{A:Around}{outer:List Env}{s s1:Shared}{H:Hp}{E:XK}{cm:Bool}{us:List Value}{vs:List V}(S:FnScope N ps scope)(hd:cm=true->A.handled=none)(e0:Env0 P w K mg base A outer s H)(hl:vs.length=ps.length)(r:Vals vs us)(x:InCallC s s.heap.objs.size (bindL (envOfC qual scope s.heap.objs.size f cd).kindOf (ps.zip us) fun _=>none) (cellsFrom (s.heap.objs.size+1) scope.names []) (bindC (envOfC qual scope s.heap.objs.size f cd).kindOf (ps.zip us) fun _=>none) s1) :
  Inv (cxOf CX P w K mg base N qual scope f cd A outer s H E cm) [] (rJ N vs) H s1:=by
 have hpl:ps.length<=N.length:=by have:=congrArg length S.pre;rw[length_take]at this;omega
 obtain⟨h1,tk,rfl,hk⟩:=x.done;have noA:∀b:Addr,b∉(cxOf CX P w K mg base N qual scope f cd A outer s H E cm).ex:=fun b z=>absurd (show b∈([]:List Addr)from z) (by simp);refine⟨⟨e0.mod,S.kind,rfl,rfl,le_refl _,fun y z c h1 h2=>?_,fun y hy=>?_,fun y c _ h=>?_,hd,Around.frames_deeper e0.frames,.inr ⟨rfl,rfl⟩,fun b z=>absurd z (noA b),e0.bs,e0.bsz,fun b _ _=>noA b,fun b z=>absurd z (noA b),e0.funs,e0.frf⟩,
  rfl,e0.bare,Un.kept hk,⟨_,x.toInCall.ns,fun i y v h1 h2 h3=>?_⟩,fun y c h=>⟨_,x.cell y c h⟩,e0.hok.fresh (le_refl _),fun y c h=>?_,fun p hp=>absurd (show p∈([]:List (Addr×Obj))from hp) (by simp),e0.hok.kept hk,?_⟩
 ·exact name_of_addr x.apart (PySem.mem_of_lookup h1) (PySem.mem_of_lookup h2)
 ·have hy:scope.names.lookup y=some .cell\/scope.names.lookup y=some .free:=hy;rcases hy with hy|hy
  ·exact cS hy
  ·exact absurd rfl (S.nofree _ (PySem.mem_of_lookup hy))
 ·exact Nat.le_of_lt (x.above y c (PySem.mem_of_lookup h))
 ·have hi:i<vs.length:=by
   unfold rJ at h2;by_cases hi:i<vs.length
   ·exact hi
   ·rw[List.getElem?_append_right (by simpa using hi)]at h2;rw[List.getElem?_replicate]at h2;split at h2 <;>cases h2
  have ha:vs[i]? =some v:=by
   unfold rJ at h2;rw[List.getElem?_append_left (by simpa using hi),getElem?_map]at h2;cases e:vs[i]? with
   |none=>rw[e]at h2;cases h2
   |some a=>rw[e]at h2;cases h2;rfl
  obtain⟨u,hu,rv⟩:=r.get ha;have hp:ps[i]? =some y:=by
   rw[<-S.pre,List.getElem?_take_of_lt (by omega)];exact h1
  have ndP:ps.Nodup:=by rw[<-S.pre];exact S.nd.sublist (List.take_sublist _ _)
  refine⟨u,rv,?_⟩;rcases S.par y (mem_of_getElem? hp)with k|k
  ·exact .inl ⟨k,rZ ndP hp hu k⟩
  ·obtain⟨c,e⟩:=cS (n:=s.heap.objs.size+1) k;refine .inr ⟨.inl k,c,e,?_⟩;have q:=x.cell y c e;rw[rX ndP hp hu (by show scope.names.lookup y≠_;rw[k];decide)]at q;exact q
 ·exact e0.hok.fresh (Nat.le_of_lt (x.above y c (PySem.mem_of_lookup h)))
 ·unfold rJ;show _=N.length;rw[length_append,length_map,List.length_replicate];omega
theorem fn_of{CX:CXT}{P:Program}{w:World}{K:W.Frag}{mg:Str->Option Value}{base:Heap}{k:Nat}{f:Addr}{name qual:Str}{params:Arguments}{body:List Stmt}{scope:Scope}{dV kV doc pm cdv ct oc:Value}{an od:Option Addr}{osl:Array (Option Value)}{N ps:List Str}{sp:Sp}{cm:Bool}(lk:K.lookup f=some ⟨oc,od,.func (W.fnOf name qual params body scope dV kV doc pm an cdv ct),osl⟩)(hcd:W.codeIn K cdv qual=true)(S:FnScope N ps scope)(len:∀vs H Q E,sp vs H Q E->vs.length=ps.length)(hbody:∀(A:Around) (outer:List Env) (s:Shared) (H:Hp) (vs:List V) (Q:VK) (E:XK),Room k (A.deeper (envOfC qual scope s.heap.objs.size f cdv)) cm->sp vs H Q E->
   ∃t,PSs (cxOf CX P w K mg base N qual scope f cdv A outer s H E cm) body t/\t {nx:=fun _ H'=>Q .non H',rt:=Q} (rJ N vs) H) :
  FnOk P w K mg base CX (k+1) f (W.fnOf name qual params body scope dV kV doc pm an cdv ct) ps sp cm:=by
 refine⟨len,fun A outer s H args us vs Q E hr e0 hb r hsp=>?_⟩;have hl:=len _ _ _ _ hsp;have KX:K.In s.heap:=e0.mod.kin.keeps fun b o e=>(e0.bs b o e).1;have lim:s.heap.NoLimit:=e0.mod.nolimit.keeps fun b o e=>(e0.bs b o e).1;have hkind:∀y∈ps.zip us,scope.names.lookup y.1=some .local\/(scope.names.lookup y.1=some .cell/\((cellsFrom (s.heap.objs.size+1) scope.names []).lookup y.1).isSome=true):=fun⟨n,v⟩ hy=>by
  rcases S.par n (List.of_mem_zip hy).1 with q|q
  ·exact .inl q
  ·exact .inr ⟨q,W.cellsFrom_some _ _ _ (.inl q)⟩
 refine codeAny_call_function hr.depth (KX _ _ lk) rfl S.co S.gen rfl (W.codeRec_of KX hcd) (hb _ _ _ _ ?_);refine wpAny_newFunctionEnv_cells S.kind hkind fun env he s1 x=>?_;subst he;refine⟨lim.keeps x.toInCall.keep,codeAny_func ?_⟩;obtain⟨t,ht,hq⟩:=hbody A outer s H vs Q E (hr.deeper _) hsp;have I:Inv (cxOf CX P w K mg base N qual scope f cdv A outer s H E cm) [] (rJ N vs) H s1:=inv_start S hr.hd e0 hl r x;refine wpAny_mono (ht [] s1 (rJ N vs) H _ I hq) (fun fl s' hs=>?_) fun e s' hs=>hs;have fin:∀{σ':St}{H':Hp}{v:V}{u:Value},Inv (cxOf CX P w K mg base N qual scope f cdv A outer s H E cm) [] σ' H' s'->RelV v u->Q v H'->CE outer P w H s Q u s' :=
  fun{σ' H' v u} J rv q=>⟨v,H',J.os,J.bare,J.base,J.hok,rv,q⟩
 cases fl with
 |ret u =>
  obtain⟨v,σ',H',J,rv,q⟩:=hs;exact fin J rv q
 |next =>
  obtain⟨σ',H',J,q⟩:=hs;exact fin (v:=V.non) (u:=Value.none) J rfl q
 |brk =>
  obtain⟨_,_,_,q⟩:=hs;exact False.elim q
 |cont =>
  obtain⟨_,_,_,q⟩:=hs;exact False.elim q
section
variable{X:Cx}{x:Str}{p pos:Pos}{e:Expr}{es:List Expr}{t:TA}{id T:String}{r:List V->Hp->VK->Prop}
def tCB(r:List V->Hp->VK->Prop)(t:TA):TE:=fun σ H Q=>t σ H fun vs H1=>r vs H1 Q
theorem zt(hc:kM X (.builtin id) r)(hg:Gl X x)(hm:X.mg x=none)(hv:bootBuiltins x=some (.builtin id))(ha:PA X (e::es) t)(hn:x≠"__name__" :=by decide)(hdb:(x==("__debug__" : Str))=false:=by decide)(he:starEach (e::es) X.env=(false,eval e X.env)::starEach es X.env:=by rfl)(hpl:(backTo pos (starEach es X.env)).any (·.1)=false:=by rfl):PE X (.Call (.Name x p) (e::es) [] pos) (tCB r t):=by
 intro pins s σ H Q I h;refine wpAny_Call_Name_kw (wa I hg hm hv ?_ hn hdb);exact PyProof.Rows.callWith_builtin1 (thn (ha pos pins s σ H _ I h) fun us s1 ⟨vs,H1,I1,r1,q1⟩=>hc pins s1 σ H1 vs us Q I1 r1 q1) he hpl
theorem zH(hc:kM X (.type T) r)(hg:Gl X x)(hm:X.mg x=none)(hv:bootBuiltins x=some (.type T))(ha:PA X (e::es) t)(hn:x≠"__name__" :=by decide)(hdb:(x==("__debug__" : Str))=false:=by decide)(he:starEach (e::es) X.env=(false,eval e X.env)::starEach es X.env:=by rfl)(hpl:(backTo pos (starEach es X.env)).any (·.1)=false:=by rfl):PE X (.Call (.Name x p) (e::es) [] pos) (tCB r t):=by
 intro pins s σ H Q I h;refine wpAny_Call_Name_kw (wa I hg hm hv ?_ hn hdb);exact PyProof.Rows.callWith_type1 (thn (ha pos pins s σ H _ I h) fun us s1 ⟨vs,H1,I1,r1,q1⟩=>hc pins s1 σ H1 vs us Q I1 r1 q1) he hpl
end
end L2
namespace HT
open PySem PyProof.Rows
section
variable{prog:Program}{w:World}{A:Around}{E:Value->Shared->Prop}{s:Shared}
theorem cat_tup{t b:Addr}{vs ws:List Value}{Q:Value->Shared->Prop}(ht:IsTup s.heap t vs.toArray)(hb:IsTup s.heap b ws.toArray)(hv:vs≠[])(h1:ws=[]->Q (.ref t) s)(h2:ws≠[]->Q (.ref s.heap.objs.size) {s with heap:=s.heap.push {cls:=.type "tuple",data:=.seq (vs++ws).toArray}})(hsz:vs.length+ws.length<=sizeLine):wpAny (model prog w) A (binaryOp .Add (.ref t) (.ref b)) Q E s:=by
 obtain⟨⟨cls,dd,data,sl⟩,ho,hc,n,hd⟩:=id ht;obtain⟨⟨cls2,dd2,data2,sl2⟩,ho2,hc2,n2,hd2⟩:=id hb;simp only at hc hd hc2 hd2;subst hc hd hc2 hd2;have e:vs.toArray++ws.toArray=(vs++ws).toArray:=by simp
 by_cases hw:ws=[]
 ·exact concat_meets ⟨_,ho,rfl⟩ ⟨_,ho2,rfl⟩ noFill_tuple_add seq_tuple_add PySem.F.slot_tuple_add PySem.F.entry_tuple_add (PySem.F.args_tuple_add_2 _ _)
   (tuple_addW1 t b vs.toArray ws.toArray n n2 dd dd2 sl sl2 (by simpa using hv) (by simp[hw])) ⟨ho,ho2,h1 hw⟩
 ·refine concat_meets ⟨_,ho,rfl⟩ ⟨_,ho2,rfl⟩ noFill_tuple_add seq_tuple_add PySem.F.slot_tuple_add PySem.F.entry_tuple_add (PySem.F.args_tuple_add_2 _ _)
   (tuple_addW2 t b vs.toArray ws.toArray n n2 dd dd2 sl sl2 (by simpa using hv) (by simpa using hw) (by rw[size_toArray,size_toArray];exact hsz)) ⟨ho,ho2,?_⟩
  rw[e];exact h2 hw
def sIx(n d:Nat):Option Int->Nat
 |none=>d
 |some v=>if v<0 then(v+(n:Int)).toNat else min v.toNat n
theorem sIx_none(n d:Nat):sIx n d none=d:=rfl
theorem sIx_nat(n d k:Nat):sIx n d (some (k:Int))=min k n:=by
 show(if(k:Int)<0 then((k:Int)+(n:Int)).toNat else min (k:Int).toNat n)=min k n;rw[if_neg (by omega),toNat_natCast]
theorem sIx_le(n d:Nat)(hd:d<=n)(o:Option Int):sIx n d o<=n:=by
 cases o with
 |none=>exact hd
 |some v =>
  show(if v<0 then(v+(n:Int)).toNat else min v.toNat n)<=n;by_cases hv:v<0
  ·rw[if_pos hv];omega
  ·rw[if_neg hv];exact Nat.min_le_right _ _
theorem clip_eq(v:Int)(n d:Nat):(if v<0 then max (v+(n:Int)) 0 else min v (n:Int))=((sIx n d (some v):Nat):Int):=by
 show(if v<0 then max (v+(n:Int)) 0 else min v (n:Int))=(((if v<0 then(v+(n:Int)).toNat else min v.toNat n):Nat):Int);by_cases hv:v<0
 ·simp only[if_pos hv];exact(Int.ofNat_toNat _).symm
 ·simp only[if_neg hv];obtain⟨k,rfl⟩:=Int.eq_ofNat_of_zero_le (Int.not_lt.mp hv);rw[toNat_natCast,Int.min_def,Nat.min_def];simp only[Int.ofNat_le];split <;>rfl
theorem adjust_gen(lo hi:Option Int)(n:Nat):Builtin.Slice.sliceAdjust lo hi 1 (n:Int)=(((sIx n 0 lo:Nat):Int),((sIx n n hi:Nat):Int)):=by
 have h1:¬((1:Int)<0):=by omega
 unfold Builtin.Slice.sliceAdjust;simp only[h1,if_false];refine Prod.ext ?_ ?_
 ·cases lo with
  |none=>rfl
  |some v=>exact clip_eq v n 0
 ·cases hi with
  |none=>rfl
  |some v=>exact clip_eq v n n
theorem places_gen(i j:Nat):Builtin.Slice.slicePlaces (i:Int) (j:Int) 1=j-i:=by
 unfold Builtin.Slice.slicePlaces;have h1:(1:Int)>0:=by omega
 simp only[h1,if_true,Int.ediv_one];split <;>omega
theorem xj{v:Value}{o:Option Int}{Q:Option Int->Shared->Prop}(p:IsPart v o)(h:Q o s):wpAny (model prog w) A (Builtin.Slice.slicePartIndex v) Q E s:=by
 cases p with
 |none=>exact slicePart_none h
 |int i t=>exact slicePart_int h
theorem jQ{sl:Addr}{vl vu:Value}{lo hi:Option Int}{n:Nat}{Q:Int×Int×Nat->Shared->Prop}(hs:s.heap.IsSliceOf sl vl vu .none)(pl:IsPart vl lo)(pu:IsPart vu hi)(h:Q (((sIx n 0 lo:Nat):Int),1,sIx n n hi-sIx n 0 lo) s):wpAny (model prog w) A (Builtin.Slice.sliceApplied (.ref sl) (pure (n:Int))) Q E s:=by
 obtain⟨os,hos,hcs,hds⟩:=id hs;unfold Builtin.Slice.sliceApplied Builtin.Slice.sliceFields;refine wpAny_bind (wpAny_bind (wpAny_field hos hds (x:=vl) rfl (wpAny_bind (wpAny_field hos hds (x:=vu) rfl (wpAny_bind (wpAny_field hos hds (x:=.none) rfl (wpAny_pure ?_)))))));refine wpAny_bind (slicePart_none ?_);show wpAny _ _ (if((1:Int)==0)=true then _ else _) _ _ s;rw[if_neg (by decide)];refine wpAny_bind (xj pl (wpAny_bind (xj pu (wpAny_bind (wpAny_pure ?_)))));show wpAny _ _ (match Builtin.Slice.sliceAdjust lo hi 1 (n:Int)with|(lo,hi)=>pure (lo,(1:Int),Builtin.Slice.slicePlaces lo hi 1)) _ _ s;rw[adjust_gen lo hi n];show wpAny _ _ (pure (((sIx n 0 lo:Nat):Int),(1:Int),Builtin.Slice.slicePlaces ((sIx n 0 lo:Nat):Int) ((sIx n n hi:Nat):Int) 1)) _ _ s;rw[places_gen];exact wpAny_pure h
theorem pick_gen(xs:Array Value)(i k:Nat):((List.range k).filterMap fun(m:Nat)=>xs[((i:Int)+(m:Int)*1).toNat]?).toArray=((xs.toList.drop i).take k).toArray:=by
 have e:(fun(m:Nat)=>xs[((i:Int)+(m:Int)*1).toNat]?)=fun m=>xs[i+m]?:=by
  funext m
  have:((i:Int)+(m:Int)*1).toNat=i+m:=by omega
  rw[this]
 rw[e];have:=pick_run xs i k;rw[List.filterMap_map]at this;have e2:((fun x=>xs[x]?)∘fun x=>i+x)=fun m=>xs[i+m]?:=rfl;rw[e2]at this;rw[this]
theorem getItem_tuple_cut{t sl:Addr}{items:Array Value}{vl vu:Value}{lo hi:Option Int}{Q:Value->Shared->Prop}(ht:IsTup s.heap t items)(hs:s.heap.IsSliceOf sl vl vu .none)(pl:IsPart vl lo)(pu:IsPart vu hi)(hw:¬(sIx items.size 0 lo=0/\sIx items.size items.size hi=items.size))(h:Q (.ref s.heap.objs.size) {s with heap:=s.heap.push {cls:=.type "tuple",data:=.seq ((items.toList.drop (sIx items.size 0 lo)).take (sIx items.size items.size hi-sIx items.size 0 lo)).toArray}})(hsz:items.size<=sizeLine):wpAny (model prog w) A (getItem (.ref t) (.ref sl)) Q E s:=by
 have htake:sizeOk (.seq ((items.toList.drop (sIx items.size 0 lo)).take (sIx items.size items.size hi-sIx items.size 0 lo)).toArray):=by
  show((items.toList.drop (sIx items.size 0 lo)).take (sIx items.size items.size hi-sIx items.size 0 lo)).toArray.size<=sizeLine;rw[size_toArray,length_take,length_drop,Array.length_toList];exact le_trans (Nat.min_le_right _ _) (le_trans (Nat.sub_le _ _) hsz)
 have hj:sIx items.size items.size hi<=items.size:=sIx_le _ _ (le_refl _) hi;obtain⟨os,hos,hcs,hds⟩:=id hs;have hTs:s.TypeIs (.ref sl) "slice" :=⟨os,hos,hcs⟩;unfold getItem
 try with_reducible refine wpAny_holding ?_
 first|refine wpAny_bind (wpAny_pure ?_)|skip
 refine wpAny_bind (wpAny_sequenceKey ht.typeIs (by decide) ?_);refine wpAny_bind (wpAny_callSpecial?_slot (name:=Str.ofString "__getitem__") ht.typeIs PyProof.Rows.slot_tuple_getitem
  (wpAny_call_entry PyProof.Rows.slot_tuple_getitem ht.typeIs entry_tuple_getitem ?_ (args_tuple_getitem _ _)))
 show wpAny _ _ (Builtin.Tuple.tupleItemsOf (.ref t) >>= _) _ _ s;refine wpAny_bind (tupleItemsOf_ ht ?_);refine wpAny_bind (wpAny_typeOf hTs ?_);rw[if_pos (by decide)];refine wpAny_bind (jQ hs pl pu ?_);have hno:¬((((sIx items.size 0 lo:Nat):Int)==0&&(1:Int)==1&&(sIx items.size items.size hi-sIx items.size 0 lo)==items.size)=true):=by
  intro q;rw[and_eq_true,and_eq_true]at q;have q1:((sIx items.size 0 lo:Nat):Int)=0:=eq_of_beq q.1.1;have q2:sIx items.size items.size hi-sIx items.size 0 lo=items.size:=eq_of_beq q.2;exact hw ⟨by omega,by omega⟩
 show wpAny _ _ (if(((sIx items.size 0 lo:Nat):Int)==0&&(1:Int)==1&&(sIx items.size items.size hi-sIx items.size 0 lo)==items.size)=true then _ else _) _ _ s;rw[if_neg hno,pick_gen]
 first
  |exact wpAny_bind (m:=Builtin.Tuple.tupleExact _) (wpAny_newObj_type (wpAny_pure ⟨_,rfl,wpAny_pure h⟩) htake)
  |exact wpAny_bind (m:=Builtin.Tuple.tupleExact _) (wpAny_newObj_type (wpAny_bind (wpAny_pure (wpAny_pure ⟨_,rfl,wpAny_pure h⟩))) htake)
  |exact wpAny_bind (wpAny_bind (m:=Builtin.Tuple.tupleExact _) (wpAny_newObj_type (wpAny_pure (wpAny_pure ⟨_,rfl,wpAny_pure h⟩)) htake))
  |exact wpAny_bind (wpAny_bind (m:=Builtin.Tuple.tupleExact _) (wpAny_newObj_type (wpAny_pure ⟨_,rfl,wpAny_pure h⟩) htake))
end
end HT
namespace L2
open PySem PySem.Spec PyProof.Rows
abbrev TO:=St->Hp->(Option Int->Hp->Prop)->Prop
def PO(X:Cx)(e:Option Expr)(t:TO):Prop :=
 ∀(pins:List (Addr×Obj))(s:Shared)(σ:St)(H:Hp)(Q:Option Int->Hp->Prop),Inv X pins σ H s->t σ H Q->
  wpAny (model X.prog X.w) X.A (evalPart e X.env) (fun u s'=>∃ o H',Inv X pins σ H' s'/\IsPart u o/\Q o H') X.xe s
def jp:TO:=fun _ H Q=>Q none H
def tPart(t:TE):TO:=fun σ H Q=>t σ H fun x H1=>∃ i,x= .int i/\Q (some i) H1
theorem uI{ns:List Int}:∀{us:List Value},Vals (ns.map V.int) us->IntsAre us ns:=by
 induction ns with
 |nil=>intro us r;rw[List.map_nil]at r;cases r;exact .nil
 |cons n ns ih =>
  intro us r;rw[map_cons]at r;cases r with
  |cons r1 r2 =>
   obtain⟨t,e⟩:=r1;subst e;exact .cons n t (ih r2)
section
variable{X:Cx}{e:Expr}{te:TE}{lo hi:Option Expr}{tl th:TO}{pos p2:Pos}
theorem kZ:PO X none jp:=by
 intro pins s σ H Q I h;rw[evalPart_none];exact wpAny_pure ⟨none,H,I,.none,h⟩
theorem j0(h:PE X e te):PO X (some e) (tPart te):=by
 intro pins s σ H Q I hw;rw[evalPart_some];refine thn (h pins s σ H _ I hw) fun u s1 ⟨x,H1,I1,r1,q1⟩=>?_;obtain⟨i,rfl,q⟩:=q1;obtain⟨t,rfl⟩:=r1;exact⟨some i,H1,I1,.int i t,q⟩
def SlR(X:Cx)(r:V->Option Int->Option Int->Hp->VK->Prop):Prop :=
 ∀(pins:List (Addr×Obj))(s:Shared)(σ:St)(H:Hp)(x:V)(v vl vu:Value)(lo hi:Option Int)(sl:Addr)(Q:VK),Inv X pins σ H s->RelV x v->s.heap.IsSliceOf sl vl vu .none->IsPart vl lo->IsPart vu hi->r x lo hi H Q->
  ∃T id,typeLookup (.type T) "__getitem__"=pure (some (.builtin id))/\s.TypeIs v T/\wpAny (model X.prog X.w) X.A (getItem v (.ref sl)) (EP X pins σ Q) X.xe s
theorem SlR.or{r r':V->Option Int->Option Int->Hp->VK->Prop}(h:SlR X r)(h':SlR X r'):SlR X (fun x lo hi H Q=>r x lo hi H Q\/r' x lo hi H Q):=by
 intro pins s σ H x v vl vu lo hi sl Q I rx hs pl pu q;rcases q with q|q
 ·exact h pins s σ H x v vl vu lo hi sl Q I rx hs pl pu q
 ·exact h' pins s σ H x v vl vu lo hi sl Q I rx hs pl pu q
def tSl(r:V->Option Int->Option Int->Hp->VK->Prop)(te:TE)(tl th:TO):TE:=fun σ H Q=>te σ H fun x H1=>tl σ H1 fun l H2=>th σ H2 fun u H3=>r x l u H3 Q
theorem yM{r:V->Option Int->Option Int->Hp->VK->Prop}(hr:SlR X r)(he:PE X e te)(hl:PO X lo tl)(hu:PO X hi th):PE X (.Subscript e (.Slice lo hi none p2) pos) (tSl r te tl th):=by
 intro pins s σ H Q I h;refine Subscript_ (thn (he pins s σ H _ I h) fun v s1 ⟨x,H1,I1,r1,q1⟩=>?_);refine wpAny_Slice (thn (hl pins s1 σ H1 _ I1 q1) fun vl s2 ⟨l,H2,I2,pl,q2⟩=>thn (hu pins s2 σ H2 _ I2 q2) fun vu s3 ⟨u,H3,I3,pu,q3⟩=>?_);rw[evalPart_none];refine wpAny_pure ?_;have I4:Inv X pins σ H3 {s3 with heap:=s3.heap.push {cls:=.type "slice",data:=.fields #[vl,vu,.none]}}:=I3.kept (t':=s3.toks) fun b ob q=>Heap.get?_push_of_some _ q;obtain⟨T,id,hT,ht,hg⟩:=hr pins {s3 with heap:=s3.heap.push {cls:=.type "slice",data:=.fields #[vl,vu,.none]}} σ H3 x v vl vu l u s3.heap.objs.size Q I4 r1 (Heap.IsSliceOf.new ..) pl pu q3;show wpAny (model X.prog X.w) X.A (subscriptTail e (.Slice lo hi none p2) v (.ref s3.heap.objs.size)) (EP X pins σ Q) X.xe {s3 with heap:=s3.heap.push {cls:=.type "slice",data:=.fields #[vl,vu,.none]}};exact tail_any (ops:=[.ref s3.heap.objs.size,v]) ht hT hg (by with_unfolding_all rfl)
def cutV(xs:List V)(lo hi:Option Int):List V:=(xs.drop (HT.sIx xs.length 0 lo)).take (HT.sIx xs.length xs.length hi-HT.sIx xs.length 0 lo)
theorem pi(xs:List V)(lo hi:Option Int):(cutV xs lo hi).length<=xs.length:=by
 unfold cutV;rw[length_take,length_drop];omega
def rSlT(K:W.Frag):V->Option Int->Option Int->Hp->VK->Prop:=fun x lo hi H Q=>∃ a xs,x= .ref a/\SqT K H a xs/\
 ¬(HT.sIx xs.length 0 lo=0/\HT.sIx xs.length xs.length hi=xs.length)/\ ∀p,H p=none->Q (.ref p) (upd H p (.tup (cutV xs lo hi)))
theorem sl_tup:SlR X (rSlT X.K):=by
 intro pins s σ H x v vl vu lo hi sl Q I rx hs pl pu h;obtain⟨a,xs,rfl,hx,hw,q⟩:=h;cases rx;obtain⟨its,r,ht,hz⟩:=I.tuple hx;have hlen:its.toArray.size=xs.length:=by rw[size_toArray];exact r.length.symm
 refine⟨"tuple",_,PyProof.Rows.slot_tuple_getitem.lookup,ht.typeIs,?_⟩;refine HT.getItem_tuple_cut ht hs pl pu (by rw[hlen];exact hw) ?_ (by rw[hlen];exact hz);rw[hlen];refine⟨.ref s.heap.objs.size,_,I.laid (t':=s.toks) (o:=.tup (cutV xs lo hi)) (fun b ob q=>Heap.get?_push_of_some _ q) (le_refl _) ?_,rfl,q _ (I.hok.fresh (le_refl _))⟩;exact⟨le_trans (pi xs lo hi) hz,_,(r.drop (HT.sIx xs.length 0 lo)).take (HT.sIx xs.length xs.length hi-HT.sIx xs.length 0 lo),IsTup.new _ _,jy⟩
def rCatT(K:W.Frag):R2:=fun x y H Q=>∃ a b xs ys,x= .ref a/\y= .ref b/\SqT K H a xs/\SqT K H b ys/\xs≠[]/\xs.length+ys.length<=sizeLine/\
 (ys=[]->Q (.ref a) H)/\(ys≠[]-> ∀p,H p=none->Q (.ref p) (upd H p (.tup (xs++ys))))
theorem Vals.nil_iff{xs:List V}{us:List Value}(r:Vals xs us):us=[]↔xs=[]:=by
 cases r with
 |nil=>simp
 |cons _ _=>simp
theorem op_catT:OpR X (binaryOp .Add) (rCatT X.K):=by
 intro pins s σ H x y v u Q I rx ry h;obtain⟨a,b,xs,ys,rfl,rfl,ha,hb,hx,hz,q1,q2⟩:=h;cases rx;cases ry;obtain⟨its,r1,p1,_⟩:=I.tuple ha;obtain⟨its2,r2,p2,_⟩:=I.tuple hb;refine HT.cat_tup p1 p2 (fun z=>hx (r1.nil_iff.mp z)) (fun z=>⟨.ref a,H,I,rfl,q1 (r2.nil_iff.mp z)⟩) (fun z=>?_) (by rw[<-r1.length,<-r2.length];exact hz);refine⟨.ref s.heap.objs.size,_,I.laid (t':=s.toks) (o:=.tup (xs++ys)) (fun b ob q=>Heap.get?_push_of_some _ q) (le_refl _) ?_,rfl,q2 (fun w=>z (r2.nil_iff.mpr w)) _ (I.hok.fresh (le_refl _))⟩;exact⟨by rw[length_append];exact hz,_,r1.append r2,IsTup.new _ _,jy⟩
end
def ixN(n:Nat)(i:Int):Option Nat:=if 0<=i then(if i<n then some i.toNat else none)else if -(n:Int)<=i then some (i+n).toNat else none
def atI{α:Type}(xs:List α)(i:Int):Option α:=(ixN xs.length i).bind fun j=>xs[j]?
theorem ixN_seq{n:Nat}{i:Int}{j:Nat}(h:ixN n i=some j):seqIndex? i n=some j/\j<n/\ -(n:Int)<=i/\i<n:=by
 unfold ixN at h;by_cases h0:0<=i
 ·rw[if_pos h0]at h;by_cases h1:i<n
  ·rw[if_pos h1]at h;have e:i.toNat=j:=Option.some.inj h;exact⟨by rw[seqIndex_of h0 h1,e],by omega,by omega,h1⟩
  ·rw[if_neg h1]at h;cases h
 ·rw[if_neg h0]at h;by_cases h1:-(n:Int)<=i
  ·rw[if_pos h1]at h;have e:(i+n).toNat=j:=Option.some.inj h;exact⟨by rw[seqIndex_neg (by omega) h1,e],by omega,h1,by omega⟩
  ·rw[if_neg h1]at h;cases h
theorem df{α:Type}{xs:List α}{i:Int}{v:α}(h:atI xs i=some v):∃j,seqIndex? i xs.length=some j/\xs[j]? =some v/\j<xs.length/\ -(xs.length:Int)<=i/\i<xs.length:=by
 unfold atI at h;cases e:ixN xs.length i with
 |none=>rw[e]at h;cases h
 |some j =>
  rw[e]at h;obtain⟨h1,h2,h3,h4⟩:=ixN_seq e;exact⟨j,h1,h,h2,h3,h4⟩
theorem zp{α:Type}{xs:List α}{j:Nat}{v:α}(h:xs[j]? =some v):atI xs (j:Int)=some v:=by
 have hj:j<xs.length:=(List.getElem?_eq_some_iff.mp h).1;have e:ixN xs.length (j:Int)=some j:=by
  unfold ixN;rw[if_pos (by omega),if_pos (by omega)];simp
 unfold atI;rw[e];exact h
def PlainIx(b:Expr):Prop:=∀ o i,subscripted b false o i=operate [o,i] (getItem o i)
def IxR(X:Cx)(r:R2):Prop :=
 ∀(value slice:Expr)(pins:List (Addr×Obj))(s:Shared)(σ:St)(H:Hp)(x y:V)(v u:Value)(Q:VK),Inv X pins σ H s->RelV x v->RelV y u->r x y H Q->
  subscripted slice false v u=operate [v,u] (getItem v u)->wpAny (model X.prog X.w) X.A (subscriptTail value slice v u) (EP X pins σ Q) X.xe s
def MtR(X:Cx)(id:String)(r:V->List V->Hp->VK->Prop):Prop :=
 ∀(pins:List (Addr×Obj))(s:Shared)(σ:St)(H:Hp)(x:V)(xs:List V)(v:Value)(us:List Value)(Q:VK),Inv X pins σ H s->RelV x v->Vals xs us->r x xs H Q->
  wpAny (model X.prog X.w) X.A (call (.builtin id) (v::us)) (EP X pins σ Q) X.xe s
section
variable{X:Cx}{a b:Expr}{ta tb:TE}{pos:Pos}
theorem pe_ix{r:R2}(hr:IxR X r)(ha:PE X a ta)(hb:PE X b tb)(hs:PlainIx b):PE X (.Subscript a b pos) (tOp r ta tb):=by
 intro pins s σ H Q I h;exact Subscript_ (binT ha hb I h fun v u s2 x y H2 I2 rx ry q=>hr a b pins s2 σ H2 x y v u Q I2 rx ry q (hs _ _))
def rIxL(K:W.Frag):R2:=fun x y H Q=>∃ p xs i v,x= .ref p/\y= .int i/\SqL K H p xs/\atI xs i=some v/\Q v H
def rIxT(K:W.Frag):R2:=fun x y H Q=>∃ p xs i v,x= .ref p/\y= .int i/\SqT K H p xs/\atI xs i=some v/\Q v H
def rIxS:R2:=fun x y H Q=>∃ z i c,x= .str z/\y= .int i/\z.length<=sizeLine/\atI z.cps.toList i=some c/\Q (.str ⟨#[c]⟩) H
theorem zy:IxR X (rIxL X.K):=by
 intro value slice pins s σ H x y v u Q I rx ry h hs;obtain⟨p,xs,i,z,rfl,rfl,hq,he,q⟩:=h;cases rx;obtain⟨t,rfl⟩:=ry;obtain⟨its,r,pl,hz⟩:=I.list hq;obtain⟨j,h1,h2,h3,h4,h5⟩:=df he;obtain⟨w,ew,rw'⟩:=r.get h2;have hl:=r.length;have hn:=vk;have fin:EP X pins σ Q w s:=⟨z,H,I,rw',q⟩;by_cases h0:0<=i
 ·have hj:i.toNat=j:=by
   rw[seqIndex_of h0 h5]at h1;exact Option.some.inj h1
  exact item_listR pl.isList h0 (by omega) (by rw[hj];simpa using ew) fin hs
 ·have hj:(i+(its.toArray.size:Int)).toNat=j:=by
   rw[seqIndex_neg (by omega) h4]at h1;rw[size_toArray,<-hl];exact Option.some.inj h1
  exact subscriptTail_builtinR (x:=w) pl.isList.typeIs slot_list_getitem.lookup
   (wpAny_getItem_list_neg (Q:=fun r s'=>r=w/\EP X pins σ Q r s') pl.isList (by omega) (by rw[size_toArray] <;>omega) (by omega) (by rw[hj];simpa using ew) ⟨rfl,fin⟩) hs
theorem zI:IxR X (rIxT X.K):=by
 intro value slice pins s σ H x y v u Q I rx ry h hs;obtain⟨p,xs,i,z,rfl,rfl,hq,he,q⟩:=h;cases rx;obtain⟨t,rfl⟩:=ry;obtain⟨its,r,pl,hz⟩:=I.tuple hq;obtain⟨j,h1,h2,h3,h4,h5⟩:=df he;obtain⟨w,ew,rw'⟩:=r.get h2;have hl:=r.length;have hn:=vk;have fin:EP X pins σ Q w s:=⟨z,H,I,rw',q⟩;exact subscriptTail_builtinR (x:=w) pl.typeIs slot_tuple_getitem.lookup
  (getItem_tuple (j:=j) (Q:=fun r s'=>r=w/\EP X pins σ Q r s') pl (by omega) (by omega) (by rw[size_toArray,<-hl];exact h1) (by simpa using ew) ⟨rfl,fin⟩) hs
theorem b9:IxR X rIxS:=by
 intro value slice pins s σ H x y v u Q I rx ry h hs;obtain⟨z,i,c,rfl,rfl,hz,he,q⟩:=h;obtain⟨t,rfl⟩:=rx;obtain⟨t',rfl⟩:=ry;obtain⟨j,h1,h2,h3,h4,h5⟩:=df he;have hl:z.cps.toList.length=z.length:=by simp[Str.length]
 rw[hl]at h1 h4 h5;have hn:=vk;exact tail_any (typeIs_str s z t) slot_str_getitem.lookup (getItem_str (c:=c) (by
  have e1:decide (i< -(2^63:Int))=false:=decide_eq_false (by omega);have e2:decide (i>=2^63)=false:=decide_eq_false (by omega);rw[e1,e2,Bool.or_false]) (by rw[h1];simpa using h2) ⟨.str ⟨#[c]⟩,H,I.tok _,⟨_,rfl⟩,q⟩) hs
theorem mapSeq_set(its:List Value)(n j:Nat)(u:Value):Obj.mapSeq (·.setIfInBounds j u) {cls:=.type "list",data:=.seq its.toArray n}={cls:=.type "list",data:=.seq (its.set j u).toArray n}:=by
 simp[Obj.mapSeq]
theorem Inv.lst{pins:List (Addr×Obj)}{σ:St}{H:Hp}{s:Shared}{p:Addr}{xs:List V}(I:Inv X pins σ H s)(h:H p=some (.lst xs)) :
  ∃(its:List Value)(n:Nat),Vals xs its/\s.heap.get? p=some {cls:=.type "list",data:=.seq its.toArray n}/\xs.length<=sizeLine:=by
 obtain⟨z,its,n,r,e⟩:=I.hok p _ h;exact⟨its,n,r,e,z⟩
theorem Inv.lstUpd{pins:List (Addr×Obj)}{σ:St}{H:Hp}{s:Shared}{p:Addr}{xs ys:List V}{its its':List Value}{n n':Nat}{f:Obj->Obj}(I:Inv X pins σ H s)(h:H p=some (.lst xs))(ho:s.heap.get? p=some {cls:=.type "list",data:=.seq its.toArray n})(hf:f {cls:=.type "list",data:=.seq its.toArray n}={cls:=.type "list",data:=.seq its'.toArray n'})(r:Vals ys its')(hz:ys.length<=sizeLine)(t:Nat) :
  Inv X pins σ (upd H p (.lst ys)) {s with heap:=s.heap.update p f,toks:=t}:=by
 have e:(s.heap.update p f).get? p=some {cls:=.type "list",data:=.seq its'.toArray n'}:=by
  rw[Heap.get?_update_self f ho (by rw[hf] <;>rfl),hf]
 refine I.write (x:=p) (e:=p) (by rw[h];trivial) (.inl rfl) (fun b u hb q=>(Heap.get?_update_other _ _ (Ne.symm hb)).trans q) ⟨_,e⟩ ?_;exact⟨hz,its',n',r,e⟩
def rSetL:V->V->V->Hp->(Hp->Prop)->Prop:=fun o i v H Q=>∃ p xs k j,o= .ref p/\i= .int k/\H p=some (.lst xs)/\ixN xs.length k=some j/\Q (upd H p (.lst (xs.set j v)))
theorem rD:PSet X rSetL:=by
 intro pins s σ H o i v ov iv u Q I ro ri rv h;obtain⟨p,xs,k,j,rfl,rfl,hp,hj,q⟩:=h;cases ro;obtain⟨t,rfl⟩:=ri;obtain⟨its,n,r,ho,hz⟩:=I.lst hp;obtain⟨h1,h2,h3,h4⟩:=ixN_seq hj;have hl:=r.length;have hn:=vk;have I':Inv X pins σ (upd H p (.lst (xs.set j v))) {s with heap:=s.heap.update p (Obj.mapSeq (·.setIfInBounds j u))} :=
  I.lstUpd hp ho (mapSeq_set its n j u) (r.set rv j) (by rw[List.length_set];exact hz) s.toks
 by_cases h0:0<=k
 ·have hk:k.toNat=j:=by
   rw[seqIndex_of h0 h4]at h1;exact Option.some.inj h1
  exact W.ki_setAt ho h0 (by omega) (by rw[size_toArray,<-hl];exact h4) (by rw[hk];exact⟨_,I',q⟩)
 ·have hk:(k+(its.toArray.size:Int)).toNat=j:=by
   rw[seqIndex_neg (by omega) h3]at h1;rw[size_toArray,<-hl];exact Option.some.inj h1
  exact W.ki_setBack ho (by omega) (by rw[size_toArray,<-hl];exact h3) (by omega) (by rw[hk];exact⟨_,I',q⟩)
theorem clipN(n:Nat)(i:Int):max 0 (min (if i<0 then i+n else i) n)=((if i<0 then(i+n).toNat else min i.toNat n:Nat):Int):=by
 split
 ·next h=>rw[Int.min_eq_left (Int.add_le_of_le_sub_right (by rw[Int.sub_self];exact le_of_lt h)),Int.ofNat_toNat,Int.max_comm]
 ·next h =>
  obtain⟨k,rfl⟩:=Int.eq_ofNat_of_zero_le (Int.not_lt.mp h);rw[toNat_natCast,Int.min_def,Nat.min_def];simp only[Int.ofNat_le];split <;>exact Int.max_eq_right (Int.natCast_nonneg _)
theorem mZ(lo hi:Option Int)(n:Nat):(sliceBounds lo hi none n).1=((HT.sIx n 0 lo:Nat):Int)/\(sliceBounds lo hi none n).2.1=((HT.sIx n n hi:Nat):Int)/\(sliceBounds lo hi none n).2.2=1 :=
 ⟨by cases lo with|none=>rfl|some i=>exact clipN n i,by cases hi with|none=>rfl|some i=>exact clipN n i,rfl⟩
theorem rG(its:List Value)(lo hi:Option Int):slicePick its.toArray lo hi none=((its.drop (HT.sIx its.length 0 lo)).take (HT.sIx its.length its.length hi-HT.sIx its.length 0 lo)).toArray:=by
 obtain⟨h1,h2,h3⟩:=mZ lo hi its.toArray.size;unfold slicePick;rw[h1,h2,h3];simp only[sliceRange_one,pick_run,size_toArray] <;>rfl
def rSlL(K:W.Frag):V->Option Int->Option Int->Hp->VK->Prop:=fun x lo hi H Q=>∃ a xs,x= .ref a/\SqL K H a xs/\ ∀p,H p=none->Q (.ref p) (upd H p (.lst (cutV xs lo hi)))
theorem cM:SlR X (rSlL X.K):=by
 intro pins s σ H x v vl vu lo hi sl Q I rx hs pl pu h;obtain⟨a,xs,rfl,hx,q⟩:=h;cases rx;obtain⟨its,r,ht,hz⟩:=I.list hx;have hlen:=r.length;refine⟨"list",_,slot_list_getitem.lookup,ht.isList.typeIs,?_⟩;refine wpAny_getItem_list_slice ht.isList hs pl pu .none (by simp) ?_ (by rw[size_toArray] <;>omega);rw[rG,<-hlen];refine⟨.ref s.heap.objs.size,_,I.laid (t':=s.toks) (o:=.lst (cutV xs lo hi)) (fun b ob q=>Heap.get?_push_of_some _ q) (le_refl _) ?_,rfl,q _ (I.hok.fresh (le_refl _))⟩;exact⟨le_trans (pi xs lo hi) hz,_,0,(r.drop (HT.sIx xs.length 0 lo)).take (HT.sIx xs.length xs.length hi-HT.sIx xs.length 0 lo),Heap.get?_push_size _ rfl⟩
def u7:V->Bool
 | .non=>true
 | .bl _=>true
 | .int _=>true
 | .str _=>true
 | _=>false
def eqV:V->V->Bool
 | .non,.non=>true
 | .bl a,.bl b=>a==b
 | .bl a,.int b=>(if a then 1 else 0)==b
 | .int a,.bl b=>a==(if b then 1 else 0)
 | .int a,.int b=>a==b
 | .str a,.str b=>a==b
 | _,_=>false
theorem eqAt_V{A:Around}{s:Shared}{y x:V}{u v:Value}(ry:RelV y u)(rx:RelV x v)(fy:u7 y=true)(fx:u7 x=true):SeqAt.EqAt A s u v (eqV y x):=by
 cases y with
 |non =>
  cases ry;cases x with
  |non=>cases rx;exact SeqAt.EqAt.same _
  |bl b=>cases rx;exact SeqAt.EqAt.none_bool b
  |int b=>obtain⟨t,rfl⟩:=rx;exact SeqAt.EqAt.none_int b t
  |str b=>obtain⟨t,rfl⟩:=rx;exact SeqAt.EqAt.none_str b t
  | _=>exact absurd (show false=true from fx) Bool.false_ne_true
 |bl a =>
  cases ry;cases x with
  |non=>cases rx;exact SeqAt.EqAt.bool_none a
  |bl b=>cases rx;exact SeqAt.EqAt.bool_bool a b
  |int b=>obtain⟨t,rfl⟩:=rx;exact SeqAt.EqAt.bool_int a b t
  |str b=>obtain⟨t,rfl⟩:=rx;exact SeqAt.EqAt.bool_str a b t
  | _=>exact absurd (show false=true from fx) Bool.false_ne_true
 |int a =>
  obtain⟨t',rfl⟩:=ry;cases x with
  |non=>cases rx;exact SeqAt.EqAt.int_none a t'
  |bl b=>cases rx;exact SeqAt.EqAt.int_bool a t' b
  |int b=>obtain⟨t,rfl⟩:=rx;exact SeqAt.EqAt.int_int a t' b t
  |str b=>obtain⟨t,rfl⟩:=rx;exact SeqAt.EqAt.int_str a t' b t
  | _=>exact absurd (show false=true from fx) Bool.false_ne_true
 |str a =>
  obtain⟨t',rfl⟩:=ry;cases x with
  |non=>cases rx;exact SeqAt.EqAt.str_none a t'
  |bl b=>cases rx;exact SeqAt.EqAt.str_bool a t' b
  |int b=>obtain⟨t,rfl⟩:=rx;exact SeqAt.EqAt.str_int a t' b t
  |str b=>obtain⟨t,rfl⟩:=rx;exact SeqAt.EqAt.str_str a t' b t
  | _=>exact absurd (show false=true from fx) Bool.false_ne_true
 | _=>exact absurd (show false=true from fy) Bool.false_ne_true
def eqU(x:V)(u:Value):Bool:=match u with
 | .none=>eqV .non x
 | .bool b=>eqV (.bl b) x
 | .int i _=>eqV (.int i) x
 | .str z _=>eqV (.str z) x
 | _=>false
theorem eqU_of{x y:V}{u:Value}(r:RelV y u)(f:u7 y=true):eqU x u=eqV y x:=by
 cases y with
 |non=>cases r;rfl
 |bl b=>cases r;rfl
 |int i=>obtain⟨t,rfl⟩:=r;rfl
 |str z=>obtain⟨t,rfl⟩:=r;rfl
 | _=>exact absurd (show false=true from f) Bool.false_ne_true
theorem de{x:V}:∀{xs:List V}{us:List Value},Vals xs us->xs.all u7=true->us.any (eqU x)=xs.any fun y=>eqV y x
 | _,_,.nil,_=>rfl
 |y::xs,u::us,.cons r t,f=>by
  rw[List.all_cons,and_eq_true]at f;rw[any_cons,any_cons,eqU_of r f.1,de t f.2]
theorem uc{A:Around}{s:Shared}{x:V}{v:Value}(rx:RelV x v)(fx:u7 x=true):∀{xs:List V}{us:List Value},Vals xs us->xs.all u7=true-> ∀u∈us,SeqAt.EqAt A s u v (eqU x u)
 | _,_,.nil,_=>fun u hu=>by cases hu
 |y::xs,u::us,.cons r t,f=>fun u' hu=>by
  rw[List.all_cons,and_eq_true]at f;rcases mem_cons.mp hu with rfl|hu
  ·rw[eqU_of r f.1];exact eqAt_V r rx f.1 fx
  ·exact uc rx fx t f.2 u' hu
def inV(x:V)(xs:List V):Bool:=xs.any fun y=>eqV y x
def rIn(K:W.Frag)(neg:Bool):R2:=fun x y H Q=>∃ p xs,y= .ref p/\(SqL K H p xs\/SqT K H p xs)/\u7 x=true/\xs.all u7=true/\Q (.bl (if neg then !inV x xs else inV x xs)) H
theorem qo:OpR X (compareOp .In) (rIn X.K false):=by
 intro pins s σ H x y v u Q I rx ry h;obtain⟨p,xs,rfl,hq,fx,fs,q⟩:=h;cases ry;rcases hq with hq|hq
 ·obtain⟨its,r,pl,hz⟩:=I.list hq;refine SeqAt.in_listAt (eqU x) pl.isList (fun w hw=>uc rx fx r fs w (by simpa using hw)) ⟨.bl _,H,I,rfl,?_⟩;rw[show its.toArray.any (eqU x)=its.any (eqU x)by simp,de r fs];exact q
 ·obtain⟨its,r,pl,hz⟩:=I.tuple hq;refine SeqAt.in_tupleAt (eqU x) pl (fun w hw=>uc rx fx r fs w (by simpa using hw)) ⟨.bl _,H,I,rfl,?_⟩;rw[show its.toArray.any (eqU x)=its.any (eqU x)by simp,de r fs];exact q
theorem zq:kM X (.builtin "len") (fun xs H Q=>∃ p ys,xs=[.ref p]/\(SqL X.K H p ys\/SqT X.K H p ys)/\Q (.int ys.length) H):=by
 intro pins s σ H xs us Q I r h;obtain⟨p,ys,rfl,hq,q⟩:=h;obtain⟨u,rfl,rx⟩:=jS r;cases rx;have hn:=vk;rcases hq with hq|hq
 ·obtain⟨its,r',pl,hz⟩:=I.list hq;have hlen:=r'.length;exact Calls.call_len_list pl.isList (by simp only[size_toArray] <;>omega) ⟨.int ys.length,H,I.tok _,⟨s.toks+1,by rw[size_toArray,hlen]⟩,q⟩
 ·obtain⟨its,r',pl,hz⟩:=I.tuple hq;have hlen:=r'.length;exact len_tuple pl (by simp only[size_toArray] <;>omega) ⟨.int ys.length,H,I.tok _,⟨s.toks+1,by rw[size_toArray,hlen]⟩,q⟩
theorem yG:kM X (.builtin "len") (fun xs H Q=>∃ z,xs=[.str z]/\z.length<=sizeLine/\Q (.int z.length) H):=by
 intro pins s σ H xs us Q I r h;obtain⟨z,rfl,hz,q⟩:=h;obtain⟨u,rfl,t,rfl⟩:=jS r;have hn:=vk;exact len_str (by omega) ⟨.int z.length,H,I.tok _,⟨_,rfl⟩,q⟩
theorem y9:kM X (.type "tuple") (fun xs H Q=>∃ p ys,xs=[.ref p]/\((SqL X.K H p ys/\ ∀l,H l=none->Q (.ref l) (upd H l (.tup ys)))\/(SqT X.K H p ys/\Q (.ref p) H))):=by
 intro pins s σ H xs us Q I r h;obtain⟨p,ys,rfl,h⟩:=h;obtain⟨u,rfl,rx⟩:=jS r;cases rx;rcases h with⟨hq,q⟩|⟨hq,q⟩
 ·obtain⟨its,r',pl,hz⟩:=I.list hq;have hlen:=r'.length;refine call_tuple_list pl.isList (fun h' kp=>?_) (by simp only[size_toArray] <;>omega);have I1:Inv X pins σ H {s with heap:=h'}:=I.kept (t':=s.toks) kp;have I2:Inv X pins σ (upd H h'.objs.size (.tup ys)) {s with heap:=h'.push {cls:=.type "tuple",data:=.seq its.toArray}} :=
   I1.laid (t':=s.toks) (fun b o e=>Heap.get?_push_of_some _ e) (le_refl _) (show zU X.prog X.w _ _ _ (.tup ys)from⟨hz,its,r',IsTup.new _ _,jy⟩)
  exact⟨.ref h'.objs.size,_,I2,rfl,q _ (I1.hok.fresh (le_refl _))⟩
 ·obtain⟨its,r',pl,hz⟩:=I.tuple hq;exact call_tuple_same pl ⟨.ref p,H,I,rfl,q⟩
def tyV(K:W.Frag)(T:String)(x:V)(H:Hp):Prop:=match x with
 | .str _=>T="str"
 | .int _=>T="int"
 | .ref p=>(T="list"/\ ∃xs,SqL K H p xs)\/(T="tuple"/\((∃o,K.lookup p=some o/\o.cls= .type "tuple"/\o.dict=none)\/ ∃xs,H p=some (.tup xs)))\/
   (T="dict"/\((∃kvs,H p=some (.dK kvs))\/ ∃kvs,H p=some (.dT kvs)))\/(T="set"/\ ∃S n,H p=some (.set S n))
 | _=>False
theorem tyV_is{pins:List (Addr×Obj)}{σ:St}{H:Hp}{s:Shared}{T:String}{x:V}{v:Value}(I:Inv X pins σ H s)(r:RelV x v)(ty:tyV X.K T x H) :
  s.TypeIs v T/\ ∀a,v= .ref a-> ∃ob,s.heap.get? a=some ob/\ob.dict=none:=by
 cases x with
 |str z =>
  obtain⟨t,rfl⟩:=r;cases(show T="str" from ty);exact⟨typeIs_str s z t,fun _ e=>nomatch e⟩
 |int i =>
  obtain⟨t,rfl⟩:=r;cases(show T="int" from ty);exact⟨typeIs_int s i t,fun _ e=>nomatch e⟩
 |ref p =>
  cases r;rcases ty with⟨rfl,xs,hq⟩|⟨rfl,⟨o,hk,hc,hd⟩|⟨xs,hk⟩⟩|⟨rfl,hk⟩|⟨rfl,S,n,hk⟩
  ·obtain⟨its,_,pl,_⟩:=I.list hq;refine⟨pl.isList.typeIs,fun a e=>?_⟩;cases e;obtain⟨o,n,e,c,hd,_⟩:=pl;exact⟨o,e,hd⟩
  ·refine⟨⟨o,I.kIn p o hk,hc⟩,fun a e=>?_⟩;cases e;exact⟨o,I.kIn _ o hk,hd⟩
  ·obtain⟨_,_,_,⟨o,e,hc,_⟩,nd⟩:=(show zU X.prog X.w H s.heap p (.tup xs)from I.hok p _ hk);refine⟨⟨o,e,hc⟩,fun a e2=>?_⟩;cases e2;exact⟨o,e,nd o e⟩
  ·have z:∃o,s.heap.get? p=some o/\o.ExactDict:=by
    rcases hk with⟨kvs,hk⟩|⟨kvs,hk⟩
    ·obtain⟨_,_,_,_,o,_,_,e,ex,_⟩:=I.hok p _ hk;exact⟨o,e,ex⟩
    ·obtain⟨_,_,_,_,o,_,_,e,ex,_⟩:=I.hok p _ hk;exact⟨o,e,ex⟩
   obtain⟨o,e,ex⟩:=z;refine⟨⟨o,e,ex.1⟩,fun a e2=>?_⟩;cases e2;exact⟨o,e,ex.2.1⟩
  ·obtain⟨o,_,_,_,e,ex,_⟩:=I.hok p _ hk;refine⟨⟨o,e,ex.1⟩,fun a e2=>?_⟩;cases e2;exact⟨o,e,ex.2.1⟩
 | _=>exact False.elim ty
def tBM0(K:W.Frag)(T:String)(r:V->List V->Hp->VK->Prop)(to:TE):TE:=fun σ H Q=>to σ H fun x H1=>tyV K T x H1/\r x [] H1 Q
def tBM(K:W.Frag)(T:String)(r:V->List V->Hp->VK->Prop)(to:TE)(t:TA):TE:=fun σ H Q=>to σ H fun x H1=>tyV K T x H1/\t σ H1 fun xs H2=>r x xs H2 Q
variable{o e:Expr}{es:List Expr}{to:TE}{t:TA}{name:Str}{apos cpos:Pos}{T id:String}{r:V->List V->Hp->VK->Prop}
theorem pe_bm0(pa:PlainAttrs T)(slot:Slot T name id)(hty:typeOf (.builtin id)=pure (.type "method_descriptor"))(hm:MtR X id r)(ho:PE X o to)(hbase:attributeBase o name X.env (eval o X.env)=eval o X.env:=by rfl)(hline:(apos.endLine==cpos.line)=true:=by rfl):PE X (.Call (.Attribute o name apos) [] [] cpos) (tBM0 X.K T r to):=by
 intro pins s σ H Q I h;refine wpAny_Call_method0_late hbase hline (thn (ho pins s σ H _ I h) fun v s1 ⟨x,H1,I1,r1,ty,q1⟩=>?_);obtain⟨h1,h2⟩:=tyV_is I1 r1 ty;exact⟨T,id,pa,slot,hty,h1,h2,Calls.callWith_builtin rfl (PySem.evalArgs_none (hm pins s1 σ H1 x [] v [] Q I1 r1 .nil q1))⟩
theorem kG(pa:PlainAttrs T)(slot:Slot T name id)(hty:typeOf (.builtin id)=pure (.type "method_descriptor"))(hm:MtR X id r)(ho:PE X o to)(ha:PA X (e::es) t)(hbase:attributeBase o name X.env (eval o X.env)=eval o X.env:=by rfl)(hfew:((backTo cpos (starEach (e::es) X.env)).all (fun x=>!x.1)&&(backToKw cpos (keywordEach [] X.env)).all (fun x=>x.1.isSome)
   &&decide ((e::es).length+([]:List Keyword).length+(if([]:List Keyword).isEmpty then 0 else 1)<30))=true:=by rfl)(hline:(apos.endLine==cpos.line)=true:=by rfl)(hs:starEach (e::es) X.env=(false,eval e X.env)::starEach es X.env:=by rfl)(hplain:(backTo cpos (starEach es X.env)).any (·.1)=false:=by rfl) :
  PE X (.Call (.Attribute o name apos) (e::es) [] cpos) (tBM X.K T r to t):=by
 intro pins s σ H Q I h;refine wpAny_Call_method_late hbase hfew hline rfl (thn (ho pins s σ H _ I h) fun v s1 ⟨x,H1,I1,r1,ty,q1⟩=>?_);obtain⟨h1,h2⟩:=tyV_is I1 r1 ty;refine⟨T,id,pa,slot,hty,h1,h2,?_⟩;have hA:=ha cpos pins s1 σ H1 _ I1 q1;rw[hs]at hA ⊢;refine Calls.callWith_builtin (by show(false||(backTo cpos (starEach es X.env)).any (·.1))=false;rw[hplain] <;>rfl) (Calls.evalArgs_plain ?_);exact thn hA fun us s2 ⟨vs,H2,I2,r2,q2⟩=>hm pins s2 σ H2 x vs v us Q I2 r1 r2 q2
/- xs.append(e),list.index on a module's tuple .. are MtR facts of 06m -/
end
def MtM(X:Cx)(id:String)(r:V->List V->Hp->VK->Prop):Prop :=
 ∀(pins:List (Addr×Obj))(s:Shared)(σ:St)(H:Hp)(x:V)(xs:List V)(v:Value)(us:List Value)(Q:VK),Inv X pins σ H s->RelV x v->Vals xs us->r x xs H Q->
  wpAny (model X.prog X.w) X.A (call (.builtin id) (v::us)) (EP X pins σ Q) X.xe s
theorem Vals.one:∀{x:V}{us:List Value},Vals [x] us-> ∃u,us=[u]/\RelV x u
 | _,_,.cons r .nil=>⟨_,rfl,r⟩
theorem Vals.zero:∀{us:List Value},Vals [] us->us=[]
 | _,.nil=>rfl
theorem Vals.dropLast{xs:List V}{us:List Value}(h:Vals xs us):Vals xs.dropLast us.dropLast:=by
 induction h with
 |nil=>exact .nil
 |cons r t ih =>
  cases t with
  |nil=>exact .nil
  |cons q t'=>exact .cons r ih
theorem Vals.eraseIdx:∀{xs:List V}{us:List Value}(i:Nat),Vals xs us->Vals (xs.eraseIdx i) (us.eraseIdx i)
 | _,_,_,.nil=>.nil
 | _,_,0,.cons _ t=>t
 | _,_,i+1,.cons r t=>.cons r (Vals.eraseIdx i t)
theorem Vals.rep{xs:List V}{us:List Value}(h:Vals xs us):∀k:Nat,Vals (replicate k xs).flatten (replicate k us).flatten
 | 0=>.nil
 |k+1=>by
  rw[List.replicate_succ,List.replicate_succ,flatten_cons,flatten_cons];exact Vals.append h (Vals.rep h k)
theorem erase_last{α:Type}(l:List α):l.eraseIdx (l.length-1)=l.dropLast:=by
 induction l with
 |nil=>rfl
 |cons a r ih =>
  cases r with
  |nil=>rfl
  |cons b r =>
   have e:(a::b::r).length-1=((b::r).length-1)+1:=by
    have h1:(a::b::r).length=r.length+2:=rfl;have h2:(b::r).length=r.length+1:=rfl;omega
   rw[e,List.eraseIdx_cons_succ,ih]
   all_goals rfl
theorem tQ{α:Type}:∀(l:List α)(i:Nat),(l.eraseIdx i).length<=l.length
 | [],_=>le_refl _
 | _::_,0=>le_succ _
 | _::r,i+1=>Nat.succ_le_succ (tQ r i)
theorem tG(its:List Value):∀(k:Nat)(acc:List Value),
  List.foldl (fun x1 x2=>x1++x2) acc.toArray (replicate k its.toArray)=(acc++(replicate k its).flatten).toArray
 | 0,acc=>by simp
 |k+1,acc=>by
  have e:acc.toArray++its.toArray=(acc++its).toArray:=by simp
  have e2:(acc++its)++(replicate k its).flatten=acc++(replicate (k+1) its).flatten:=by
   rw[List.replicate_succ,flatten_cons,append_assoc]
  rw[<-e2,<-tG its k (acc++its),<-e,List.replicate_succ,List.foldl_cons]
section
variable{X:Cx}{pins:List (Addr×Obj)}{σ:St}{H:Hp}{s:Shared}{l b:Addr}{xs ys zs:List V}
theorem Inv.lset{its its':List Value}{n:Nat}{f:Array Value->Array Value}{t':Nat}(I:Inv X pins σ H s)(hH:H l=some (.lst xs))(e:s.heap.get? l=some {cls:=.type "list",data:=.seq its.toArray n})(hf:f its.toArray=its'.toArray)(hv:Vals ys its')(hz:ys.length<=sizeLine) :
  Inv X pins σ (upd H l (.lst ys)) {s with heap:=s.heap.update l (Obj.mapSeq f),toks:=t'}:=by
 have q:=PySem.IsL.update e f;rw[hf]at q;refine I.write (x:=l) (e:=l) (by rw[hH];exact trivial) (.inl rfl) (fun b' u hb hu=>(Heap.get?_update_other s.heap (Obj.mapSeq f) (Ne.symm hb)).trans hu) ⟨_,q⟩ ?_;exact⟨hz,its',_,hv,q⟩
theorem Inv.lnew{its:List Value}{t':Nat}(I:Inv X pins σ H s)(hv:Vals ys its)(hz:ys.length<=sizeLine) :
  Inv X pins σ (upd H s.heap.objs.size (.lst ys)) {s with heap:=s.heap.push {cls:=.type "list",data:=.seq its.toArray},toks:=t'} :=
 I.laid (fun _ _ q=>Heap.get?_push_of_some _ q) (le_refl _) ⟨hz,its,0,hv,Heap.get?_push_size _ rfl⟩
theorem Inv.fresh(I:Inv X pins σ H s):H s.heap.objs.size=none:=I.hok.fresh (le_refl _)
theorem Inv.lstM(I:Inv X pins σ H s)(hH:H l=some (.lst xs)):xs.length<=sizeLine/\ ∃(its:List Value)(n:Nat),Vals xs its/\xs.length=its.length/\s.heap.get? l=some {cls:=.type "list",data:=.seq its.toArray n}:=by
 obtain⟨z,its,n,r,e⟩:=I.hok l _ hH;exact⟨z,its,n,r,r.length,e⟩
theorem bf{n:Nat}(h:n<=sizeLine):Builtin.List.listTooLong n=false:=by
 unfold Builtin.List.listTooLong;exact decide_eq_false (by omega)
end
section
variable{X:Cx}
def rAppend:V->List V->Hp->VK->Prop:=fun x vs H Q=>∃ l xs y,x= .ref l/\vs=[y]/\H l=some (.lst xs)/\xs.length<sizeLine/\Q .non (upd H l (.lst (xs++[y])))
theorem wc:MtM X "list.append" rAppend:=by
 intro pins s σ H x vs v us Q I rx rv h;obtain⟨l,xs,y,rfl,rfl,hH,hz,q⟩:=h;cases rx;obtain⟨u,rfl,ru⟩:=rv.one;obtain⟨z,its,n,r,hl,e⟩:=I.lstM hH;refine call_meets F.slot_list_append ⟨_,e,rfl⟩ F.entry_list_append (F.args_list_append_2 _ _) (PySem.list_append l its.toArray n u (by rw[size_toArray];omega)) ⟨e,?_⟩;refine⟨.non,_,I.lset (its':=its++[u]) hH e (by simp) (r.append (.cons ru .nil)) ?_,rfl,q⟩;rw[length_append,List.length_singleton];omega
def rExtend:V->List V->Hp->VK->Prop:=fun x vs H Q=>∃ l b xs zs,x= .ref l/\vs=[.ref b]/\H l=some (.lst xs)/\H b=some (.lst zs)/\xs.length+zs.length<=sizeLine/\Q .non (upd H l (.lst (xs++zs)))
theorem mt_extend:MtM X "list.extend" rExtend:=by
 intro pins s σ H x vs v us Q I rx rv h;obtain⟨l,b,xs,zs,rfl,rfl,hH,hB,hz,q⟩:=h;cases rx;obtain⟨u,rfl,ru⟩:=rv.one;cases ru;obtain⟨z,its,n,r,hl,e⟩:=I.lstM hH;obtain⟨z2,its2,n2,r2,hl2,e2⟩:=I.lstM hB;have hsz:its.toArray.size+its2.toArray.size<=sizeLine:=by rw[size_toArray,size_toArray];omega
 have hlong:¬(!its.toArray.isEmpty&&Builtin.List.listTooLong (its.toArray.size+its2.toArray.size))=true:=by
  rw[bf hsz,Bool.and_false];exact Bool.false_ne_true
 refine call_meets F.slot_list_extend ⟨_,e,rfl⟩ F.entry_list_extend (F.args_list_extend_2 _ _)
  (AutoSeq1.list_extend_list_list_0 l its.toArray n b its2.toArray n2 hlong (by rw[size_toArray];omega) (by omega)) ⟨e,e2,?_⟩
 refine⟨.non,_,I.lset (its':=its++its2) hH e (by simp) (r.append r2) ?_,rfl,q⟩;rw[length_append];omega
def rPop:V->List V->Hp->VK->Prop:=fun x vs H Q=>∃ l xs y,x= .ref l/\vs=[]/\H l=some (.lst xs)/\xs[xs.length-1]? =some y/\Q y (upd H l (.lst xs.dropLast))
theorem mt_pop:MtM X "list.pop" rPop:=by
 intro pins s σ H x vs v us Q I rx rv h;obtain⟨l,xs,y,rfl,rfl,hH,hy,q⟩:=h;cases rx;have hus:=rv.zero;subst hus;obtain⟨z,its,n,r,hl,e⟩:=I.lstM hH;obtain⟨u,hu,ru⟩:=r.get hy;have hy':its.toArray[its.toArray.size-1]? =some u:=by
  show its.toArray[its.length-1]? =some u;rw[<-Array.getElem?_toList,<-hl];exact hu
 refine call_meets F.slot_list_pop ⟨_,e,rfl⟩ F.entry_list_pop (F.args_list_pop_1 _) (MeetsSeq.list_pop_last l its.toArray n u hy' (by rw[size_toArray];omega)) ⟨e,?_⟩;refine⟨y,_,I.lset (its':=its.dropLast) hH e ?_ r.dropLast ?_,ru,q⟩
 ·show its.toArray.eraseIdxIfInBounds (its.toArray.size-1)=its.dropLast.toArray;rw[size_toArray,List.eraseIdxIfInBounds_toArray,erase_last]
 ·rw[List.length_dropLast];omega
def rPopAt:V->List V->Hp->VK->Prop:=fun x vs H Q=>∃ l xs i k y,x= .ref l/\vs=[.int i]/\H l=some (.lst xs)/\ -(2^63)<=i/\i<2^63/\seqIndex? i xs.length=some k/\xs[k]? =some y/\Q y (upd H l (.lst (xs.eraseIdx k)))
theorem mt_popAt:MtM X "list.pop" rPopAt:=by
 intro pins s σ H x vs v us Q I rx rv h;obtain⟨l,xs,i,k,y,rfl,rfl,hH,h1,h2,hk,hy,q⟩:=h;cases rx;obtain⟨u,rfl,ru⟩:=rv.one;obtain⟨t,rfl⟩:=ru;obtain⟨z,its,n,r,hl,e⟩:=I.lstM hH;obtain⟨w,hw,rw'⟩:=r.get hy;refine call_meets F.slot_list_pop ⟨_,e,rfl⟩ F.entry_list_pop (F.args_list_pop_2 _ _)
  (MeetsSeq.list_pop_at l its.toArray n i t k w (fitsIndex_both h1 h2) (by rw[size_toArray,<-hl];exact hk) (by rw[<-Array.getElem?_toList];exact hw) (by rw[size_toArray];omega)) ⟨e,?_⟩
 refine⟨y,_,I.lset (its':=its.eraseIdx k) hH e ?_ (r.eraseIdx k) ?_,rw',q⟩
 ·show its.toArray.eraseIdxIfInBounds k=(its.eraseIdx k).toArray;rw[List.eraseIdxIfInBounds_toArray]
 ·have:=tQ xs k;omega
def rCat:R2:=fun x y H Q=>∃ l b xs zs,x= .ref l/\y= .ref b/\H l=some (.lst xs)/\H b=some (.lst zs)/\xs.length+zs.length<=sizeLine/\ ∀p,H p=none->Q (.ref p) (upd H p (.lst (xs++zs)))
theorem op_cat:OpR X (binaryOp .Add) rCat:=by
 intro pins s σ H x y v u Q I rx ry h;obtain⟨l,b,xs,zs,rfl,rfl,hH,hB,hz,q⟩:=h;cases rx;cases ry;obtain⟨z,its,n,r,hl,e⟩:=I.lstM hH;obtain⟨z2,its2,n2,r2,hl2,e2⟩:=I.lstM hB;refine PySem.P.add_list e e2 ?_ (by rw[size_toArray,size_toArray];omega);have ea:its.toArray++its2.toArray=(its++its2).toArray:=by simp
 rw[ea];exact⟨.ref _,_,I.lnew (t':=s.toks) (r.append r2) (by rw[length_append];omega),rfl,q _ I.fresh⟩
def rRep:R2:=fun x y H Q=>∃ l k xs,x= .ref l/\y= .int k/\H l=some (.lst xs)/\ -(2^63)<=k/\k<2^63/\xs.length*k.toNat<=sizeLine/\
 ∀p,H p=none->Q (.ref p) (upd H p (.lst (replicate k.toNat xs).flatten))
theorem len_rep{α:Type}(xs:List α)(k:Nat):(replicate k xs).flatten.length=k*xs.length:=by
 induction k with
 |zero=>simp
 |succ k ih=>rw[List.replicate_succ,flatten_cons,length_append,ih,Nat.succ_mul,Nat.add_comm]
theorem op_rep:OpR X (binaryOp .Mult) rRep:=by
 intro pins s σ H x y v u Q I rx ry h;obtain⟨l,k,xs,rfl,rfl,hH,h1,h2,hz,q⟩:=h;cases rx;obtain⟨t,rfl⟩:=ry;obtain⟨z,its,n,r,hl,e⟩:=I.lstM hH;have hlen:its.toArray.size*k.toNat<=sizeLine:=by rw[size_toArray,<-hl];exact hz
 have hcap:¬its.toArray.size*k.toNat>(2^63-1) / 8:=by
  have:(sizeLine:Nat)<=(2^63-1) / 8:=by decide
  omega
 have hfit:¬(!Builtin.List.listFitsIndex k)=true:=by
  rw[fitsIndex_both h1 h2];exact Bool.false_ne_true
 have hlong:¬Builtin.List.listTooLong (its.toArray.size*k.toNat)=true:=by
  rw[bf hlen];exact Bool.false_ne_true
 have hnew:List.foldl (fun x1 x2=>x1++x2) #[] (replicate (if its.toArray.isEmpty=true then 0 else k.toNat) its.toArray)=(replicate k.toNat its).flatten.toArray:=by
  have f0:∀m:Nat,List.foldl (fun x1 x2=>x1++x2) #[] (replicate m its.toArray)=(replicate m its).flatten.toArray:=fun m=>by
   have:=tG its m [];rw[List.nil_append]at this;exact this
  rw[f0];cases its with
  |nil=>simp
  |cons a r'=>rw[if_neg (by simp)]
 refine wpAny_binaryOp_repeat_ref (T :="list") (U :="int") (by decide) ⟨_,e,rfl⟩ (fun s'=>typeIs_int s' k t) noFill_list_mul F.fills_int_mul F.slot_int_rmul repeat_list F.slot_int_index.lookup
  (call_meets F.slot_int_rmul (typeIs_int s k t) F.entry_int_rmul (F.args_int_rmul_2 _ _) (int___rmul___int_list k t l its.toArray n)
   ⟨e,rfl,⟨_,e,rfl⟩,call_meets F.slot_list_mul ⟨_,e,rfl⟩ F.entry_list_mul (F.args_list_mul_2 _ _) (AutoListH.list___mul___list_int_3 l its.toArray n k t hfit hcap hlong) ⟨e,?_⟩⟩)
 rw[hnew];exact⟨.ref _,_,I.lnew (t':=s.toks) (r.rep k.toNat) (by rw[len_rep,Nat.mul_comm];exact hz),rfl,q _ I.fresh⟩
end
end L2
namespace Att
open PySem PySem.W PySem.Calls PyProof.Rows
theorem pE{P:Params}{h:Heap}:∀(ns:List Int)(vs:List Value),WellAll P h vs (ns.map WData.int)->IntsAre vs ns:=by
 intro ns
 induction ns with
 |nil =>
  intro vs w;rw[List.map_nil]at w;cases w;exact .nil
 |cons n ns ih =>
  intro vs w;rw[map_cons]at w;cases w with
  |cons a b =>
   cases a;exact .cons _ _ (ih _ b)
theorem script_of{l:OpenLaw}{n:Nat}(hn:l.most=some n){P:Params}{h:Heap}{args:List WData}{vals:List Value}(hpre:l.row.toRowW.claim.pre args=true)(hwl:WellAll P h vals args) :
  ∃a vs ns,vals=[Value.ref a]/\args=[WData.list (ns.map WData.int)]/\h.get? a=some {cls:=.type "list",data:=.seq vs.toArray}/\IntsAre vs ns/\ns.length<=n:=by
 have hsh:WShape.hasAll [] args [.list .int]=true:=(pre_splitW hpre).1;have hc:l.pre.holds [] {args:=args}=true:=(pre_splitW hpre).2;obtain⟨d,r,rfl,h1,h2⟩:=hasAllW_cons hsh;obtain rfl:=hasAllW_nil h2;obtain⟨xs,rfl,h3⟩:=hasW_list h1;obtain⟨ns,rfl⟩:=items_int h3;have hlen:ns.length<=n:=by
  unfold OpenLaw.pre at hc;have h4:(WTm.not (.lt (.lit (.int (n:Int))) (.len (.arg 0)))).holds [] {args:=[.list (ns.map .int)]}=true:=by
   have h4:=(holds_andW hc).1;rw[hn]at h4;exact h4
  have h5:=condW_of h4 (w_not (w_lt w_lit (w_len_list (w_arg rfl))));rw[length_map]at h5;refine Nat.le_of_not_lt fun q=>?_;have q':(n:Int)<((ns.length:Nat):Int):=by omega
  first
   |(rw[decide_eq_true q']at h5;exact absurd h5 (by decide))
   |(simp at h5;omega)
 cases hwl with
 |cons w1 w2 =>
  cases w2;cases w1 with
  |list ho hall=>exact⟨_,_,ns,rfl,rfl,ho,pE ns _ hall,hlen⟩
theorem post_true(l:OpenLaw)(args:List WData):l.row.toRowW.claim.post args (.bool true) args=true :=
 postW_of (r:=l.row.toRowW) (X:=(true==true))
  (show WShape.has [] (.bool true) .bool=true by first|rfl|decide|simp[WShape.has,WShape.arms,WShape.armsAll])
  (show(WTm.eq .res (.lit (.bool true))).value [] {args:=args,res:=some (.bool true),after:=args}=some (.bool (true==true))from w_eq_bool (w_res rfl) w_lit) rfl
theorem attach_call{l:OpenLaw}{n:Nat}{q:Program}{loose:List Str}{XP:(Str->Option Value)->Heap->Prop}{YP:World->Heap->Prop}{d:DefRec}(hn:l.most=some n)(hdf:d.params.defaults=[])(call:∀(w:World) (s₀ s₁:Shared) (mg mb:Str->Option Value) (fa:Addr) (o:Obj) (pm cd doc:Value) (a:Addr) (vs:List Value) (ns:List Int),
   Ground q loose [] XP w s₀ mg mb s₁.heap->YP w s₁.heap->
   s₁.heap.get? fa=some o->o.data= .func (docDef d.name d.params d.body d.scope pm cd doc)->s₁.heap.CodeRec cd d.name->mg d.name=some (.ref fa)->
   s₁.heap.get? a=some {cls:=.type "list",data:=.seq vs.toArray}->IntsAre vs ns->ns.length<=n->s₁.gens= #[]->
   codeAny (model l.prog w) callerA (.call (.ref fa) ⟨[.ref a],[]⟩) (fun r s'=>r= .ok (.ret (.bool true))/\OldK s₁.heap s'.heap/\s'.os=s₁.os/\AllBare s'.gens) s₁) :
  WalkO q loose XP YP l.row.toRowW d [] (fun f vs=>PySem.call f vs):=by
 intro w s₀ s₁ mg mb G Y fa o pm cd doc dV kV ho hd hcd hD hmg hg args vals as hpre hlay hrd hwl hlo;obtain rfl:dV= .none:=Dflts.none hD hdf;obtain rfl:kV= .none:=Dflts.noKw hD;obtain⟨a,vs,ns,rfl,rfl,hobj,hints,hlen⟩:=script_of hn hpre hwl;refine enter_call (codeAny_mono (call w s₀ s₁ mg mb fa o pm cd doc a vs ns G Y ho (fd_plain hd) hcd hmg hobj hints hlen hg) fun r s' hq=>?_);obtain⟨rfl,h2,h3,h4⟩:=hq;exact⟨.inl ⟨.bool true,.bool true,[],rfl,fun _=>rfl,.bool true,post_true l _,fun _=>⟨List.Pairwise.nil,fun _ hm=>(nomatch hm)⟩⟩,h2,h3,h4⟩
section
variable{prog:Program}{w:World}{A:Around}{E:Value->Shared->Prop}{s:Shared}{K:Frag}
def ledger(h:Heap)(L d:Addr):List (Addr×Obj):=(List.range h.objs.size).filterMap fun a=>if a=L\/a=d then none else(h.get? a).map fun o=>(a,o)
end
end Att
namespace L2
open PySem PySem.Spec PyProof.Rows
theorem wA:∀{vs:List Value}{ns:List Int},IntsAre vs ns->Vals (ns.map V.int) vs
 | _,_,.nil=>.nil
 | _,_,.cons n t h=>.cons ⟨t,rfl⟩ (wA h)
def Only(H:Hp):Prop:=∀ b,H b=none\/ ∃o xs,H b=some (.frz o (.lst xs))
theorem law_call{P:Program}{w:World}{K:W.Frag}{mg mb:Str->Option Value}{CX:CXT}{k:Nat}{fa a:Addr}{fd:FuncData}{x:Str}{sp:Sp}{s₁:Shared}{vs:List Value}{ns:List Int}(KX:K.In s₁.heap)(hns:s₁.heap.Ns mainGlobals mg)(hb:s₁.heap.Ns builtinsNs mb)(hbb:∀x:Str,x≠"__name__"->mb x=bootBuiltins x)(hlim:s₁.heap.NoLimit)(hg:s₁.gens= #[])(ha:s₁.heap.get? a=some {cls:=.type "list",data:=.seq vs.toArray})(hi:IntsAre vs ns)(hl:ns.length<=sizeLine)(hr:Room k callerA)(F:∀base:Heap,K.In base->base.Ns mainGlobals mg->FnOk P w K mg base CX k fa fd [x] sp)(hbind:∀(s:Shared) (u:Value),BindsTo s fd ⟨[u],[]⟩ [(x,u)])(hsp:∀H:Hp,Only H->SqL K H a (ns.map V.int)->sp [.ref a] H (fun v _=>v= .bl true) fun _ _ _=>False)(hCX:∀H e s',CX [] H s₁ (fun _ _ _=>False) e s'->False) :
  codeAny (model P w) callerA (.call (.ref fa) ⟨[.ref a],[]⟩) (fun r s'=>r= .ok (.ret (.bool true))/\OldK s₁.heap s'.heap/\s'.os=s₁.os/\AllBare s'.gens) s₁:=by
 have rv:=wA hi;have lenV:=hi.length
 -- from an abstract heap in which nothing but the script may be tracked
 have core:∀H:Hp,Only H->SqL K H a (ns.map V.int)->HOk P w H s₁.heap->(∀b,H b≠none->b=a)->(H a≠none->K.lookup a=none)->
   codeAny (model P w) callerA (.call (.ref fa) ⟨[.ref a],[]⟩) (fun r s'=>r= .ok (.ret (.bool true))/\OldK s₁.heap s'.heap/\s'.os=s₁.os/\AllBare s'.gens) s₁:=by
  intro H hO hS hok hA hK;have base_of:∀{b:Addr}{o:Obj},s₁.heap.get? b=some o->H b=none->(hidT s₁.heap H).get? b=some o:=fun e n=>hidT_get e n;have noA:∀{b:Addr}{o:Obj}{es:Array DictEntry}{ep:Nat},s₁.heap.get? b=some o->o.data= .dict es ep->H b=none:=fun{b o es ep} e d=>by
   cases q:H b with
   |none=>rfl
   |some u =>
    have e':b=a:=hA b (by rw[q];simp);subst e';rw[ha]at e;cases e;have d':Data.seq vs.toArray _=Data.dict es ep:=d;cases d'
  have nsK:∀{b:Addr}{m:Str->Option Value},s₁.heap.Ns b m->(hidT s₁.heap H).Ns b m:=fun{b m} ⟨o,es,ep,e,d,r⟩=>⟨o,es,ep,base_of e (noA e d),d,r⟩;have hKb:K.In (hidT s₁.heap H):=fun b o e=>base_of (KX b o e) (by
   cases q:H b with
   |none=>rfl
   |some u =>
    have e':b=a:=hA b (by rw[q];simp);subst e';rw[hK (by rw[q];simp)]at e;cases e)
  have hM:Mod K mg (hidT s₁.heap H):=⟨hKb,nsK hns,⟨mb,nsK hb,hbb⟩,let⟨mc,h1,h2⟩:=hlim;⟨mc,nsK h1,h2⟩⟩;have e0:Env0 P w K mg (hidT s₁.heap H) callerA [] s₁ H:=⟨rfl,hM,fun b o e=>of_hidT e,Nat.le_of_eq (hidT_size _ _),trivial,fun b hb=>absurd (show b∈([]:List Addr)from hb) (by simp),hok,.of_eq hg⟩;refine codeAny_mono ((F _ hKb (nsK hns)).run callerA [] s₁ H ⟨[.ref a],[]⟩ [.ref a] [.ref a] _ _ hr e0 (hbind s₁ (.ref a)) (.cons rfl .nil) (hsp H hO hS)) fun r s' h=>?_;cases r with
  |error e=>exact(hCX H e s' h).elim
  |ok fl =>
   cases fl with
   |next=>exact False.elim h
   |brk=>exact False.elim h
   |cont=>exact False.elim h
   |ret u =>
    obtain⟨v,H',os,bare,un,hok',r',q⟩:=h;have q':v= .bl true:=q;subst q';obtain rfl:u=Value.bool true:=r';refine⟨rfl,OldK.of_keep fun b o e=>?_,os,bare⟩;cases q:H b with
    |none=>exact un.keep b o e q (by intro z;exact absurd (show b∈([]:List Addr)from z) (by simp)) (by simp)
    |some u =>
     rcases hO b with z|⟨ob,xs,z⟩
     ·rw[q]at z;cases z
     ·have z2:=un.frzs b ob _ z;obtain⟨e1,_⟩:=hok b _ z;obtain⟨e2,_⟩:=hok' b _ z2;rw[e]at e1;cases e1;exact e2
 cases hk:K.lookup a with
 |some o =>
  -- the script is one of the module's own objects
  have e:=KX a o hk;rw[ha]at e;cases e;refine core (fun _=>none) (fun _=>.inl rfl) (.inr ⟨_,vs.toArray,_,hk,rfl,rfl,rfl,by rw[size_toArray,lenV];exact hl,by simpa using rv⟩) (fun b u z=>by have z':(none:Option HO)=some u:=z;cases z') (fun b z=>absurd rfl z) fun z=>absurd rfl z
 |none =>
  refine core (fun b=>if b=a then some (.frz {cls:=.type "list",data:=.seq vs.toArray} (.lst (ns.map V.int)))else none) (fun b=>?_) (.inl (.inr ⟨{cls:=.type "list",data:=.seq vs.toArray},if_pos rfl⟩)) (fun b u z=>?_) (fun b z=>?_) fun _=>hk
  ·by_cases hb:b=a
   ·exact .inr ⟨_,_,if_pos hb⟩
   ·exact .inl (if_neg hb)
  ·by_cases hb:b=a
   ·have z':=(if_pos hb).symm.trans z;cases z';subst hb;exact⟨ha,by rw[length_map];exact hl,vs,_,rv,ha⟩
   ·have z':=(if_neg hb).symm.trans z;cases z'
  ·by_cases hb:b=a
   ·exact hb
   ·exact absurd (if_neg hb) z
theorem walk_of{l:W.OpenLaw}{n k:Nat}{q:Program}{loose:List Str}{XP:(Str->Option Value)->Heap->Prop}{YP:World->Heap->Prop}{d:DefRec}{K:Params->W.Frag}{CX:World->CXT}{sp:World->Sp}{x:Str}(hn:l.most=some n)(hn2:n<=sizeLine)(hdf:d.params.defaults=[])(hr:Room k callerA)(hY:∀(w:World) (h:Heap),YP w h->(K w.params).In h)(F:∀(w:World) (mg:Str->Option Value) (fa:Addr) (h:Heap),(K w.params).In h->h.Ns mainGlobals mg->mg d.name=some (.ref fa)->
   ∃fd:FuncData,(∀(s:Shared) (u:Value),BindsTo s fd ⟨[u],[]⟩ [(x,u)])/\
    ∀base:Heap,(K w.params).In base->base.Ns mainGlobals mg->FnOk l.prog w (K w.params) mg base (CX w) k fa fd [x] (sp w))(hsp:∀(w:World) (H:Hp) (a:Addr) (ns:List Int),ns.length<=n->Only H->SqL (K w.params) H a (ns.map V.int)->sp w [.ref a] H (fun v _=>v= .bl true) fun _ _ _=>False)(hCX:∀(w:World) (H:Hp) (s:Shared) (e:Value) (s':Shared),CX w [] H s (fun _ _ _=>False) e s'->False) :
  W.WalkO q loose XP YP l.row.toRowW d [] (fun f vs=>PySem.call f vs):=by
 refine Att.attach_call hn hdf fun w s₀ s₁ mg mb fa o pm cd doc a vs ns G Y ho hd hcd hmg hobj hints hlen hg=>?_;have KX:=hY w _ Y;obtain⟨fd,hb,hF⟩:=F w mg fa _ KX G.T.g hmg;exact law_call KX G.T.g G.T.b G.T.builtins G.T.nolimit hg hobj hints (le_trans hlen hn2) hr hF hb (fun H hO hS=>hsp w H a ns hlen hO hS) fun H e s'=>hCX w H s₁ e s'
end L2
/- THE LAST THEOREM (shape;LID,My.* are yours):
  My.Adr: a structure of the addresses that your layer names (classes,functions);My.Txt K t: a structure (Prop) of the equations over K;
  My.txt_mk:{K} {implicit addresses ..} (e1:nsIn K mainGlobals "law"=some (some (.ref f))) (e2:K.lookup f=some ⟨oc,od,.func (fnOf "law" "law" params body scope dV kV doc pm an cdv ct),sl⟩) (e3:codeIn K cdv "law"=true) ..:∃t,My.Txt K t
(the tactic k_is has no namespace: write k_is) -/
namespace L2
open PySem PySem.Spec PyProof.Rows
def jY(s:Stmt)(j:Nat):Stmt:=match s with
 | .ClassDef _ _ _ body _ _ _ _ _ _ _=>body.getD j (.Pass ⟨0,0,0,0⟩)
 | _=>.Pass ⟨0,0,0,0⟩
def jB(s:Stmt):Arguments:=match s with
 | .FunctionDef _ a _ _ _ _ _ _ _ _=>a
 | _=>{posonlyargs:=[],args:=[],vararg:=none,kwonlyargs:=[],kw_defaults:=[],kwarg:=none,defaults:=[]}
def kQ(s:Stmt):List Stmt:=match s with
 | .FunctionDef _ _ b _ _ _ _ _ _ _=>b
 | _=>[]
def z7(s:Stmt):Scope:=match s with
 | .FunctionDef _ _ _ _ _ _ sc _ _ _=>sc
 | _=>{kind:=.function,names:=[],isGenerator:=false,isCoroutine:=false}
abbrev CX0:CXT:=fun _ _ _ _ _ _=>False
abbrev E0:XK:=fun _ _ _=>False
theorem wX{X:Cx}:jq CX0 X E0:=fun _ _ _ _ _ _ _ h=>h.elim
structure Fun(K:W.Frag)(x qual:Str)(st:Stmt)(f:Addr)(fd:FuncData):Prop where
 ex:∃(oc:Value)(od:Option Addr)(kV doc pm:Value)(an:Option Addr)(cdv ct:Value)(osl:Array (Option Value)),
  fd=W.fnOf x qual (jB st) (kQ st) (z7 st) .none kV doc pm an cdv ct/\K.lookup f=some ⟨oc,od,.func fd,osl⟩/\W.codeIn K cdv qual=true
 kp:W.keepIn K (.ref f)=true
section
variable{P:Program}{w:World}{K:W.Frag}{mg:Str->Option Value}{base:Heap}
theorem Fun.ok{x qual:Str}{st:Stmt}{f:Addr}{fd:FuncData}{N ps:List Str}{k:Nat}{sp:Sp}{cm:Bool}(F:Fun K x qual st f fd)(S:FnScope N ps (z7 st))(len:∀vs H Q E,sp vs H Q E->vs.length=ps.length)(hbody:∀(cdv:Value) (A:Around) (outer:List Env) (s:Shared) (H:Hp) (vs:List V) (Q:VK) (E:XK),Room k (A.deeper (envOfC qual (z7 st) s.heap.objs.size f cdv)) cm->sp vs H Q E->
   ∃t,PSs (cxOf CX0 P w K mg base N qual (z7 st) f cdv A outer s H E cm).nox (kQ st) t/\t {nx:=fun _ H'=>Q .non H',rt:=Q} (rJ N vs) H):FnOk P w K mg base CX0 (k+1) f fd ps sp cm:=by
 obtain⟨oc,od,kV,doc,pm,an,cdv,ct,osl,rfl,lk,hcd⟩:=F.ex;refine fn_of lk hcd S len fun A outer s H vs Q E hr hsp=>?_;obtain⟨t,h,q⟩:=hbody cdv A outer s H vs Q E hr hsp;exact⟨t,h.nox,q⟩
theorem Fun.binds{x qual:Str}{st:Stmt}{f:Addr}{fd:FuncData}{ps:List Str}(F:Fun K x qual st f fd)(h:∀(kV doc pm:Value) (an:Option Addr) (cdv ct:Value) (us:List Value),us.length=ps.length->bindArgs (W.fnOf x qual (jB st) (kQ st) (z7 st) .none kV doc pm an cdv ct) ⟨us,[]⟩=pure (ps.zip us)):wZ K fd ps []:=by
 obtain⟨oc,od,kV,doc,pm,an,cdv,ct,osl,rfl,lk,hcd⟩:=F.ex;exact .all (h kV doc pm an cdv ct)
theorem b8{x qual:Str}{st:Stmt}{f:Addr}{oc:Value}{od an:Option Addr}{osl:Array (Option Value)}{kV doc pm cdv ct:Value}(l:K.lookup f=some ⟨oc,od,.func (W.fnOf x qual (jB st) (kQ st) (z7 st) .none kV doc pm an cdv ct),osl⟩)(c:W.codeIn K cdv qual=true)(k:W.keepIn K (.ref f)=true):Fun K x qual st f (W.fnOf x qual (jB st) (kQ st) (z7 st) .none kV doc pm an cdv ct):=⟨⟨oc,od,kV,doc,pm,an,cdv,ct,osl,rfl,l,c⟩,k⟩
end
section
variable{X:Cx}
theorem pv(i:Nat){x:Str}{pos:Pos}(hN:X.N[i]? =some x:=by rfl)(hv:Vis X.env.scope x:=by first|exact Or.inl rfl|exact Or.inr (Or.inl rfl)|exact Or.inr (Or.inr rfl))(hd:(x==("__debug__" : Str))=false:=by decide)(hcd:(x==("__classdict__" : Str))=false:=by decide):PE X (.Name x pos) (tVar i):=pe_var hN hv hd hcd
end
theorem iteF{A B:Prop}(h:B):if false=true then A else B:=by
 rw[if_neg Bool.false_ne_true];exact h
theorem iteT{A B:Prop}(h:A):if true=true then A else B:=by
 rw[if_pos rfl];exact h
theorem ite2{c A B:Prop}[Decidable c](h1:c->A)(h2:¬c->B):if c then A else B:=by
 by_cases h:c
 ·rw[if_pos h];exact h1 h
 ·rw[if_neg h];exact h2 h
theorem iteNS{c A B:Prop}[Decidable c](hc:c)(h:B):if(!decide c)=true then A else B:=by
 rw[decide_eq_true hc];exact iteF h
def Same(H H':Hp):Prop:=∀ b o,H b=some o->H' b=some o
theorem Same.refl(H:Hp):Same H H:=fun _ _ h=>h
theorem Same.trans{H H1 H2:Hp}(a:Same H H1)(b:Same H1 H2):Same H H2:=fun c o h=>b c o (a c o h)
theorem Same.free{H H':Hp}(e:Same H H'){l:Addr}(h:H' l=Option.none):H l=Option.none:=by
 cases q:H l with
 |none=>rfl
 |some o =>
  rw[e l o q]at h;cases h
theorem Same.seq{K:W.Frag}{H H':Hp}{a:Addr}{xs:List V}(e:Same H H')(h:SqL K H a xs):SqL K H' a xs:=by
 rcases h with(h|⟨o,h⟩)|h
 ·exact .inl (.inl (e _ _ h))
 ·exact .inl (.inr ⟨o,e _ _ h⟩)
 ·exact .inr h
section
variable{prog:Program}{w:World}{A:Around}{R:Result->Shared->Prop}{s:Shared}
theorem u6{elt target iter:Expr}{ifs:List Expr}{scope:Scope}{pos:Pos}{it acc:Value}{env:Env}(I:Nat->Shared->Prop)(turn:∀n s,I n s->wpAny (model prog w) A (pyNext it) (fun r s₁=>match r with
   |none=>R (.ok .next) s₁
   |some v=>wpAny (model prog w) A (letOwnedTupleGo target it v) (fun _ s₁'=>wpAny (model prog w) A (assign target env v) (fun _ s₂ =>
     wpAny (model prog w) A (forIn ifs true fun c r=>if r=true then do let ok <-isTrue c env (eval c env);pure (ForInStep.yield ok)else pure (ForInStep.yield r)) (fun ok s₃ =>
      if ok=true then wpAny (model prog w) A (eval elt env) (fun x s₄ =>
       wpAny (model prog w) A (call (.builtin "list.append") [acc,x]) (fun _ s₅=>∃ m,m<n/\I m s₅) (notedBy (model prog w) A env fun e s'=>R (.error e) s') s₄) (notedBy (model prog w) A env fun e s'=>R (.error e) s') s₃
      else ∃m,m<n/\I m s₃) (notedBy (model prog w) A env fun e s'=>R (.error e) s') s₂) (notedBy (model prog w) A env fun e s'=>R (.error e) s') s₁') (notedBy (model prog w) A env fun e s'=>R (.error e) s') s₁) (notedBy (model prog w) A env fun e s'=>R (.error e) s') s)(n:Nat)(h:I n s) :
  codeAny (model prog w) A (.compLoop (.ListComp elt [⟨target,iter,ifs,0⟩] scope pos) 0 it acc env) R s:=by
 refine codeAny_loop rfl I (fun n s hI=>?_) n h;show wpAny _ A ((compTurn (.ListComp elt [⟨target,iter,ifs,0⟩] scope pos) 0 it acc env).onRaise (fun x=>do noteFrame x env;theTreesLotGoes x)) _ _ s;refine wpAny_noted ?_;rw[compTurn_list];refine wpAny_bind (wpAny_standAt (wpAny_bind (wpAny_mono (turn n s hI) (fun r s₁ h₁=>?_) fun _ _ h'=>h')));cases r with
 |none=>exact wpAny_pure h₁
 |some v =>
  refine wpAny_bind (wpAny_mono h₁ (fun _ s₁' h₁=>?_) fun _ _ h'=>h');refine wpAny_bind (wpAny_mono h₁ (fun _ s₂ h₂=>wpAny_bind (wpAny_mono h₂ (fun ok s₃ h₃=>?_) fun _ _ h'=>h')) fun _ _ h'=>h');cases ok with
  |false=>exact wpAny_pure ⟨rfl,h₃⟩
  |true =>
   exact wpAny_bind (wpAny_bind (wpAny_mono h₃ (fun x s₄ h₄=>wpAny_bind (wpAny_mono h₄ (fun _ s₅ h₅=>wpAny_pure (wpAny_pure ⟨rfl,h₅⟩)) fun _ _ h'=>h')) fun _ _ h'=>h'))
end
def dz(env:Env):List (Str×NameKind)->List (Str×Addr)->List (Str×Addr)
 | [],cs=>cs
 |(n,k)::r,cs=>dz env r (if k== .free then(n,(env.cells.lookup n).getD 0)::cs else cs)
def clos(scope:Scope)(env:Env):List (Str×Addr):=dz env scope.names []
theorem wV{env:Env}:∀(ns:List (Str×NameKind))(cs:List (Str×Addr)),(∀x∈ns,x.2= .free-> ∃c,env.cells.lookup x.1=some c)->
  (forIn ns cs fun(x:Str×NameKind)(r:List (Str×Addr))=>(match x with|(name,kind)=>if kind== .free then do let c <-cellOf env name;pure (ForInStep.yield ((name,c)::r))else pure (ForInStep.yield r):Sem (ForInStep (List (Str×Addr)))))=(pure (dz env ns cs):Sem (List (Str×Addr)))
 | [],cs,_=>rfl
 |(n,k)::r,cs,h=>by
  rw[List.forIn_cons];by_cases hk:k= .free
  ·subst hk;obtain⟨c,hc⟩:=h (n,.free) mem_cons_self rfl;have e:cellOf env n=pure c:=by
    have hc':env.cells.lookup n=some c:=hc;unfold cellOf;rw[hc']
   simp only[beq_self_eq_true,if_true,e,pure_bind];rw[wV r _ fun x hx=>h x (mem_cons_of_mem _ hx)];have hc':env.cells.lookup n=some c:=hc;simp[dz,hc']
  ·have hb:(k==NameKind.free)=false:=by simpa using hk
   simp only[hb,false_eq_true,if_false,pure_bind];rw[wV r _ fun x hx=>h x (mem_cons_of_mem _ hx)];simp[dz,hb]
theorem jz{scope:Scope}{env:Env}(h:∀x∈scope.names,x.2= .free-> ∃c,env.cells.lookup x.1=some c):closureFor scope env=pure (clos scope env):=by
 unfold closureFor clos;have:=wV (env:=env) scope.names [] h;simp only[bind_pure];exact this
theorem gB{env:Env}{x:Str}{c:Addr}:∀(ns:List (Str×NameKind))(cs:List (Str×Addr)),(∀y∈ns,y.2= .free-> ∃c,env.cells.lookup y.1=some c)->(∀c,cs.lookup x=some c->env.cells.lookup x=some c)->
  (dz env ns cs).lookup x=some c->env.cells.lookup x=some c
 | [],cs,_,hc,e=>hc c e
 |(n,k)::r,cs,h,hc,e=>by
  refine gB r _ (fun y hy=>h y (mem_cons_of_mem _ hy)) (fun c' e'=>?_) e;by_cases hk:k= .free
  ·subst hk;obtain⟨c₁,h₁⟩:=h (n,.free) mem_cons_self rfl;have h₁':env.cells.lookup n=some c₁:=h₁;simp only[beq_self_eq_true,if_true,List.lookup_cons]at e';cases hx:x==n with
   |true =>
    rw[hx]at e';have hxn:x=n:=by simpa using hx
    subst hxn;rw[h₁']at e' ⊢;exact e'
   |false=>rw[hx]at e';exact hc c' e'
  ·have hb:(k==NameKind.free)=false:=by simpa using hk
   simp only[hb,false_eq_true,if_false]at e';exact hc c' e'
theorem pd{env:Env}{x:Str}:∀(ns:List (Str×NameKind))(cs:List (Str×Addr)),((x,NameKind.free)∈ns\/ ∃c,cs.lookup x=some c)-> ∃c,(dz env ns cs).lookup x=some c
 | [],cs,h=>h.elim (fun z=>nomatch z) fun z=>z
 |(n,k)::r,cs,h=>by
  refine pd r _ ?_;rcases h with h|⟨c,h⟩
  ·rcases mem_cons.mp h with e|h
   ·cases e;right;simp
   ·exact .inl h
  ·right;by_cases hk:k= .free
   ·subst hk;simp only[beq_self_eq_true,if_true,List.lookup_cons];cases x==n with
    |true=>exact⟨_,rfl⟩
    |false=>exact⟨c,h⟩
   ·have hb:(k==NameKind.free)=false:=by simpa using hk
    simp only[hb,false_eq_true,if_false];exact⟨c,h⟩
theorem wt{env:Env}{x:Str}{k':NameKind}:∀{names:List (Str×NameKind)},
  (names.map fun(n,k)=>if(k==NameKind.free&&env.scope.kind== .function&&env.kindOf n==some .cell)then(n,NameKind.cell)else(n,k)).lookup x=some k'->
  ∃k,names.lookup x=some k/\(x,k)∈names/\(k'=k\/(k= .free/\k'= .cell))
 | [],h=>by simp at h
 |(n,k)::r,h=>by
  have ih:=@wt env x k' r;have h':List.lookup x ((if(k==NameKind.free&&env.scope.kind== .function&&env.kindOf n==some .cell)=true then(n,NameKind.cell)else(n,k))::r.map fun(n,k)=>if(k==NameKind.free&&env.scope.kind== .function&&env.kindOf n==some .cell)then(n,NameKind.cell)else(n,k))=some k':=h;cases hx:x==n with
  |true =>
   have hxn:x=n:=by simpa using hx
   subst hxn;refine⟨k,by simp,mem_cons_self,?_⟩;by_cases hc:(k==NameKind.free&&env.scope.kind== .function&&env.kindOf x==some .cell)=true
   ·rw[if_pos hc]at h';simp at h';have hk:k= .free:=by
     cases k <;>simp at hc ⊢
    exact .inr ⟨hk,h'.symm⟩
   ·rw[if_neg hc]at h';simp at h';exact .inl h'.symm
  |false =>
   have h2:(r.map fun(n,k)=>if(k==NameKind.free&&env.scope.kind== .function&&env.kindOf n==some .cell)then(n,NameKind.cell)else(n,k)).lookup x=some k':=by
    by_cases hc:(k==NameKind.free&&env.scope.kind== .function&&env.kindOf n==some .cell)=true
    ·rw[if_pos hc]at h';simp only[List.lookup_cons,hx]at h';exact h'
    ·rw[if_neg hc]at h';simp only[List.lookup_cons,hx]at h';exact h'
   obtain⟨k0,e1,e2,e3⟩:=ih h2;exact⟨k0,by simp only[List.lookup_cons,hx];exact e1,mem_cons_of_mem _ e2,e3⟩
def cxC(X:Cx)(scope:Scope)(N:List Str)(C:Addr)(s:Shared)(H:Hp)(ex:List Addr):Cx :=
 {X with N:=N,s₀:=s,H₀:=H,env:=compEnvC scope (clos scope X.env) C X.env,outer:=X.stack,stack:=X.stack,ex:=ex,fn:=fun _=>false,pn:=[],xe:=fun _ _=>False}
structure CScope(X:Cx)(scope:Scope)(ls:List Str)(fr:List (Str×Nat)):Prop where
 kind:scope.kind= .function
 nocell:∀y∈scope.names,y.2≠ .cell
 names:∀y∈scope.names,y.2= .local->scope.names.lookup y.1=some .local
 free:∀y∈scope.names,y.2= .free->X.env.kindOf y.1=some .cell\/X.env.kindOf y.1=some .free
 slots:∀p∈fr,X.N[p.2]? =some p.1/\scope.names.lookup p.1=some .free
def jR(ls:List Str)(fr:List (Str×Nat))(σ:St):St:=ls.map (fun _=>none)++fr.map fun p=>(σ[p.2]?).join
section
variable{X:Cx}{scope:Scope}{ls:List Str}{fr:List (Str×Nat)}
theorem CScope.cells{pins:List (Addr×Obj)}{σ:St}{H:Hp}{s:Shared}(S:CScope X scope ls fr)(I:Inv X pins σ H s):∀x∈scope.names,x.2= .free-> ∃c,X.env.cells.lookup x.1=some c :=
 fun x hx hk=>I.ok.has x.1 (S.free x hx hk)
theorem CScope.look{pins:List (Addr×Obj)}{σ:St}{H:Hp}{s:Shared}(S:CScope X scope ls fr)(I:Inv X pins σ H s){x:Str}{c:Addr}(e:(clos scope X.env).lookup x=some c):X.env.cells.lookup x=some c :=
 gB scope.names [] (S.cells I) (fun _ z=>by simp at z) e
theorem dD{pins:List (Addr×Obj)}{σ:St}{H:Hp}{s:Shared}{C:Addr}{ex:List Addr}(S:CScope X scope ls fr)(I:Inv X pins σ H s)(hC:s.heap.objs.size<=C)(hex:∀b∈ex,FpOk X pins H b/\b<s.heap.objs.size) :
  (cxC X scope (ls++fr.map (·.1)) C s H ex).Ok where
 mod:=I.ok.mod
 kind:=S.kind
 glob:=I.ok.glob
 blt:=I.ok.blt
 above:=hC
 inj:=fun x y c e1 e2=>I.ok.inj x y c (S.look I e1) (S.look I e2)
 has:=fun x h=>by
  have h':∃k',(relabel scope X.env).names.lookup x=some k'/\(k'= .cell\/k'= .free):=h.elim (fun z=>⟨_,z,.inl rfl⟩) fun z=>⟨_,z,.inr rfl⟩;obtain⟨k',e,hk⟩:=h';obtain⟨k,e1,e2,e3⟩:=wt e;refine pd scope.names [] (.inl ?_);have hn:=S.nocell _ e2;rcases e3 with rfl|⟨rfl,_⟩
  ·rcases hk with rfl|rfl
   ·exact absurd rfl hn
   ·exact e2
  ·exact e2
 cab:=fun x c h=>nomatch h
 hd:=I.ok.hd
 frames:=I.ok.frames
 stk:=.inl rfl
 exf:=fun b hb=>by
  obtain⟨⟨f0,f1,f2,f3,f4,f5⟩,hl⟩:=hex b hb;exact⟨ne_of_lt (lt_of_lt_of_le hl hC),fun x c e=>f4 x c (S.look I e)⟩
 bs:=I.bs
 bsz:=le_trans I.ok.bsz I.sz
 noex:=fun b o e hb=>by
  obtain⟨⟨f0,f1,f2,f3,f4,f5⟩,hl⟩:=hex b hb;rcases f3 with z|z
  ·exact I.ok.noex b o e z
  ·exact absurd (lt_of_lt_of_le (Heap.lt_size e) (le_trans I.ok.bsz z)) (lt_irrefl _)
 exfs:=fun b hb hf=>by
  obtain⟨⟨f0,f1,f2,f3,f4,f5⟩,hl⟩:=hex b hb;exact(mem_cons.mp (I.stkSub b hf)).elim f1 f2
 funs:=I.stack
 frf:=I.stkFree
theorem cT{pins:List (Addr×Obj)}{σ:St}{H:Hp}{s s':Shared}{C:Addr}{m:Str->Option Value}{ex:List Addr}(S:CScope X scope ls fr)(I:Inv X pins σ H s)(hC:s.heap.objs.size<=C)(hex:∀b∈ex,FpOk X pins H b/\b<s.heap.objs.size)(ho:s'.os=s.os)(hg:AllBare s'.gens)(k:∀b o,s.heap.get? b=some o->s'.heap.get? b=some o)(hn:s'.heap.Ns C m):Inv (cxC X scope (ls++fr.map (·.1)) C s H ex) [] (jR ls fr σ) H s' where
 ok:=dD S I hC hex
 os:=ho
 bare:=hg
 base:=Un.kept k
 loc:=by
  refine⟨m,hn,fun i x v e1 e2 e3=>?_⟩;have e2':(ls.map (fun _=>(none:Option V))++fr.map fun p=>(σ[p.2]?).join)[i]? =some (some v):=e2;have e1':(ls++fr.map (·.1))[i]? =some x:=e1;by_cases hi:i<ls.length
  ·rw[List.getElem?_append_left (by simpa using hi),getElem?_map]at e2';cases q:ls[i]? with
   |none=>rw[q]at e2';cases e2'
   |some y=>rw[q]at e2';cases e2'
  ·have hi':ls.length<=i:=Nat.le_of_not_lt hi;rw[List.getElem?_append_right (by simpa using hi'),getElem?_map,length_map]at e2';rw[List.getElem?_append_right hi',getElem?_map]at e1';cases q:fr[i-ls.length]? with
   |none=>rw[q]at e1';cases e1'
   |some p =>
    rw[q]at e1' e2';have ex1:p.1=x:=Option.some.inj e1';have hp:p∈fr:=mem_of_getElem? q;obtain⟨hsl,hfree⟩:=S.slots p hp;subst ex1;have hv:σ[p.2]? =some (some v):=by
     have z:(σ[p.2]?).join=some v:=Option.some.inj e2';cases w:σ[p.2]? with
     |none=>rw[w]at z;cases z
     |some o=>rw[w]at z;exact congrArg some z
    obtain⟨m0,hn0,hl⟩:=id I.loc;have vis':∃k',(relabel scope X.env).names.lookup p.1=some k'/\(k'= .local\/k'= .cell\/k'= .free):=by
     rcases e3 with z|z|z
     ·exact⟨_,z,.inl rfl⟩
     ·exact⟨_,z,.inr (.inl rfl)⟩
     ·exact⟨_,z,.inr (.inr rfl)⟩
    obtain⟨k',ek,_⟩:=vis';obtain⟨k0,f1,f2,f3⟩:=wt ek;rw[hfree]at f1;cases f1;have hk:=S.free _ f2 rfl;have hk':k'= .cell\/k'= .free:=f3.elim .inr fun z=>.inl z.2;have hvis:Vis X.env.scope p.1:=hk.elim (fun z=>.inr (.inl z)) fun z=>.inr (.inr z);obtain⟨u,ru,lk⟩:=hl p.2 p.1 v hsl hv hvis;obtain⟨c',hc'⟩:∃c,(clos scope X.env).lookup p.1=some c:=pd scope.names [] (.inl f2);refine⟨u,ru,.inr ⟨hk'.elim (fun z=>.inl (z▸ek)) fun z=>.inr (z▸ek),c',hc',?_⟩⟩;rcases lk with⟨z,_⟩|⟨_,c,ec,ic⟩
    ·rcases hk with y|y <;>(rw[y]at z;cases z)
    ·have:=S.look I hc';rw[ec]at this;cases this;exact ic.keeps k
 cell:=fun x c e=>by
  obtain⟨v,z⟩:=I.cell x c (S.look I e);exact⟨v,z.keeps k⟩
 free:=I.hok.fresh hC
 freeC:=fun x c e=>I.freeC x c (S.look I e)
 pin:=fun p hp=>nomatch hp
 hok:=I.hok.kept k
 len:=by simp[jR,cxC]
def PF(X:Cx)(ifs:List Expr)(t:TT):Prop :=
 ∀(pins:List (Addr×Obj))(s:Shared)(σ:St)(H:Hp)(Q:Bool->Hp->Prop),Inv X pins σ H s->t σ H Q->
  wpAny (model X.prog X.w) X.A (forIn ifs true fun c r=>if r=true then do let ok <-isTrue c X.env (eval c X.env);pure (ForInStep.yield ok)else pure (ForInStep.yield r)) (TP X pins σ Q) X.xe s
def tYes:TT:=fun _ H Q=>Q true H
theorem yj{X:Cx}:PF X [] tYes:=fun pins s σ H Q I h=>wpAny_tests_nil ⟨H,I,h⟩
theorem pf_one{X:Cx}{c:Expr}{t:TT}(h:PT X c t):PF X [c] t:=fun pins s σ H Q I hw=>wpAny_tests_one (h pins s σ H Q I hw)
theorem HOk.add{P:Program}{w:World}{H:Hp}{h:Heap}{a:Addr}{o:HO}(x:HOk P w H h)(hn:H a=none)(new:zU P w (upd H a o) h a o):HOk P w (upd H a o) h:=fun b u e=>by
 by_cases hb:b=a
 ·subst hb;rw[z6]at e;cases e;exact new
 ·rw[zh hb]at e;exact(x b u e).stay (fun _ _ _ q=>q) (fun c q=>by rw[zh (zr q hn)];exact q) fun c xs q=>by rw[zh (zr q hn)];exact q
theorem Un.add{fs ex:List Addr}{H H':Hp}{h h':Heap}{a:Addr}{o:HO}(u:Un fs ex H H' h h')(ha:h.objs.size<=a)(hn:H' a=none):Un fs ex H (upd H' a o) h h' where
 keep:=u.keep
 slot:=u.slot
 free:=fun b ob q n hx=>by rw[zh (ne_of_lt (lt_of_lt_of_le (Heap.lt_size q) ha))];exact u.free b ob q n hx
 there:=u.there
 tups:=fun b xs q=>by
  have z:=u.tups b xs q;rw[zh (zr z hn)];exact z
 frzs:=fun b ob xs q=>by
  have z:=u.frzs b ob xs q;rw[zh (zr z hn)];exact z
 tbls:=fun b ps q=>by
  obtain⟨more,z⟩:=u.tbls b ps q;exact⟨more,by rw[zh (zr z hn)];exact z⟩
def wQ(g:TG)(tf:TT)(te:TE)(σ0:St)(J:It)(H:Hp)(Q:VK):Prop :=
 ∃W0:Nat->Nat->List V->St->Hp->Prop,(∃m,W0 0 m [] σ0 H)/\ ∀i m ys σ H,W0 i m ys σ H->
  (J.stop i H/\ys.length<=sizeLine/\ ∀p,H p=none->Q (.ref p) (upd H p (.lst ys)))\/
  (J.go i H/\ys.length<=sizeLine/\ ∃N:List V->St->Hp->Prop,(∀ys σ' H',N ys σ' H'-> ∃m',m'<m/\W0 (i+1) m' ys σ' H')/\ ∀x H1,J.yld i H x H1->g x σ H1 fun σ2 H2=>tf σ2 H2 fun b H3=>if b=true then te σ2 H3 fun v H4=>N (ys++[v]) σ2 H4 else N ys σ2 H3)
def tComp(wi:TI)(ls:List Str)(fr:List (Str×Nat))(g:TG)(tf:TT)(te:TE):TE:=fun σ H Q=>wi σ H fun J H1=>wQ g tf te (jR ls fr σ) J H1 Q
theorem gD{pins:List (Addr×Obj)}{σ:St}{H:Hp}{s:Shared}{it:Addr}{fp:List Addr}{tn:Nat->Heap->Prop}{J:It}{tg elt iter:Expr}{ifs:List Expr}{pos:Pos}{g:TG}{tf:TT}{te:TE}{Q:VK}{E:Value->Shared->Prop}{RR:Value->Addr->Result->Shared->Prop}(S:CScope X scope ls fr)(hc:X.calm=true)(I:Inv X pins σ H s)(T:Turn X.prog X.w X.K tg J fp it tn)(st:tn 0 s.heap)(hf:∀b∈fp,FpOk X pins H b)(hq:wQ g tf te (jR ls fr σ) J H Q)(hg:∀C s H ex,PG (cxC X scope (ls++fr.map (·.1)) C s H ex) tg g)(ht:∀C s H ex,PF (cxC X scope (ls++fr.map (·.1)) C s H ex) ifs tf)(he:∀C s H ex,PE (cxC X scope (ls++fr.map (·.1)) C s H ex) elt te)(hRR:∀(D C:Addr) (s':Shared) (H':Hp) (m:Str->Option Value),Inv X pins σ H' s'->s'.heap.Ns C m->s.heap.objs.size<=C->H' C=none->Q (.ref D) H'->RR (.ref D) C (.ok .next) s') :
  wpAny (model X.prog X.w) X.A (newList []) (fun acc s₃=>wpAny (model X.prog X.w) X.A (newFunctionEnv scope X.env.globals (clos scope X.env) [] X.env.qual none .none (some X.env)) (fun cenv s₄ =>
   codeAny (model X.prog X.w) X.A (.compStart (.ListComp elt [⟨tg,iter,ifs,0⟩] scope pos) 0 (.ref it) acc {cenv with scope:=relabel scope X.env}) (RR acc cenv.locals) s₄) E s₃) E s:=by
 refine wpAny_newObj_type (wpAny_newFunctionEnv S.nocell (by intro y hy;simp at hy) (fun h₁ hns₁ hsb₁=>?_) S.kind);dsimp only at hns₁ hsb₁ ⊢;generalize hH2:s.heap.push {cls:=.type "list",dict:=none,data:=.seq ([]:List Value).toArray}=H2 at hns₁ hsb₁ ⊢;have hC:H2.objs.size=s.heap.objs.size+1:=by rw[<-hH2,Heap.size_push]
 have hDC:s.heap.objs.size≠H2.objs.size:=by rw[hC];exact ne_of_lt (Nat.lt_succ_self _)
 have hCle:s.heap.objs.size<=H2.objs.size:=by rw[hC];exact le_succ _
 have below:∀b,b<s.heap.objs.size->b≠H2.objs.size/\b≠s.heap.objs.size:=fun b hb=>⟨by rw[hC];exact ne_of_lt (lt_succ_of_lt hb),ne_of_lt hb⟩;have old:∀b o,s.heap.get? b=some o->h₁.get? b=some o:=fun b o e=>hsb₁.extBut b o (below b (Heap.lt_size e)).1 (Heap.get?_push_of_some _ (hH2▸Heap.get?_push_of_some _ e));have hacc:h₁.PlainList s.heap.objs.size #[]:=⟨_,hsb₁.extBut _ _ hDC (Heap.get?_push_of_some _ (hH2▸Heap.get?_push_size _ rfl))⟩;have hfl:∀b∈fp,b<s.heap.objs.size:=fun b hb=>by
  obtain⟨o,e,_⟩:=T.obj _ _ st b hb;exact Heap.lt_size e
 have hex:∀b∈fp,FpOk X pins H b/\b<s.heap.objs.size:=fun b hb=>⟨hf b hb,hfl b hb⟩;generalize hs4:({s with heap:=h₁,toks:=s.toks+([]:List (Str×Value)).length}:Shared)=s4;generalize hX:cxC X scope (ls++fr.map (·.1)) H2.objs.size s H fp=Y;have I4:Inv Y [] (jR ls fr σ) H s4:=by
  rw[<-hX,<-hs4];exact cT S I hCle hex rfl I.bare old hns₁
 have YP:Y.prog=X.prog:=by rw[<-hX];rfl
 have Yw:Y.w=X.w:=by rw[<-hX];rfl
 have YK:Y.K=X.K:=by rw[<-hX];rfl
 have YA:Y.A=X.A:=by rw[<-hX];rfl
 have Yc:Y.calm=true:=by rw[<-hX];exact hc
 have Yx:Y.xe=fun _ _=>False:=by rw[<-hX];rfl
 have Yl:Y.env.locals=H2.objs.size:=by rw[<-hX];rfl
 have Yok:(cxC X scope (ls++fr.map (·.1)) H2.objs.size s H fp).Ok:=dD S I hCle hex;have fpY:∀{H':Hp}{o:Obj},(∀b∈fp,H' b=none)-> ∀b∈fp,FpOk Y [(s.heap.objs.size,o)] H' b:=fun{H' o} hn b hb=>by
  rw[<-hX];obtain⟨f0,f1,f2,f3,f4,f5⟩:=hf b hb;refine⟨hn b hb,(below b (hfl b hb)).1,fun z=>Yok.exfs b hb z,.inl hb,fun x c e=>f4 x c (S.look I e),fun p hp=>?_⟩;have e:p=(s.heap.objs.size,o):=by simpa [cxC]using hp
  subst e;exact Ne.symm (below b (hfl b hb)).2
 have pinD:∀{σ':St}{H':Hp}{s':Shared}{its:Array Value}{n:Nat},Inv Y [] σ' H' s'->H' s.heap.objs.size=none->s'.heap.get? s.heap.objs.size=some {cls:=.type "list",data:=.seq its n}->
   Inv Y [(s.heap.objs.size,{cls:=.type "list",data:=.seq its n})] σ' H' s':=fun{σ' H' s' its n} I' hn e=>I'.pins_of fun p hp=>by
  have ep:p=(s.heap.objs.size,{cls:=.type "list",data:=.seq its n}):=by simpa using hp
  subst ep;refine⟨e,hn,by rw[Yl];exact hDC,?_,fun v z=>nomatch z⟩;rw[<-hX];exact fun hb=>I.nofs (le_refl _) ((mem_cons.mp (I.stkSub _ hb)).resolve_left fun z=>absurd I.lt (by rw[<-z];exact lt_irrefl _))
 obtain⟨W0,⟨m0,w0⟩,turn⟩:=hq;have E1:∀{α:Type}{t:Sem α}{Q1:α->Shared->Prop}{s1:Shared}{E1:Value->Shared->Prop},wpAny (model X.prog X.w) X.A t Q1 Y.xe s1->wpAny (model X.prog X.w) X.A t Q1 E1 s1:=fun h=>wpAny_mono h (fun _ _ z=>z) fun _ _ z=>by rw[Yx]at z;exact z.elim
 have endC:∀{σ':St}{H':Hp}{s':Shared}{its:List Value}{ys:List V},Inv Y [] σ' H' s'->H' s.heap.objs.size=none->s'.heap.PlainList s.heap.objs.size its.toArray->Vals ys its->ys.length<=sizeLine->
   (∀p,H' p=none->Q (.ref p) (upd H' p (.lst ys)))->RR (.ref s.heap.objs.size) H2.objs.size (.ok .next) s':=fun{σ' H' s' its ys} I' hn ⟨n,e⟩ rv hz q=>by
  subst hX;obtain⟨m,hm,_⟩:=id I'.loc;have hCn:H' H2.objs.size=none:=I'.free;refine hRR _ _ s' (upd H' s.heap.objs.size (.lst ys)) m (I.call' I'.os (Un.add I'.base (le_refl _) hn) (I'.hok.add hn ⟨hz,its,n,rv,e⟩) I'.bare fun b hb=>?_) hm hCle (by rw[zh (Ne.symm hDC)];exact hCn) (q _ hn);obtain⟨f0,f1,f2,f3,f4,f5⟩:=hf b hb;exact⟨f3,f1,f4,f5⟩
 have loop:codeAny (model X.prog X.w) X.A (.compLoop (.ListComp elt [⟨tg,iter,ifs,0⟩] scope pos) 0 (.ref it) (.ref s.heap.objs.size) Y.env) (RR (.ref s.heap.objs.size) H2.objs.size) s4:=by
  refine u6 (fun n s'=>∃(i:Nat)(σ':St)(H':Hp)(ys:List V)(its:List Value),Inv Y [] σ' H' s'/\tn i s'.heap/\(∀b∈fp,H' b=none)/\H' s.heap.objs.size=none/\s'.heap.PlainList s.heap.objs.size its.toArray/\Vals ys its/\W0 i n ys σ' H') ?_ m0
   ⟨0,jR ls fr σ,H,[],[],I4,T.keep _ _ _ st fun b _ o e=>by rw[<-hs4];exact old b o e,fun b hb=>(hf b hb).1,I.hok.fresh (le_refl _),by rw[<-hs4];exact hacc,.nil,w0⟩
  rintro n s5 ⟨i,σ5,H5,ys,its,I5,st5,fr5,hn5,⟨nn,e5⟩,rv,w5⟩;have I5p:=pinD I5 hn5 e5;rcases turn i n ys σ5 H5 w5 with⟨stop,hz,qn⟩|⟨go,hz,NN,hNN,step⟩
  ·rw[<-YA];refine thn (T.done Y YP Yw YK Yc i _ s5 σ5 H5 _ I5p (fpY fr5) st5 stop) fun r s6 ⟨hr,I6⟩=>?_;subst hr;exact endC (I6.pins_of fun p hp=>nomatch hp) hn5 ⟨nn,(I6.pin _ (mem_append_right _ mem_cons_self)).1⟩ rv hz qn
  ·have hit:=T.item Y YP Yw YK Yc i _ s5 σ5 H5 (notedBy (model X.prog X.w) X.A Y.env fun e s'=>RR (Value.ref s.heap.objs.size) H2.objs.size (Except.error e) s') I5p (fpY fr5) st5 go;rw[YA]at hit;refine thn hit fun r s6 ⟨u,hr,h6⟩=>?_;subst hr;refine thn h6 fun _ s7 ⟨x,H7,I7,r7,y7,st7,fr7⟩=>?_;have I7':=I7.pinned (fpY fr7) (T.obj _ _ st7);have h8:=hg H2.objs.size s H fp;have h9:=ht H2.objs.size s H fp;have h10:=he H2.objs.size s H fp;rw[hX]at h8 h9 h10;have a8:=h8 _ s7 σ5 H7 x u _ I7' r7 (step x H7 y7);rw[YP,Yw,YA]at a8;refine thn (E1 a8) fun _ s8 ⟨σ8,H8,I8,q8⟩=>?_;have a9:=h9 _ s8 σ8 H8 _ I8 q8;rw[YP,Yw,YA]at a9;refine thn (E1 a9) fun b s9 ⟨H9,I9,q9⟩=>?_;have back:∀{σ':St}{H':Hp}{s':Shared},Inv Y ([(s.heap.objs.size,{cls:=.type "list",data:=.seq its.toArray nn})]++gX fp s7.heap) σ' H' s'->
     tn (i+1) s'.heap/\(∀b∈fp,H' b=none)/\H' s.heap.objs.size=none/\s'.heap.PlainList s.heap.objs.size its.toArray:=fun{σ' H' s'} I'=>by
    have hp:=I'.pin (s.heap.objs.size,{cls:=.type "list",data:=.seq its.toArray nn}) (mem_append_right _ (List.mem_append_left _ mem_cons_self));refine⟨T.keep _ _ _ st7 fun b hb o e=>(I'.pin (b,o) (mem_append_right _ (mem_append_right _ (kK hb e)))).1,fun b hb=>?_,hp.2.1,⟨nn,hp.1⟩⟩;obtain⟨o,e,d⟩:=T.obj _ _ st7 b hb;exact(I'.pin (b,o) (mem_append_right _ (mem_append_right _ (kK hb e)))).2.1
   cases b with
   |false =>
    rw[if_neg Bool.false_ne_true]at q9 ⊢;obtain⟨m',hm,w9⟩:=hNN _ _ _ q9;obtain⟨z1,z2,z3,z4⟩:=back I9;exact⟨m',hm,i+1,σ8,H9,ys,its,I9.pins_of (fun p hp=>nomatch hp),z1,z2,z3,z4,rv,w9⟩
   |true =>
    rw[if_pos rfl]at q9 ⊢;have a10:=h10 _ s9 σ8 H9 _ I9 q9;rw[YP,Yw,YA]at a10;refine thn (E1 a10) fun xv s10 ⟨v,H10,I10,rx,q10⟩=>?_;obtain⟨m',hm,w10⟩:=hNN _ _ _ q10;obtain⟨z1,z2,z3,z4⟩:=back I10;have hlen:its.length=ys.length:=(rv.length).symm;refine wpAny_list_append_plain z4 (fun h' pl sb=>?_) (by rw[size_toArray,hlen];exact hz);refine⟨m',hm,i+1,σ8,H10,ys++[v],its++[xv],?_,?_,z2,z3,?_,rv.append (.cons rx .nil),w10⟩
    ·have I10':Inv Y [] σ8 H10 s10:=I10.pins_of fun p hp=>nomatch hp
     refine I10'.turned (t':=s10.toks) (it:=s.heap.objs.size) (fun b o hb e=>(sb.2 b hb).trans e) z3 (by rw[Yl];exact hDC) (.inr ?_) (fun x c e=>?_) fun p hp=>?_
     ·rw[<-hX];exact le_refl _
     ·rw[<-hX]at e;intro z;obtain⟨v0,q0⟩:=I.cell x c (S.look I e);exact absurd q0.lt (by rw[z];exact lt_irrefl _)
     ·rw[<-hX]at hp;exact nomatch hp
    ·refine T.keep _ _ _ z1 fun b hb o e=>(sb.2 b (below b (hfl b hb)).2).trans e
    ·have:(its++[xv]).toArray=its.toArray.push xv:=by simp
     rw[this];exact pl
 have hYe:Y.env={newEnv scope H2.objs.size X.env.globals (clos scope X.env) X.env.qual none .none (some X.env) builtinsNs with scope:=relabel scope X.env}:=by rw[<-hX];rfl
 rw[<-hYe];rw[hYe]at loop ⊢;refine codeAny_compStart_list loop ?_;exact T.self _ 0 _ _ _ (T.keep _ _ _ st fun b _ o e=>by rw[<-hs4];exact old b o e) loop
theorem zX{wi:TI}{tg elt iter:Expr}{ifs:List Expr}{pos:Pos}{g:TG}{tf:TT}{te:TE}(S:CScope X scope ls fr)(hc:X.calm=true)(hi:PI X tg iter wi)(hg:∀C s H ex,PG (cxC X scope (ls++fr.map (·.1)) C s H ex) tg g)(ht:∀C s H ex,PF (cxC X scope (ls++fr.map (·.1)) C s H ex) ifs tf)(he:∀C s H ex,PE (cxC X scope (ls++fr.map (·.1)) C s H ex) elt te)(hs:∀x,foldedSetIterable iter X.env x=pure x:=by intro _;rfl):PE X (.ListComp elt [⟨tg,iter,ifs,0⟩] scope pos) (tComp wi ls fr g tf te):=by
 intro pins s σ H Q I h;rw[eval_ListComp];refine wpAny_comprehension_free (use:=none) rfl hs (jz (S.cells I)) S.kind S.names (thn (hi pins s σ H _ I h) fun xv s₁ h₁=>thn h₁ fun itv s₂ h₂=>?_);obtain⟨it,fp,tn,J,H2,rfl,I2,T,st,hf,q⟩:=h₂;refine gD (RR:=fun acc C=>compPost (model X.prog X.w) X.A X.xe none (EP X pins σ Q) acc C) S hc I2 T st hf q hg ht he ?_;intro D C s' H' m I' hn hC hCn hq;refine⟨m,hn,fun h' sb=>?_⟩;have nC:∀{b:Addr},b<s₂.heap.objs.size->b≠C:=fun hb=>ne_of_lt (lt_of_lt_of_le hb hC);refine⟨.ref D,H',I'.turned (t':=s'.toks) (it:=C) (fun b o hb e=>(sb.2 b hb).trans e) hCn (Ne.symm (nC I2.lt)) (.inr (le_trans I2.sz hC)) (fun x c e=>?_) fun p hp=>?_,rfl,hq⟩
 ·obtain⟨v0,q0⟩:=I2.cell x c e;exact nC q0.lt
 ·exact nC (Heap.lt_size (I2.pin p hp).1)
theorem ps_comp{wi:TI}{tg elt iter:Expr}{ifs:List Expr}{pos spos py:Pos}{y:Str}{i:Nat}{g:TG}{tf:TT}{te:TE}(S:CScope X scope ls fr)(hc:X.calm=true)(hi:PI X tg iter wi)(hg:∀C s H ex,PG (cxC X scope (ls++fr.map (·.1)) C s H ex) tg g)(ht:∀C s H ex,PF (cxC X scope (ls++fr.map (·.1)) C s H ex) ifs tf)(he:∀C s H ex,PE (cxC X scope (ls++fr.map (·.1)) C s H ex) elt te)(hN:X.N.Nodup)(hy:X.N[i]? =some y)(hl:X.env.scope.names.lookup y=some .local)(hsw:swapsWith (.ListComp elt [⟨tg,iter,ifs,0⟩] scope pos) (some (.Name y py)) spos.line X.env=pure true)(hs:∀x,foldedSetIterable iter X.env x=pure x:=by intro _;rfl):PS X (.Assign [.Name y py] (.ListComp elt [⟨tg,iter,ifs,0⟩] scope pos) spos) (tAsg (tComp wi ls fr g tf te) (jX i)):=by
 intro pins s σ H D I h;rw[exec_Assign_Name_used _ _ _ _ hsw];refine wpAny_bind (wpAny_standAt (wpAny_bind ?_));show wpAny _ X.A (do let _ <-comprehension (.ListComp elt [⟨tg,iter,ifs,0⟩] scope pos) scope X.env _ (newList []) false (eval iter X.env) (some (assign (.Name y py) X.env))) _ _ s;refine wpAny_bind (wpAny_mono (wpAny_comprehension_free (use:=some (assign (.Name y py) X.env)) (Q:=fun _ s'=>SP X pins D .next s') rfl hs (jz (S.cells I)) S.kind S.names
  (thn (hi pins s σ H _ I h) fun xv s₁ h₁=>thn h₁ fun itv s₂ h₂=>?_)) (fun _ s' hq=>wpAny_pure (wpAny_pure hq)) fun _ _ e=>e)
 obtain⟨it,fp,tn,J,H2,rfl,I2,T,st,hf,q⟩:=h₂;refine gD (RR:=fun acc C=>compPost (model X.prog X.w) X.A X.xe (some (assign (.Name y py) X.env)) (fun _ s'=>SP X pins D .next s') acc C) S hc I2 T st hf q hg ht he ?_;intro D1 C s' H' m I' hn hC hCn hq;have nC:∀{b:Addr},b<s₂.heap.objs.size->b≠C:=fun hb=>ne_of_lt (lt_of_lt_of_le hb hC);have cC:∀x c,X.env.cells.lookup x=some c->c≠C:=fun x c e=>by
  obtain⟨v0,q0⟩:=I2.cell x c e;exact nC q0.lt
 show wpAny _ X.A (assign (.Name y py) X.env (.ref D1)) _ _ _;refine wpAny_assign_Name (d7 I' hN hy (.inl hl) (v:=.ref D1) rfl (fun s3 I3 hsb=>?_) (.inr hl));obtain⟨a,sb1,ha⟩:=hsb;have haC:C≠a:=by
  rcases ha with rfl|e
  ·exact Ne.symm (nC I2.lt)
  ·exact Ne.symm (cC _ _ e)
 refine⟨m,hn.sameBut sb1 haC,fun h' sb=>⟨_,H',I3.turned (t':=s3.toks) (it:=C) (fun b o hb e=>(sb.2 b hb).trans e) hCn (Ne.symm (nC I2.lt)) (.inr (le_trans I2.sz hC)) cC fun p hp=>nC (Heap.lt_size (I2.pin p hp).1),hq⟩⟩
end
theorem kP{K:W.Frag}{a:Addr}{xs:List V}{g:TG}{tf:TT}{te:TE}{σ:St}{H:Hp}{Q:VK}(Pv:Nat->List V->St->Hp->Prop)(h0:Pv 0 [] σ H)(hl:∀i ys σ H,i<=xs.length->Pv i ys σ H->SqL K H a xs/\ys.length<=sizeLine)(hs:∀i x ys σ H,xs[i]? =some x->Pv i ys σ H->g x σ H fun σ2 H2=>tf σ2 H2 fun b H3=>if b=true then te σ2 H3 fun v H4=>Pv (i+1) (ys++[v]) σ2 H4 else Pv (i+1) ys σ2 H3)(hd:∀ys σ H,Pv xs.length ys σ H-> ∀p,H p=none->Q (.ref p) (upd H p (.lst ys))):wQ g tf te σ (Itl K a) H Q:=by
 refine⟨fun i m ys σ H=>m=xs.length-i/\i<=xs.length/\Pv i ys σ H,⟨xs.length,by simp,zero_le _,h0⟩,?_⟩;rintro i m ys σ H ⟨rfl,hi,p⟩;obtain⟨q,hz⟩:=hl i ys σ H hi p;by_cases hlt:i<xs.length
 ·refine .inr ⟨⟨xs,xs[i],q,by simp[hlt]⟩,hz,Pv (i+1),fun ys' σ' H' p'=>⟨xs.length-(i+1),by omega,rfl,hlt,p'⟩,fun x H' y=>?_⟩;obtain⟨e,y⟩:=y;subst e;exact hs i x ys σ _ (y xs q) p
 ·have e:i=xs.length:=by omega
  subst e;exact .inl ⟨⟨xs,q,le_refl _⟩,hz,hd ys σ H p⟩
theorem je{K:W.Frag}{a:Addr}{xs:List V}{g:TG}{tf:TT}{te:TE}{σ:St}{H:Hp}{Q:VK}(Pv:Nat->List V->St->Hp->Prop)(h0:Pv 0 [] σ H)(hl:∀i ys σ H,i<=xs.length->Pv i ys σ H->SqT K H a xs/\ys.length<=sizeLine)(hs:∀i x ys σ H,xs[i]? =some x->Pv i ys σ H->g x σ H fun σ2 H2=>tf σ2 H2 fun b H3=>if b=true then te σ2 H3 fun v H4=>Pv (i+1) (ys++[v]) σ2 H4 else Pv (i+1) ys σ2 H3)(hd:∀ys σ H,Pv xs.length ys σ H-> ∀p,H p=none->Q (.ref p) (upd H p (.lst ys))):wQ g tf te σ (Itt K a) H Q:=by
 refine⟨fun i m ys σ H=>m=xs.length-i/\i<=xs.length/\Pv i ys σ H,⟨xs.length,by simp,zero_le _,h0⟩,?_⟩;rintro i m ys σ H ⟨rfl,hi,p⟩;obtain⟨q,hz⟩:=hl i ys σ H hi p;by_cases hlt:i<xs.length
 ·refine .inr ⟨⟨xs,xs[i],q,by simp[hlt]⟩,hz,Pv (i+1),fun ys' σ' H' p'=>⟨xs.length-(i+1),by omega,rfl,hlt,p'⟩,fun x H' y=>?_⟩;obtain⟨e,y⟩:=y;subst e;exact hs i x ys σ _ (y xs q) p
 ·have e:i=xs.length:=by omega
  subst e;exact .inl ⟨⟨xs,q,le_refl _⟩,hz,hd ys σ H p⟩
theorem gG{lo:Int}{n:Nat}{g:TG}{tf:TT}{te:TE}{σ:St}{H:Hp}{Q:VK}(Pv:Nat->List V->St->Hp->Prop)(h0:Pv 0 [] σ H)(hl:∀i ys σ H,i<=n->Pv i ys σ H->ys.length<=sizeLine)(hs:∀i ys σ H,i<n->Pv i ys σ H->g (.int (lo+i)) σ H fun σ2 H2=>tf σ2 H2 fun b H3=>if b=true then te σ2 H3 fun v H4=>Pv (i+1) (ys++[v]) σ2 H4 else Pv (i+1) ys σ2 H3)(hd:∀ys σ H,Pv n ys σ H-> ∀p,H p=none->Q (.ref p) (upd H p (.lst ys))):wQ g tf te σ (Itr lo n) H Q:=by
 refine⟨fun i m ys σ H=>m=n-i/\i<=n/\Pv i ys σ H,⟨n,by simp,zero_le _,h0⟩,?_⟩;rintro i m ys σ H ⟨rfl,hi,p⟩;have hz:=hl i ys σ H hi p;by_cases hlt:i<n
 ·refine .inr ⟨hlt,hz,Pv (i+1),fun ys' σ' H' p'=>⟨n-(i+1),by omega,rfl,hlt,p'⟩,fun x H' y=>?_⟩;obtain⟨e,y⟩:=y;subst e y;exact hs i ys σ _ hlt p
 ·have e:i=n:=by omega
  subst e;exact .inl ⟨le_refl _,hz,hd ys σ H p⟩
def xw(sc:Scope)(N:List Str)(scope:Scope)(fr:List (Str×Nat)):Bool :=
 (scope.kind== .function)&&scope.names.all (fun y=>y.2 != .cell)&&scope.names.all (fun y=>y.2 != .local||scope.names.lookup y.1==some .local)&&
 scope.names.all (fun y=>y.2 != .free||sc.names.lookup y.1==some .cell||sc.names.lookup y.1==some .free)&&fr.all (fun p=>N[p.2]? ==some p.1&&scope.names.lookup p.1==some .free)
theorem cs_of{X:Cx}{scope:Scope}{ls:List Str}{fr:List (Str×Nat)}(sc:Scope)(N:List Str)(h1:X.env.scope=sc)(h2:X.N=N)(h:xw sc N scope fr=true):CScope X scope ls fr:=by
 subst h1 h2;simp only[xw,and_eq_true,all_eq_true,Bool.or_eq_true,bne_iff_ne,beq_iff_eq,ne_eq]at h;obtain⟨⟨⟨⟨a,b⟩,c⟩,d⟩,e⟩:=h;refine⟨a,b,fun y hy hk=>(c y hy).resolve_left fun z=>z hk,fun y hy hk=>?_,e⟩;rcases d y hy with(z|z)|z
 ·exact absurd hk z
 ·exact .inl z
 ·exact .inr z
theorem pgc{X:Cx}{scope:Scope}{ls:List Str}{fr:List (Str×Nat)}{C:Addr}{s:Shared}{H:Hp}{ex:List Addr}{x:Str}{pos:Pos}(i:Nat)(hN:(ls++fr.map (·.1)).Nodup)(hi:(ls++fr.map (·.1))[i]? =some x)(hx:scope.names.lookup x=some .local) :
  PG (cxC X scope (ls++fr.map (·.1)) C s H ex) (.Name x pos) (jX i) :=
 cB hN hi (.inl (lookup_relabel_local hx)) (.inr (lookup_relabel_local hx))
def relN(scope sc:Scope):List (Str×NameKind):=scope.names.map fun(n,k)=>if(k== .free&&sc.kind== .function&&sc.names.lookup n==some .cell)then(n,.cell)else(n,k)
def visB(scope sc:Scope)(x:Str):Bool:=match(relN scope sc).lookup x with|some .local=>true|some .cell=>true|some .free=>true| _=>false
theorem pvc(sc:Scope)(i:Nat){X:Cx}{scope:Scope}{N:List Str}{C:Addr}{s:Shared}{H:Hp}{ex:List Addr}{x:Str}{pos:Pos}(hN:N[i]? =some x:=by rfl)(hs:X.env.scope=sc:=by rfl)(hv:visB scope sc x=true:=by decide+kernel)(hd:(x==("__debug__" : Str))=false:=by decide+kernel)(hcd:(x==("__classdict__" : Str))=false:=by decide+kernel):PE (cxC X scope N C s H ex) (.Name x pos) (tVar i):=by
 subst hs;refine pe_var hN ?_ hd hcd;have hv':visB scope X.env.scope x=true:=hv;unfold visB at hv';show(relN scope X.env.scope).lookup x=some .local\/(relN scope X.env.scope).lookup x=some .cell\/(relN scope X.env.scope).lookup x=some .free;split at hv'
 ·rename_i e;exact .inl e
 ·rename_i e;exact .inr (.inl e)
 ·rename_i e;exact .inr (.inr e)
 ·cases hv'
theorem glc(sc:Scope){X:Cx}{scope:Scope}{N:List Str}{C:Addr}{s:Shared}{H:Hp}{ex:List Addr}{x:Str}(hs:X.env.scope=sc:=by rfl)(h:((relN scope sc).lookup x==some .globalImplicit)=true:=by decide+kernel):Gl (cxC X scope N C s H ex) x:=by
 subst hs;exact eq_of_beq h
def insD(x:Int):List Int->List Int
 | []=>[x]
 |y::r=>if y<=x then x::y::r else y::insD x r
def d4:List Int->List Int
 | []=>[]
 |x::r=>insD x (d4 r)
theorem pD(x:Int):∀l:List Int,(insD x l).Perm (x::l)
 | []=>.refl _
 |y::r=>by
  unfold insD;split
  ·exact .refl _
  ·exact((pD x r).cons y).trans (.swap x y r)
theorem xk:∀l:List Int,(d4 l).Perm l
 | []=>.refl _
 |x::r=>(pD x _).trans ((xk r).cons x)
theorem insD_pw(x:Int):∀{l:List Int},l.Pairwise (· >= ·)->(insD x l).Pairwise (· >= ·)
 | [],_=>by simp[insD]
 |y::r,h=>by
  obtain⟨h1,h2⟩:=pairwise_cons.mp h;unfold insD;split
  ·rename_i hy;refine pairwise_cons.mpr ⟨fun z hz=>?_,h⟩;rcases mem_cons.mp hz with rfl|hz
   ·exact hy
   ·exact Int.le_trans (h1 z hz) hy
  ·rename_i hy;refine pairwise_cons.mpr ⟨fun z hz=>?_,insD_pw x h2⟩;rcases mem_cons.mp ((pD x r).mem_iff.mp hz)with rfl|hz
   ·show z<=y;omega
   ·exact h1 z hz
theorem rH:∀l:List Int,(d4 l).Pairwise (· >= ·)
 | []=>.nil
 |x::r=>insD_pw x (rH r)
theorem gW{a b:List Int}(ha:a.Pairwise (· >= ·))(hb:b.Pairwise (· >= ·))(p:a.Perm b):a=b :=
 p.eq_of_pairwise (le:=fun x y=>x>=y) (fun x y _ _ h1 h2=>Int.le_antisymm h2 h1) ha hb
theorem bz{a l:List Int}(p:a.Perm l)(h:a.Pairwise (· >= ·)):a=d4 l:=gW h (rH l) (p.trans (xk l).symm)
theorem sortD_id{l:List Int}(h:l.Pairwise (· >= ·)):d4 l=l:=(bz (.refl l) h).symm
section
variable{prog:Program}{w:World}{A:Around}{E:Value->Shared->Prop}{s:Shared}
theorem vW{l:Addr}{vs:List Value}{ns:List Int}{b:Bool}{Q:Value->Shared->Prop}(hl:IsTup s.heap l vs.toArray)(hI:IntsAre vs ns)(h64:vs.length<64)(h:∀(out:List Value) (n:Nat) (h1 h':Heap) (ns':List Int),(∀b o,s.heap.get? b=some o->h1.get? b=some o)->(∀b o,h1.get? b=some o->h'.get? b=some o)->h'.get? h1.objs.size=some (seqObj "list" out.toArray n)->IntsAre out ns'->ns'.Perm ns->Ordered b ns'->Q (.ref h1.objs.size) {s with heap:=h'}) :
  wpAny (model prog w) A (call (.builtin "sorted") [.ref l] [(Str.ofString "reverse",.bool b)]) Q E s:=by
 refine call_function_entry_kw kind_sorted plain_sorted entry_sorted (args_sorted_rev _ _) ?_;unfold Builtin.«sorted»;refine wpAny_bind (m:=checkCount "sorted" 1 1 _) (wpAny_pure ?_);obtain⟨o,ho,hc,n,hd⟩:=hl;refine wpAny_bind (wpAny_collect_seq l (.inr rfl) ho hc hd (fun h1 hk1=>?_) (by simp[sizeLine_eq];omega));refine wpAny_bind (wpAny_newList ?_);have hoL:(h1.push (seqObj "list" vs.toArray 0)).get? h1.objs.size=some (seqObj "list" vs.toArray 0):=Heap.get?_push_size _ rfl;refine wpAny_bind (wpAny_holding (wpAny_call_entry_kw slot_list_sort ⟨_,hoL,rfl⟩ entry_list_sort (list_sort_tree_rev hoL hI h64 fun out ns' a1 a2 a3=>⟨_,rfl,?_⟩) (args_list_sort_rev _ _)));obtain⟨e,he⟩:=sortedHeap_at (vs:=vs) (out:=out) hoL;refine wpAny_pure ⟨_,rfl,h out.toList e h1 _ ns' hk1 (fun b o hb=>?_) he a1 a2 a3⟩;have hlt:=Heap.lt_size hb;rw[sortedHeap_old (ne_of_lt hlt) (by rw[Heap.size_push];exact lt_succ_of_lt hlt)];exact Heap.get?_push_of_some _ hb
end
section
variable{X:Cx}
def rSortR(K:W.Frag)(b:Bool):V->Hp->VK->Prop:=fun x H Q=>∃ a ns,x= .ref a/\(SqL K H a (ns.map V.int)\/SqT K H a (ns.map V.int))/\ns.length<64/\ ∀ns' p,ns'.Perm ns->Ordered b ns'->H p=none->Q (.ref p) (upd H p (.lst (ns'.map V.int)))
def tSortR(K:W.Frag)(b:Bool)(te:TE):TE:=fun σ H Q=>te σ H fun x H1=>rSortR K b x H1 Q
theorem yS{n:Nat}(h:n<64):n<=sizeLine:=le_trans (Nat.le_of_lt h) (by decide)
theorem rj{e:Expr}{te:TE}{b:Bool}{p kp cp pos:Pos}{j:Nat}(hg:Gl X "sorted")(hm:X.mg "sorted"=none)(he:PE X e te)(hse:starEach [e] X.env=[(false,eval e X.env)]:=by rfl):PE X (.Call (.Name "sorted" p) [e] [⟨some "reverse",.Constant (.bool b) j cp,kp⟩] pos) (tSortR X.K b te):=by
 intro pins s σ H Q I h;refine wpAny_Call_Name_kw (wa I hg hm boot_sorted ?_ (by decide) (by decide));refine callWith_kw (thn (kx he kY hse pos pins s σ H (fun vs H1=>match vs with| [x]=>rSortR X.K b x H1 Q| _=>False) I h) fun us s1 ⟨vs,H1,I1,r1,q1⟩=>?_) (by rw[hse];rfl) (by rw[hse];rfl)
 match vs,r1,q1 with
 | [x],r1,q =>
  obtain⟨u,rfl,ru⟩:=jS r1;refine kws_cons (Constant_bool (kws_nil ?_));obtain⟨a,ns,rfl,hq,hl,q⟩:=q;cases ru;show wpAny _ _ (call (.builtin "sorted") [.ref a] [(Str.ofString "reverse",.bool b)]) _ _ _;rcases hq with hq|hq
  ·obtain⟨its,r',pl,hz⟩:=I1.list hq;have hlen:=r'.length;rw[length_map]at hlen;refine sorted_ints_rev pl.isList (uI r') (by omega) fun out ns' a1 a2 a3=>?_;obtain⟨n,hn⟩:=sortedAll_at s1.heap its out;have hz':(ns'.map V.int).length<=sizeLine:=by rw[length_map,a2.length_eq];exact yS hl
   exact⟨.ref _,_,I1.laid (t':=s1.toks) (fun _ _=>sortedAll_old) (le_succ _) (show zU X.prog X.w _ _ _ (.lst (ns'.map V.int))from⟨hz',out.toList,n,wA a1,by simpa [seqObj]using hn⟩),rfl,q ns' _ a2 a3 (I1.hok.fresh (le_succ _))⟩
  ·obtain⟨its,r',pl,hz⟩:=I1.tuple hq;have hlen:=r'.length;rw[length_map]at hlen;refine vW pl (uI r') (by omega) fun out n h1 h' ns' k1 k2 e a1 a2 a3=>?_;have hz':(ns'.map V.int).length<=sizeLine:=by rw[length_map,a2.length_eq];exact yS hl
   have I2:Inv X pins σ H1 {s1 with heap:=h1}:=I1.kept (t':=s1.toks) k1;exact⟨.ref _,_,I2.laid (t':=s1.toks) k2 (le_refl _) (show zU X.prog X.w _ _ _ (.lst (ns'.map V.int))from⟨hz',out,n,wA a1,by simpa [seqObj]using e⟩),rfl,q ns' _ a2 a3 (I2.hok.fresh (le_refl _))⟩
theorem qq(ns:List Int):∀j,preSum (fun i=>ns.getD i 0) j=(ns.take j).sum
 | 0=>by simp[preSum]
 |j+1=>by
  rw[preSum,qq ns j];by_cases h:j<ns.length
  ·rw[take_succ_eq_append_getElem h,List.sum_append,List.sum_cons,List.sum_nil];have e:ns.getD j 0=ns[j]:=by simp[h]
   rw[e];omega
  ·rw[take_of_length_le (by omega),take_of_length_le (by omega)];have:ns[j]? =none:=List.getElem?_eq_none (by omega);simp[List.getD,this]
theorem yF{ns:List Int}{its:List Value}(r:Vals (ns.map V.int) its)(i:Nat)(v:Value)(e:its.toArray[i]? =some v):∃t,v= .int (ns.getD i 0) t:=by
 have e':its[i]? =some v:=by simpa using e
 have hi:i<its.length:=(List.getElem?_eq_some_iff.mp e').1;have hl:=r.length;rw[length_map]at hl;have hx:(ns.map V.int)[i]? =some (V.int (ns.getD i 0)):=by
  have hi':i<ns.length:=by omega
  simp[hi']
 obtain⟨u,hu,t,rfl⟩:=r.get hx;rw[e']at hu;cases hu;exact⟨t,rfl⟩
theorem u5(hc:X.calm=true):kM X (.builtin "sum") (fun xs H Q=>∃(a:Addr)(ns:List Int),xs=[.ref a]/\(SqL X.K H a (ns.map V.int)\/SqT X.K H a (ns.map V.int))/\Q (.int ns.sum) H):=by
 intro pins s σ H xs us Q I r h;obtain⟨a,ns,rfl,hq,q⟩:=h;obtain⟨u,rfl,ru⟩:=jS r;cases ru;have hh:X.A.in1.handled=none:=I.ok.hd hc;have fin:∀{its:List Value}(h':Heap)(tk:Nat)(t':Tok),Vals (ns.map V.int) its->(∀b o,s.heap.get? b=some o->h'.get? b=some o)->EP X pins σ Q (.int (preSum (fun i=>ns.getD i 0) its.toArray.size) t') {s with heap:=h',toks:=tk}:=fun{its} h' tk t' r' hk=>by
  have hl:=r'.length;rw[length_map]at hl;refine⟨.int ns.sum,H,I.kept hk,⟨t',?_⟩,q⟩;rw[qq,size_toArray,<-hl,take_length]
 rcases hq with hq|hq
 ·obtain⟨its,r',pl,hz⟩:=I.list hq;have hlt:a<s.heap.objs.size:=by obtain⟨_,e,_⟩:=pl.isList;exact Heap.lt_size e
  refine call_sum_walkG (wpAny_pyIter_list pl.isList ⟨_,_,_,_,_,_,fun i=>ns.getD i 0,rfl,Walks.list (A:=X.A.in1) hh _ a (ne_of_lt hlt) its.toArray,⟨⟨_,Heap.get?_push_size _ rfl,rfl,rfl⟩,pl.isList.push _⟩,fun b hb=>?_,yF r',fun h' tk t' hk=>fin h' tk t' r' fun b o e=>hk b o (by simpa using ne_of_lt (Heap.lt_size e)) (Heap.get?_push_of_some _ e)⟩);show b<(s.heap.push _).objs.size;rw[Heap.size_push];rcases mem_cons.mp hb with rfl|hb
  ·exact Nat.lt_succ_self _
  ·rcases mem_cons.mp hb with rfl|hb
   ·exact lt_succ_of_lt hlt
   ·cases hb
 ·obtain⟨its,r',pl,hz⟩:=I.tuple hq;have pl':s.heap.IsTuple a its.toArray:=pl;have hlt:a<s.heap.objs.size:=by obtain⟨_,e,_⟩:=pl;exact Heap.lt_size e
  refine call_sum_walkG (wpAny_pyIter_tuple pl' ⟨_,_,_,_,_,_,fun i=>ns.getD i 0,rfl,Walks.tuple (A:=X.A.in1) hh _ a (ne_of_lt hlt) its.toArray,⟨⟨_,Heap.get?_push_size _ rfl,rfl,rfl⟩,pl'.at fun o e=>Heap.get?_push_of_some _ e⟩,fun b hb=>?_,yF r',fun h' tk t' hk=>fin h' tk t' r' fun b o e=>hk b o (by simpa using ne_of_lt (Heap.lt_size e)) (Heap.get?_push_of_some _ e)⟩);show b<(s.heap.push _).objs.size;rw[Heap.size_push];rcases mem_cons.mp hb with rfl|hb
  ·exact Nat.lt_succ_self _
  ·rcases mem_cons.mp hb with rfl|hb
   ·exact lt_succ_of_lt hlt
   ·cases hb
def cntV(y:V)(xs:List V):Nat:=xs.countP fun x=>eqV x y
theorem dA{x:V}:∀{xs:List V}{us:List Value},Vals xs us->xs.all u7=true->us.countP (eqU x)=cntV x xs
 | _,_,.nil,_=>rfl
 |y::xs,u::us,.cons r t,f=>by
  rw[List.all_cons,and_eq_true]at f;unfold cntV;rw[List.countP_cons,List.countP_cons,eqU_of r f.1,dA t f.2];rfl
def br(K:W.Frag)(SQ:W.Frag->Hp->Addr->List V->Prop):V->List V->Hp->VK->Prop:=fun x vs H Q=>∃ a xs y,x= .ref a/\vs=[y]/\SQ K H a xs/\u7 y=true/\xs.all u7=true/\Q (.int (cntV y xs)) H
theorem pS:MtR X "tuple.count" (br X.K SqT):=by
 intro pins s σ H x vs v us Q I rx rv h;obtain⟨a,xs,y,rfl,rfl,hq,fy,fs,q⟩:=h;cases rx;obtain⟨u,rfl,ru⟩:=rv.one;obtain⟨its,r,pl,hz⟩:=I.tuple hq;obtain⟨o,ho,hc,n,hd⟩:=pl;obtain⟨c,dd,dt,sl⟩:=o;cases hc;cases hd;refine call_meets F.slot_tuple_count ⟨_,ho,rfl⟩ F.entry_tuple_count (F.args_tuple_count_2 _ _) (SeqAt.tuple_countAt a its.toArray n dd sl u (eqU y)) ⟨ho,fun w hw=>uc ru fy r fs w (by simpa using hw),?_⟩;refine⟨.int _,H,I.tok _,⟨s.toks,?_⟩,q⟩;rw[show its.toArray.toList=its from rfl,dA r fs]
theorem mt_countL:MtR X "list.count" (br X.K SqL):=by
 intro pins s σ H x vs v us Q I rx rv h;obtain⟨a,xs,y,rfl,rfl,hq,fy,fs,q⟩:=h;cases rx;obtain⟨u,rfl,ru⟩:=rv.one;obtain⟨its,r,pl,hz⟩:=I.list hq;obtain⟨o,ho,hc,n,hd⟩:=pl.isList;obtain⟨c,dd,dt,sl⟩:=o;cases hc;cases hd;refine call_meets F.slot_list_count ⟨_,ho,rfl⟩ F.entry_list_count (F.args_list_count_2 _ _) (SeqAt.list_countAt a its.toArray n dd sl u (eqU y)) ⟨ho,fun w hw=>uc ru fy r fs w (by simpa using hw),?_⟩;refine⟨.int _,H,I.tok _,⟨s.toks,?_⟩,q⟩;rw[show its.toArray.toList=its from rfl,dA r fs]
theorem jT(k:Int)(ns:List Int):cntV (.int k) (ns.map V.int)=ns.count k:=by
 unfold cntV;rw[List.countP_map,List.count_eq_countP];congr 1
theorem jW(ns:List Int):(ns.map V.int).all u7=true:=by
 rw[all_map];simp[u7]
theorem call_isi:kM X (.builtin "isinstance") (fun xs H Q=>∃ x T t b,xs=[x,.ty T]/\TyOf X.K H x t/\W.kitOne X.K t (.type T)=some b/\Q (.bl b) H):=by
 intro pins s σ H xs us Q I r h;obtain⟨x,T,t,b,rfl,ty,hk,q⟩:=h;obtain⟨u,v,rfl,ru,rv⟩:=vals2 r;cases(show v=Value.type T from rv);exact isinst_ok I ru ty hk fun tk=>⟨.bl b,H,I.tok tk,rfl,q⟩
end
theorem pI{K:W.Frag}:W.kitOne K (.type "str") (.type "str")=some true:=by unfold W.kitOne;rw[if_pos (by decide+kernel)]
theorem m6{x y:Int}(h0:0<y)(h:y<=10^100):Builtin.divisionGoesByPylong x y=false:=by
 refine PyProof.noPylong_of_log2 ?_;have hn:y.natAbs≠0:=by omega
 have h1:y.natAbs<=10^100:=by omega
 refine(Nat.log2_lt hn).mpr (lt_of_le_of_lt h1 (by decide+kernel))
def CDivB(i j:Int):Prop:=0<j/\j<=10^100
theorem op_fdivB{X:Cx}:OpR X (binaryOp .FloorDiv) (rI CDivB fun i j=>.int (i / j)):=opI fun i j _ _ _ _ _ hc q=>by
 refine floordiv_int (by have:=hc.1;omega) ?_ (.inl (m6 hc.1 hc.2));rw[Int.fdiv_eq_ediv_of_nonneg _ (le_of_lt hc.1)];exact q
theorem get_list{X:Cx}:PGet X (fun x y H Q=>∃ p xs i v,x= .ref p/\y= .int i/\SqL X.K H p xs/\0<=i/\xs[i.toNat]? =some v/\Q v H):=by
 intro pins s σ H o i ov iv Q I ro ri h;obtain⟨p,xs,k,v,rfl,rfl,hq,h0,hv,q⟩:=h;cases ro;obtain⟨t,rfl⟩:=ri;obtain⟨its,r,pl,hz⟩:=I.list hq;have hlen:=r.length;have hn:=vk;obtain⟨u,hu,ru⟩:=r.get hv;have hk:=(List.getElem?_eq_some_iff.mp hv).1;exact wpAny_getItem_list pl.isList h0 (by omega) (by simpa using hu) ⟨v,H,I,ru,q⟩
theorem yD{A B:TS}{D:Ends}{σ:St}{H:Hp}(R:St->Hp->Prop)(h:∀nx:St->Hp->Prop,(∀ σ' H',R σ' H'->nx σ' H')->A {D with nx:=nx} σ H)(hR:∀ σ' H',R σ' H'->B D σ' H'):tSeq A B D σ H:=h (B D) hR
def Keep(S:List Addr)(H H':Hp):Prop:=∀ b o,H b=some o->b∉S->H' b=some o
theorem Keep.refl(S:List Addr)(H:Hp):Keep S H H:=fun _ _ h _=>h
theorem Keep.trans{S:List Addr}{H H1 H2:Hp}(a:Keep S H H1)(b:Keep S H1 H2):Keep S H H2:=fun c o h n=>b c o (a c o h n) n
theorem Keep.set{S:List Addr}{H:Hp}{p:Addr}{o:HO}(h:p∈S):Keep S H (upd H p o):=fun b u e n=>by
 have hb:b≠p:=fun z=>n (by rw[z];exact h);rw[zh hb];exact e
theorem Same.keep{S:List Addr}{H H':Hp}(h:Same H H'):Keep S H H':=fun b o e _=>h b o e
structure StAt(H:Hp)(st ga ca:Addr)(N:Nat):Prop where
 ex:∃(gs cs:List Int)(q n:Int),H st=some (.lst [.ref ga,.int q,.ref ca,.int n])/\H ga=some (.lst (gs.map V.int))/\H ca=some (.lst (cs.map V.int))/\
  gs.length<=63/\(∀x∈gs,0<x)/\0<=q/\0<=n/\n<=N
 gc:ga≠ca
 sg:st≠ga
 sc:st≠ca
theorem StAt.nin{H:Hp}{st ga ca:Addr}{N:Nat}(S:StAt H st ga ca N){p:Addr}(h:H p=none):p∉[st,ga]:=by
 obtain⟨gs,cs,q,n,h1,h2,_⟩:=S.ex;intro z;rcases mem_cons.mp z with rfl|z
 ·rw[h1]at h;cases h
 ·rcases mem_cons.mp z with rfl|z
  ·rw[h2]at h;cases h
  ·cases z
theorem StAt.mono{H:Hp}{st ga ca:Addr}{N M:Nat}(S:StAt H st ga ca N)(h:N<=M):StAt H st ga ca M:=by
 obtain⟨gs,cs,q,n,h1,h2,h3,h4,h5,h6,h7,h8⟩:=S.ex;exact⟨⟨gs,cs,q,n,h1,h2,h3,h4,h5,h6,h7,by omega⟩,S.gc,S.sg,S.sc⟩
theorem StAt.same{H H':Hp}{st ga ca:Addr}{N:Nat}(S:StAt H st ga ca N)(h:Same H H'):StAt H' st ga ca N:=by
 obtain⟨gs,cs,q,n,h1,h2,h3,r⟩:=S.ex;exact⟨⟨gs,cs,q,n,h _ _ h1,h _ _ h2,h _ _ h3,r⟩,S.gc,S.sg,S.sc⟩
theorem Same.new{H:Hp}{p:Addr}{o:HO}(h:H p=none):Same H (upd H p o):=fun b u e=>by rw[zh (zr e h)];exact e
theorem Keep.at{S:List Addr}{H H':Hp}(k:Keep S H H'){b:Addr}{o:HO}(h:H b=some o)(n:b∉S):H' b=some o:=k b o h n
theorem Keep.free{S:List Addr}{H H':Hp}(k:Keep S H H'){b:Addr}(h:H' b=none)(n:b∉S):H b=none:=by
 cases q:H b with
 |none=>rfl
 |some o=>rw[k b o q n]at h;cases h
theorem kU{ns:List Int}{i:Nat}{x:V}(h:(ns.map V.int)[i]? =some x):∃z,ns[i]? =some z/\x= .int z:=by
 rw[getElem?_map]at h;cases hn:ns[i]? with
 |none=>rw[hn]at h;cases h
 |some z=>rw[hn]at h;exact⟨z,rfl,(Option.some.inj h).symm⟩
def lies(ns ms:List Int):Bool:=ns.all fun x=>decide (ns.count x<=ms.count x)
theorem all_take{α:Type}{p:α->Bool}{l:List α}{i:Nat}{x:α}(hx:l[i]? =some x):(l.take (i+1)).all p=((l.take i).all p&&p x):=by
 have hi:=(List.getElem?_eq_some_iff.mp hx).1;have ex:=(List.getElem?_eq_some_iff.mp hx).2;rw[take_succ_eq_append_getElem hi,List.all_append,ex];simp
theorem all_false{α:Type}{p:α->Bool}{l:List α}{x:α}(hx:x∈l)(h:p x=false):l.all p=false:=by
 rw[List.all_eq_false];exact⟨x,hx,by simp[h]⟩
theorem StAt.nin3{H:Hp}{st ga ca:Addr}{N:Nat}(S:StAt H st ga ca N){p:Addr}(h:H p=none):p∉[st,ga,ca]:=by
 obtain⟨gs,cs,q,n,h1,h2,h3,_⟩:=S.ex;intro z;simp only[mem_cons,not_mem_nil,or_false]at z;rcases z with rfl|rfl|rfl
 ·rw[h1]at h;cases h
 ·rw[h2]at h;cases h
 ·rw[h3]at h;cases h
theorem nin2{st ga ca p:Addr}(h:p∉[st,ga,ca]):p∉[st,ga]:=fun z=>h (by
 simp only[mem_cons,not_mem_nil,or_false]at z ⊢;rcases z with z|z
 ·exact .inl z
 ·exact .inr (.inl z))
theorem StAt.upd{H:Hp}{st ga ca:Addr}{N:Nat}{p:Addr}{o:HO}(S:StAt H st ga ca N)(h:p∉[st,ga,ca]):StAt (upd H p o) st ga ca N:=by
 obtain⟨gs,cs,q,n,h1,h2,h3,r⟩:=S.ex;have n1:st≠p:=fun z=>h (by simp[z]);have n2:ga≠p:=fun z=>h (by simp[z]);have n3:ca≠p:=fun z=>h (by simp[z]);exact⟨⟨gs,cs,q,n,by rw[zh n1];exact h1,by rw[zh n2];exact h2,by rw[zh n3];exact h3,r⟩,S.gc,S.sg,S.sc⟩
def EqK(X:Cx)(α:Type)[DecidableEq α](R:α->V->Hp->Prop)(n:Nat):Prop :=
 ∀(pins:List (Addr×Obj))(σ:St)(H:Hp)(s:Shared)(A:Around)(a b:α)(v w:V)(u u':Value),Inv X pins σ H s->A.units+n<cLine->R a v H->R b w H->RelV v u->RelV w u'->SeqAt.EqAt A s u u' (decide (a=b))
inductive All2{α:Type}(R:α->V->Hp->Prop)(H:Hp):List α->List V->Prop
 |nil:All2 R H [] []
 |cons {a:α} {v:V} {l:List α} {xs:List V}:R a v H->All2 R H l xs->All2 R H (a::l) (v::xs)
theorem All2.length{α:Type}{R:α->V->Hp->Prop}{H:Hp}:∀{l:List α}{xs:List V},All2 R H l xs->l.length=xs.length
 | _,_,.nil=>rfl
 | _,_,.cons _ t=>by simp[t.length]
theorem All2.get{α:Type}{R:α->V->Hp->Prop}{H:Hp}:∀{l:List α}{xs:List V}{i:Nat}{x:V},All2 R H l xs->xs[i]? =some x-> ∃a,l[i]? =some a/\R a x H
 | _,_,_,_,.nil,e=>by simp at e
 | _,_,0,_,.cons r _,e=>by simp at e;subst e;exact⟨_,rfl,r⟩
 | _,_,i+1,x,.cons _ t,e=>by
  obtain⟨u,h1,h2⟩:=All2.get (i:=i) (x:=x) t (by simpa using e);exact⟨u,by simpa using h1,h2⟩
theorem All2.append{α:Type}{R:α->V->Hp->Prop}{H:Hp}:∀{l l':List α}{xs xs':List V},All2 R H l xs->All2 R H l' xs'->All2 R H (l++l') (xs++xs')
 | _,_,_,_,.nil,s=>s
 | _,_,_,_,.cons r t,s=>.cons r (t.append s)
theorem All2.imp{α:Type}{R:α->V->Hp->Prop}{H H':Hp}(f:∀a v,R a v H->R a v H'):∀{l:List α}{xs:List V},All2 R H l xs->All2 R H' l xs
 | _,_,.nil=>.nil
 | _,_,.cons r t=>.cons (f _ _ r) (t.imp f)
def RInt:Int->V->Hp->Prop:=fun i v _=>v= .int i
theorem rV{H:Hp}:∀(ns:List Int),All2 RInt H ns (ns.map V.int)
 | []=>.nil
 | _::r=>.cons rfl (rV r)
def RTup(K:W.Frag){α:Type}(R:α->V->Hp->Prop):List α->V->Hp->Prop:=fun l v H=>∃ p xs,v= .ref p/\SqT K H p xs/\All2 R H l xs
theorem rW{α:Type}[DecidableEq α]{l m:List α}{e:Nat->Bool}(h:∀j a b,l[j]? =some a->m[j]? =some b->e j=decide (a=b)):((List.range (min l.length m.length)).all e&&l.length==m.length)=decide (l=m):=by
 rw[Bool.eq_iff_iff];simp only[and_eq_true,all_eq_true,mem_range,beq_iff_eq,decide_eq_true_eq];constructor
 ·rintro⟨h1,h2⟩;refine List.ext_getElem h2 fun j j1 j2=>?_;have:=h1 j (by omega);rw[h j _ _ (getElem?_eq_getElem j1) (getElem?_eq_getElem j2)]at this;exact of_decide_eq_true this
 ·rintro rfl;refine⟨fun j hj=>?_,rfl⟩;have hj':j<l.length:=by omega
  rw[h j _ _ (getElem?_eq_getElem hj') (getElem?_eq_getElem hj')];exact decide_eq_true rfl
section
variable{X:Cx}
theorem eqk_int:EqK X Int RInt 0:=fun pins σ H s A a b v w u u' I hu r1 r2 q1 q2=>by
 unfold RInt at r1 r2;subst r1 r2;obtain⟨t,rfl⟩:=q1;obtain⟨t',rfl⟩:=q2;have:=SeqAt.EqAt.int_int (A:=A) (s:=s) a t b t'
 rwa [show(a==b)=decide (a=b)from rfl]at this
variable{α:Type}[DecidableEq α]{R:α->V->Hp->Prop}{n:Nat}
theorem eqk_items(h:EqK X α R n){pins:List (Addr×Obj)}{σ:St}{H:Hp}{s:Shared}{A:Around}{l m:List α}{xs ys:List V}{us ws:List Value}(I:Inv X pins σ H s)(hu:A.units+(n+1)<cLine)(r1:All2 R H l xs)(r2:All2 R H m ys)(q1:Vals xs us)(q2:Vals ys ws) :
  ∃e:Nat->Bool,(∀j (h1:j<us.toArray.size) (h2:j<ws.toArray.size),SeqAt.EqAt A.in1 s us.toArray[j] ws.toArray[j] (e j))/\(∀j a b,l[j]? =some a->m[j]? =some b->e j=decide (a=b)):=by
 refine⟨fun j=>match l[j]?,m[j]? with|some a,some b=>decide (a=b)| _,_=>false,fun j h1 h2=>?_,fun j a b e1 e2=>by simp only[e1,e2]⟩;have l1:=q1.length;have l2:=q2.length;have l3:=r1.length;have l4:=r2.length;simp only[size_toArray]at h1 h2;have hx:xs[j]? =some xs[j]:=getElem?_eq_getElem (by omega);have hy:ys[j]? =some ys[j]:=getElem?_eq_getElem (by omega);obtain⟨a,ea,ra⟩:=r1.get hx;obtain⟨b,eb,rb⟩:=r2.get hy;obtain⟨u,eu,ru⟩:=q1.get hx;obtain⟨w,ew,rw'⟩:=q2.get hy;have e1:us.toArray[j]'(by simpa using h1)=u:=by
  have:=(List.getElem?_eq_some_iff.mp eu).2;simpa using this
 have e2:ws.toArray[j]'(by simpa using h2)=w:=by
  have:=(List.getElem?_eq_some_iff.mp ew).2;simpa using this
 rw[e1,e2];simp only[ea,eb];exact h pins σ H s A.in1 a b _ _ u w I (by show A.units+1+n<cLine;omega) ra rb ru rw'
theorem op_neT'(h:EqK X α R n)(hu:X.A.units+(n+1)<cLine):OpR X (compareOp .NotEq) (fun x y H Q=>∃ l m,RTup X.K R l x H/\RTup X.K R m y H/\Q (.bl (!decide (l=m))) H):=by
 intro pins s σ H x y v u Q I rx ry hq;obtain⟨l,m,r1,r2,q⟩:=hq;obtain⟨p,xs,rfl,h1,a1⟩:=r1;obtain⟨p',ys,rfl,h2,a2⟩:=r2;cases rx;cases ry;obtain⟨us,v1,t1,z1⟩:=I.tuple h1;obtain⟨ws,v2,t2,z2⟩:=I.tuple h2;obtain⟨e,he,hd⟩:=eqk_items h I hu a1 a2 v1 v2;have ee:=rW hd;have this:=SeqAt.RcNeAt.tuples (e:=e) t1 t2 (by omega) he;rw[size_toArray,size_toArray,<-v1.length,<-v2.length,<-a1.length,<-a2.length,ee]at this;exact this X.prog X.w X.xe _ ⟨.bl _,H,I,rfl,q⟩
end
theorem RTup.ints{K:W.Frag}{H:Hp}{p:Addr}{ns:List Int}(h:SqT K H p (ns.map V.int)):RTup K RInt ns (.ref p) H:=⟨p,_,rfl,h,rV ns⟩
theorem huR{A:Around}{k n:Nat}{cm:Bool}(hr:Room k A cm)(h:n<=64:=by decide):A.units+n<cLine:=lt_of_le_of_lt (Nat.add_le_add_left h _) hr.units
end L2
namespace HT
open PySem PySem.Spec PyProof.Rows
section
variable{prog:Program}{w:World}{A:Around}{E:Value->Shared->Prop}{s:Shared}
theorem getItem_tuple_whole{t sl:Addr}{items:Array Value}{vl vu:Value}{lo hi:Option Int}{Q:Value->Shared->Prop}(ht:IsTup s.heap t items)(hs:s.heap.IsSliceOf sl vl vu .none)(pl:IsPart vl lo)(pu:IsPart vu hi)(hw:sIx items.size 0 lo=0/\sIx items.size items.size hi=items.size)(h:Q (.ref t) s):wpAny (model prog w) A (getItem (.ref t) (.ref sl)) Q E s:=by
 obtain⟨os,hos,hcs,hds⟩:=id hs;have hTs:s.TypeIs (.ref sl) "slice" :=⟨os,hos,hcs⟩;unfold getItem
 try with_reducible refine wpAny_holding ?_
 first|refine wpAny_bind (wpAny_pure ?_)|skip
 refine wpAny_bind (wpAny_sequenceKey ht.typeIs (by decide) ?_);refine wpAny_bind (wpAny_callSpecial?_slot (name:=Str.ofString "__getitem__") ht.typeIs PyProof.Rows.slot_tuple_getitem
  (wpAny_call_entry PyProof.Rows.slot_tuple_getitem ht.typeIs entry_tuple_getitem ?_ (args_tuple_getitem _ _)))
 show wpAny _ _ (Builtin.Tuple.tupleItemsOf (.ref t) >>= _) _ _ s;refine wpAny_bind (tupleItemsOf_ ht ?_);refine wpAny_bind (wpAny_typeOf hTs ?_);rw[if_pos (by decide)];refine wpAny_bind (jQ hs pl pu ?_);have hyes:(((sIx items.size 0 lo:Nat):Int)==0&&(1:Int)==1&&(sIx items.size items.size hi-sIx items.size 0 lo)==items.size)=true:=by
  rw[hw.1,hw.2];simp
 show wpAny _ _ (if(((sIx items.size 0 lo:Nat):Int)==0&&(1:Int)==1&&(sIx items.size items.size hi-sIx items.size 0 lo)==items.size)=true then _ else _) _ _ s;rw[if_pos hyes];refine wpAny_bind ?_;unfold Builtin.Tuple.tupleIsExact;refine wpAny_bind (wpAny_typeOf ht.typeIs (wpAny_pure ?_));rw[if_pos (by decide)]
 first
  |exact wpAny_bind (wpAny_rule (wpAny_bind (wpAny_pure (wpAny_pure ⟨_,rfl,wpAny_pure h⟩))))
  |exact wpAny_bind (wpAny_rule (wpAny_pure ⟨_,rfl,wpAny_pure h⟩))
end
end HT
namespace L2
open PySem PySem.Spec PyProof.Rows
section
variable{X:Cx}
theorem sl_tupW:SlR X (fun x lo hi H Q=>∃ a xs,x= .ref a/\SqT X.K H a xs/\(HT.sIx xs.length 0 lo=0/\HT.sIx xs.length xs.length hi=xs.length)/\Q (.ref a) H):=by
 intro pins s σ H x v vl vu lo hi sl Q I rx hs pl pu h;obtain⟨a,xs,rfl,hx,hw,q⟩:=h;cases rx;obtain⟨its,r,ht,hz⟩:=I.tuple hx;have hlen:its.toArray.size=xs.length:=by rw[size_toArray];exact r.length.symm
 refine⟨"tuple",_,PyProof.Rows.slot_tuple_getitem.lookup,ht.typeIs,?_⟩;exact HT.getItem_tuple_whole ht hs pl pu (by rw[hlen];exact hw) ⟨.ref a,H,I,rfl,q⟩
def rSlTA(K:W.Frag):V->Option Int->Option Int->Hp->VK->Prop:=fun x lo hi H Q=>(∃a xs,x= .ref a/\SqT K H a xs/\(HT.sIx xs.length 0 lo=0/\HT.sIx xs.length xs.length hi=xs.length)/\Q (.ref a) H)\/rSlT K x lo hi H Q
theorem rF:SlR X (rSlTA X.K):=sl_tupW.or sl_tup
end
section
variable{X:Cx}
theorem va{ys:List Str}:∀{us:List Value},Vals (ys.map V.str) us->StrsAre us ys:=by
 induction ys with
 |nil=>intro us r;cases r;exact .nil
 |cons y ys ih =>
  intro us r;cases r with
  |cons r t =>
   obtain⟨tk,rfl⟩:=r;exact .cons _ _ (ih t)
theorem jC:MtR X "str.join" (fun x vs H Q=>∃ sep a ys,x= .str sep/\vs=[.ref a]/\SqL X.K H a (ys.map V.str)/\(ys.map (·.length)).sum+ys.length*sep.length<=16777216/\Q (.str (Txt.join sep ys)) H):=by
 intro pins s σ H x vs v us Q I rx rv h;obtain⟨sep,a,ys,rfl,rfl,hq,hz,q⟩:=h;obtain⟨t,rfl⟩:=rx;obtain⟨u,rfl,ru⟩:=rv.one;cases ru;obtain⟨its,r,pl,_⟩:=I.list hq;exact join_list pl.isList (by simpa using va r) hz fun t' k=>⟨.str _,H,I.tok _,⟨t',rfl⟩,q⟩
theorem qQ:∀(l:List (Str×Tok)),Vals ((l.map (·.1)).map V.str) (strValues l)
 | []=>.nil
 |(x,t)::r=>.cons ⟨t,rfl⟩ (qQ r)
theorem xF:MtR X "str.split" (fun x vs H Q=>∃ z sep,x= .str z/\vs=[.str sep]/\(sep.length==0)=false/\z.length<=1000000/\ ∀l,H l=none->Q (.ref l) (upd H l (.lst ((Txt.split z sep).map V.str)))):=by
 intro pins s σ H x vs v us Q I rx rv h;obtain⟨z,sep,rfl,rfl,hy,hz,q⟩:=h;obtain⟨t,rfl⟩:=rx;obtain⟨u,rfl,ru⟩:=rv.one;obtain⟨u',rfl⟩:=ru;have hl:(Builtin.Str.partsBetween z (Builtin.Str.occurrences z sep 0 z.length (z.length+1)) sep.length).length<=z.length+2:=by
  unfold Builtin.Str.partsBetween;have:=StrLaws.occ_length_le z sep 0 z.length (z.length+1);simp;omega
 have hsz:z.length<=sizeLine:=by rw[sizeLine_eq];omega
 have fin:∀(l:List (Str×Tok))(tk:Nat),l.map (·.1)=Txt.split z sep->EP X pins σ Q (.ref s.heap.objs.size) {s with heap:=s.heap.push {cls:=.type "list",data:=.seq (strValues l).toArray},toks:=tk}:=fun l tk e=>by
  have hlen:((Txt.split z sep).map V.str).length<=sizeLine:=by
   rw[length_map];unfold Txt.split;split
   ·show 1<=sizeLine;decide
   ·split
    ·show 1<=sizeLine;decide
    ·rw[sizeLine_eq];omega
  refine⟨.ref s.heap.objs.size,_,I.laid (fun b o e=>Heap.get?_push_of_some _ e) (le_refl _) (show zU X.prog X.w _ _ _ (.lst ((Txt.split z sep).map V.str))from⟨hlen,strValues l,0,?_,Heap.get?_push_size _ rfl⟩),rfl,q _ (I.hok.fresh (le_refl _))⟩;rw[<-e];exact qQ l
 cases h1:(decide (z.length<sep.length)||decide (Builtin.Str.strKind z<Builtin.Str.strKind sep))
 ·cases hf:(Builtin.Str.occurrences z sep 0 z.length (z.length+1)).isEmpty
  ·refine call_meets F.slot_str_split (typeIs_str _ _ _) F.entry_str_split (F.args_str_split_2 _ _) (meets_str_split_sep z sep t u' h1 hy hf hsz (by rw[sizeLine_eq];omega)) ?_;show wants _ _ _ {s with toks:=_,heap:=s.heap.push {cls:=.type "list",data:=.seq (strsFrom s.toks (Builtin.Str.partsBetween z (Builtin.Str.occurrences z sep 0 z.length (z.length+1)) sep.length)).toArray}};rw[strsFrom_eq];exact fin (numbered s.toks _) _ ((numbered_texts _ _).trans ((if_neg (ne_true_of_eq_false h1)).trans (if_neg (ne_true_of_eq_false hf))).symm)
  ·exact call_meets F.slot_str_split (typeIs_str _ _ _) F.entry_str_split (F.args_str_split_2 _ _) (meets_str_split_not_found z sep t u' h1 hy hf)
    (fin [(z,t)] s.toks ((if_neg (ne_true_of_eq_false h1)).trans (if_pos hf)).symm)
 ·exact call_meets F.slot_str_split (typeIs_str _ _ _) F.entry_str_split (F.args_str_split_2 _ _) (meets_str_split_cannot_occur z sep t u' h1)
   (fin [(z,t)] s.toks (if_pos h1).symm)
def Its(z:Str):It:=⟨fun i _=>i<z.cps.size,fun i H x H'=>H'=H/\ ∃c,z.cps[i]? =some c/\x= .str ⟨#[c]⟩,fun i _=>z.cps.size<=i⟩
end
theorem bE{P:Program}{w:World}{K:W.Frag}{tg:Expr}(it:Addr)(z:Str)(t:Tok)(kind:String)(hk:["enumerate","zip","dict_itemiterator","dict_reverseitemiterator","odict_iterator","itertools.zip_longest","itertools.pairwise"].contains kind=false)(W0:∀A:Around,A.handled=none->Walks P w A it [it] [it] z.cps.size (SignAt z) (fun i h=>h.IsStrIter it kind z t i))(dn:∀(A:Around) (s:Shared) (i:Nat) (Q:Option Value->Shared->Prop) (E:Value->Shared->Prop),A.handled=none->s.heap.IsStrIter it kind z t i->z.cps[i]? =none->(∀h',Heap.ExtBut it s.heap h'->Q none {s with heap:=h'})->wpAny (model P w) A (pyNext (.ref it)) Q E s)(sf:∀(A:Around) (i:Nat) (s:Shared) (Q:Value->Shared->Prop) (E:Value->Shared->Prop),s.heap.IsStrIter it kind z t i->Q (.ref it) s->wpAny (model P w) A (pyIter (.ref it)) Q E s) :
  Turn P w K tg (Its z) [it] it (fun i h=>h.IsStrIter it kind z t i) where
 mem:=by simp
 obj:=fun i h st b hb=>by
  have e:b=it:=by simpa using hb
  subst e;obtain⟨o,e,c,d⟩:=st;exact⟨o,e,fun v z=>by rw[d]at z;cases z⟩
 keep:=fun i h h' st k=>let⟨o,ho,r⟩:=st;⟨o,k it (by simp) o ho,r⟩
 item:=by
  intro X hP hw hK hc i pins s σ H E I hf st hg;subst hP hw hK;obtain⟨f0,f1,f2,f3,f4,f5⟩:=hf it (by simp);refine(W0 X.A (I.ok.hd hc)).item i s _ _ hg st fun v h' tk hv st' kk=>?_;obtain⟨c,u,hc',rfl⟩:=hv;have I1:Inv X pins σ H {s with heap:=h',toks:=tk}:=I.turned (fun b o hb e=>kk b o (by simpa using hb) e) f0 f1 f3 f4 f5;obtain⟨o,e,c',d⟩:=id st';exact⟨_,rfl,go_of (s:={s with heap:=h',toks:=tk}) (n:=kind) e c' d hk ⟨.str ⟨#[c]⟩,H,I1,⟨u,rfl⟩,⟨rfl,c,hc',rfl⟩,st',fun b hb=>(hf b hb).1⟩⟩
 done:=by
  intro X hP hw hK hc i pins s σ H E I hf st hg;subst hP hw hK;obtain⟨f0,f1,f2,f3,f4,f5⟩:=hf it (by simp);exact dn X.A s i _ _ (I.ok.hd hc) st (by have:z.cps.size<=i:=hg;simp;omega) fun h' eb=>⟨rfl,I.turned (t':=s.toks) (fun b o hb e=>eb b o hb e) f0 f1 f3 f4 f5⟩
 self:=fun A i s Q E st h=>sf A i s Q E st h
section
variable{X:Cx}{tg:Expr}
def iStr(tl:TE):TI:=fun σ H R=>tl σ H fun x H1=>∃ z,x= .str z/\R (Its z) H1
theorem pi_str{l:Expr}{tl:TE}(hl:PE X l tl):PI X tg l (iStr tl):=by
 intro pins s σ H R I h;refine thn (hl pins s σ H _ I h) fun v s1 ⟨x,H1,I1,r1,q1⟩=>?_;obtain⟨z,e,q⟩:=q1;subst e;obtain⟨t,rfl⟩:=r1;have fp:∀b∈[s1.heap.objs.size],FpOk X pins H1 b:=fun b hb=>by
  have e:b=s1.heap.objs.size:=by simpa using hb
  subst e;exact I1.fpOk (le_refl _) (I1.hok.fresh (le_refl _))
 cases ha:z.cps.all (· <128)
 ·refine wpAny_pyIter_wide ha ?_;exact⟨s1.heap.objs.size,[s1.heap.objs.size],_,_,H1,rfl,I1.kept (t':=s1.toks) fun b o e=>Heap.get?_push_of_some _ e,
   bE _ z t "str_iterator" (by decide) (fun A hA=>Walks.strWide hA _ z t) (fun A s i Q E hA st hx hQ=>wpAny_pyNext_wide_end hA st hx hQ) (fun A i s Q E st h=>wpAny_pyIter_striter_wide st h),⟨_,Heap.get?_push_size _ rfl,rfl,rfl⟩,fp,q⟩
 ·refine wpAny_pyIter_ascii ha ?_;exact⟨s1.heap.objs.size,[s1.heap.objs.size],_,_,H1,rfl,I1.kept (t':=s1.toks) fun b o e=>Heap.get?_push_of_some _ e,
   bE _ z t "str_ascii_iterator" (by decide) (fun A hA=>Walks.strAscii hA _ z t) (fun A s i Q E hA st hx hQ=>wpAny_pyNext_ascii_end hA st hx hQ) (fun A i s Q E st h=>wpAny_pyIter_striter_ascii st h),⟨_,Heap.get?_push_size _ rfl,rfl,rfl⟩,fp,q⟩
end
theorem cU{z:Str}{g:TG}{tf:TT}{te:TE}{σ:St}{H:Hp}{Q:VK}(Pv:Nat->List V->St->Hp->Prop)(h0:Pv 0 [] σ H)(hl:∀i ys σ H,i<=z.cps.size->Pv i ys σ H->ys.length<=sizeLine)(hs:∀i c ys σ H,z.cps[i]? =some c->Pv i ys σ H->g (.str ⟨#[c]⟩) σ H fun σ2 H2=>tf σ2 H2 fun b H3=>if b=true then te σ2 H3 fun v H4=>Pv (i+1) (ys++[v]) σ2 H4 else Pv (i+1) ys σ2 H3)(hd:∀ys σ H,Pv z.cps.size ys σ H-> ∀p,H p=none->Q (.ref p) (upd H p (.lst ys))):wQ g tf te σ (Its z) H Q:=by
 refine⟨fun i m ys σ H=>m=z.cps.size-i/\i<=z.cps.size/\Pv i ys σ H,⟨z.cps.size,by simp,zero_le _,h0⟩,?_⟩;rintro i m ys σ H ⟨rfl,hi,p⟩;have hz:=hl i ys σ H hi p;by_cases hlt:i<z.cps.size
 ·refine .inr ⟨hlt,hz,Pv (i+1),fun ys' σ' H' p'=>⟨z.cps.size-(i+1),by omega,rfl,hlt,p'⟩,fun x H' y=>?_⟩;obtain⟨e,c,hc,rfl⟩:=y;subst e;exact hs i c ys σ _ hc p
 ·have e:i=z.cps.size:=by omega
  subst e;exact .inl ⟨le_refl _,hz,hd ys σ H p⟩
section
variable{X:Cx}
theorem jm(hc:X.calm=true):kM X (.builtin "all") (fun xs H Q=>∃(a:Addr)(bs:List Bool),xs=[.ref a]/\SqL X.K H a (bs.map V.bl)/\Q (.bl (bs.all id)) H):=by
 intro pins s σ H xs us Q I r h;obtain⟨a,bs,rfl,hq,q⟩:=h;obtain⟨u,rfl,ru⟩:=jS r;cases ru;have hh:X.A.in1.handled=none:=I.ok.hd hc;obtain⟨its,r',pl,hz⟩:=I.list hq;have hl:=r'.length;rw[length_map]at hl;have hlt:a<s.heap.objs.size:=by obtain⟨_,e,_⟩:=pl.isList;exact Heap.lt_size e
 refine call_all_walk (wpAny_pyIter_list pl.isList ⟨_,_,_,_,_,_,fun i=>bs.getD i false,rfl,Walks.list (A:=X.A.in1) hh _ a (ne_of_lt hlt) its.toArray,⟨⟨_,Heap.get?_push_size _ rfl,rfl,rfl⟩,pl.isList.push _⟩,?_,fun h' tk hk=>?_⟩)
 ·intro i v s' Q' E' hv hQ;have hv':its[i]? =some v:=by simpa using hv
  have hi:i<bs.length:=by have:=(List.getElem?_eq_some_iff.mp hv').1;omega
  have hx:(bs.map V.bl)[i]? =some (V.bl (bs.getD i false)):=by simp[hi]
  obtain⟨u,hu,ru⟩:=r'.get hx;rw[hv']at hu;cases hu;cases ru;exact wpAny_truthy_bool hQ
 ·have e:(List.range its.toArray.size).all (fun i=>bs.getD i false)=bs.all id:=by
   rw[size_toArray,<-hl,Bool.eq_iff_iff];simp only[all_eq_true,mem_range,id];constructor
   ·intro h b hb;obtain⟨i,hi,rfl⟩:=List.mem_iff_getElem.mp hb;have:=h i hi;simpa [hi]using this
   ·intro h i hi;have:=h bs[i] (getElem_mem hi);simpa [hi]using this
  rw[e];exact⟨.bl _,H,I.kept fun b o e=>hk b o (by simpa using ne_of_lt (Heap.lt_size e)) (Heap.get?_push_of_some _ e),rfl,q⟩
theorem u4:kM X (.type "int") (fun xs H Q=>∃(z:Str)(n:Int),xs=[.str z]/\PySem.intText? z=some n/\z.length<=640/\Q (.int n) H):=by
 intro pins s σ H xs us Q I r h;obtain⟨z,n,rfl,hn,hl,q⟩:=h;obtain⟨u,rfl,t,rfl⟩:=jS r;exact W.KIN.call_text hn hl ⟨.int n,H,I.tok _,⟨_,rfl⟩,q⟩
end
end L2
namespace L2
open PySem PySem.Spec PyProof.Rows PySem.NumText PySem.Calls
def numS(n:Int):Str:=Str.ofString (toString n)
theorem uA(m:Nat)(h:10<=m):Nat.toDigits 10 m=Nat.toDigits 10 (m / 10)++[Nat.digitChar (m%10)]:=by
 have hm:m%10<10:=Nat.mod_lt _ (by decide);have t:=Nat.toDigits_append_toDigits (b:=10) (n:=m / 10) (d:=m%10) (by decide) (by omega) hm;rw[show 10*(m / 10)+m%10=m by omega]at t;rw[<-t,Nat.toDigits_of_lt_base hm]
theorem d9(m:Nat):∀k:Nat,0<k->m<10^k->(Nat.toDigits 10 m).length<=k:=by
 induction m using Nat.strongRecOn with
 | _ m ih =>
  intro k hk h;by_cases h10:m<10
  ·rw[Nat.toDigits_of_lt_base h10];exact hk
  ·rw[uA m (by omega),length_append,List.length_singleton];cases k with
   |zero=>omega
   |succ k =>
    cases k with
    |zero=>simp at h;omega
    |succ k =>
     have:m / 10<10^(k+1):=by
      rw[Nat.pow_succ]at h;omega
     have:=ih (m / 10) (by omega) (k+1) (by omega) this;omega
theorem rL(m:Nat)(h:0<m):∃c r,Nat.toDigits 10 m=c::r/\c≠ '0':=by
 induction m using Nat.strongRecOn with
 | _ m ih =>
  by_cases h10:m<10
  ·rw[Nat.toDigits_of_lt_base h10];refine⟨_,[],rfl,?_⟩;have:∀d:Nat,0<d->d<10->Nat.digitChar d≠ '0':=by
    intro d h1 h2;rcases d with _| _| _| _| _| _| _| _| _| _|d
    ·omega
    all_goals first|decide|omega
   exact this m h h10
  ·obtain⟨c,r,e,hc⟩:=ih (m / 10) (by omega) (by omega);rw[uA m (by omega),e];exact⟨c,r++[Nat.digitChar (m%10)],rfl,hc⟩
theorem ud{n:Int}(h:0<=n):(numS n).cps.toList=(Nat.toDigits 10 n.toNat).map Char.toNat:=by
 obtain⟨m,rfl⟩:=Int.eq_ofNat_of_zero_le h;exact W.KIN.signs_num m
theorem kX{n:Int}(h:0<=n):AllDigits (numS n).cps.toList:=by
 intro c hc;rw[ud h]at hc;obtain⟨ch,hch,e⟩:=mem_map.mp hc;have r:=digit_range (Nat.isDigit_of_mem_toDigits (by decide) (by decide) hch);rw[<-e];exact r
theorem cq{n:Int}(h:1<=n):∃c r,(numS n).cps.toList=c::r/\c≠48:=by
 obtain⟨c,r,e,hc⟩:=rL n.toNat (by omega);rw[ud (by omega),e];refine⟨c.toNat,r.map Char.toNat,rfl,fun z=>hc ?_⟩;exact Char.ext (UInt32.toNat_inj.mp z)
theorem ya{n:Int}(h:0<=n){k:Nat}(hk:0<k)(h2:n<10^k):(numS n).cps.toList.length<=k:=by
 rw[ud h,length_map];refine d9 _ k hk ?_;have:((n.toNat:Nat):Int)<((10^k:Nat):Int):=by
  rw[Int.toNat_of_nonneg h];simpa using h2
 exact_mod_cast this
theorem numS_reads{n:Int}(h:0<=n)(h2:n<10^600):PySem.intText? (numS n)=some n:=by
 have hl:=ya h (k:=600) (by decide) h2;have hne:(numS n).cps.toList≠[]:=by
  rw[ud h];intro e;have h:=toDigits_len_ge 10 n.toNat;rw[List.map_eq_nil_iff.mp e]at h;exact absurd h (by decide)
 have e:=intText_digits (kX h) hne (by show(numS n).cps.size<=4300;rw[<-Array.length_toList];omega);rw[ud h,W.KIN.val_back]at e;rw[e];congr 1;omega
def yV(c:Nat):List (List Nat)->List Nat
 | []=>[]
 | [x]=>x
 |x::y::r=>x++c::yV c (y::r)
theorem cut_eq{c:Nat}:∀{x y a b:List Nat},c∉x->c∉y->x++c::a=y++c::b->x=y/\a=b
 | [],[],a,b,_,_,e=>by simp at e;exact⟨rfl,e⟩
 | [],y::ys,a,b,_,hy,e=>by
  simp at e;exact absurd (by rw[e.1];exact mem_cons_self) hy
 |x::xs,[],a,b,hx,_,e=>by
  simp at e;exact absurd (by rw[<-e.1];exact mem_cons_self) hx
 |x::xs,y::ys,a,b,hx,hy,e=>by
  simp only[List.cons_append,List.cons.injEq]at e;obtain⟨e1,e2⟩:=cut_eq (fun z=>hx (mem_cons_of_mem _ z)) (fun z=>hy (mem_cons_of_mem _ z)) e.2;exact⟨by rw[e.1,e1],e2⟩
theorem cut_no{c:Nat}{x y a:List Nat}(hx:c∉x)(e:x=y++c::a):False:=hx (by rw[e];simp)
theorem tM{c:Nat}:∀{xs ys:List (List Nat)},xs≠[]->ys≠[]->(∀x∈xs,c∉x)->(∀x∈ys,c∉x)->yV c xs=yV c ys->xs=ys
 | [],_,h,_,_,_,_=>absurd rfl h
 | _::_,[],_,h,_,_,_=>absurd rfl h
 | [x],[y],_,_,_,_,e=>by simp only[yV]at e;rw[e]
 | [x],y::y2::r,_,_,hx,_,e=>by
  simp only[yV]at e;exact(cut_no (hx x (by simp)) e).elim
 |x::x2::r,[y],_,_,_,hy,e=>by
  simp only[yV]at e;exact(cut_no (hy y (by simp)) e.symm).elim
 |x::x2::r,y::y2::r',_,_,hx,hy,e=>by
  simp only[yV]at e;obtain⟨e1,e2⟩:=cut_eq (hx x (by simp)) (hy y (by simp)) e;have:=tM (xs:=x2::r) (ys:=y2::r') (by simp) (by simp) (fun z hz=>hx z (mem_cons_of_mem _ hz)) (fun z hz=>hy z (mem_cons_of_mem _ hz)) e2;rw[e1,this]
theorem jf(c:Nat):∀ws:List Str,(Str.join ⟨#[c]⟩ ws).cps.toList=yV c (ws.map fun w=>w.cps.toList)
 | []=>rfl
 | [x]=>rfl
 |x::y::r=>by
  show((x++(⟨#[c]⟩:Str))++Str.join ⟨#[c]⟩ (y::r)).cps.toList=x.cps.toList++c::yV c ((y::r).map fun w=>w.cps.toList);rw[<-jf c (y::r)];show(x.cps++ #[c]++(Str.join ⟨#[c]⟩ (y::r)).cps).toList=_;simp
theorem yE{x y:Str}(h:x.cps.toList=y.cps.toList):x=y:=by
 obtain⟨a⟩:=x;obtain⟨b⟩:=y;have:a=b:=Array.toList_inj.mp h;rw[this]
theorem bA(x y:Str):Txt.split x y≠[]:=by
 unfold Txt.split;split
 ·simp
 ·split
  ·simp
  ·simp[Builtin.Str.partsBetween]
theorem gz{c:Nat}{ws:List Str}(h0:ws≠[])(h:∀w∈ws,c∉w.cps.toList):Txt.split (Txt.join ⟨#[c]⟩ ws) ⟨#[c]⟩=ws:=by
 have e1:Txt.join ⟨#[c]⟩ ws=Str.join ⟨#[c]⟩ ws:=StrLaws.glued_eq_join _ _;have e2:=StrLaws.join_split (Txt.join ⟨#[c]⟩ ws) ⟨#[c]⟩;have e3:yV c ((Txt.split (Txt.join ⟨#[c]⟩ ws) ⟨#[c]⟩).map fun w=>w.cps.toList)=yV c (ws.map fun w=>w.cps.toList):=by
  rw[<-jf,<-jf,e2,e1]
 have e4:=tM (by simpa using bA _ _) (by simpa using h0) (fun x hx=>by
  obtain⟨w,hw,rfl⟩:=mem_map.mp hx;exact StrLaws.split_free _ c w hw) (fun x hx=>by
  obtain⟨w,hw,rfl⟩:=mem_map.mp hx;exact h w hw) e3
 have inj:∀(xs ys:List Str),(xs.map fun w=>w.cps.toList)=(ys.map fun w=>w.cps.toList)->xs=ys:=by
  intro xs
  induction xs with
  |nil=>intro ys e;cases ys with|nil=>rfl|cons y r=>cases e
  |cons x r ih =>
   intro ys e;cases ys with
   |nil=>cases e
   |cons y r' =>
    simp only[map_cons,List.cons.injEq]at e;rw[yE e.1,ih _ e.2]
 exact inj _ _ e4
theorem tN(c:Nat):∀ws:List (List Nat),(yV c ws).length<=(ws.map length).sum+ws.length
 | []=>by simp[yV]
 | [x]=>by simp[yV]
 |x::y::r=>by
  have:=tN c (y::r);simp only[yV,length_append,length_cons,map_cons,List.sum_cons]at this ⊢;omega
end L2
namespace L2
open PySem PySem.Spec PyProof.Rows PySem.NumText
def gi:Str:=Str.ofString "none"
theorem yJ:Str.ofString " "=⟨#[32]⟩:=by decide+kernel
theorem xQ:gi.cps.toList=[110,111,110,101]:=by decide+kernel
def txt(ns:List Int):Str:=if ns=[]then gi else Txt.join (Str.ofString " ") (ns.map numS)
theorem qO{α:Type}{f:α->Nat}{B:Nat}:∀{l:List α},(∀x∈l,f x<=B)->(l.map f).sum<=l.length*B
 | [],_=>by simp
 |x::r,h=>by
  have h1:=h x mem_cons_self;have h2:=qO (l:=r) fun y hy=>h y (mem_cons_of_mem _ hy);rw[map_cons,List.sum_cons,length_cons,Nat.succ_mul];omega
theorem zJ(x:Str):x.length=x.cps.toList.length:=by
 show x.cps.size=_;simp
theorem ue{n:Int}(h0:0<=n)(h:n<=10^60):n.natAbs.log2<1920:=by
 by_cases hz:n.natAbs=0
 ·rw[hz];decide
 ·have h1:n.natAbs<=10^60:=by omega
  exact(Nat.log2_lt hz).mpr (lt_of_le_of_lt h1 (by decide+kernel))
theorem numS_free{n:Int}(h:0<=n):32∉(numS n).cps.toList:=fun z=>by
 have:=kX h 32 z;omega
theorem txt_len{ns:List Int}(hl:ns.length<=64)(hb:∀x∈ns,1<=x/\x<=10^60):(txt ns).length<=10000:=by
 unfold txt;split
 ·rw[zJ,xQ];decide
 ·rw[yJ,zJ,show Txt.join ⟨#[32]⟩ (ns.map numS)=Str.join ⟨#[32]⟩ (ns.map numS)from StrLaws.glued_eq_join _ _,jf];refine le_trans (tN _ _) ?_;have h1:((((ns.map numS).map fun w=>w.cps.toList)).map length).sum<=ns.length*61:=by
   rw[map_map,map_map];exact qO fun x hx=>ya (by have:=hb x hx;omega) (by decide) (Int.lt_of_le_of_lt (hb x hx).2 (by decide))
  simp only[length_map];omega
theorem txt_none{ns:List Int}(hb:∀x∈ns,1<=x):txt ns=gi↔ns=[]:=by
 constructor
 ·intro e;unfold txt at e;split at e
  ·assumption
  ·rename_i h;cases ns with
   |nil=>rfl
   |cons n r =>
    exfalso;rw[yJ,show Txt.join ⟨#[32]⟩ ((n::r).map numS)=Str.join ⟨#[32]⟩ ((n::r).map numS)from StrLaws.glued_eq_join _ _]at e;have e2:=congrArg (fun x:Str=>x.cps.toList) e;simp only[jf,xQ]at e2;have hn:=hb n mem_cons_self;obtain⟨c,cr,hc,_⟩:=cq hn;have hd:=kX (n:=n) (by omega) c (by rw[hc];exact mem_cons_self);cases r with
    |nil =>
     simp only[map_cons,List.map_nil,yV,hc,List.cons.injEq]at e2;omega
    |cons m r' =>
     simp only[map_cons,yV,hc,List.cons_append,List.cons.injEq]at e2;omega
 ·rintro rfl;rfl
theorem qP{ns:List Int}(h0:ns≠[])(hb:∀x∈ns,1<=x):Txt.split (txt ns) (Str.ofString " ")=ns.map numS:=by
 unfold txt;rw[if_neg h0,yJ];refine gz (by simpa using h0) fun w hw=>?_;obtain⟨n,hn,rfl⟩:=mem_map.mp hw;exact numS_free (by have:=hb n hn;omega)
def kr(w:Str):Bool:=match w.cps.toList with
 | []=>false
 |c::r=>decide ((c::r).length<=60)&&decide (c≠48)&&(c::r).all fun d=>decide (48<=d/\d<=57)
theorem uP{n:Int}(h:1<=n)(h2:n<10^60):kr (numS n)=true:=by
 obtain⟨c,r,e,hc⟩:=cq h;have hl:=ya (n:=n) (by omega) (k:=60) (by decide) h2;have hd:=kX (n:=n) (by omega);unfold kr;rw[e]at hl hd ⊢;simp only[and_eq_true,decide_eq_true_eq,all_eq_true];exact⟨⟨hl,hc⟩,fun d hd'=>hd d hd'⟩
theorem figs_cps:(Str.ofString "0123456789").cps.toList=[48,49,50,51,52,53,54,55,56,57]:=by decide+kernel
theorem in_figs(c:Nat):(!(Builtin.Str.occurrences (Str.ofString "0123456789") ⟨#[c]⟩ 0 (Str.ofString "0123456789").length 1).isEmpty)=decide (48<=c/\c<=57):=by
 rw[StrLaws.found_one,figs_cps];congr 1;rw[show([48,49,50,51,52,53,54,55,56,57]:List Nat)=(List.range 10).map (48+ ·)by decide+kernel];simp only[mem_map,mem_range,eq_iff_iff];exact⟨fun⟨k,hk,e⟩=>⟨by omega,by omega⟩,fun h=>⟨c-48,by omega,by omega⟩⟩
theorem zero_eq:Str.ofString "0"=⟨#[48]⟩:=by decide+kernel
theorem atI0{α:Type}(x:α)(r:List α):atI (x::r) 0=some x:=zp (j:=0) rfl
theorem one_sign(c:Nat):decide ((V.str ⟨#[c]⟩)=V.str (Str.ofString "0"))=decide (c=48):=by
 rw[zero_eq];congr 1;simp
structure IsHeap(n:Nat)(B:Int)(hs:List Int):Prop where
 ln:hs.length<=n
 bd:∀x∈hs,1<=x/\x<B
 pw:hs.Pairwise (· >= ·)
end L2
namespace L2
open PySem PySem.Spec PyProof.Rows
theorem mapF_dict(f:Array Value->Array Value)(o:Obj):(Obj.mapFields f o).dict=o.dict:=by
 obtain⟨c,d,dat,sl⟩:=o;cases dat <;>rfl
def TrD(h base:Heap)(e:Addr)(C:Value)(dd:Option Addr)(fl:Value):Prop :=
 ∃oe vs T oT ts,h.get? e=some oe/\(oe.cls=C/\oe.dict=dd)/\oe.data= .fields vs/\vs[1]? =some (.ref T)/\
  base.get? T=none/\T≠e/\h.get? T=some oT/\oT.data= .fields ts/\ts[3]? =some fl
def FlyD(base:Heap)(l:List Env)(e:Addr)(C:Value)(dd:Option Addr)(h:Heap):Prop:=base.StaysIn h/\base.get? e=none/\h.FunFrames base l/\TrD h base e C dd .none
def uB(base:Heap)(l:List Env)(e:Addr)(C:Value)(dd:Option Addr)(L:Addr)(h:Heap):Prop:=base.StaysIn h/\base.get? e=none/\h.FunFrames base l/\TrD h base e C dd (rawInt L)
def UpS(h h':Heap):Prop:=∀ b o,h.get? b=some o->(∀vs,o.data≠ .fields vs)-> ∃sl,h'.get? b=some {o with slots:=sl}
theorem UpS.same(h:Heap):UpS h h:=fun _ o q _=>⟨o.slots,q⟩
theorem UpS.trans{h1 h2 h3:Heap}(x:UpS h1 h2)(y:UpS h2 h3):UpS h1 h3:=fun b o q n=>by
 obtain⟨sl,q2⟩:=x b o q n;obtain⟨sl2,q3⟩:=y b {o with slots:=sl} q2 n;exact⟨sl2,q3⟩
section
variable{M:Model}{A:Around}{E:Value->Shared->Prop}{s:Shared}{base:Heap}{env:Env}{outer:List Env}{L e:Addr}{C:Value}{dd:Option Addr}{Q:Unit->Shared->Prop}
theorem rN{h:Heap}{T:Addr}{oT:Obj}{ts:Array Value}(hT:h.get? T=some oT)(hd:oT.data= .fields ts)(f:Array Value->Array Value) :
  (∀b,b≠T->(h.update T (Obj.mapFields f)).get? b=h.get? b)/\(∀b o,h.get? b=some o->(∀vs,o.data≠ .fields vs)->(h.update T (Obj.mapFields f)).get? b=some o)/\(h.update T (Obj.mapFields f)).get? T=some (Obj.mapFields f oT):=by
 have far:∀b,b≠T->(h.update T (Obj.mapFields f)).get? b=h.get? b:=fun b n=>Heap.get?_update_other _ _ (Ne.symm n);refine⟨far,fun b o q n=>?_,Heap.get?_update_self _ hT (Obj.isFreed_of_fields (Obj.data_mapFields hd _))⟩;refine(far b fun z=>?_).trans q;subst z;rw[hT]at q;cases q;exact n ts hd
theorem wy{l:List Env}{fl:Value}(f:Option Addr)(k1:base.StaysIn s.heap)(k2:s.heap.FunFrames base l)(k3:TrD s.heap base e C dd fl)(q:∀h',base.StaysIn h'->h'.FunFrames base l->TrD h' base e C dd (f.elim Value.none fun f=>rawInt f)->UpS s.heap h'->Q () {s with heap:=h'}):wpAny M A (setFlight (.ref e) f) Q E s:=by
 obtain⟨oe,vs,T,oT,ts,g1,g2,g3,g4,g5,g6,g7,g8,g9⟩:=k3;have z3:3<ts.size:=(Array.getElem?_eq_some_iff.mp g9).1;obtain⟨far,non,own⟩:=rN g7 g8 (·.setIfInBounds 3 (f.elim Value.none fun f=>rawInt f));unfold setFlight;refine wpAny_bind (wpAny_field g1 g3 g4 ?_);rw[if_pos (by simp)];refine wpAny_setField g7 g8 z3 (q _ ?_ ?_ ?_ fun b o q n=>⟨o.slots,non b o q n⟩)
 ·intro b o qb;refine(far b fun z=>?_).trans (k1 b o qb);rw[z,g5]at qb;cases qb
 ·exact k2.of_keeps fun b o qb n=>⟨o,non b o qb n,rfl⟩
 ·exact⟨oe,vs,T,_,_,(far e (Ne.symm g6)).trans g1,g2,g3,g4,g5,g6,own,Obj.data_mapFields g8 _,by simp[z3]⟩
theorem bC{oe:Obj}{vs:Array Value}{head:Value}{more:Bool}(fr:A.frames=some (env::outer))(k2:s.heap.FunFrames base (env::outer))(hL:env.frame=some L)(g1:s.heap.get? e=some oe)(k1:base.StaysIn s.heap)(ne:base.get? e=none)(g3:oe.data= .fields vs)(z1:1<vs.size)(q:∀h',base.StaysIn h'->h'.FunFrames base (env::outer)->TrD h' base e oe.cls oe.dict (rawInt L)->UpS s.heap h'->Q () {s with heap:=h'}) :
  wpAny M A (do
   let a <-frameOf env
   let pl <-entryPlaceOf L more
   let b <-EntryCells.newEntry head a .none (rawInt L) .none pl
   setField (.ref e) 1 b) Q E s:=by
 have nf:e∉(env::outer).filterMap (·.frame):=fun z=>by
  obtain⟨_,o,ho,n⟩:=k2.mem z;rw[g1]at ho;cases ho;exact n vs g3
 refine wpAny_bind (wpAny_frameOf_fun fr k2 hL fun h1 x1=>?_);refine wpAny_bind (wpAny_entryPlaceOf fun pl hpl=>?_);unfold EntryCells.newEntry newFields;refine wpAny_bind (wpAny_newObj_type ?_ (hpl.sizeOk5 _ _ _ _ _));have e1:h1.get? e=some oe:=by rw[x1.2.1 e nf];exact g1
 have b1:base.StaysIn h1:=fun b o qb=>by
  rw[x1.2.1 b fun z=>by rw[(k2.mem z).1]at qb;cases qb];exact k1 b o qb
 generalize hR:({cls:=.type "traceback",dict:=none,data:=.fields ([head,.ref L,.none,rawInt L,.none]++(if pl.isEmpty then replicate 6 Value.none else pl)).toArray}:Obj)=R;have dR:R.data= .fields ([head,.ref L,.none,rawInt L,.none]++(if pl.isEmpty then replicate 6 Value.none else pl)).toArray:=by rw[<-hR]
 have fR:R.isFreed=false:=Obj.isFreed_of_fields dR;have e2:(h1.push R).get? e=some oe:=Heap.get?_push_of_some _ e1;refine wpAny_setField e2 g3 z1 ?_;have nT:h1.objs.size≠e:=Nat.ne_of_gt (Heap.lt_size e1);obtain⟨far,non,own⟩:=rN e2 g3 (·.setIfInBounds 1 (Value.ref h1.objs.size));have keep:∀b o,b≠e->h1.get? b=some o->((h1.push R).update e (Obj.mapFields (·.setIfInBounds 1 (Value.ref h1.objs.size)))).get? b=some o:=fun b o n qb=>by
  rw[far b n];exact Heap.get?_push_of_some _ qb
 have ne':∀b o,s.heap.get? b=some o->(∀vs,o.data≠ .fields vs)->b≠e:=fun b o qb n z=>by
  rw[z,g1]at qb;cases qb;exact n vs g3
 refine q _ ?_ ?_ ?_ ?_
 ·exact fun b o qb=>keep b o (fun z=>by rw[z,ne]at qb;cases qb) (b1 b o qb)
 ·refine k2.of_keeps fun b o qb n=>?_;obtain⟨sl,y⟩:=x1.2.2 b o qb;exact⟨_,keep b _ (ne' b o qb n) y,rfl⟩
 ·refine⟨_,_,h1.objs.size,R,_,own,⟨Obj.cls_mapFields _ _,mapF_dict _ _⟩,Obj.data_mapFields g3 _,by simp[z1],b1.fresh,nT,?_,dR,?_⟩
  ·rw[far _ nT];exact Heap.get?_push_size h1 fR
  ·simp
 ·intro b o qb n;obtain⟨sl,y⟩:=x1.2.2 b o qb;exact⟨sl,keep b _ (ne' b o qb n) y⟩
theorem cO(fr:A.frames=some (env::outer))(hL:env.frame=some L)(x:FlyD base (env::outer) e C dd s.heap)(q:∀h',uB base (env::outer) e C dd L h'->UpS s.heap h'->Q () {s with heap:=h'}):wpAny M A (noteFrame (.ref e) env) Q E s:=by
 obtain⟨k1,ne,k2,oe,vs,T,oT,ts,g1,⟨rfl,rfl⟩,g3,g4,g5,g6,g7,g8,g9⟩:=x;obtain⟨far,non,own⟩:=rN g7 g8 (·.setIfInBounds 3 Value.none);unfold noteFrame;simp only[hL];refine wpAny_bind (wpAny_field g1 g3 g4 ?_);rw[if_pos (by simp)];refine wpAny_bind (wpAny_field g7 g8 g9 ?_);rw[if_neg (by simp[rawInt])];refine wpAny_bind (wpAny_setField g7 g8 (Array.getElem?_eq_some_iff.mp g9).1 ?_);refine bC fr (k2.of_keeps fun b o qb n=>⟨o,non b o qb n,rfl⟩) hL ((far e (Ne.symm g6)).trans g1) (fun b o qb=>?_) ne g3 (Array.getElem?_eq_some_iff.mp g4).1 fun h' y1 y2 y3 y4=>q h' ⟨y1,ne,y2,y3⟩ fun b o qb n=>y4 b o (non b o qb n) n;refine(far b fun z=>?_).trans (k1 b o qb);rw[z,g5]at qb;cases qb
theorem bB{fl:Value}(hL:env.frame=some L)(x:TrD s.heap base e C dd (rawInt L))(q:Q () s):wpAny M A (noteFrame (.ref e) env) Q E s:=by
 obtain⟨oe,vs,T,oT,ts,g1,g2,g3,g4,g5,g6,g7,g8,g9⟩:=x;unfold noteFrame;simp only[hL];refine wpAny_bind (wpAny_field g1 g3 g4 ?_);rw[if_pos (by simp)];refine wpAny_bind (wpAny_field g7 g8 g9 ?_);rw[if_pos (by simp)];exact wpAny_pure q
theorem bD{oe:Obj}{vs:Array Value}(fr:A.frames=some (env::outer))(k2:s.heap.FunFrames base (env::outer))(hL:env.frame=some L)(g1:s.heap.get? e=some oe)(k1:base.StaysIn s.heap)(ne:base.get? e=none)(g3:oe.data= .fields vs)(g4:vs[1]? =some .none)(q:∀h',uB base (env::outer) e oe.cls oe.dict L h'->UpS s.heap h'->Q () {s with heap:=h'}):wpAny M A (noteFrame (.ref e) env) Q E s:=by
 unfold noteFrame;simp only[hL];refine wpAny_bind (wpAny_field g1 g3 g4 ?_);rw[if_neg (by decide)];exact bC fr k2 hL g1 k1 ne g3 (Array.getElem?_eq_some_iff.mp g4).1 fun h' y1 y2 y3 y4=>q h' ⟨y1,ne,y2,y3⟩ y4
end
structure Cov(s₀:Heap)(H₀:Hp)(fr ex:List Addr)(H':Hp)(B:Heap):Prop where
 trk:∀b u,H' b=some u-> ∃o,B.get? b=some o
 old:∀b o,s₀.get? b=some o->H₀ b=none->b∉fr->b∉ex->B.get? b=some o
 all:∀b o,s₀.get? b=some o->b∉fr->b∉ex-> ∃o',B.get? b=some o'
def CX1(P:Program)(w:World):CXT:=fun outer H s E ev s'=>∃(e:Addr)(C:Value)(dd:Option Addr)(H':Hp),ev= .ref e/\E C dd H'/\s'.os=s.os/\AllBare s'.gens/\Un (frs outer) [] H H' s.heap s'.heap/\HOk P w H' s'.heap/\H' e=none/\
 ∃B,FlyD B outer e C dd s'.heap/\Cov s.heap H (frs outer) [] H' B
inductive ExcSt(B:Heap)(l:List Env)(L e:Addr)(C:Value)(dd:Option Addr)(h:Heap):Prop where
 |made (oe:Obj) (vs:Array Value):B.StaysIn h->h.FunFrames B l->B.get? e=none->h.get? e=some oe->oe.cls=C->oe.dict=dd->oe.data= .fields vs->vs[1]? =some .none->ExcSt B l L e C dd h
 |fly:FlyD B l e C dd h->ExcSt B l L e C dd h
 |held:uB B l e C dd L h->ExcSt B l L e C dd h
theorem ExcSt.stays{B:Heap}{l:List Env}{L e:Addr}{C:Value}{dd:Option Addr}{h:Heap}(x:ExcSt B l L e C dd h):B.StaysIn h:=by
 cases x with
 |made oe vs a b c=>exact a
 |fly a=>exact a.1
 |held a=>exact a.1
theorem ExcSt.frames{B:Heap}{l:List Env}{L e:Addr}{C:Value}{dd:Option Addr}{h:Heap}(x:ExcSt B l L e C dd h):h.FunFrames B l:=by
 cases x with
 |made oe vs a b c=>exact b
 |fly a=>exact a.2.2.1
 |held a=>exact a.2.2.1
structure ExcAt(X:Cx)(H':Hp)(e:Addr)(C:Value)(dd:Option Addr)(s':Shared):Prop where
 os:s'.os=X.s₀.os
 bare:AllBare s'.gens
 un:Un X.fs X.ex X.H₀ H' X.s₀.heap s'.heap
 hok:HOk X.prog X.w H' s'.heap
 fe:H' e=none
 st:∃B,Cov X.s₀.heap X.H₀ (frs X.stack) X.ex H' B/\ExcSt B X.stack X.env.locals e C dd s'.heap
theorem Cov.turn{P:Program}{w:World}{s₀ h h':Heap}{H₀ H':Hp}{fr fs ex:List Addr}{B:Heap}(c:Cov s₀ H₀ fr ex H' B)(hs:∀b∈fs,b∈fr)(hnf:∀b∈fr,∃o,h.get? b=some o/\ ∀vs,o.data≠ .fields vs)(b1:B.StaysIn h)(b2:B.StaysIn h')(up:∀b o,h.get? b=some o->(∀vs,o.data≠ .fields vs)-> ∃sl,h'.get? b=some {o with slots:=sl})(un:Un fs ex H₀ H' s₀ h)(hok:HOk P w H' h)(hfs:∀b o,s₀.get? b=some o->b∈fr->b∈fs):Un fs ex H₀ H' s₀ h'/\HOk P w H' h':=by
 refine⟨⟨fun b o q n hb hx=>?_,fun b o q n hb hx=>?_,un.free,fun b o q hx=>?_,un.tups,un.frzs,un.tbls⟩,fun b u e=>?_⟩
 ·by_cases hf:b∈fr
  ·exact absurd (hfs b o q hf) hb
  ·exact b2 b o (c.old b o q n hf hx)
 ·obtain⟨sl,e1⟩:=un.slot b o q n hb hx;obtain⟨o1,e2,nf⟩:=hnf b (hs b hb);rw[e1]at e2;cases e2;obtain⟨sl',e3⟩:=up b _ e1 nf;exact⟨sl',e3⟩
 ·by_cases hf:b∈fr
  ·obtain⟨o1,e2,nf⟩:=hnf b hf;obtain⟨sl',e3⟩:=up b _ e2 nf;exact⟨_,e3⟩
  ·obtain⟨o',e⟩:=c.all b o q hf hx;exact⟨o',b2 b o' e⟩
 ·refine(hok b u e).stay (fun d v hd q=>?_) (fun _ q=>q) fun _ _ q=>q;have hd':∃u',H' d=some u':=by
   rcases hd with rfl|hd
   ·exact⟨u,e⟩
   ·exact⟨_,hd⟩
  obtain⟨u',hu'⟩:=hd';obtain⟨o,ho⟩:=c.trk d u' hu';have:=b1 d o ho;rw[q]at this;cases this;exact b2 d v ho
theorem ki{B h:Heap}{l:List Env}(x:h.FunFrames B l):∀b∈frs l,∃o,h.get? b=some o/\ ∀vs,o.data≠ .fields vs:=fun b hb=>by
 obtain⟨_,o,ho,hnf⟩:=x.mem hb;exact⟨o,ho,hnf⟩
def XE(X:Cx)(E:XK):Value->Shared->Prop:=fun ev s'=>∃(e:Addr)(C:Value)(dd:Option Addr)(H':Hp),ev= .ref e/\E C dd H'/\ExcAt X H' e C dd s'
section
variable{X:Cx}{outer:List Env}
structure Own(X:Cx):Prop where
 ok:X.Ok
 top:X.stack=X.env::X.outer
 fr:X.env.frame=some X.env.locals
theorem Own.sub(o:Own X):∀b∈X.fs,b∈frs X.stack:=fun b hb=>by
 rw[o.top];unfold frs;rw[filterMap_cons,o.fr];exact mem_cons_of_mem _ hb
theorem Own.old(o:Own X):∀b ob,X.s₀.heap.get? b=some ob->b∈frs X.stack->b∈X.fs:=fun b ob q hb=>by
 rw[o.top]at hb;unfold frs at hb;rw[filterMap_cons,o.fr]at hb;rcases mem_cons.mp hb with rfl|hb
 ·exact absurd (lt_of_lt_of_le (Heap.lt_size q) o.ok.above) (lt_irrefl _)
 ·exact hb
theorem ExcAt.note{M:Model}{E':Value->Shared->Prop}{H':Hp}{e:Addr}{C:Value}{dd:Option Addr}{s':Shared}{Q:Unit->Shared->Prop}(o:Own X)(x:ExcAt X H' e C dd s')(h:∀s'',ExcAt X H' e C dd s''->(∃B,uB B X.stack e C dd X.env.locals s''.heap/\Cov X.s₀.heap X.H₀ (frs X.stack) X.ex H' B)->Q () s''):wpAny M X.A (noteFrame (.ref e) X.env) Q E' s':=by
 obtain⟨B,c,st⟩:=x.st;have fin:∀{h':Heap},uB B X.stack e C dd X.env.locals h'->UpS s'.heap h'->Q () {s' with heap:=h'}:=fun{h'} hh up=>by
  obtain⟨u,k⟩:=c.turn o.sub (ki st.frames) st.stays hh.1 up x.un x.hok o.old;exact h _ ⟨x.os,x.bare,u,k,x.fe,B,c,.held hh⟩ ⟨B,hh,c⟩
 have hfr:X.A.frames=some (X.env::X.outer):=by rw[<-o.top];exact o.ok.frames
 cases st with
 |made oe vs b1 b2 b3 he hc hdd hd h1 =>
  subst hc hdd;rw[o.top]at b2;exact bD hfr b2 o.fr he b1 b3 hd h1 fun h' hh up=>fin (by rw[o.top];exact hh) up
 |fly hf =>
  rw[o.top]at hf;exact cO hfr o.fr hf fun h' hh up=>fin (by rw[o.top];exact hh) up
 |held hh =>
  exact bB (fl:=.none) o.fr hh.2.2.2 (fin hh (UpS.same _))
theorem ExcAt.back{M:Model}{E':Value->Shared->Prop}{H':Hp}{e:Addr}{C:Value}{dd:Option Addr}{s':Shared}{Q:Unit->Shared->Prop}(o:Own X)(x:ExcAt X H' e C dd s')(hx:∃B,uB B X.stack e C dd X.env.locals s'.heap/\Cov X.s₀.heap X.H₀ (frs X.stack) X.ex H' B)(h:∀s'',ExcAt X H' e C dd s''->Q () s''):wpAny M X.A (do
   if(<-field (.ref e) 1)== .none then unsupported "frame.own-activation:exception-without-traceback"
   setFlight (.ref e) X.env.frame) Q E' s':=by
 obtain⟨B,⟨f1,f2,f3,f4⟩,c⟩:=hx;obtain⟨oe,vs,T,oT,ts,he,hcls,hd,h1,hnT,hTe,hT,hdT,h3⟩:=id f4;refine wpAny_bind (wpAny_field he hd h1 ?_);rw[if_neg (show ¬((Value.ref T==Value.none)=true)from by simp)];rw[o.fr];refine wy (some X.env.locals) f1 f3 f4 fun h' k1 k2 k3 up=>?_;obtain⟨u,k⟩:=c.turn o.sub (ki f3) f1 k1 up x.un x.hok o.old;exact h _ ⟨x.os,x.bare,u,k,x.fe,B,c,.held ⟨k1,f2,k2,k3⟩⟩
theorem XE.passes{E:XK}(o:Own X):PassesOwn (model X.prog X.w) X.A X.env (XE X E):=fun ev s' hx=>by
 obtain⟨e,C,dd,H',rfl,hE,x⟩:=hx;exact x.note o fun s'' x'' hh=>x''.back o hh fun s3 x3=>⟨e,C,dd,H',rfl,hE,x3⟩
theorem ExcAt.leave{M:Model}{E':Value->Shared->Prop}{H':Hp}{e:Addr}{C:Value}{dd:Option Addr}{s':Shared}{E:XK}(o:Own X)(hex:X.ex=[])(x:ExcAt X H' e C dd s')(hE:E C dd H') :
  wpAny M X.A (leaving X.env (.ref e)) (fun _ s''=>CX1 X.prog X.w X.outer X.H₀ X.s₀ E (.ref e) s'') E' s':=by
 unfold leaving;refine wpAny_bind (x.note o fun s2 x2 ⟨B,⟨f1,f2,f3,f4⟩,c⟩=>?_);refine wy none f1 f3 f4 fun h' k1 k2 k3 up=>?_;obtain⟨u,k⟩:=c.turn o.sub (ki f3) f1 k1 up x2.un x2.hok o.old;rw[hex]at u c;rw[o.top]at k2;obtain⟨_,_,k2⟩:=k2;exact⟨e,C,dd,H',rfl,hE,x2.os,x2.bare,u,k,x2.fe,B,⟨k1,f2,k2,k3⟩,c.trk,fun b ob q n hb hx=>c.old b ob q n (fun z=>hb (o.old b ob q z)) hx,fun b ob q hb hx=>c.all b ob q (fun z=>hb (o.old b ob q z)) hx⟩
theorem ExcAt.come{pins:List (Addr×Obj)}{σ:St}{H:Hp}{s:Shared}{E:XK}{ev:Value}{s':Shared}(o:Own X)(I:Inv X pins σ H s)(h:CX1 X.prog X.w X.stack H s E ev s') :
  ∃(e:Addr)(C:Value)(dd:Option Addr)(H':Hp),ev= .ref e/\E C dd H'/\ExcAt X H' e C dd s':=by
 obtain⟨e,C,dd,H',rfl,hE,hos,hb,un,hok,fe,B,hf,c⟩:=h;have neL:∀b ob,X.s₀.heap.get? b=some ob->b≠X.env.locals:=fun b ob q=>ne_of_lt (lt_of_lt_of_le (Heap.lt_size q) I.ok.above);refine⟨e,C,dd,H',rfl,hE,hos.trans I.os,hb,⟨fun b ob q n hb hx=>?_,fun b ob q n hb hx=>?_,fun b ob q n hx=>?_,fun b ob q hx=>?_,fun b xs q=>un.tups b xs (I.base.tups b xs q),fun b ob u q=>un.frzs b ob u (I.base.frzs b ob u q),fun b ps q=>?_⟩,hok,fe,B,⟨c.trk,fun b ob q n hb hx=>?_,fun b ob q hb hx=>?_⟩,.fly hf⟩
 ·refine un.keep b ob (I.base.keep b ob q n hb hx) (I.base.free b ob q n hx) (fun z=>?_) (by simp);exact hb (o.old b ob q z)
 ·obtain⟨sl,e1⟩:=I.base.slot b ob q n hb hx;obtain⟨sl',e2⟩:=un.any e1 (I.base.free b ob q n hx) (by simp);exact⟨sl',e2⟩
 ·obtain⟨o',e1⟩:=I.base.there b ob q hx;exact un.free b o' e1 (I.base.free b ob q n hx) (by simp)
 ·obtain⟨o',e1⟩:=I.base.there b ob q hx;exact un.there b o' e1 (by simp)
 ·obtain⟨m1,e1⟩:=I.base.tbls b ps q;obtain⟨m2,e2⟩:=un.tbls b _ e1;exact⟨m1++m2,by rw[e2,Array.append_assoc]⟩
 ·exact c.old b ob (I.base.keep b ob q n (fun z=>hb (o.sub b z)) hx) (I.base.free b ob q n hx) hb (by simp)
 ·obtain⟨o',e1⟩:=I.base.there b ob q hx;exact c.all b o' e1 hb (by simp)
end
theorem PSs.wished{X:Cx}{E:Value->Shared->Prop}{st:List Stmt}{t:TS}(h:PSs (X.wish E) st t)(hE:X.Ok-> ∀ev s',E ev s'->X.xe ev s'):PSs X st t:=fun pins s σ H D I hw =>
 wpAny_mono (h pins s σ H D (I.wish E) hw) (fun f s' q=>q.unwish) fun ev s' q=>hE I.ok ev s' q
section
variable{P:Program}{w:World}{K:W.Frag}{mg:Str->Option Value}{base:Heap}
theorem Fun.okE{x qual:Str}{st:Stmt}{f:Addr}{fd:FuncData}{N ps:List Str}{k:Nat}{sp:Sp}{cm:Bool}(F:Fun K x qual st f fd)(S:FnScope N ps (z7 st))(len:∀vs H Q E,sp vs H Q E->vs.length=ps.length)(hbody:∀(cdv:Value) (A:Around) (outer:List Env) (s:Shared) (H:Hp) (vs:List V) (Q:VK) (E:XK),Room k (A.deeper (envOfC qual (z7 st) s.heap.objs.size f cdv)) cm->sp vs H Q E->
   ∃t,PSs ((cxOf (CX1 P w) P w K mg base N qual (z7 st) f cdv A outer s H E cm).wish (XE (cxOf (CX1 P w) P w K mg base N qual (z7 st) f cdv A outer s H E cm) E)) (kQ st) t/\t {nx:=fun _ H'=>Q .non H',rt:=Q} (rJ N vs) H):FnOk P w K mg base (CX1 P w) (k+1) f fd ps sp cm:=by
 obtain⟨oc,od,kV,doc,pm,an,cdv,ct,osl,rfl,lk,hcd⟩:=F.ex;refine fn_of lk hcd S len fun A outer s H vs Q E hr hsp=>?_;obtain⟨t,h,q⟩:=hbody cdv A outer s H vs Q E hr hsp;refine⟨t,h.wished fun ok ev s' hx=>?_,q⟩;obtain⟨e,C,dd,H',rfl,hE,x⟩:=hx;exact ExcAt.leave (X:=cxOf (CX1 P w) P w K mg base N qual (z7 st) f cdv A outer s H E cm) ⟨ok,rfl,rfl⟩ rfl x hE
end
theorem pass1{X:Cx}{E E':XK}(top:X.stack=X.env::X.outer)(fr:X.env.frame=some X.env.locals)(h:∀C dd H',E' C dd H'->E C dd H'):jq (CX1 X.prog X.w) (X.wish (XE X E)) E':=fun pins σ H s e s' I hx=>by
 obtain⟨e,C,dd,H',rfl,hE,x⟩:=ExcAt.come (X:=X) ⟨I.unwish.ok,top,fr⟩ I.unwish hx;exact⟨e,C,dd,H',rfl,h C dd H' hE,x⟩
theorem own1{X:Cx}{E:XK}(top:X.stack=X.env::X.outer)(fr:X.env.frame=some X.env.locals)(ok:X.Ok):PassesOwn (model (X.wish (XE X E)).prog (X.wish (XE X E)).w) (X.wish (XE X E)).A (X.wish (XE X E)).env (X.wish (XE X E)).xe:=XE.passes (X:=X) ⟨ok,top,fr⟩
theorem zU.some{P:Program}{w:World}{H:Hp}{h:Heap}{a:Addr}{o:HO}(x:zU P w H h a o):∃ob,h.get? a=some ob:=by
 induction o with
 |lst xs=>obtain⟨_,_,_,_,e⟩:=x;exact⟨_,e⟩
 |tup xs=>obtain⟨_,_,_,⟨ob,e,_⟩,_⟩:=x;exact⟨_,e⟩
 |dK kvs=>obtain⟨_,_,_,_,o,_,_,e,_⟩:=x;exact⟨_,e⟩
 |dT kvs=>obtain⟨_,_,_,_,o,_,_,e,_⟩:=x;exact⟨_,e⟩
 |set S n=>obtain⟨ob,_,_,_,e,_⟩:=x;exact⟨_,e⟩
 |ins C dx fs=>obtain⟨_,_,_,e,_⟩:=x;exact⟨_,e⟩
 |own y=>exact x
 |xd fs=>obtain⟨_,⟨ob,_,_,e,_⟩,_⟩:=x;exact⟨_,e⟩
 |rng lo hi=>obtain⟨_,_,_,e⟩:=x;exact⟨_,e⟩
 |frz ob u _=>exact⟨_,x.1⟩
 |tbl ps=>exact⟨_,x⟩
 |met f y=>exact⟨_,x⟩
 |ext φ=>exact x.2.1
theorem ExcAt.made{X:Cx}{pins:List (Addr×Obj)}{σ:St}{H:Hp}{s:Shared}{h':Heap}{e:Addr}{C:Value}{args:List Value}(I:Inv X pins σ H s)(m:Heap.MadeExcOf s.heap h' e C args):ExcAt X H e C none {s with heap:=h'}:=by
 obtain⟨t,he,htn,ht⟩:=m.there;have k:∀b ob,s.heap.get? b=some ob->h'.get? b=some ob:=m.keeps;have hnone:H e=none:=by
  cases q:H e with
  |none=>rfl
  |some u =>
   obtain⟨ob,e1⟩:=(I.hok e u q).some;rw[m.new]at e1;cases e1
 have sub:∀b,b∉frs X.stack->b∉X.fs:=fun b hb z=>by
  rcases I.ok.stk with e|⟨e,hf⟩
  ·rw[e]at hb;exact hb z
  ·rw[e]at hb;unfold frs at hb;rw[filterMap_cons,hf]at hb;exact hb (mem_cons_of_mem _ z)
 refine⟨I.os,I.bare,I.base.trans (Un.kept k),I.hok.kept k,hnone,W.hideAll s.heap (frs X.stack),⟨fun b u q=>?_,fun b ob q n hb hx=>?_,fun b ob q hb hx=>?_⟩,?_⟩
 ·obtain⟨ob,e1⟩:=(I.hok b u q).some;exact⟨ob,W.hideAll_get _ e1 fun z=>by rw[I.stkFree b z]at q;cases q⟩
 ·exact W.hideAll_get _ (I.base.keep b ob q n (sub b hb) hx) hb
 ·obtain⟨o',e1⟩:=I.base.there b ob q hx;exact⟨o',W.hideAll_get _ e1 hb⟩
 ·refine .made _ _ (fun b ob q=>k b ob (W.of_hideAll _ q)) ?_ ?_ he rfl rfl rfl rfl
  ·refine(W.funFrames_hide I.stack fun env hm a ha=>List.mem_filterMap.mpr ⟨env,hm,ha⟩).of_keeps fun b ob q _=>⟨ob,k b ob q,rfl⟩
  ·cases q:(W.hideAll s.heap (frs X.stack)).get? e with
   |none=>rfl
   |some ob=>have:=W.of_hideAll _ q;rw[m.new]at this;cases this
def bmV:List Value:=[.type "ValueError",.type "Exception",.type "BaseException",.type "object"]
structure ExcC(K:W.Frag)(C:Addr):Prop where
 inn:W.excIn K C bmV "ValueError.__new__"=true
 kp:W.keepIn K (.ref C)=true
theorem ExcC.obj{K:W.Frag}{C:Addr}{h:Heap}(c:ExcC K C)(X:K.In h):∃(bm:List Value)(N:Addr)(nm q:Str)(bs:List Value)(hdct:Bool)(sn:List Str)(sub:List Value)(ab:Bool)(col:Option Bool)(dd:Option Addr)(k0 k1 k2 k3 k5:Option Value)(mN:Str->Option Value),
  h.get? C=some (excClassObj nm q C N bs bm hdct sn sub ab col dd k0 k1 k2 k3 k5 "ValueError.__new__")/\h.Ns N mN/\mN "__init__"=none/\OwnTail h bmV bm/\K.lookup C=some (excClassObj nm q C N bs bm hdct sn sub ab col dd k0 k1 k2 k3 k5 "ValueError.__new__"):=by
 have q:=c.inn;unfold W.excIn at q;split at q
 ·rename_i dd cd sl ho;split at q
  ·rename_i C' bm k0 k1 k2 k3 n k5 hm hs;simp only[and_eq_true,beq_iff_eq,Bool.not_eq_true']at q;obtain⟨⟨⟨⟨⟨rfl,rfl⟩,hdel⟩,ht⟩,hok⟩,hni⟩:=q;obtain⟨nm,bs,mro,ns,qn,hd,sn,sub,ab,col,del⟩:=cd;dsimp only at hm hdel hok hni;subst hm hdel;have hsl:sl= #[k0,k1,k2,k3,some (.builtin "ValueError.__new__"),k5]:=by
    obtain⟨l⟩:=sl;simp only at hs;rw[hs]
   subst hsl;exact⟨bm,ns,nm,qn,bs,hd,sn,sub,ab,col,dd,k0,k1,k2,k3,k5,_,X _ _ ho,.of_isNs (W.isNs_of_in X hok),W.nsMap_none_of_in X hok hni,W.tail_of_in X ht,ho⟩
  ·cases q
 ·cases q
def tRaise(C:Addr)(E:XK)(ta:TA):TS:=fun _ σ H=>ta σ H fun vs H1=>vs.length<=sizeLine/\E (.ref C) none H1
theorem yx{X:Cx}{E:XK}{C:Addr}{x:Str}{a:Expr}{args:List Expr}{np cpos pos:Pos}{ta:TA}(hc:X.calm=true)(c:ExcC X.K C)(hg:Gl (X.wish (XE X E)) x)(hm:X.mg x=some (.ref C))(ha:PA (X.wish (XE X E)) (a::args) ta)(hd:(x==("__debug__" : Str))=false:=by decide)(he:starEach (a::args) X.env=(false,eval a X.env)::starEach args X.env:=by rfl)(hplain:(backTo cpos (starEach args X.env)).any (·.1)=false:=by rfl) :
  PS (X.wish (XE X E)) (.Raise (some (.Call (.Name x np) (a::args) [] cpos)) none pos) (tRaise C E ta):=by
 intro pins s σ H D I hw;obtain⟨bm,N,nm,q,bs,hdct,sn,sub,ab,col,dd,k0,k1,k2,k3,k5,mN,hC,hn,hni,hT,hlk⟩:=c.obj I.ok.mod.kin;have hpl:(backTo cpos (starEach (a::args) X.env)).any (·.1)=false:=by
  rw[he];show(false||(backTo cpos (starEach args X.env)).any (·.1))=false;rw[hplain];rfl
 refine wpAny_Raise_call_subU (C:=C) (mN:=mN) (nm:=nm) (q:=q) (N:=N) (bs:=bs) (hdct:=hdct) (sn:=sn) (sub:=sub) (ab:=ab) (col:=col) (dd:=dd) (k0:=k0) (k1:=k1) (k2:=k2) (k3:=k3) (k5:=k5) (bmB:=bmV) PySem.F.excBase_ValueError (by decide) PySem.F.excBase_ValueError (hT.hasType (by decide)) (I.ok.hd hc) hpl hni ?_;refine wb I hg hm ⟨rfl,?_⟩ hd;have hA:=ha cpos pins s σ H _ I hw;rw[show(X.wish (XE X E)).env=X.env from rfl,he]at hA;rw[he];refine Calls.evalArgs_plain (thn hA fun us s1 ⟨vs,H1,I1,r,hl,hE⟩=>?_);have kb:∀b ob,X.base.get? b=some ob->s1.heap.get? b=some ob:=I1.bk;exact⟨rfl,by rw[<-r.length];exact hl,kb _ _ hC,hn.keeps kb,hT.keeps kb,fun h' e m=>⟨e,.ref C,none,H1,rfl,hE,ExcAt.made I1.unwish m⟩⟩
structure Lnd(X:Cx)(s:Shared)(H H':Hp)(e:Addr)(C:Value)(dd:Option Addr)(s3:Shared):Prop where
 os:s3.os=s.os
 bare:AllBare s3.gens
 un:Un (frs X.stack) [] H H' s.heap s3.heap
 hok:HOk X.prog X.w H' s3.heap
 fe:H' e=none
 st:∃B,FlyD B X.stack e C dd s3.heap/\Cov s.heap H (frs X.stack) [] H' B
def IsExc(e:Addr)(C:Value)(h:Heap):Prop:=∃ oe vs,h.get? e=some oe/\oe.cls=C/\oe.data= .fields vs
section
variable{X:Cx}{pins:List (Addr×Obj)}{σ:St}{H H':Hp}{s s3:Shared}{e:Addr}{C:Value}{dd:Option Addr}
theorem Lnd.inv(I:Inv X pins σ H s)(l:Lnd X s H H' e C dd s3):Inv X pins σ H' s3:=I.call' l.os l.un l.hok l.bare (fun b z=>nomatch z)
theorem CX1.lands{M:Model}{E:XK}{E':Value->Shared->Prop}{ev:Value}{s':Shared}{Q:Unit->Shared->Prop}(hfr:X.A.frames=some (X.env::X.outer))(top:X.stack=X.env::X.outer)(fr:X.env.frame=some X.env.locals)(h:CX1 X.prog X.w X.stack H s E ev s')(hQ:∀e C dd H' s3,ev= .ref e->E C dd H'->Lnd X s H H' e C dd s3->Q () s3):wpAny M X.A (noteFrame ev X.env) (fun _ s2=>wpAny M X.A (setFlight ev none) Q E' s2) E' s':=by
 obtain⟨e,C,dd,H',rfl,hE,hos,hb,un,hok,fe,B,hf,c⟩:=h;have hf':=hf;rw[top]at hf;refine cO hfr fr hf fun h2 hh up=>?_;obtain⟨f1,f2,f3,f4⟩:=hh;refine wy none f1 f3 f4 fun h3 k1 k2 k3 up3=>?_;obtain⟨u,k⟩:=c.turn (P:=X.prog) (w:=X.w) (fs:=frs X.stack) (fun _ z=>z) (ki hf'.2.2.1) hf.1 k1 (up.trans up3) un hok (fun _ _ _ z=>z);rw[<-top]at k2;exact hQ e C dd H' _ rfl hE ⟨hos,hb,u,k,fe,B,⟨k1,f2,k2,k3⟩,c⟩
theorem Lnd.again{M:Model}{A:Around}{E':Value->Shared->Prop}{Q:Unit->Shared->Prop}(l:Lnd X s H H' e C dd s3)(hQ:∀s4,Lnd X s H H' e C dd s4->Q () s4):wpAny M A (setFlight (.ref e) none) Q E' s3:=by
 obtain⟨B,⟨f1,f2,f3,f4⟩,c⟩:=l.st;refine wy none f1 f3 f4 fun h' k1 k2 k3 k4=>?_;obtain⟨u,k⟩:=c.turn (P:=X.prog) (w:=X.w) (fs:=frs X.stack) (fun _ z=>z) (ki f3) f1 k1 k4 l.un l.hok (fun _ _ _ z=>z);exact hQ _ ⟨l.os,l.bare,u,k,l.fe,B,⟨k1,f2,k2,k3⟩,c⟩
theorem Lnd.obj(l:Lnd X s H H' e C dd s3):IsExc e C s3.heap:=by
 obtain⟨B,⟨f1,f2,f3,oe,vs,T,oT,ts,he,hc,hd,_⟩,c⟩:=l.st;exact⟨oe,vs,he,hc.1,hd⟩
theorem Lnd.new(l:Lnd X s H H' e C dd s3):s.heap.get? e=none:=by
 obtain⟨oe,vs,he,hc,hd⟩:=l.obj;obtain⟨B,⟨f1,f2,f3,f4⟩,c⟩:=l.st;cases q:s.heap.get? e with
 |none=>rfl
 |some o =>
  by_cases hm:e∈frs X.stack
  ·obtain⟨o1,e1,nf⟩:=ki f3 e hm;rw[he]at e1;cases e1;exact absurd hd (nf vs)
  ·obtain⟨o',e'⟩:=c.all e o q hm (by simp);rw[f2]at e';cases e'
def vh(e:Addr)(C:Value)(dd:Option Addr)(h:Heap):Prop:=∃ oe vs,h.get? e=some oe/\oe.cls=C/\oe.dict=dd/\oe.data= .fields vs
theorem Lnd.objD(l:Lnd X s H H' e C dd s3):vh e C dd s3.heap:=by
 obtain⟨B,⟨f1,f2,f3,oe,vs,T,oT,ts,he,hc,hd,_⟩,c⟩:=l.st;exact⟨oe,vs,he,hc.1,hc.2,hd⟩
theorem Lnd.track(I:Inv X pins σ H s)(l:Lnd X s H H' e C dd s3){φ:Heap->Prop}(hφ:φ s3.heap)(mono:∀h h',φ h->(∀o,h.get? e=some o->h'.get? e=some o)-> φ h'):Inv X pins σ (upd H' e (.ext φ)) s3:=by
 have hnew:=l.new;have ne:∀b u,H b=some u->b≠e:=fun b u q z=>by
  obtain⟨o,ho⟩:=(I.hok b u q).some;rw[z,hnew]at ho;cases ho
 have ne':∀b o,s.heap.get? b=some o->b≠e:=fun b o q z=>by rw[z,hnew]at q;cases q
 have hn:∀b u,H' b=some u->b≠e:=fun b u q z=>by rw[z,l.fe]at q;cases q
 refine I.call' l.os ⟨l.un.keep,l.un.slot,fun b o q n hx=>?_,l.un.there,fun b xs q=>?_,fun b o u q=>?_,fun b ps q=>?_⟩ (fun b u q=>?_) l.bare (fun b z=>nomatch z)
 ·rw[zh (ne' b o q)];exact l.un.free b o q n hx
 ·rw[zh (ne b _ q)];exact l.un.tups b xs q
 ·rw[zh (ne b _ q)];exact l.un.frzs b o u q
 ·rw[zh (ne b _ q)];exact l.un.tbls b ps q
 ·by_cases hb:b=e
  ·subst hb;rw[z6]at q;cases q;obtain⟨oe,vs,he,hc,hd⟩:=l.obj;exact⟨hφ,⟨oe,he⟩,mono⟩
  ·rw[zh hb]at q;exact(l.hok b u q).stay (fun _ _ _ q=>q) (fun c q=>by rw[zh (hn c _ q)];exact q) fun c xs q=>by rw[zh (hn c _ q)];exact q
theorem Lnd.trackedD(I:Inv X pins σ H s)(l:Lnd X s H H' e C dd s3):Inv X pins σ (upd H' e (.ext (vh e C dd))) s3:=l.track I l.objD fun h h' ⟨oe,vs,he,hc,h1,hd⟩ k=>⟨oe,vs,k oe he,hc,h1,hd⟩
end
abbrev Cx.inH(X:Cx)(e:Addr):Cx:={X with A:=X.A.mark (some (.ref e)),calm:=false}
section
variable{X:Cx}{pins:List (Addr×Obj)}{σ:St}{H:Hp}{s:Shared}{e:Addr}
theorem Cx.Ok.inH(ok:X.Ok)(hfr:(X.A.mark (some (.ref e))).frames=X.A.frames:=by rfl):(X.inH e).Ok :=
 ⟨ok.mod,ok.kind,ok.glob,ok.blt,ok.above,ok.inj,ok.has,ok.cab,(fun z=>nomatch z),hfr.trans ok.frames,ok.stk,ok.exf,ok.bs,ok.bsz,ok.noex,ok.exfs,ok.funs,ok.frf⟩
theorem Inv.inH(I:Inv X pins σ H s):Inv (X.inH e) pins σ H s:=⟨I.ok.inH,I.os,I.bare,I.base,I.loc,I.cell,I.free,I.freeC,I.pin,I.hok,I.len⟩
theorem Inv.ofH(ok:X.Ok)(I:Inv (X.inH e) pins σ H s):Inv X pins σ H s:=⟨ok,I.os,I.bare,I.base,I.loc,I.cell,I.free,I.freeC,I.pin,I.hok,I.len⟩
theorem goes{M:Model}{A:Around}{E:Value->Shared->Prop}{i:Nat}{n:Str}{pos:Pos}{Q:Unit->Shared->Prop}(I:Inv X pins σ H s)(hN:X.N.Nodup)(hi:X.N[i]? =some n)(hk:X.env.scope.names.lookup n=some .local)(h:∀s',Inv X pins (σ.set i none) H s'->Q () s'):wpAny M A (do bindName X.env n .none;unbindBehindTheSuite X.env n pos) Q E s:=by
 obtain⟨m,hn,hl⟩:=id I.loc;have hcls:(X.env.scope.kind== .class||(X.env.scope.kind== .module&&X.env.locals !=X.env.globals))=false:=by rw[I.ok.kind];rfl
 have hiσ:i< σ.length:=by rw[I.len];exact(List.getElem?_eq_some_iff.mp hi).1
 have cne:=I.cne;refine wpAny_nameGoes_keeps hk hn hcls fun h' v hn' hs=>?_;obtain⟨oL,_,_,hoL,_⟩:=id hn;refine h _ ⟨I.ok,I.os,I.bare,⟨fun b o e n hb hx=>?_,fun b o e n hb hx=>?_,I.base.free,fun b o e hx=>?_,I.base.tups,I.base.frzs,I.base.tbls⟩,⟨_,hn',fun j y v' e1 e2 e3=>?_⟩,fun y c e=>?_,I.free,I.freeC,fun p hp=>?_,fun b ob e=>?_,by simpa using I.len⟩
 ·exact(hs.2 b (ne_of_lt (lt_of_lt_of_le (Heap.lt_size e) I.ok.above))).trans (I.base.keep b o e n hb hx)
 ·obtain⟨sl,e1⟩:=I.base.slot b o e n hb hx;exact⟨sl,(hs.2 b (ne_of_lt (lt_of_lt_of_le (Heap.lt_size e) I.ok.above))).trans e1⟩
 ·obtain⟨o',e1⟩:=I.base.there b o e hx;exact⟨o',(hs.2 b (ne_of_lt (lt_of_lt_of_le (Heap.lt_size e) I.ok.above))).trans e1⟩
 ·by_cases hj:j=i
  ·subst hj;rw[List.getElem?_set_self hiσ]at e2;cases e2
  ·rw[List.getElem?_set_ne (Ne.symm hj)]at e2;obtain⟨u',r',q⟩:=hl j y v' e1 e2 e3;refine⟨u',r',?_⟩;rcases q with⟨k,e⟩|⟨k,c,e,z⟩
   ·refine .inl ⟨k,?_⟩;have:y≠n:=fun e=>hj (xO hN e1 (e▸hi));simp[this,e]
   ·exact .inr ⟨k,c,e,z.sameBut hs (cne y c e)⟩
 ·obtain⟨w',z⟩:=I.cell y c e;exact⟨w',z.sameBut hs (cne y c e)⟩
 ·obtain⟨e,n,ne,nf,d⟩:=I.pin p hp;exact⟨(hs.2 p.1 ne).trans e,n,ne,nf,d⟩
 ·refine(I.hok b ob e).stay (fun c w' hc q=>(hs.2 c ?_).trans q) (fun _ q=>q) fun _ _ q=>q;rintro rfl;rcases hc with rfl|hc
  ·rw[I.free]at e;cases e
  ·rw[I.free]at hc;cases hc
end
end L2
namespace L2
open PySem PySem.Spec PyProof.Rows PySem.W PySem.Calls PySem.Builtin PySem.Builtin.ObjectAttr PySem.Builtin.Getset_descriptor
structure ClsE(K:Frag)(D:Addr):Prop where
 ga:findIn K (.ref D) "__getattribute__"=some (some (.builtin "BaseException.__getattribute__"))
 gn:findIn K (.ref D) "__getattr__"=some none
 fd:findIn K (.ref D) "__class__"=some (some (.builtin "object.__class__"))
 sp:specialIn K (.builtin "object.__class__") "__get__"=some (some (.builtin "getset_descriptor.__get__"))
 tk:takesIn K (.builtin "object.__class__")=some true
 ob:mroIn K D (.type "object")=some true
 be:mroIn K D (.type "BaseException")=some true
theorem pQ{M:Model}{A:Around}{E:Value->Shared->Prop}{nm q nm' q':Str}{C N S N':Addr}{bs bm bs' bm':List Value}{hdct hdct':Bool}{sn sn':List Str}{sub sub':List Value}{ab ab':Bool}{col col':Option Bool}{dd dd':Option Addr}{k0 k1 k2 k3 k5 k0' k1' k2' k3' k5':Option Value}{newId newId':String}{h:Heap}{g:Array GenState}{d:Drawn}{t:Nat}{os:OsState}{e:Addr}{oe:Obj}{Q:Bool->Shared->Prop}(hC:h.get? C=some (excClassObj nm q C N bs bm hdct sn sub ab col dd k0 k1 k2 k3 k5 newId))(hS:h.get? S=some (excClassObj nm' q' S N' bs' bm' hdct' sn' sub' ab' col' dd' k0' k1' k2' k3' k5' newId'))(he:h.get? e=some oe)(hcls:oe.cls= .ref C)(hb:bm'.contains (.type "BaseException")=true)(hm:(Value.ref C::bm).contains (.ref S)=true)(hq:Q true ⟨h,g,d,t,os⟩):wpAny M A (excMatches (.ref e) (.ref S)) Q E ⟨h,g,d,t,os⟩:=by
 have hB:(Value.ref S::bm').contains (.type "BaseException")=true:=by rw[List.contains_cons,hb,Bool.or_true]
 have f:=tc_notTuple;unfold excMatches
 repeat (first|(with_reducible refine wpAny_loadPart_at he ?_;rw[hcls])|with_reducible refine wpAny_loadPart_at hS ?_|(with_reducible refine wpAny_isSubtype_exc hS ?_;rw[hB])|(with_reducible refine wpAny_isSubtype_exc hC ?_;rw[hm])|wp_step)
 exact hq
end L2
namespace L2
open PySem PySem.Spec PyProof.Rows PySem.W
abbrev TX:=St->Hp->VK->XK->Prop
def PX(X:Cx)(e:Expr)(t:TX):Prop:=∀(pins:List (Addr×Obj))(s:Shared)(σ:St)(H:Hp)(Q:VK)(E:XK),Inv X pins σ H s->t σ H Q E->
 wpAny (model X.prog X.w) X.A (eval e X.env) (EP X pins σ Q) (fun ev s'=>∃ H1 s1,Inv X pins σ H1 s1/\CX1 X.prog X.w X.stack H1 s1 E ev s') s
def IsXC(K:Frag)(c:Addr)(bm:List Value):Prop:=∃(nm q:Str)(N:Addr)(bs:List Value)(hdct:Bool)(sn:List Str)(sub:List Value)(ab:Bool)(col:Option Bool)(dd:Option Addr)(k0 k1 k2 k3 k5:Option Value)(newId:String),
 K.lookup c=some (excClassObj nm q c N bs bm hdct sn sub ab col dd k0 k1 k2 k3 k5 newId)
structure Takes(K:Frag)(c S:Addr):Prop where
 ex:∃bm bm',IsXC K c bm/\IsXC K S bm'/\bm'.contains (.type "BaseException")=true/\(Value.ref c::bm).contains (.ref S)=true
theorem ps_ok{X:Cx}{st:Stmt}{t:TS}(h:X.Ok->PS X st t):PS X st t:=fun pins s σ H D I hw=>h I.ok pins s σ H D I hw
theorem pass01{X:Cx}{P:Program}{w:World}:jq (CX1 P w) X E0:=fun _ _ _ _ _ _ _ ⟨_,_,_,_,_,h,_⟩=>h.elim
theorem ownE{X:Cx}{E:XK}(ok:(X.wish (XE X E)).Ok)(top:X.stack=X.env::X.outer:=by rfl)(fr:X.env.frame=some X.env.locals:=by rfl):PassesOwn (model (X.wish (XE X E)).prog (X.wish (XE X E)).w) (X.wish (XE X E)).A (X.wish (XE X E)).env (X.wish (XE X E)).xe:=own1 top fr ok.unwish
theorem uT{X:Cx}{E:XK}(top:X.stack=X.env::X.outer:=by rfl)(fr:X.env.frame=some X.env.locals:=by rfl):jq (CX1 X.prog X.w) (X.wish (XE X E)) E:=pass1 top fr fun _ _ _ h=>h
theorem ExcC.isX{K:Frag}{C:Addr}{h:Heap}(c:ExcC K C)(X:K.In h):∃bm,IsXC K C bm/\OwnTail h bmV bm:=by
 obtain⟨bm,N,nm,q,bs,hdct,sn,sub,ab,col,dd,k0,k1,k2,k3,k5,mN,hC,hn,hni,hT,hlk⟩:=c.obj X;exact⟨bm,⟨nm,q,N,bs,hdct,sn,sub,ab,col,dd,k0,k1,k2,k3,k5,_,hlk⟩,hT⟩
end L2
namespace L2
open PySem PySem.Spec PyProof.Rows
def gM:Bool->String
 |true => "tuple_iterator"
 |false => "list_iterator"
def kN(k:Bool)(h:Heap)(it l:Addr)(i:Nat):Prop:=∃ o,h.get? it=some o/\o.cls= .type (gM k)/\o.data= .fields #[.ref l,.int i 0]
def kh(k:Bool)(h:Heap)(l:Addr)(items:Array Value):Prop :=
 match k with
 |true=>h.IsTuple l items
 |false=>h.IsList l items
theorem kN.kept{k:Bool}{h h':Heap}{it l:Addr}{i:Nat}(x:kN k h it l i)(f:∀o,h.get? it=some o->h'.get? it=some o):kN k h' it l i :=
 let⟨o,e,r⟩:=x;⟨o,f o e,r⟩
theorem kN.lt{k:Bool}{h:Heap}{it l:Addr}{i:Nat}(x:kN k h it l i):it<h.objs.size:=let⟨_,e,_⟩:=x;Heap.lt_size e
theorem kh.kept{k:Bool}{h h':Heap}{l:Addr}{items:Array Value}(x:kh k h l items)(f:∀o,h.get? l=some o->h'.get? l=some o):kh k h' l items:=by
 cases k
 ·obtain⟨o,e,r⟩:=x;exact⟨o,f o e,r⟩
 ·obtain⟨o,e,r⟩:=x;exact⟨o,f o e,r⟩
theorem kh.lt{k:Bool}{h:Heap}{l:Addr}{items:Array Value}(x:kh k h l items):l<h.objs.size:=by
 cases k
 ·obtain⟨o,e,_⟩:=x;exact Heap.lt_size e
 ·obtain⟨o,e,_⟩:=x;exact Heap.lt_size e
section
variable{prog:Program}{w:World}{A:Around}{E:Value->Shared->Prop}{s:Shared}
theorem gQ{it l:Addr}{i:Nat}{items:Array Value}{Q:Value->Shared->Prop}(hit:s.heap.IsTupleIter it l i)(ht:s.heap.IsTuple l items)(h:match items[i]? with
   |some x=>∀ h',h'.IsTupleIter it l (i+1)->Heap.SameBut it s.heap h'->Q x {s with heap:=h'}
   |none=>A.handled=none/\ ∀h' e,Heap.ExtBut it s.heap h'->(∃o,h'.get? e=some o/\o.cls= .type "StopIteration")->E (.ref e) {s with heap:=h'}) :
  wpAny (model prog w) A (Builtin.SmallTypes.nextOf (.ref it)) Q E s:=by
 obtain⟨oi,e1,c1,d1⟩:=id hit;obtain⟨ot,e2,_,m2,d2⟩:=ht;unfold Builtin.SmallTypes.nextOf;refine wpAny_bind (wpAny_callSpecial?_slot (name:=Str.ofString "__next__") hit.typeIs F.slot_tuple_iterator_next (wpAny_call_entry F.slot_tuple_iterator_next hit.typeIs F.entry_tuple_iterator_next ?_ (F.args_tuple_iterator_next_1 _)));show wpAny _ _ (field (.ref it) 0 >>= _) _ _ s;refine wpAny_bind (wpAny_field e1 d1 (x:=.ref l) rfl ?_);show wpAny _ _ (if(Value.ref l==Value.none)=true then _ else _) _ _ s;rw[if_neg (show ¬((Value.ref l==Value.none)=true)from Bool.false_ne_true)];show wpAny _ _ (field (.ref it) 1 >>= _) _ _ s;refine wpAny_bind (wpAny_field e1 d1 (x:=.int i 0) rfl ?_);show wpAny _ _ (seqItems? (.ref l) >>= _) _ _ s;refine wpAny_bind (wpAny_seqItems e2 d2 ?_);cases hx:items[i]? with
 |some x =>
  rw[hx]at h;simp only[toNat_natCast,hx];refine wpAny_bind (wpAny_setField e1 d1 (by simp) (wpAny_pure ⟨x,rfl,wpAny_pure (h _ ?_ (Heap.SameBut.update ..))⟩));refine⟨_,Heap.get?_update_self _ e1 (Obj.isFreed_of_fields (Obj.data_mapFields d1 _)),(Obj.cls_mapFields ..).trans c1,?_⟩;rw[Obj.data_mapFields d1];simp[rawInt]
 |none =>
  rw[hx]at h;obtain⟨hh,h⟩:=h;simp only[toNat_natCast,hx];refine wpAny_bind (wpAny_rule (wpAny_bind (wpAny_setField e1 d1 (by simp) ?_)));show wpAny _ _ (newExc (.type "StopIteration") [] >>= _) _ _ _;refine wpAny_bind ?_;simp only[newExc,newTuple];refine wpAny_bind (wpAny_newObj_type ?_ (by size_fits));refine wpAny_bind (m:=firstArgMember _ _) (wpAny_of_eq (a:=Value.none) (by first|rfl|(simp only[firstArgMember];rfl)) ?_);refine wpAny_newObj_type ?_ (by size_fits);simp only[raiseNew];refine wpAny_bind (wpAny_handled ?_)
  first|rw[show A.in1.handled=none from hh]|rw[hh]
  exact wpAny_bind (wpAny_pure (wpAny_throw (h _ _ (((Heap.SameBut.update ..).extBut.push _).push _) ⟨_,Heap.get?_push_size _ rfl,rfl⟩)))
theorem nextS{k:Bool}{it l:Addr}{i:Nat}{items:Array Value}{x:Value}{Q:Value->Shared->Prop}(hit:kN k s.heap it l i)(hl:kh k s.heap l items)(hx:items[i]? =some x)(hQ:∀h',kN k h' it l (i+1)->Heap.SameBut it s.heap h'->Q x {s with heap:=h'}):wpAny (model prog w) A (Builtin.SmallTypes.nextOf (.ref it)) Q E s:=by
 cases k
 ·exact wpAny_nextOf_list_item hit hl hx hQ
 ·exact gQ hit hl (by rw[hx];exact hQ)
theorem endS{k:Bool}{it l:Addr}{i:Nat}{items:Array Value}{Q:Value->Shared->Prop}(hh:A.handled=none)(hit:kN k s.heap it l i)(hl:kh k s.heap l items)(hx:items[i]? =none)(hE:∀h' e,Heap.ExtBut it s.heap h'->(∃o,h'.get? e=some o/\o.cls= .type "StopIteration")->E (.ref e) {s with heap:=h'}):wpAny (model prog w) A (Builtin.SmallTypes.nextOf (.ref it)) Q E s:=by
 cases k
 ·exact wpAny_nextOf_list_end hh hit hl hx hE
 ·exact gQ hit hl (by rw[hx];exact⟨hh,hE⟩)
theorem pyIterS{k:Bool}{l:Addr}{items:Array Value}{Q:Value->Shared->Prop}(hl:kh k s.heap l items)(hQ:Q (.ref s.heap.objs.size) {s with heap:=s.heap.push {cls:=.type (gM k),data:=.fields #[.ref l,.int 0 0]}}):wpAny (model prog w) A (pyIter (.ref l)) Q E s:=by
 cases k
 ·exact wpAny_pyIter_list hl hQ
 ·exact wpAny_pyIter_tuple hl hQ
structure ZipAt(k1 k2:Bool)(h:Heap)(z TI TO i1 i2 l1 l2:Addr)(f0:Value)(j1 j2:Nat):Prop where
 zz:IsZip h z TI TO f0
 ti:IsPair h TI (.ref i1) (.ref i2)
 tO:∃a b,IsPair h TO a b
 a1:kN k1 h i1 l1 j1
 a2:kN k2 h i2 l2 j2
theorem ZipAt.kept{k1 k2:Bool}{h h':Heap}{z TI TO i1 i2 l1 l2:Addr}{f0:Value}{j1 j2:Nat}(x:ZipAt k1 k2 h z TI TO i1 i2 l1 l2 f0 j1 j2)(f:∀b∈[z,TI,TO,i1,i2],∀o,h.get? b=some o->h'.get? b=some o) :
  ZipAt k1 k2 h' z TI TO i1 i2 l1 l2 f0 j1 j2:=by
 obtain⟨a,b,⟨c,d,e⟩,p,q⟩:=x;exact⟨f z (by simp) _ a,f TI (by simp) _ b,⟨c,d,f TO (by simp) _ e⟩,p.kept (f i1 (by simp)),q.kept (f i2 (by simp))⟩
theorem zip_item{k1 k2:Bool}{z TI TO i1 i2 l1 l2:Addr}{j1 j2:Nat}{xs ys:Array Value}{x y:Value}{Q:Value->Shared->Prop}(D:ZipApart z TI TO i1 i2 l1 l2)(Z:ZipAt k1 k2 s.heap z TI TO i1 i2 l1 l2 .none j1 j2)(b1:kh k1 s.heap l1 xs)(b2:kh k2 s.heap l2 ys)(hx:xs[j1]? =some x)(hy:ys[j2]? =some y)(hQ:∀h',ZipAt k1 k2 h' z TI TO i1 i2 l1 l2 (rawInt s.heap.objs.size) (j1+1) (j2+1)->IsPair h' s.heap.objs.size x y->(∀c o,c∉[z,TO,i1,i2]->s.heap.get? c=some o->h'.get? c=some o)->Q (.ref s.heap.objs.size) {s with heap:=h'}) :
  wpAny (model prog w) A (Builtin.«zip.__next__» ⟨[.ref z],[]⟩) (fun fin s'=>∃ v,fin= .done (.ret v)/\Q v s') E s:=by
 obtain⟨g0,g1,⟨oa,ob,g2⟩,p1,p2⟩:=Z;show wpAny _ _ (field (.ref z) 2 >>= _) _ _ _;refine wpAny_bind (wpAny_field g0 rfl (x:=.bool false) rfl ?_);show wpAny _ _ (field (.ref z) 3 >>= _) _ _ _;refine wpAny_bind (wpAny_field g0 rfl (x:=.ref TI) rfl ?_);refine wpAny_bind (wpAny_seqItems g1 rfl ?_);show wpAny _ _ (Builtin.SmallTypes.ownedTupleIsFree (.ref z) >>= _) _ _ _;refine wpAny_bind ?_;unfold Builtin.SmallTypes.ownedTupleIsFree;refine wpAny_bind (wpAny_field g0 rfl (x:=.none) rfl (wpAny_pure ?_));simp only[if_true];refine wpAny_bind (wpAny_rule ?_);refine wpAny_bind (wpAny_field g0 rfl (x:=.ref TO) rfl ?_);refine wpAny_bind (wpAny_setField_rec g0 (by simp) fun ha za sa=>?_)
 replace za:IsZip ha z TI TO .ellipsis:=za
 refine wpAny_bind ?_;simp only[List.zipIdx_cons,List.zipIdx_nil,List.forIn_cons,List.forIn_nil];refine wpAny_bind (wpAny_bind (wpAny_onRaise ?_));show wpAny _ _ (Builtin.SmallTypes.nextOf (.ref i1) >>= _) _ _ _;refine wpAny_bind (nextS (p1.kept fun o e=>sa.extBut _ _ D.i1z e) (b1.kept fun o e=>sa.extBut _ _ D.l1z e) hx fun hb p1b sb=>wpAny_pure ?_);have t2:IsPair hb TO oa ob:=sb.extBut _ _ D.TOi1 (sa.extBut _ _ D.TOz g2);refine wpAny_bind (wpAny_seqItems t2 rfl ?_);refine wpAny_bind (wpAny_updateSeq_pair t2 fun hc t3 sc=>?_)
 replace t3:IsPair hc TO x ob:=t3
 refine wpAny_bind (wpAny_letGo (wpAny_pure ?_));refine wpAny_bind (wpAny_bind (wpAny_onRaise ?_));show wpAny _ _ (Builtin.SmallTypes.nextOf (.ref i2) >>= _) _ _ _;refine wpAny_bind (nextS (p2.kept fun o e=>sc.extBut _ _ D.TOi2.symm (sb.extBut _ _ D.i12.symm (sa.extBut _ _ D.i2z e))) (b2.kept fun o e=>sc.extBut _ _ D.l2TO (sb.extBut _ _ D.l2i1 (sa.extBut _ _ D.l2z e))) hy fun hd p2d sd=>wpAny_pure ?_);have t4:IsPair hd TO x ob:=sd.extBut _ _ D.TOi2 t3;refine wpAny_bind (wpAny_seqItems t4 rfl ?_);refine wpAny_bind (wpAny_updateSeq_pair t4 fun he t5 se=>?_)
 replace t5:IsPair he TO x y:=t5
 refine wpAny_bind (wpAny_letGo (wpAny_pure (wpAny_pure ?_)));refine wpAny_bind (wpAny_seqItems t5 rfl ?_);refine wpAny_bind (wpAny_newTuple ?_);have size:he.objs.size=s.heap.objs.size:=by rw[se.1,sd.1,sc.1,sb.1,sa.1]
 have ze:IsZip he z TI TO .ellipsis:=se.extBut _ _ D.TOz.symm (sd.extBut _ _ D.i2z.symm (sc.extBut _ _ D.TOz.symm (sb.extBut _ _ D.i1z.symm za)));have ke:∀c o,c∉[z,TO,i1,i2]->s.heap.get? c=some o->he.get? c=some o:=fun c o n e=>by
  simp only[mem_cons,not_mem_nil,or_false,not_or]at n;exact se.extBut _ _ n.2.1 (sd.extBut _ _ n.2.2.2 (sc.extBut _ _ n.2.1 (sb.extBut _ _ n.2.2.1 (sa.extBut _ _ n.1 e))))
 have q1:kN k1 he i1 l1 (j1+1):=p1b.kept fun o e=>se.extBut _ _ D.TOi1.symm (sd.extBut _ _ D.i12 (sc.extBut _ _ D.TOi1.symm e));have q2:kN k2 he i2 l2 (j2+1):=p2d.kept fun o e=>se.extBut _ _ D.TOi2.symm e;have tie:IsPair he TI (.ref i1) (.ref i2):=se.extBut _ _ D.TITO (sd.extBut _ _ D.TIi2 (sc.extBut _ _ D.TITO (sb.extBut _ _ D.TIi1 (sa.extBut _ _ D.TIz g1))));have zlt:z<he.objs.size:=Heap.lt_size ze;show wpAny _ _ (Builtin.SmallTypes.ownedTupleHandOut (.ref z) (.ref he.objs.size) >>= _) _ _ _;refine wpAny_bind ?_;unfold Builtin.SmallTypes.ownedTupleHandOut;have zf:IsZip (he.push {cls:=.type "tuple",data:=.seq #[x,y]}) z TI TO .ellipsis:=Heap.get?_push_of_some _ ze;refine wpAny_bind (wpAny_setField_rec zf (by simp) fun hg zg sg=>?_)
 replace zg:IsZip hg z TI TO (rawInt he.objs.size):=zg
 refine wpAny_setField_rec zg (by simp) fun hn zn sn=>?_
 replace zn:IsZip hn z TI TO (rawInt he.objs.size):=zn
 have up:∀c o,c≠z->he.get? c=some o->hn.get? c=some o:=fun c o n e=>sn.extBut _ _ n (sg.extBut _ _ n (Heap.get?_push_of_some _ e));have tn:IsPair hn he.objs.size x y:=sn.extBut _ _ (Nat.ne_of_gt zlt) (sg.extBut _ _ (Nat.ne_of_gt zlt) (Heap.get?_push_size _ rfl));rw[size]at zn tn;refine wpAny_pure ⟨_,rfl,?_⟩;show Q (.ref he.objs.size) _;rw[size];refine hQ hn ⟨zn,up _ _ D.TIz tie,⟨_,_,up _ _ D.TOz t5⟩,q1.kept fun o e=>up _ _ D.i1z e,q2.kept fun o e=>up _ _ D.i2z e⟩ tn fun c o n e=>up c o (fun z=>n (by simp[z])) (ke c o n e)
theorem zip_end{k1 k2:Bool}{z TI TO i1 i2 l1 l2:Addr}{j1 j2:Nat}{xs ys:Array Value}{Q:Fin->Shared->Prop}(hh:A.handled=none)(D:ZipApart z TI TO i1 i2 l1 l2)(Z:ZipAt k1 k2 s.heap z TI TO i1 i2 l1 l2 .none j1 j2)(b1:kh k1 s.heap l1 xs)(b2:kh k2 s.heap l2 ys)(hend:xs[j1]? =none\/ys[j2]? =none)(hE:∀h' e,(∀c o,c∉[z,TO,i1,i2]->s.heap.get? c=some o->h'.get? c=some o)->(∃o,h'.get? e=some o/\o.cls= .type "StopIteration")->E (.ref e) {s with heap:=h'}) :
  wpAny (model prog w) A (Builtin.«zip.__next__» ⟨[.ref z],[]⟩) Q E s:=by
 obtain⟨g0,g1,⟨oa,ob,g2⟩,p1,p2⟩:=Z;show wpAny _ _ (field (.ref z) 2 >>= _) _ _ _;refine wpAny_bind (wpAny_field g0 rfl (x:=.bool false) rfl ?_);show wpAny _ _ (field (.ref z) 3 >>= _) _ _ _;refine wpAny_bind (wpAny_field g0 rfl (x:=.ref TI) rfl ?_);refine wpAny_bind (wpAny_seqItems g1 rfl ?_);show wpAny _ _ (Builtin.SmallTypes.ownedTupleIsFree (.ref z) >>= _) _ _ _;refine wpAny_bind ?_;unfold Builtin.SmallTypes.ownedTupleIsFree;refine wpAny_bind (wpAny_field g0 rfl (x:=.none) rfl (wpAny_pure ?_));simp only[if_true];refine wpAny_bind (wpAny_rule ?_);refine wpAny_bind (wpAny_field g0 rfl (x:=.ref TO) rfl ?_);refine wpAny_bind (wpAny_setField_rec g0 (by simp) fun ha za sa=>?_)
 replace za:IsZip ha z TI TO .ellipsis:=za
 refine wpAny_bind ?_;simp only[List.zipIdx_cons,List.zipIdx_nil,List.forIn_cons,List.forIn_nil];refine wpAny_bind (wpAny_bind (wpAny_onRaise ?_));show wpAny _ _ (Builtin.SmallTypes.nextOf (.ref i1) >>= _) _ _ _;cases hx:xs[j1]? with
 |none =>
  refine wpAny_bind (endS hh (p1.kept fun o e=>sa.extBut _ _ D.i1z e) (b1.kept fun o e=>sa.extBut _ _ D.l1z e) hx fun hb e sb te=>?_);obtain⟨oe,e1,e2⟩:=te;have zb:IsZip hb z TI TO .ellipsis:=sb _ _ D.i1z.symm za;have nez:e≠z:=fun q=>by subst q;rw[zb]at e1;cases e1;simp at e2
  refine wpAny_setField_rec zb (by simp) fun hc _ sc=>hE hc e (fun c o n q=>?_) ⟨oe,sc.extBut _ _ nez e1,e2⟩;simp only[mem_cons,not_mem_nil,or_false,not_or]at n;exact sc.extBut _ _ n.1 (sb _ _ n.2.2.1 (sa.extBut _ _ n.1 q))
 |some x =>
  have hy:ys[j2]? =none:=hend.resolve_left (by rw[hx];intro q;cases q);refine wpAny_bind (nextS (p1.kept fun o e=>sa.extBut _ _ D.i1z e) (b1.kept fun o e=>sa.extBut _ _ D.l1z e) hx fun hb p1b sb=>wpAny_pure ?_);have t2:IsPair hb TO oa ob:=sb.extBut _ _ D.TOi1 (sa.extBut _ _ D.TOz g2);refine wpAny_bind (wpAny_seqItems t2 rfl ?_);refine wpAny_bind (wpAny_updateSeq_pair t2 fun hc t3 sc=>?_);refine wpAny_bind (wpAny_letGo (wpAny_pure ?_));refine wpAny_bind (wpAny_bind (wpAny_onRaise ?_));show wpAny _ _ (Builtin.SmallTypes.nextOf (.ref i2) >>= _) _ _ _;refine wpAny_bind (endS hh (p2.kept fun o e=>sc.extBut _ _ D.TOi2.symm (sb.extBut _ _ D.i12.symm (sa.extBut _ _ D.i2z e))) (b2.kept fun o e=>sc.extBut _ _ D.l2TO (sb.extBut _ _ D.l2i1 (sa.extBut _ _ D.l2z e))) hy fun hd e sd te=>?_);obtain⟨oe,e1,e2⟩:=te;have zd:IsZip hd z TI TO .ellipsis:=sd _ _ D.i2z.symm (sc.extBut _ _ D.TOz.symm (sb.extBut _ _ D.i1z.symm za));have nez:e≠z:=fun q=>by subst q;rw[zd]at e1;cases e1;simp at e2
  refine wpAny_setField_rec zd (by simp) fun he _ se=>hE he e (fun c o n q=>?_) ⟨oe,se.extBut _ _ nez e1,e2⟩;simp only[mem_cons,not_mem_nil,or_false,not_or]at n;exact se.extBut _ _ n.1 (sd _ _ n.2.2.2 (sc.extBut _ _ n.2.1 (sb.extBut _ _ n.2.2.1 (sa.extBut _ _ n.1 q))))
theorem pyNext_zip{k1 k2:Bool}{z TI TO i1 i2 l1 l2:Addr}{j1 j2:Nat}{xs ys:Array Value}{x y:Value}{Q:Option Value->Shared->Prop}(D:ZipApart z TI TO i1 i2 l1 l2)(Z:ZipAt k1 k2 s.heap z TI TO i1 i2 l1 l2 .none j1 j2)(b1:kh k1 s.heap l1 xs)(b2:kh k2 s.heap l2 ys)(hx:xs[j1]? =some x)(hy:ys[j2]? =some y)(hQ:∀h',ZipAt k1 k2 h' z TI TO i1 i2 l1 l2 (rawInt s.heap.objs.size) (j1+1) (j2+1)->IsPair h' s.heap.objs.size x y->(∀c o,c∉[z,TO,i1,i2]->s.heap.get? c=some o->h'.get? c=some o)->Q (some (.ref s.heap.objs.size)) {s with heap:=h'}) :
  wpAny (model prog w) A (pyNext (.ref z)) Q E s:=by
 have ty:s.TypeIs (.ref z) "zip" :=⟨_,Z.zz,rfl⟩;unfold pyNext;exact wpAny_bind (wpAny_attempt (wpAny_callSpecial?_slot (name:=Str.ofString "__next__") ty F.slot_zip_next (wpAny_call_entry F.slot_zip_next ty F.entry_zip_next (zip_item D Z b1 b2 hx hy fun h' r1 r2 r3=>wpAny_pure (hQ h' r1 r2 r3)) (F.args_zip_next_1 _))))
theorem rn{k1 k2:Bool}{z TI TO i1 i2 l1 l2:Addr}{j1 j2:Nat}{xs ys:Array Value}{Q:Option Value->Shared->Prop}(hh:A.handled=none)(D:ZipApart z TI TO i1 i2 l1 l2)(Z:ZipAt k1 k2 s.heap z TI TO i1 i2 l1 l2 .none j1 j2)(b1:kh k1 s.heap l1 xs)(b2:kh k2 s.heap l2 ys)(hend:xs[j1]? =none\/ys[j2]? =none)(hQ:∀h',(∀c o,c∉[z,TO,i1,i2]->s.heap.get? c=some o->h'.get? c=some o)->Q none {s with heap:=h'}):wpAny (model prog w) A (pyNext (.ref z)) Q E s:=by
 have ty:s.TypeIs (.ref z) "zip" :=⟨_,Z.zz,rfl⟩;unfold pyNext;refine wpAny_bind (wpAny_attempt (wpAny_callSpecial?_slot (name:=Str.ofString "__next__") ty F.slot_zip_next (wpAny_call_entry F.slot_zip_next ty F.entry_zip_next (zip_end hh D Z b1 b2 hend fun h' e hk he=>?_) (F.args_zip_next_1 _))));obtain⟨o,e1,e2⟩:=he;exact wpAny_bind (wpAny_isInstance (T :="StopIteration") (b:=true) ⟨o,e1,e2⟩ isSubtype_stop (wpAny_pure (hQ _ hk)))
end
def zH1(k1:Bool)(h:Heap)(l1:Addr):Heap:=h.push {cls:=.type (gM k1),data:=.fields #[.ref l1,.int 0 0]}
def zH2(k1 k2:Bool)(h:Heap)(l1 l2:Addr):Heap:=(zH1 k1 h l1).push {cls:=.type (gM k2),data:=.fields #[.ref l2,.int 0 0]}
def zH3(k1 k2:Bool)(h:Heap)(l1 l2:Addr):Heap:=(zH2 k1 k2 h l1 l2).push {cls:=.type "tuple",data:=.seq #[.ref h.objs.size,.ref (zH1 k1 h l1).objs.size]}
def zH4(k1 k2:Bool)(h:Heap)(l1 l2:Addr):Heap:=(zH3 k1 k2 h l1 l2).push {cls:=.type "tuple",data:=.seq #[.none,.none]}
def zH5(k1 k2:Bool)(h:Heap)(l1 l2:Addr):Heap:=(zH4 k1 k2 h l1 l2).push {cls:=.type "zip",data:=.fields #[.none,.bool false,.bool false,.ref (zH2 k1 k2 h l1 l2).objs.size,.ref (zH3 k1 k2 h l1 l2).objs.size]}
theorem rP(k1 k2:Bool)(l1 l2:Addr)(xs ys:Array Value) :
  Meets (Builtin.«zip.__new__» ⟨[.type "zip",.ref l1,.ref l2],[]⟩) (fun _ R s=>kh k1 s.heap l1 xs/\kh k2 s.heap l2 ys/\R (.ok (.ret (.ref (zH4 k1 k2 s.heap l1 l2).objs.size))) {s with heap:=zH5 k1 k2 s.heap l1 l2}) :=
 .of_wp fun prog w A R s h=>by
  obtain⟨hp,gn,dr,tk,os⟩:=s;obtain⟨q1,q2,h⟩:=h;have hsub:=sub_zip;have r1:kh k1 (Shared.heap ⟨hp,gn,dr,tk,os⟩) l1 xs:=q1;have r2:kh k2 (Shared.heap ⟨hp.push {cls:=.type (gM k1),data:=.fields #[.ref l1,.int 0 0]},gn,dr,tk,os⟩) l2 ys:=kh.kept q2 fun o e=>Heap.get?_push_of_some _ e
  wp_walk using pyIterS r1,pyIterS r2
  exact⟨_,rfl,h⟩
section
variable{prog:Program}{w:World}{A:Around}{E:Value->Shared->Prop}{s:Shared}
theorem call_zip{k1 k2:Bool}{l1 l2:Addr}{xs ys:Array Value}{Q:Value->Shared->Prop}(b1:kh k1 s.heap l1 xs)(b2:kh k2 s.heap l2 ys)(hQ:∀h',ZipAt k1 k2 h' (s.heap.objs.size+4) (s.heap.objs.size+2) (s.heap.objs.size+3) s.heap.objs.size (s.heap.objs.size+1) l1 l2 .none 0 0->(∀c o,s.heap.get? c=some o->h'.get? c=some o)->Q (.ref (s.heap.objs.size+4)) {s with heap:=h'}) :
  wpAny (model prog w) A (call (.type "zip") [.ref l1,.ref l2]) Q E s:=by
 refine callType_new F.called_zip (by decide) (F.typeCall_zip_2 _ _) (F.newCall_zip_2 _ _) (fun obj=>F.args_object_init_3 obj _ _) F.entry_zip_new (rP k1 k2 l1 l2 xs ys) ⟨b1,b2,?_⟩;have n1:(zH1 k1 s.heap l1).objs.size=s.heap.objs.size+1:=Heap.size_push ..;have n2:(zH2 k1 k2 s.heap l1 l2).objs.size=s.heap.objs.size+2:=by unfold zH2;rw[Heap.size_push,n1]
 have n3:(zH3 k1 k2 s.heap l1 l2).objs.size=s.heap.objs.size+3:=by unfold zH3;rw[Heap.size_push,n2]
 have n4:(zH4 k1 k2 s.heap l1 l2).objs.size=s.heap.objs.size+4:=by unfold zH4;rw[Heap.size_push,n3]
 have f5:(zH5 k1 k2 s.heap l1 l2).get? (zH4 k1 k2 s.heap l1 l2).objs.size=some _:=Heap.get?_push_size _ rfl;have f4:(zH5 k1 k2 s.heap l1 l2).get? (zH3 k1 k2 s.heap l1 l2).objs.size=some _:=Heap.get?_push_of_some _ (Heap.get?_push_size _ rfl);have f3:(zH5 k1 k2 s.heap l1 l2).get? (zH2 k1 k2 s.heap l1 l2).objs.size=some _:=Heap.get?_push_of_some _ (Heap.get?_push_of_some _ (Heap.get?_push_size _ rfl));have f2:(zH5 k1 k2 s.heap l1 l2).get? (zH1 k1 s.heap l1).objs.size=some _:=Heap.get?_push_of_some _ (Heap.get?_push_of_some _ (Heap.get?_push_of_some _ (Heap.get?_push_size _ rfl)));have f1:(zH5 k1 k2 s.heap l1 l2).get? s.heap.objs.size=some _:=Heap.get?_push_of_some _ (Heap.get?_push_of_some _ (Heap.get?_push_of_some _ (Heap.get?_push_of_some _ (Heap.get?_push_size _ rfl))));show _/\_;rw[n2,n3,n4]at f5;rw[n1,n2]at f3;rw[n3]at f4;rw[n1]at f2;rw[n4];exact⟨⟨_,f5,rfl⟩,hQ _ ⟨f5,f3,⟨_,_,f4⟩,⟨_,f1,rfl,rfl⟩,⟨_,f2,rfl,rfl⟩⟩ fun c o e=>Heap.get?_push_of_some _ (Heap.get?_push_of_some _ (Heap.get?_push_of_some _ (Heap.get?_push_of_some _ (Heap.get?_push_of_some _ e))))⟩
end
section
variable{X:Cx}{pins:List (Addr×Obj)}{σ:St}{H:Hp}{s:Shared}{h':Heap}
theorem Inv.turnedL{t':Nat}{ch:List Addr}(I:Inv X pins σ H s)(hf:∀b∈ch,FpOk X pins H b)(k:∀b o,b∉ch->s.heap.get? b=some o->h'.get? b=some o):Inv X pins σ H {s with heap:=h',toks:=t'}:=by
 have nch:∀b u,H b=some u->b∉ch:=fun b u e z=>by rw[(hf b z).1]at e;cases e
 refine I.step (g':=s.gens) (d':=s.drawn) (ch:=ch) (fun b hb=>⟨(hf b hb).2.2.2.1,(hf b hb).2.1,(hf b hb).2.2.2.2.1,(hf b hb).2.2.2.2.2⟩) (fun b o _ _ hc e _=>k b o hc e) (fun b o _ _ hc e _=>⟨o.slots,k b o hc e⟩) (fun _ _ _ _ n=>n)
  (fun b o hc e=>⟨o,k b o hc e⟩) (fun _ _ e=>e) (fun _ _ _ e=>e) (fun b ps e=>⟨#[],by rw[e];simp⟩) (fun m hm=>?_) (fun b u e=>?_) I.bare
 ·obtain⟨o,es,ep,ho,r⟩:=hm;exact⟨o,es,ep,k _ o (fun z=>(hf _ z).2.1 rfl) ho,r⟩
 ·refine(I.hok b u e).stay (fun c v hc q=>k c v ?_ q) (fun _ q=>q) fun _ _ q=>q;rcases hc with z|z
  ·rw[z];exact nch b u e
  ·exact nch c _ z
theorem Inv.turnedN{t':Nat}{ch:List Addr}{T:Addr}{o:HO}(I:Inv X pins σ H s)(hf:∀b∈ch,FpOk X pins H b)(k:∀b o,b∉ch->s.heap.get? b=some o->h'.get? b=some o)(hT:s.heap.objs.size<=T)(new:zU X.prog X.w (upd H T o) h' T o):Inv X pins σ (upd H T o) {s with heap:=h',toks:=t'}:=by
 have nch:∀b u,H b=some u->b∉ch:=fun b u e z=>by rw[(hf b z).1]at e;cases e
 have hn:H T=none:=I.hok.fresh hT;refine I.step (g':=s.gens) (d':=s.drawn) (ch:=ch) (fun b hb=>⟨(hf b hb).2.2.2.1,(hf b hb).2.1,(hf b hb).2.2.2.2.1,(hf b hb).2.2.2.2.2⟩) (fun b o _ _ hc e _=>k b o hc e) (fun b o _ _ hc e _=>⟨o.slots,k b o hc e⟩)
  (fun b u _ e n=>by rw[zh (ne_of_lt (lt_of_lt_of_le (Heap.lt_size e) hT))];exact n)
  (fun b o hc e=>⟨o,k b o hc e⟩) (fun b xs e=>by rw[zh (zr e hn)];exact e) (fun b u xs e=>by rw[zh (zr e hn)];exact e) (fun b ps e=>⟨#[],by rw[zh (zr e hn),e];simp⟩) (fun m hm=>?_) (fun b u e=>?_) I.bare
 ·obtain⟨o,es,ep,ho,r⟩:=hm;exact⟨o,es,ep,k _ o (fun z=>(hf _ z).2.1 rfl) ho,r⟩
 ·by_cases hb:b=T
  ·subst hb;rw[z6]at e;cases e;exact new
  ·rw[zh hb]at e;refine(I.hok b u e).stay (fun c v hc q=>k c v ?_ q) (fun c q=>by rw[zh (zr q hn)];exact q) fun c xs q=>by rw[zh (zr q hn)];exact q
   rcases hc with z|z
   ·rw[z];exact nch b u e
   ·exact nch c _ z
end
def Sq(k:Bool)(K:W.Frag)(H:Hp)(a:Addr)(xs:List V):Prop :=
 match k with
 |true=>SqT K H a xs
 |false=>SqL K H a xs
theorem Inv.sq{X:Cx}{pins:List (Addr×Obj)}{σ:St}{H:Hp}{s:Shared}{k:Bool}{a:Addr}{xs:List V}(I:Inv X pins σ H s)(h:Sq k X.K H a xs):∃its:List Value,Vals xs its/\kh k s.heap a its.toArray/\xs.length<=sizeLine:=by
 cases k
 ·obtain⟨its,r,p,z⟩:=I.list h;exact⟨its,r,p.isList,z⟩
 ·exact I.tuple h
theorem Inv.sq_inj{X:Cx}{pins:List (Addr×Obj)}{σ:St}{H:Hp}{s:Shared}{k:Bool}{a:Addr}{xs ys:List V}(I:Inv X pins σ H s)(h:Sq k X.K H a xs)(h':Sq k X.K H a ys):xs=ys:=by
 cases k
 ·exact I.list_inj h h'
 ·exact I.tuple_inj h h'
def Itz(K:W.Frag)(k1 k2:Bool)(a b:Addr):It :=
 ⟨fun i H=>∃ xs ys x y,Sq k1 K H a xs/\Sq k2 K H b ys/\xs[i]? =some x/\ys[i]? =some y,
  fun i H v H'=>∃ T x y,H T=none/\v= .ref T/\H'=upd H T (.tup [x,y])/\(∀xs,Sq k1 K H a xs->xs[i]? =some x)/\ ∀ys,Sq k2 K H b ys->ys[i]? =some y,
  fun i H=>∃ xs ys,Sq k1 K H a xs/\Sq k2 K H b ys/\(xs.length<=i\/ys.length<=i)⟩
theorem pair_ok{P:Program}{w:World}{H:Hp}{h:Heap}{T:Addr}{x y:V}{u v:Value}(r1:RelV x u)(r2:RelV y v)(e:IsPair h T u v):zU P w H h T (.tup [x,y]):=by
 refine⟨by show 2<=sizeLine;decide,[u,v],.cons r1 (.cons r2 .nil),⟨_,e,rfl,_,rfl⟩,fun o q=>?_⟩;rw[e]at q;cases q;rfl
theorem turn_zip{P:Program}{w:World}{K:W.Frag}{elts:List Expr}{x1:Nat}{pos:Pos}(k1 k2:Bool)(a b z TI TO i1 i2:Addr)(D:ZipApart z TI TO i1 i2 a b) :
  Turn P w K (.Tuple elts x1 pos) (Itz K k1 k2 a b) [z,TI,TO,i1,i2] z (fun i h=>ZipAt k1 k2 h z TI TO i1 i2 a b .none i i) where
 mem:=by simp
 obj:=fun i h st c hc=>by
  obtain⟨g0,g1,⟨oa,ob,g2⟩,⟨o1,e1,_,d1⟩,⟨o2,e2,_,d2⟩⟩:=st;simp only[mem_cons,not_mem_nil,or_false]at hc;rcases hc with rfl|rfl|rfl|rfl|rfl
  ·exact⟨_,g0,fun v q=>by cases q⟩
  ·exact⟨_,g1,fun v q=>by cases q⟩
  ·exact⟨_,g2,fun v q=>by cases q⟩
  ·exact⟨_,e1,fun v q=>by rw[d1]at q;cases q⟩
  ·exact⟨_,e2,fun v q=>by rw[d2]at q;cases q⟩
 keep:=fun i h h' st k=>st.kept k
 item:=by
  intro X hP hw hK hc i pins s σ H E I hf st hg;subst hP hw hK;obtain⟨xs,ys,x,y,hq1,hq2,hx,hy⟩:=hg;obtain⟨us,rv1,p1,_⟩:=I.sq hq1;obtain⟨ws,rv2,p2,_⟩:=I.sq hq2;obtain⟨u,hu,ru⟩:=rv1.get hx;obtain⟨v,hv,rv⟩:=rv2.get hy;refine pyNext_zip D st p1 p2 (x:=u) (y:=v) (by simpa using hu) (by simpa using hv) fun h' st' tp kk=>⟨_,rfl,?_⟩;refine wpAny_letOwnedTupleGo_zip st'.zz fun h2 hz2 sb=>?_;have up:∀c o,c≠z->h'.get? c=some o->h2.get? c=some o:=fun c o n e=>(sb.2 c n).trans e;have lt:z<s.heap.objs.size:=Heap.lt_size st.zz;have tp2:IsPair h2 s.heap.objs.size u v:=up _ _ (Nat.ne_of_gt lt) tp;have I1:Inv X pins σ (upd H s.heap.objs.size (.tup [x,y])) {s with heap:=h2}:=I.turnedN (t':=s.toks) (ch:=[z,TI,TO,i1,i2]) hf (fun c o n e=>up c o (fun q=>n (by simp[q])) (kk c o (fun q=>n (by
   simp only[mem_cons,not_mem_nil,or_false]at q ⊢;rcases q with q|q|q|q <;>simp[q])) e)) (le_refl _) (pair_ok ru rv tp2)
  refine⟨.ref s.heap.objs.size,_,I1,rfl,⟨_,x,y,I.hok.fresh (le_refl _),rfl,rfl,fun xs' h=>by rw[I.sq_inj h hq1];exact hx,fun ys' h=>by rw[I.sq_inj h hq2];exact hy⟩,
   ⟨hz2,up _ _ D.TIz st'.ti,?_,st'.a1.kept (fun o e=>up _ _ D.i1z e),st'.a2.kept fun o e=>up _ _ D.i2z e⟩,fun c hc=>?_⟩
  ·obtain⟨oa,ob,e⟩:=st'.tO;exact⟨oa,ob,up _ _ D.TOz e⟩
  ·have hlt:c<s.heap.objs.size:=by
    obtain⟨g0,g1,⟨oa,ob,g2⟩,⟨o1,e1,_,d1⟩,⟨o2,e2,_,d2⟩⟩:=st;simp only[mem_cons,not_mem_nil,or_false]at hc;rcases hc with rfl|rfl|rfl|rfl|rfl
    ·exact Heap.lt_size g0
    ·exact Heap.lt_size g1
    ·exact Heap.lt_size g2
    ·exact Heap.lt_size e1
    ·exact Heap.lt_size e2
   rw[zh (ne_of_lt hlt)];exact(hf c hc).1
 done:=by
  intro X hP hw hK hc i pins s σ H E I hf st hg;subst hP hw hK;obtain⟨xs,ys,hq1,hq2,hend⟩:=hg;obtain⟨us,rv1,p1,_⟩:=I.sq hq1;obtain⟨ws,rv2,p2,_⟩:=I.sq hq2;have l1:=rv1.length;have l2:=rv2.length;refine rn (I.ok.hd hc) D st p1 p2 ?_ fun h' kk=>⟨rfl,I.turnedL (t':=s.toks) (ch:=[z,TI,TO,i1,i2]) hf fun c o n e=>kk c o (fun q=>n (by
   simp only[mem_cons,not_mem_nil,or_false]at q ⊢;rcases q with q|q|q|q <;>simp[q])) e⟩
  rcases hend with q|q
  ·exact .inl (by simp;omega)
  ·exact .inr (by simp;omega)
 self:=fun _ _ _ _ _ st h=>wpAny_pyIter_zip st.zz h
section
variable{X:Cx}{elts:List Expr}{x1:Nat}{tpos:Pos}
def iZip(K:W.Frag)(k1 k2:Bool)(ta:TA):TI:=fun σ H R=>ta σ H fun vs H1=>∃ a b,vs=[.ref a,.ref b]/\(∃xs,Sq k1 K H1 a xs)/\(∃ys,Sq k2 K H1 b ys)/\R (Itz K k1 k2 a b) H1
theorem pi_zip(k1 k2:Bool){a b:Expr}{ta:TA}{p pos:Pos}(hg:Gl X "zip")(hm:X.mg "zip"=none)(ha:PA X [a,b] ta)(hs:starEach [a,b] X.env=[(false,eval a X.env),(false,eval b X.env)]:=by rfl)(hs2:starEach [b] X.env=[(false,eval b X.env)]:=by rfl) :
  PI X (.Tuple elts x1 tpos) (.Call (.Name "zip" p) [a,b] [] pos) (iZip X.K k1 k2 ta):=by
 intro pins s σ H R I h;refine Call_ (wa I hg hm boot_zip (PyProof.Rows.callWith_type1 (thn (ha pos pins s σ H _ I h) fun us s1 ⟨vs,H1,I1,r1,q1⟩=>?_) (by rw[hs,hs2]) (by rw[hs2];rfl)));obtain⟨a,b,e,⟨xs,hq1⟩,⟨ys,hq2⟩,q⟩:=q1;subst e;cases r1 with
 |cons r rr =>
  cases rr with
  |cons r' rr =>
   cases rr;cases r;cases r';obtain⟨us,rv1,p1,_⟩:=I1.sq hq1;obtain⟨ws,rv2,p2,_⟩:=I1.sq hq2;refine call_zip p1 p2 fun h' Z kk=>?_;have D:=PyProof.Rows.zipApart_new p1.lt p2.lt;have I2:Inv X pins σ H1 {s1 with heap:=h'}:=I1.kept (t':=s1.toks) kk;refine wpAny_pyIter_zip (s:={s1 with heap:=h'}) Z.zz ⟨_,[s1.heap.objs.size+4,s1.heap.objs.size+2,s1.heap.objs.size+3,s1.heap.objs.size,s1.heap.objs.size+1],_,_,H1,rfl,I2,turn_zip k1 k2 a b _ _ _ _ _ D,Z,fun c hc=>?_,q⟩;have hle:s1.heap.objs.size<=c:=by
    simp only[mem_cons,not_mem_nil,or_false]at hc;have hc':c=s1.heap.objs.size+4\/c=s1.heap.objs.size+2\/c=s1.heap.objs.size+3\/c=s1.heap.objs.size\/c=s1.heap.objs.size+1:=hc;rcases hc' with e|e|e|e|e <;>rw[e] <;>first|exact le_refl _|exact Nat.le_add_right _ _
   exact I1.fpOk hle (I1.hok.fresh hle)
end
theorem comp_zip{K:W.Frag}{k1 k2:Bool}{a b:Addr}{xs ys:List V}{g:TG}{tf:TT}{te:TE}{σ:St}{H:Hp}{Q:VK}(Pv:Nat->List V->St->Hp->Prop)(h0:Pv 0 [] σ H)(hl:∀i zs σ H,i<=min xs.length ys.length->Pv i zs σ H->Sq k1 K H a xs/\Sq k2 K H b ys/\zs.length<=sizeLine)(hs:∀i x y zs σ H T,xs[i]? =some x->ys[i]? =some y->Pv i zs σ H->H T=none->g (.ref T) σ (upd H T (.tup [x,y])) fun σ2 H2=>tf σ2 H2 fun b H3=>if b=true then te σ2 H3 fun v H4=>Pv (i+1) (zs++[v]) σ2 H4 else Pv (i+1) zs σ2 H3)(hd:∀zs σ H,Pv (min xs.length ys.length) zs σ H-> ∀p,H p=none->Q (.ref p) (upd H p (.lst zs))):wQ g tf te σ (Itz K k1 k2 a b) H Q:=by
 refine⟨fun i m zs σ H=>m=min xs.length ys.length-i/\i<=min xs.length ys.length/\Pv i zs σ H,⟨_,(Nat.sub_zero _).symm,zero_le _,h0⟩,?_⟩;rintro i m zs σ H ⟨rfl,hi,p⟩;obtain⟨q1,q2,hz⟩:=hl i zs σ H hi p;by_cases hlt:i<min xs.length ys.length
 ·have l1:i<xs.length:=by omega
  have l2:i<ys.length:=by omega
  refine .inr ⟨⟨xs,ys,xs[i],ys[i],q1,q2,by simp[l1],by simp[l2]⟩,hz,Pv (i+1),fun ys' σ' H' p'=>⟨min xs.length ys.length-(i+1),by omega,rfl,hlt,p'⟩,fun x H' y=>?_⟩;obtain⟨T,u,v,hT,rfl,rfl,e1,e2⟩:=y;exact hs i u v zs σ H T (e1 xs q1) (e2 ys q2) p hT
 ·have e:i=min xs.length ys.length:=by omega
  rw[e]at p;exact .inl ⟨⟨xs,ys,q1,q2,by omega⟩,hz,hd zs σ H p⟩
theorem for_zip{K:W.Frag}{k1 k2:Bool}{a b:Addr}{xs ys:List V}{g:TG}{tb:TS}{D:Ends}{σ:St}{H:Hp}(Pv:Nat->St->Hp->Prop)(h0:Pv 0 σ H)(hl:∀i σ H,i<=min xs.length ys.length->Pv i σ H->Sq k1 K H a xs/\Sq k2 K H b ys)(hs:∀i x y σ H T,xs[i]? =some x->ys[i]? =some y->Pv i σ H->H T=none->g (.ref T) σ (upd H T (.tup [x,y])) fun σ2 H2=>tb {D with nx:=Pv (i+1),ct:=Pv (i+1),bk:=D.nx} σ2 H2)(hd:∀ σ H,Pv (min xs.length ys.length) σ H->D.nx σ H) :
  ∃W0:Nat->Nat->St->Hp->Prop,(∃m,W0 0 m σ H)/\ ∀i m σ H,W0 i m σ H->
   ((Itz K k1 k2 a b).stop i H/\D.nx σ H)\/((Itz K k1 k2 a b).go i H/\ ∃N:St->Hp->Prop,(∀ σ' H',N σ' H'-> ∃m',m'<m/\W0 (i+1) m' σ' H')/\ ∀x H',(Itz K k1 k2 a b).yld i H x H'->g x σ H' fun σ2 H2=>tb {D with nx:=N,ct:=N,bk:=D.nx} σ2 H2):=by
 refine⟨fun i m σ H=>m=min xs.length ys.length-i/\i<=min xs.length ys.length/\Pv i σ H,⟨_,(Nat.sub_zero _).symm,zero_le _,h0⟩,?_⟩;rintro i m σ H ⟨rfl,hi,p⟩;obtain⟨q1,q2⟩:=hl i σ H hi p;by_cases hlt:i<min xs.length ys.length
 ·have l1:i<xs.length:=by omega
  have l2:i<ys.length:=by omega
  refine .inr ⟨⟨xs,ys,xs[i],ys[i],q1,q2,by simp[l1],by simp[l2]⟩,Pv (i+1),fun σ' H' p'=>⟨min xs.length ys.length-(i+1),by omega,rfl,hlt,p'⟩,fun x H' y=>?_⟩;obtain⟨T,u,v,hT,rfl,rfl,e1,e2⟩:=y;exact hs i u v σ H T (e1 xs q1) (e2 ys q2) p hT
 ·have e:i=min xs.length ys.length:=by omega
  rw[e]at p;exact .inl ⟨⟨xs,ys,q1,q2,by omega⟩,hd σ H p⟩
section
variable{prog:Program}{w:World}{A:Around}{E:Value->Shared->Prop}{s:Shared}
theorem tw{id:String}{b:Builtin}{args:List Value}{kw:List (Str×Value)}{Q:Value->Shared->Prop}(hk:builtinKind id=none)(hp:plainId id=true)(hb:entryFor table id=some b)(ha:argsOk id ⟨args,kw⟩)(hc:wpAny (model prog w) A.in1 (b ⟨args,kw⟩) (fun fin s'=>match fin with
   | .done f=>(match(Except.ok f:Result)with| .ok (.ret v)=>Q v s'| .ok _=>False| .error e=>E e s')
   | .again c'=>c'.quiet=true/\codeAny (model prog w) A c' (fun r s'=>match r with| .ok (.ret v)=>Q v s'| .ok _=>False| .error e=>E e s') s') E s):wpAny (model prog w) A (call (.builtin id) args kw) Q E s:=by
 refine wpAny_call (codeAny_call_builtin hp hb ?_);simp only[checkBuiltinCall,hk];cases hsig:Manifest.signature? id with
 |none=>exact wpAny_pure hc
 |some sig =>
  have ha':Bind.checkArgs id sig ⟨args,kw⟩=pure ():=by simpa only[argsOk,hsig]using ha
  simp only[ha'];exact wpAny_pure hc
end
theorem dj{val:Nat->Int}:∀n j:Nat,j<=n->val j<=val (argBest (fun i j=>decide (val i>val j)) n)
 | 0,j,h=>by
  have:j=0:=by omega
  subst this;exact Int.le_refl _
 |n+1,j,h=>by
  unfold argBest;by_cases c:val (n+1)>val (argBest (fun i j=>decide (val i>val j)) n)
  ·simp only[decide_eq_true c,if_true];by_cases e:j=n+1
   ·rw[e];exact Int.le_refl _
   ·have:=dj (val:=val) n j (by omega);omega
  ·simp only[decide_eq_false c,false_eq_true,if_false];by_cases e:j=n+1
   ·rw[e];omega
   ·exact dj n j (by omega)
theorem di{val:Nat->Int}:∀n j:Nat,j<=n->val (argBest (fun i j=>decide (val i<val j)) n)<=val j
 | 0,j,h=>by
  have:j=0:=by omega
  subst this;exact Int.le_refl _
 |n+1,j,h=>by
  unfold argBest;by_cases c:val (n+1)<val (argBest (fun i j=>decide (val i<val j)) n)
  ·simp only[decide_eq_true c,if_true];by_cases e:j=n+1
   ·rw[e];exact Int.le_refl _
   ·have:=di (val:=val) n j (by omega);omega
  ·simp only[decide_eq_false c,false_eq_true,if_false];by_cases e:j=n+1
   ·rw[e];omega
   ·exact di n j (by omega)
theorem dk(bt:Nat->Nat->Bool):∀n:Nat,argBest bt n<=n
 | 0=>le_refl _
 |n+1=>by
  unfold argBest;split
  ·exact le_refl _
  ·exact le_trans (dk bt n) (le_succ n)
section
variable{X:Cx}
def Ismax(m:Int)(ns:List Int):Prop:=m∈ns/\ ∀x∈ns,x<=m
theorem ismax_of{ns:List Int}(hn:0<ns.length):Ismax (ns.getD (argBest (fun i j=>decide (ns.getD i 0>ns.getD j 0)) (ns.length-1)) 0) ns:=by
 have hb:=dk (fun i j=>decide (ns.getD i 0>ns.getD j 0)) (ns.length-1);have at':∀j,j<ns.length->ns.getD j 0=ns[j]!:=fun j h=>by simp[h]
 refine⟨?_,fun x hx=>?_⟩
 ·have hl:argBest (fun i j=>decide (ns.getD i 0>ns.getD j 0)) (ns.length-1)<ns.length:=by omega
  generalize argBest (fun i j=>decide (ns.getD i 0>ns.getD j 0)) (ns.length-1)=k at hl;have:ns.getD k 0=ns[k]:=by simp[hl]
  rw[this];exact getElem_mem hl
 ·obtain⟨j,hj,rfl⟩:=List.mem_iff_getElem.mp hx;have h1:=dj (val:=fun i=>ns.getD i 0) (ns.length-1) j (by omega);have h2:ns.getD j 0=ns[j]:=by simp[hj]
  rw[<-h2];exact h1
theorem xu(hc:X.calm=true):kM X (.builtin "max") (fun xs H Q=>∃(a:Addr)(ns:List Int),xs=[.ref a]/\SqL X.K H a (ns.map V.int)/\ns≠[]/\ ∀m,Ismax m ns->Q (.int m) H):=by
 intro pins s σ H xs us Q I r h;obtain⟨a,ns,rfl,hq,hne,q⟩:=h;obtain⟨u,rfl,ru⟩:=jS r;cases ru;have hh:X.A.in1.handled=none:=I.ok.hd hc;obtain⟨its,rv,p,hz⟩:=I.list hq;have hl:=rv.length;rw[length_map]at hl;have hlt:a<s.heap.objs.size:=by obtain⟨_,e,_⟩:=p.isList;exact Heap.lt_size e
 have hn:0<ns.length:=List.length_pos_iff.mpr hne;refine call_max_walk (wpAny_pyIter_list p.isList ⟨_,_,_,_,_,_,_,rfl,Walks.list (A:=X.A.in1) hh _ a (ne_of_lt hlt) its.toArray,⟨⟨_,Heap.get?_push_size _ rfl,rfl,rfl⟩,p.isList.push _⟩,fun b hb=>?_,by rw[size_toArray,<-hl];exact hn,CmpOf.ints_gt (fun i=>ns.getD i 0) (yF rv),fun v h' tk p1 kk=>?_⟩)
 ·show b<(s.heap.push _).objs.size;rw[Heap.size_push];rcases mem_cons.mp hb with rfl|hb
  ·exact Nat.lt_succ_self _
  ·rcases mem_cons.mp hb with rfl|hb
   ·exact lt_succ_of_lt hlt
   ·cases hb
 ·rw[size_toArray,<-hl]at p1;obtain⟨t,e⟩:=yF rv _ v p1;exact⟨.int _,H,I.kept fun b o e=>kk b o (by simpa using ne_of_lt (Heap.lt_size e)) (Heap.get?_push_of_some _ e),⟨t,e⟩,q _ (ismax_of hn)⟩
end
section
variable{prog:Program}{w:World}{A:Around}{R:Result->Shared->Prop}{I:Addr}{fp wr:List Addr}{n:Nat}{P:Nat->Value->Prop}{St:Nat->Heap->Prop}
theorem vK(a v:Value):argsOk "min" ⟨[a],[(Str.ofString "default",v)]⟩:=by unfold argsOk;kernel_rfl
theorem min_loopK{kw:List (Str×Value)}(W0:Walks prog w A.in1 I fp wr n P St)(bt:Nat->Nat->Bool)(hc:CmpOf prog w A.in1 .Lt P bt)(S:Addr)(hSf:S∉fp):∀(k j:Nat)(s:Shared)(vb:Value)(c:Nat),n-(j+1)=k->j+1<=n->St (j+1) s.heap->P (argBest bt j) vb->
  s.heap.get? S=some {cls:=.type "list",dict:=none,data:=.seq #[vb,vb] c,slots:=#[]}->
  (∀v h' tk,P (argBest bt (n-1)) v->(∀b o,b∉wr->b≠S->s.heap.get? b=some o->h'.get? b=some o)->R (.ok (.ret v)) {s with heap:=h',toks:=tk})->
  codeAny (model prog w) A (.builtin "min.loop" ⟨[.ref I,.none,.ref S],kw⟩) R s:=by
 have hSw:S∉wr:=fun h=>hSf (W0.sub _ h);have nm:(toString "min"++toString ".loop" : String)="min.loop" :=by decide
 intro k
 induction k with
 |zero =>
  intro j s vb c hk hj st hP hS hR;have hn:j+1=n:=by omega
  refine codeAny_builtin F.entry_min_loop ?_;rw[Around.under_plainId F.plain_min_loop _];show wpAny _ A.in1 (seqItems? (.ref S) >>= _) _ _ s;refine wpAny_bind (wpAny_seqItems hS rfl ?_);show wpAny _ A.in1 (tryCatch (pyNext (.ref I)) _ >>= _) _ _ s;refine wpAny_bind (wpAny_tryCatch (W0.done s _ _ (hn▸st) fun h' tk kk=>?_));have hS':=kk S _ hSw hS;show wpAny _ A.in1 (updateSeq S (fun _=>#[]) >>= _) _ _ _;refine wpAny_bind (wpAny_updateSeq hS' rfl (wpAny_bind (wpAny_letGo (wpAny_pure ?_))));exact hR vb _ tk (by rw[<-hn];exact hP) fun b o n1 n2 e=>(Heap.get?_update_other _ _ (Ne.symm n2)).trans (kk b o n1 e)
 |succ k ih =>
  intro j s vb c hk hj st hP hS hR;have hlt:j+1<n:=by omega
  refine codeAny_builtin F.entry_min_loop ?_;rw[Around.under_plainId F.plain_min_loop _];show wpAny _ A.in1 (seqItems? (.ref S) >>= _) _ _ s;refine wpAny_bind (wpAny_seqItems hS rfl ?_);show wpAny _ A.in1 (tryCatch (pyNext (.ref I)) _ >>= _) _ _ s;refine wpAny_bind (wpAny_tryCatch (W0.item (j+1) s _ _ hlt st fun v h' tk hPv st' kk=>?_));have hS':=kk S _ hSw hS;show wpAny _ A.in1 (tryCatch (holding [v,v] (richCompare .Lt v vb >>= _)) _ >>= _) _ _ _;refine wpAny_bind (wpAny_tryCatch (wpAny_holding (wpAny_bind (hc (j+1) (argBest bt j) v vb _ _ _ hPv hP ?_))));refine wpAny_bind (wpAny_holding (wpAny_truthy_bool ?_));refine wpAny_bind (wpAny_letGo (wpAny_pure ?_));cases hb:bt (j+1) (argBest bt j)with
  |true =>
   simp only[if_true];refine wpAny_bind (wpAny_updateSeq hS' rfl (wpAny_bind (wpAny_letGo ?_)));rw[nm];refine wpAny_pure ⟨plainId_quiet F.plain_min_loop _,ih (j+1) _ v _ (by omega) hlt (W0.frame _ _ _ st' fun b q o e=>?_) (by simp only[argBest,hb,if_true];exact hPv) (Heap.get?_update_self _ hS' rfl) fun v2 h2 t2 p2 k2=>?_⟩
   ·exact(Heap.get?_update_other _ _ (fun h:S=b=>hSf (by rw[h];exact q))).trans e
   ·exact hR v2 h2 t2 p2 fun b o n1 n2 e=>k2 b o n1 n2 ((Heap.get?_update_other _ _ (Ne.symm n2)).trans (kk b o n1 e))
  |false =>
   simp only[false_eq_true,if_false];refine wpAny_bind (wpAny_letGo ?_);rw[nm];refine wpAny_pure ⟨plainId_quiet F.plain_min_loop _,ih (j+1) _ vb c (by omega) hlt st' (by simp only[argBest,hb,false_eq_true,if_false];exact hP) hS' fun v2 h2 t2 p2 k2=>?_⟩;exact hR v2 h2 t2 p2 fun b o n1 n2 e=>k2 b o n1 n2 (kk b o n1 e)
theorem min_loop0{d:Value}{s:Shared}{c:Nat}(W0:Walks prog w A.in1 I fp wr n P St)(bt:Nat->Nat->Bool)(hc:CmpOf prog w A.in1 .Lt P bt)(S:Addr)(hSf:S∉fp)(st:St 0 s.heap)(hS:s.heap.get? S=some {cls:=.type "list",dict:=none,data:=.seq #[] c,slots:=#[]})(hR:∀v h' tk,(0<n->P (argBest bt (n-1)) v)->(n=0->v=d)->(∀b o,b∉wr->b≠S->s.heap.get? b=some o->h'.get? b=some o)->R (.ok (.ret v)) {s with heap:=h',toks:=tk}) :
  codeAny (model prog w) A (.builtin "min.loop" ⟨[.ref I,.none,.ref S],[(Str.ofString "default",d)]⟩) R s:=by
 have hSw:S∉wr:=fun h=>hSf (W0.sub _ h);have nm:(toString "min"++toString ".loop" : String)="min.loop" :=by decide
 refine codeAny_builtin F.entry_min_loop ?_;rw[Around.under_plainId F.plain_min_loop _];show wpAny _ A.in1 (seqItems? (.ref S) >>= _) _ _ s;refine wpAny_bind (wpAny_seqItems hS rfl ?_);show wpAny _ A.in1 (tryCatch (pyNext (.ref I)) _ >>= _) _ _ s;by_cases h0:n=0
 ·refine wpAny_bind (wpAny_tryCatch (W0.done s _ _ (h0▸st) fun h' tk kk=>?_));show wpAny _ A.in1 (rule _ >>= _) _ _ _;refine wpAny_bind (wpAny_rule (wpAny_pure ?_));exact hR d h' tk (fun z=>absurd h0 (Nat.ne_of_gt z)) (fun _=>rfl) fun b o n1 _ e=>kk b o n1 e
 ·have hn:0<n:=Nat.pos_of_ne_zero h0;refine wpAny_bind (wpAny_tryCatch (W0.item 0 s _ _ hn st fun v h' tk hPv st' kk=>?_));have hS':=kk S _ hSw hS;show wpAny _ A.in1 (updateSeq S (fun _=>#[v,v]) >>= _) _ _ _;refine wpAny_bind (wpAny_updateSeq hS' rfl ?_);rw[nm];refine wpAny_pure ⟨plainId_quiet F.plain_min_loop _,min_loopK W0 bt hc S hSf _ 0 _ v _ rfl hn (W0.frame _ _ _ st' fun b q o e=>?_) hPv (Heap.get?_update_self _ hS' rfl) fun v2 h2 t2 p2 k2=>?_⟩
  ·exact(Heap.get?_update_other _ _ (fun h:S=b=>hSf (by rw[h];exact q))).trans e
  ·exact hR v2 h2 t2 (fun _=>p2) (fun z=>absurd z h0) fun b o n1 n2 e=>k2 b o n1 n2 ((Heap.get?_update_other _ _ (Ne.symm n2)).trans (kk b o n1 e))
end
section
variable{prog:Program}{w:World}{A:Around}{E:Value->Shared->Prop}{s:Shared}
theorem jK{x d:Value}{Q:Value->Shared->Prop}(h:wpAny (model prog w) A.in1 (pyIter x) (fun it s2=>∃ I fp wr n P St bt,it= .ref I/\Walks prog w A.in1 I fp wr n P St/\St 0 s2.heap/\(∀b∈fp,b<s2.heap.objs.size)/\CmpOf prog w A.in1 .Lt P bt/\
   ∀v h' tk,(0<n->P (argBest bt (n-1)) v)->(n=0->v=d)->(∀b o,b∉wr->s2.heap.get? b=some o->h'.get? b=some o)->Q v {s2 with heap:=h',toks:=tk}) E s) :
  wpAny (model prog w) A (call (.builtin "min") [x] [(Str.ofString "default",d)]) Q E s:=by
 have nm:(toString "min"++toString ".loop" : String)="min.loop" :=by decide
 refine tw F.kind_min F.plain_min F.entry_min (vK _ _) ?_;show wpAny _ A.in1 (Builtin.Builtins.bindParams "min" ["key","default"] 0 ⟨[],[(Str.ofString "default",d)]⟩ >>= _) _ _ s;refine wpAny_bind (wpAny_of_eq (show Builtin.Builtins.bindParams "min" ["key","default"] 0 ⟨[],[(Str.ofString "default",d)]⟩=pure [none,some d]from rfl) ?_);refine wpAny_bind (wpAny_pure ?_);refine wpAny_bind (wpAny_mono h (fun it s2 h2=>?_) fun _ _ e=>e);obtain⟨I,fp,wr,n,P,St,bt,rfl,W0,st,hfp,hc,hQ⟩:=h2;refine wpAny_bind (wpAny_newObj_type ?_);have hSf:s2.heap.objs.size∉fp:=fun hm=>lt_irrefl _ (hfp _ hm);rw[nm];refine wpAny_pure ⟨plainId_quiet F.plain_min_loop _,min_loop0 W0 bt hc s2.heap.objs.size hSf (W0.frame _ _ _ st fun b _ o e=>Heap.get?_push_of_some _ e) (Heap.get?_push_size _ rfl) fun v h' tk p1 p2 kk=>?_⟩;exact hQ v h' tk p1 p2 fun b o n1 e=>kk b o n1 (ne_of_lt (Heap.lt_size e)) (Heap.get?_push_of_some _ e)
end
section
variable{X:Cx}
def Ismin(m:Int)(ns:List Int):Prop:=m∈ns/\ ∀x∈ns,m<=x
theorem ismin_of{ns:List Int}(hn:0<ns.length):Ismin (ns.getD (argBest (fun i j=>decide (ns.getD i 0<ns.getD j 0)) (ns.length-1)) 0) ns:=by
 have hb:=dk (fun i j=>decide (ns.getD i 0<ns.getD j 0)) (ns.length-1);have at':∀j,j<ns.length->ns.getD j 0=ns[j]!:=fun j h=>by simp[h]
 refine⟨?_,fun x hx=>?_⟩
 ·have hl:argBest (fun i j=>decide (ns.getD i 0<ns.getD j 0)) (ns.length-1)<ns.length:=by omega
  generalize argBest (fun i j=>decide (ns.getD i 0<ns.getD j 0)) (ns.length-1)=k at hl;have:ns.getD k 0=ns[k]:=by simp[hl]
  rw[this];exact getElem_mem hl
 ·obtain⟨j,hj,rfl⟩:=List.mem_iff_getElem.mp hx;have h1:=di (val:=fun i=>ns.getD i 0) (ns.length-1) j (by omega);have h2:ns.getD j 0=ns[j]:=by simp[hj]
  rw[<-h2];exact h1
theorem min_walkI{pins:List (Addr×Obj)}{σ:St}{H:Hp}{s:Shared}{k:Bool}{a:Addr}{ns:List Int}{E:Value->Shared->Prop}{d:Value}{Q:Value->Shared->Prop}(hc:X.calm=true)(I:Inv X pins σ H s)(hq:Sq k X.K H a (ns.map V.int))(h:∀h' tk v,(∀b o,s.heap.get? b=some o->h'.get? b=some o)->(0<ns.length-> ∃m t,v= .int m t/\Ismin m ns)->(ns.length=0->v=d)->Q v {s with heap:=h',toks:=tk}) :
  wpAny (model X.prog X.w) X.A (call (.builtin "min") [.ref a] [(Str.ofString "default",d)]) Q E s:=by
 have hh:X.A.in1.handled=none:=I.ok.hd hc;obtain⟨its,rv,p,hz⟩:=I.sq hq;have hl:=rv.length;rw[length_map]at hl;have hlt:=p.lt;have fin:∀(h':Heap)(tk:Nat)(v:Value),(∀b o,s.heap.get? b=some o->h'.get? b=some o)->(0<its.toArray.size->its.toArray[argBest (fun i j=>decide (ns.getD i 0<ns.getD j 0)) (its.toArray.size-1)]? =some v)->(its.toArray.size=0->v=d)->Q v {s with heap:=h',toks:=tk}:=fun h' tk v kk p1 p2=>by
  rw[size_toArray,<-hl]at p1 p2;refine h h' tk v kk (fun hn=>?_) p2;obtain⟨t,e⟩:=yF rv _ v (p1 hn);exact⟨_,t,e,ismin_of hn⟩
 have apart:∀b∈[s.heap.objs.size,a],b<s.heap.objs.size+1:=fun b hb=>by
  rcases mem_cons.mp hb with rfl|hb
  ·exact Nat.lt_succ_self _
  ·rcases mem_cons.mp hb with rfl|hb
   ·exact lt_succ_of_lt hlt
   ·cases hb
 cases k
 ·refine jK (wpAny_pyIter_list p ⟨_,_,_,_,_,_,_,rfl,Walks.list (A:=X.A.in1) hh _ a (ne_of_lt hlt) its.toArray,⟨⟨_,Heap.get?_push_size _ rfl,rfl,rfl⟩,Heap.IsList.push p _⟩,fun b hb=>?_,CmpOf.ints_lt (fun i=>ns.getD i 0) (yF rv),fun v h' tk p1 p2 kk=>?_⟩)
  ·show b<(s.heap.push _).objs.size;rw[Heap.size_push];exact apart b hb
  ·exact fin h' tk v (fun b o e=>kk b o (by simpa using ne_of_lt (Heap.lt_size e)) (Heap.get?_push_of_some _ e)) p1 p2
 ·refine jK (wpAny_pyIter_tuple p ⟨_,_,_,_,_,_,_,rfl,Walks.tuple (A:=X.A.in1) hh _ a (ne_of_lt hlt) its.toArray,⟨⟨_,Heap.get?_push_size _ rfl,rfl,rfl⟩,Heap.IsTuple.push p _⟩,fun b hb=>?_,CmpOf.ints_lt (fun i=>ns.getD i 0) (yF rv),fun v h' tk p1 p2 kk=>?_⟩)
  ·show b<(s.heap.push _).objs.size;rw[Heap.size_push];exact apart b hb
  ·exact fin h' tk v (fun b o e=>kk b o (by simpa using ne_of_lt (Heap.lt_size e)) (Heap.get?_push_of_some _ e)) p1 p2
def rminD(K:W.Frag)(k:Bool)(x d:V)(H:Hp)(Q:VK):Prop:=∃ a ns,x= .ref a/\Sq k K H a (ns.map V.int)/\ ∀v,((ns=[]/\v=d)\/ ∃m,v= .int m/\Ismin m ns)->Q v H
def tminD(K:W.Frag)(k:Bool)(te td:TE):TE:=fun σ H Q=>te σ H fun x H1=>td σ H1 fun d H2=>rminD K k x d H2 Q
theorem pe_minD(k:Bool){e dE:Expr}{te td:TE}{p kp pos:Pos}(hc:X.calm=true)(hg:Gl X "min")(hm:X.mg "min"=none)(he:PE X e te)(hd:PE X dE td)(hse:starEach [e] X.env=[(false,eval e X.env)]:=by rfl):PE X (.Call (.Name "min" p) [e] [⟨some "default",dE,kp⟩] pos) (tminD X.K k te td):=by
 intro pins s σ H Q I h;refine wpAny_Call_Name_kw (wa I hg hm boot_min ?_ (by decide) (by decide));refine callWith_kw (thn (kx he kY hse pos pins s σ H (fun vs H1=>match vs with| [x]=>td σ H1 fun d H2=>rminD X.K k x d H2 Q| _=>False) I h) fun us s1 ⟨vs,H1,I1,r1,q1⟩=>?_) (by rw[hse];rfl) (by rw[hse];rfl)
 match vs,r1,q1 with
 | [x],r1,q =>
  obtain⟨u,rfl,ru⟩:=jS r1;refine kws_cons (thn (hd pins s1 σ H1 _ I1 q) fun dv s2 ⟨d,H2,I2,r2,q2⟩=>kws_nil ?_);obtain⟨a,ns,rfl,hq,q3⟩:=q2;cases ru;show wpAny _ _ (call (.builtin "min") [.ref a] [(Str.ofString "default",dv)]) _ _ _;refine min_walkI hc I2 hq fun h' tk v kk p1 p2=>?_;by_cases hn:0<ns.length
  ·obtain⟨m,t,rfl,hm⟩:=p1 hn;exact⟨.int m,H2,I2.kept kk,⟨t,rfl⟩,q3 _ (.inr ⟨m,rfl,hm⟩)⟩
  ·have e0:ns.length=0:=by omega
   rw[p2 e0];exact⟨d,H2,I2.kept kk,r2,q3 _ (.inl ⟨List.length_eq_zero_iff.mp e0,rfl⟩)⟩
end
theorem pg_tupC{X:Cx}{scope:Scope}{N:List Str}{C:Addr}{s:Shared}{H:Hp}{ex:List Addr}{es:List Expr}{k:Nat}{t:TGs}{pos:Pos}(n:Nat)(hc:X.calm=true)(h:PGs (cxC X scope N C s H ex) es t)(hn:(assignEach es (cxC X scope N C s H ex).env).length=n)(hst:(assignEach es (cxC X scope N C s H ex).env).findIdx? (·.1)=none):PG (cxC X scope N C s H ex) (.Tuple es k pos) (gTup X.K n t):=vv hc h hn hst
section
variable{κ:Type}[DecidableEq κ]
def valV(kvs:List (κ×V))(k:κ):Option V:=(kvs.find? fun kv=>decide (kv.1=k)).map (·.2)
def putK(kvs:List (κ×V))(k:κ)(v:V):List (κ×V) :=
 if(kvs.any fun kv=>decide (kv.1=k))=true then kvs.map (fun kv=>if kv.1=k then(kv.1,v)else kv)else kvs++[(k,v)]
def qT(kvs:List (κ×V))(k:κ):List (κ×V):=kvs.filter fun kv=>decide (kv.1≠k)
theorem pb{p:κ×V}{r:List (κ×V)}{k:κ}(e:p.1=k):valV (p::r) k=some p.2:=by simp[valV,find?_cons,e]
theorem p9{p:κ×V}{r:List (κ×V)}{k:κ}(e:¬p.1=k):valV (p::r) k=valV r k:=by simp[valV,find?_cons,e]
theorem wG(k:κ):∀kvs:List (κ×V),(kvs.any fun kv=>decide (kv.1=k))=(valV kvs k).isSome
 | []=>rfl
 |p::r=>by
  rw[any_cons];by_cases e:p.1=k
  ·simp only[pb e,decide_eq_true e,Bool.true_or,Option.isSome_some]
  ·rw[p9 e,decide_eq_false e,Bool.false_or];exact wG k r
theorem pK(kvs:List (κ×V))(k:κ)(v:V):(putK kvs k v).length<=kvs.length+1:=by
 unfold putK;split
 ·rw[length_map];omega
 ·rw[length_append,length_cons,List.length_nil];omega
theorem putK_new{kvs:List (κ×V)}{k:κ}(v:V)(h:valV kvs k=none):putK kvs k v=kvs++[(k,v)]:=by
 unfold putK;rw[wG,h];exact if_neg (by decide)
theorem RelO.isSome_eq{o:Option V}{u:Option Value}(r:RelO o u):o.isSome=u.isSome:=by
 cases o with
 |none=>cases u with
  |none=>rfl
  |some _=>exact(show False from r).elim
 |some _=>cases u with
  |none=>exact(show False from r).elim
  |some _=>rfl
theorem RelO.getD{o:Option V}{u:Option Value}{d:V}{d':Value}(r:RelO o u)(rd:RelV d d'):RelV (o.getD d) (u.getD d'):=by
 cases o with
 |none=>cases u with
  |none=>exact rd
  |some _=>exact(show False from r).elim
 |some _=>cases u with
  |none=>exact(show False from r).elim
  |some _=>exact r
theorem KV.val{kvs:List (κ×V)}{vs:List (κ×Value)}(r:KV kvs vs)(k:κ):RelO (valV kvs k) (valueAt vs k):=by
 unfold KV at r
 induction r with
 |nil=>exact True.intro
 | @cons p q ps qs h t ih =>
  obtain⟨h1,h2⟩:=h;by_cases e:p.1=k
  ·have e':q.1=k:=h1.symm.trans e;have b:valueAt (q::qs) k=some q.2:=by simp[valueAt,find?_cons,e']
   rw[pb e,b];exact h2
  ·have e':¬q.1=k:=fun z=>e (h1.trans z);have b:valueAt (q::qs) k=valueAt qs k:=by simp[valueAt,find?_cons,e']
   rw[p9 e,b];exact ih
theorem KV.any{kvs:List (κ×V)}{vs:List (κ×Value)}(r:KV kvs vs)(k:κ):(kvs.any fun kv=>decide (kv.1=k))=vs.any fun kv=>decide (kv.1=k):=by
 unfold KV at r
 induction r with
 |nil=>rfl
 |cons h t ih=>rw[any_cons,any_cons,ih,h.1]
theorem KV.repl{kvs:List (κ×V)}{vs:List (κ×Value)}(r:KV kvs vs)(k:κ){y:V}{u:Value}(ry:RelV y u) :
  KV (kvs.map fun kv=>if kv.1=k then(kv.1,y)else kv) (vs.map fun kv=>if kv.1=k then(kv.1,u)else kv):=by
 unfold KV at r ⊢
 induction r with
 |nil=>exact .nil
 | @cons p q ps qs h t ih =>
  rw[map_cons,map_cons];refine .cons ?_ ih;obtain⟨h1,h2⟩:=h;by_cases e:p.1=k
  ·rw[if_pos e,if_pos (h1.symm.trans e)];exact⟨h1,ry⟩
  ·rw[if_neg e,if_neg (fun z=>e (h1.trans z))];exact⟨h1,h2⟩
theorem KV.put{kvs:List (κ×V)}{vs:List (κ×Value)}(r:KV kvs vs)(k:κ){y:V}{u:Value}(ry:RelV y u):KV (putK kvs k y) (stored vs k u):=by
 unfold putK stored;rw[r.any k];by_cases e:(vs.any fun kv=>decide (kv.1=k))=true
 ·rw[if_pos e,if_pos e];exact r.repl k ry
 ·rw[if_neg e,if_neg e];exact Paired.snoc r ⟨rfl,ry⟩
theorem KV.drop{kvs:List (κ×V)}{vs:List (κ×Value)}(r:KV kvs vs)(k:κ):KV (qT kvs k) (without vs k):=by
 unfold KV at r ⊢;unfold qT without
 induction r with
 |nil=>exact .nil
 | @cons p q ps qs h t ih =>
  obtain⟨h1,h2⟩:=h;rw[filter_cons,filter_cons];by_cases e:p.1=k
  ·have a:¬decide (p.1≠k)=true:=by simp[e]
   have b:¬decide (q.1≠k)=true:=by simp[h1.symm.trans e]
   rw[if_neg a,if_neg b];exact ih
  ·have e':¬q.1=k:=fun z=>e (h1.trans z);have a:decide (p.1≠k)=true:=by simp[e]
   have b:decide (q.1≠k)=true:=by simp[e']
   rw[if_pos a,if_pos b];exact .cons ⟨h1,h2⟩ ih
theorem KV.length{kvs:List (κ×V)}{vs:List (κ×Value)}(r:KV kvs vs):kvs.length=vs.length:=Paired.length r
theorem dropK_le(kvs:List (κ×V))(k:κ):(qT kvs k).length<=kvs.length:=List.length_filter_le _ _
end
theorem qV{P:Program}{w:World}{k:Key}{u:Value}(r:RelV (kV k) u):(zW P w).is k u=true:=by
 cases k with
 |inl i=>obtain⟨t,e⟩:=(show ∃t,u=Value.int i t from r);subst e;exact dU P w i t
 |inr x=>obtain⟨t,e⟩:=(show ∃t,u=Value.str x t from r);subst e;exact dW P w x t
theorem tK{P:Program}{w:World}:∀{ks:List Key}{us:List Value},Vals (ks.map kV) us->ItemsAre (zW P w) ks us
 | [],_,r=>by rw[List.map_nil]at r;cases r;exact .nil
 |k::ks,_,r=>by
  rw[map_cons]at r;cases r with
  |cons h t=>exact .cons (qV h) (tK t)
abbrev KT(H:Hp):List (List Key×V)->List (List Key×Addr×Value)->Prop:=Paired fun p q=>p.1=q.1/\H q.2.1=some (.tup (p.1.map kV))/\RelV p.2 q.2.2
theorem KT.val{H:Hp}{kvs:List (List Key×V)}{xs:List (List Key×Addr×Value)}(r:KT H kvs xs)(k:List Key):RelO (valV kvs k) ((atKey xs k).map (·.2)):=by
 induction r with
 |nil=>exact True.intro
 | @cons p q ps qs h t ih =>
  obtain⟨h1,_,h2⟩:=h;by_cases e:p.1=k
  ·have e':q.1=k:=h1.symm.trans e;have b:atKey (q::qs) k=some q.2:=by simp[atKey,find?_cons,e']
   rw[pb e,b];exact h2
  ·have e':¬q.1=k:=fun z=>e (h1.trans z);have b:atKey (q::qs) k=atKey qs k:=by simp[atKey,find?_cons,e']
   rw[p9 e,b];exact ih
theorem KT.repl{H:Hp}{kvs:List (List Key×V)}{xs:List (List Key×Addr×Value)}(r:KT H kvs xs)(k:List Key){y:V}{u:Value}(ry:RelV y u) :
  KT H (kvs.map fun kv=>if kv.1=k then(kv.1,y)else kv) (xs.map (putAt k u)):=by
 induction r with
 |nil=>exact .nil
 | @cons p q ps qs h t ih =>
  rw[map_cons,map_cons];refine .cons ?_ ih;obtain⟨h1,h2,h3⟩:=h;unfold putAt;by_cases e:p.1=k
  ·rw[if_pos e,if_pos (h1.symm.trans e)];exact⟨h1,h2,ry⟩
  ·rw[if_neg e,if_neg (fun z=>e (h1.trans z))];exact⟨h1,h2,h3⟩
theorem KT.put{H:Hp}{kvs:List (List Key×V)}{xs:List (List Key×Addr×Value)}(r:KT H kvs xs)(k:List Key){b:Addr}{y:V}{u:Value}(hb:H b=some (.tup (k.map kV)))(ry:RelV y u) :
  KT H (putK kvs k y) (storedH xs k b u):=by
 have e:(kvs.any fun kv=>decide (kv.1=k))=(atKey xs k).isSome:=by
  rw[wG,(r.val k).isSome_eq,Option.isSome_map]
 unfold putK storedH;rw[e];by_cases q:(atKey xs k).isSome=true
 ·rw[if_pos q,if_pos q];exact r.repl k ry
 ·rw[if_neg q,if_neg q];exact Paired.snoc r ⟨rfl,hb,ry⟩
theorem KT.keeps{H H':Hp}{kvs:List (List Key×V)}{xs:List (List Key×Addr×Value)}(r:KT H kvs xs)(ht:∀b ys,H b=some (.tup ys)->H' b=some (.tup ys)):KT H' kvs xs :=
 Paired.mapP r fun _ _ z=>⟨z.1,ht _ _ z.2.1,z.2.2⟩
section
variable{P:Program}{w:World}{H:Hp}{h:Heap}{a:Addr}
theorem rd_of{u:HO}(ok:HOk P w H h)(e:Rd H a u):zU P w H h a u:=e.ok ok
theorem tB{kvs:List (Key×V)}(ok:HOk P w H h)(e:Rd H a (.dK kvs)):kvs.length<=sizeLine/\(a==sysModules)=false/\ ∃vs,KV kvs vs/\h.DictOf (zW P w) a vs :=
 show zU P w H h a (.dK kvs)from rd_of ok e
theorem dk_of{kvs:List (Key×V)}(ok:HOk P w H h)(e:H a=some (.dK kvs)):kvs.length<=sizeLine/\(a==sysModules)=false/\ ∃vs,KV kvs vs/\h.DictOf (zW P w) a vs:=tB ok (.inl e)
theorem gN{ks:List Key}(ok:HOk P w H h)(e:H a=some (.tup (ks.map kV))):(tupleKind (zW P w)).is h ks a:=by
 obtain⟨_,its,r,⟨o,h1,h2,n,h3⟩,_⟩:=(show zU P w H h a (.tup (ks.map kV))from ok a _ e);exact⟨o,its.toArray,n,h1,h2,h3,by simpa using tK r⟩
theorem dH{kvs:List (List Key×V)}(ok:HOk P w H h)(e:Rd H a (.dT kvs)):kvs.length<=sizeLine/\(a==sysModules)=false/\
  ∃xs,KT H kvs xs/\h.DictOfH (tupleKind (zW P w)) a xs:=by
 obtain⟨z,y,xs,r,o,es,ep,h1,h2,h3,h4,h5⟩:=(show zU P w H h a (.dT kvs)from rd_of ok e);refine⟨z,y,xs,r,o,es,ep,h1,h2,h3,h4,fun x hx=>?_,h5⟩;have all:∀{l:List (List Key×V)}{m:List (List Key×Addr×Value)},KT H l m-> ∀x∈m,(tupleKind (zW P w)).is h x.1 x.2.1:=by
  intro l m q
  induction q with
  |nil=>intro x hx;exact nomatch hx
  | @cons p q ps qs hq t ih =>
   intro x hx;rcases mem_cons.mp hx with e|hx
   ·subst e;exact gN ok (by rw[<-hq.1];exact hq.2.1)
   ·exact ih x hx
 exact all r x hx
theorem dt_of{kvs:List (List Key×V)}(ok:HOk P w H h)(e:H a=some (.dT kvs)):kvs.length<=sizeLine/\(a==sysModules)=false/\
  ∃xs,KT H kvs xs/\h.DictOfH (tupleKind (zW P w)) a xs:=dH ok (.inl e)
end
def DGet(H:Hp)(a:Addr)(y:V)(r:Option V):Prop :=
 (∃kvs k,Rd H a (.dK kvs)/\y=kV k/\r=valV kvs k)\/ ∃kvs k b,Rd H a (.dT kvs)/\y= .ref b/\H b=some (.tup (k.map kV))/\r=valV kvs k
def DPut(H:Hp)(a:Addr)(y v:V)(H':Hp):Prop :=
 (∃kvs k,H a=some (.dK kvs)/\y=kV k/\kvs.length<sizeLine/\H'=upd H a (.dK (putK kvs k v)))\/
 ∃kvs k b,H a=some (.dT kvs)/\y= .ref b/\H b=some (.tup (k.map kV))/\kvs.length<sizeLine/\H'=upd H a (.dT (putK kvs k v))
theorem DGet.k{H:Hp}{a:Addr}{kvs:List (Key×V)}{k:Key}(e:H a=some (.dK kvs)):DGet H a (kV k) (valV kvs k):=.inl ⟨kvs,k,.inl e,rfl,rfl⟩
theorem DPut.k{H:Hp}{a:Addr}{kvs:List (Key×V)}{k:Key}{v:V}(e:H a=some (.dK kvs))(hl:kvs.length<sizeLine):DPut H a (kV k) v (upd H a (.dK (putK kvs k v))):=.inl ⟨kvs,k,e,rfl,hl,rfl⟩
section
variable{X:Cx}{pins:List (Addr×Obj)}{σ:St}{H:Hp}{s:Shared}{a:Addr}{y v:V}{u r:Value}{o:Option V}{A:Around}{E:Value->Shared->Prop}
theorem Inv.big(I:Inv X pins σ H s):sysModules<s.heap.objs.size:=by
 have h:mainGlobals<s.heap.objs.size:=(I.mod.glob.keeps I.bk).lt;exact Nat.lt_trans (by decide) h
theorem d_getItem{Q:Value->Shared->Prop}(hu:A.units+1<cLine)(I:Inv X pins σ H s)(g:DGet H a y (some v))(ry:RelV y u)(h:∀w' s',Inv X pins σ H s'->RelV v w'->Q w' s') :
  wpAny (model X.prog X.w) A (getItem (.ref a) u) Q E s:=by
 rcases g with⟨kvs,k,e,ey,l⟩|⟨kvs,k,b,e,ey,eb,l⟩
 ·subst ey;obtain⟨z,hd,vs,rel,dd⟩:=tB I.hok e;obtain⟨w',hw,rw'⟩:=RelO.some_of (v:=v) (o:=valueAt vs k) (by rw[l];exact rel.val k);exact wpAny_getItem_of (qV ry) dd.mapOf hw (h w' _ (I.tok _) rw')
 ·subst ey;cases(show u=Value.ref b from ry);obtain⟨z,hd,xs,rel,dd⟩:=dH I.hok e;obtain⟨w',hw,rw'⟩:=RelO.some_of (v:=v) (o:=(atKey xs k).map (·.2)) (by rw[l];exact rel.val k);obtain⟨p,hp,hp2⟩:=map_eq_some_iff.mp hw;refine wpAny_getItem_heap (tupleKind_room_in1 hu) (gN I.hok eb) dd hp ?_;rw[hp2];exact h w' _ (I.tok _) rw'
theorem d_in{Q:Value->Shared->Prop}(hu:A.units+1<cLine)(I:Inv X pins σ H s)(g:DGet H a y o)(ry:RelV y u)(h:∀s',Inv X pins σ H s'->Q (.bool o.isSome) s') :
  wpAny (model X.prog X.w) A (compareOp .In u (.ref a)) Q E s:=by
 rcases g with⟨kvs,k,e,ey,l⟩|⟨kvs,k,b,e,ey,eb,l⟩
 ·subst ey;obtain⟨z,hd,vs,rel,dd⟩:=tB I.hok e;refine wpAny_in_of (qV ry) hd dd.mapOf ?_;rw[<-(rel.val k).isSome_eq,<-l];exact h _ (I.tok _)
 ·subst ey;cases(show u=Value.ref b from ry);obtain⟨z,hd,xs,rel,dd⟩:=dH I.hok e;refine wpAny_in_heap (tupleKind_room_in1 hu) (gN I.hok eb) hd dd ?_;have q:=(rel.val k).isSome_eq;rw[Option.isSome_map]at q;rw[<-q,<-l];exact h _ (I.tok _)
theorem d_notIn{Q:Value->Shared->Prop}(hu:A.units+1<cLine)(I:Inv X pins σ H s)(g:DGet H a y o)(ry:RelV y u)(h:∀s',Inv X pins σ H s'->Q (.bool (!o.isSome)) s') :
  wpAny (model X.prog X.w) A (compareOp .NotIn u (.ref a)) Q E s:=by
 rcases g with⟨kvs,k,e,ey,l⟩|⟨kvs,k,b,e,ey,eb,l⟩
 ·subst ey;obtain⟨z,hd,vs,rel,dd⟩:=tB I.hok e;refine wpAny_notIn_of (qV ry) hd dd.mapOf ?_;rw[<-(rel.val k).isSome_eq,<-l];exact h _ (I.tok _)
 ·subst ey;cases(show u=Value.ref b from ry);obtain⟨z,hd,xs,rel,dd⟩:=dH I.hok e;refine wpAny_notIn_heap (tupleKind_room_in1 hu) (gN I.hok eb) hd dd ?_;have q:=(rel.val k).isSome_eq;rw[Option.isSome_map]at q;rw[<-q,<-l];exact h _ (I.tok _)
theorem dF{h':Heap}{t':Nat}{ob:HO}(I:Inv X pins σ H s)(mu:Mut (H a))(hs:Heap.SameBut a s.heap h')(he:∃q,h'.get? a=some q)(new:zU X.prog X.w (upd H a ob) h' a ob) :
  Inv X pins σ (upd H a ob) {s with heap:=h',toks:=t'} :=
 I.write (x:=a) (e:=a) mu (.inl rfl) (fun b q hb z=>(hs.2 b hb).trans z) he new
theorem dk_new{P:Program}{w:World}{H':Hp}{h':Heap}{kvs:List (Key×V)}{vs:List (Key×Value)}(z:kvs.length<=sizeLine)(hd:(a==sysModules)=false)(rel:KV kvs vs)(dd:h'.DictOf (zW P w) a vs) :
  zU P w H' h' a (.dK kvs):=⟨z,hd,vs,rel,dd⟩
theorem d_setItem{H':Hp}{Q:Unit->Shared->Prop}(hu:A.units+1<cLine)(I:Inv X pins σ H s)(g:DPut H a y v H')(ry:RelV y u)(rv:RelV v r)(h:∀s',Inv X pins σ H' s'->Q () s') :
  wpAny (model X.prog X.w) A (setItem (.ref a) u r) Q E s:=by
 rcases g with⟨kvs,k,e,ey,l,eH⟩|⟨kvs,k,b,e,ey,eb,l,eH⟩
 ·subst ey eH;obtain⟨z,hd,vs,rel,dd⟩:=dk_of I.hok e;have hz:vs.length<=sizeLine:=by rw[<-rel.length];exact z
  have hl:(putK kvs k v).length<=sizeLine:=by have:=pK kvs k v;omega
  refine wpAny_setItem_pairs (hsz:=hz) (qV ry) dd fun h' dd' hs=>h _ ?_;have he:∃q,h'.get? a=some q:=let⟨q,_,_,hq,_⟩:=dd';⟨q,hq⟩
  exact dF I (by rw[e];exact True.intro) hs he (dk_new hl hd (rel.put k rv) dd')
 ·subst ey eH;cases(show u=Value.ref b from ry);obtain⟨z,hd,xs,rel,dd⟩:=dt_of I.hok e;have hz:xs.length<=sizeLine:=by rw[<-Paired.length rel];exact z
  have hl:(putK kvs k v).length<=sizeLine:=by have:=pK kvs k v;omega
  refine wpAny_setItem_heap (hsz:=hz) (tupleKind_room_in1 hu) (gN I.hok eb) dd fun h' dd' hs=>h _ ?_;obtain⟨q,es,ep,hq,h2,h3,h4,_,h5⟩:=dd';refine dF I (by rw[e];exact True.intro) hs ⟨q,hq⟩ ⟨hl,hd,_,(rel.put k eb rv).keeps fun c ys ec=>?_,q,es,ep,hq,h2,h3,h4,h5⟩;rw[zh (jc ec e (fun z=>nomatch z))];exact ec
end
section
variable{X:Cx}{pins:List (Addr×Obj)}{σ:St}{H:Hp}{s:Shared}{a:Addr}{kvs:List (Key×V)}{k:Key}{u:Value}{A:Around}{E:Value->Shared->Prop}
theorem d_pop{v:V}{more:List Value}{Q:Value->Shared->Prop}(I:Inv X pins σ H s)(e:H a=some (.dK kvs))(ry:RelV (kV k) u)(l:valV kvs k=some v)(hm:more=[]\/ ∃x,more=[x])(h:∀w' s',Inv X pins σ (upd H a (.dK (qT kvs k))) s'->RelV v w'->Q w' s'):wpAny (model X.prog X.w) A (call (.builtin "dict.pop") (.ref a::u::more)) Q E s:=by
 obtain⟨z,hd,vs,rel,dd⟩:=dk_of I.hok e;obtain⟨w',hw,rw'⟩:=RelO.some_of (v:=v) (o:=valueAt vs k) (by rw[<-l];exact rel.val k);have hp:(keyPart u).isSome=true:=by
  cases k with
  |inl i=>obtain⟨t,q⟩:=(show ∃t,u=Value.int i t from ry);subst q;rfl
  |inr x=>obtain⟨t,q⟩:=(show ∃t,u=Value.str x t from ry);subst q;rfl
 have ha:argsOk "dict.pop" ⟨.ref a::u::more,[]⟩:=by
  rcases hm with q|⟨x,q⟩
  ·subst q;exact PySem.F.args_dict_pop_2 _ _
  ·subst q;exact PySem.F.args_dict_pop_3 _ _ _
 refine call_meetsIn PySem.F.slot_dict_pop dd.typeIs PySem.F.entry_dict_pop ha (meets_dict_pop_there (zW X.prog X.w) a (qV ry) more hm hp)
  ⟨vs,w',dd,by rw[<-rel.length];exact z,hw,fun h' dd' hs=>h w' _ ?_ rw'⟩
 have he:∃q,h'.get? a=some q:=let⟨q,_,_,hq,_⟩:=dd';⟨q,hq⟩
 exact dF I (by rw[e];exact True.intro) hs he (dk_new (le_trans (dropK_le kvs k) z) hd (rel.drop k) dd')
theorem d_len{Q:Value->Shared->Prop}(I:Inv X pins σ H s)(e:Rd H a (.dK kvs))(h:∀t s',Inv X pins σ H s'->Q (.int kvs.length t) s'):wpAny (model X.prog X.w) A (call (.builtin "len") [.ref a]) Q E s:=by
 obtain⟨z,hd,vs,rel,dd⟩:=tB I.hok e;refine call_len_dict hd dd (by rw[<-rel.length];rw[sizeLine_eq]at z;omega) ?_;rw[<-rel.length];exact h _ _ (I.tok _)
end
def NoSl(i:Expr):Prop:=∀ ov iv,subscripted i false ov iv=operate [ov,iv] (getItem ov iv)
theorem subD_of{prog:Program}{w:World}{A:Around}{E:Value->Shared->Prop}{s:Shared}{env:Env}{value slice:Expr}{pos:Pos}{T id:String}{Q:Value->Shared->Prop}(hl:typeLookup (.type T) "__getitem__"=pure (some (.builtin id)))(hs:NoSl slice)(h:wpAny (model prog w) A (eval value env) (fun o s₁=>wpAny (model prog w) A (eval slice env) (fun i s₂=>s₂.TypeIs o T/\wpAny (model prog w) A (getItem o i) Q E s₂) E s₁) E s) :
  wpAny (model prog w) A (eval (.Subscript value slice pos) env) Q E s:=by
 refine Subscript_ (wpAny_mono h (fun o s₁ h₁=>wpAny_mono h₁ (fun i s₂ h₂=>?_) fun _ _ x=>x) fun _ _ x=>x);obtain⟨hT,h₂⟩:=h₂;unfold subscriptTail;refine wpAny_bind ?_;rw[getitemInPython_of_ne hT.not_modules];refine wpAny_bind (wpAny_specialOf hT hl ?_);have fin:wpAny (model prog w) A (subscripted slice false o i) (fun r s₃=>wpAny (model prog w) A (letTemporaryGo value o r >>= fun _=>pure r) Q E s₃) E s₂:=by
  rw[hs o i];exact wpAny_operating (wpAny_mono h₂ (fun r s₃ h₃=>wpAny_bind (wpAny_letTemporaryGo (wpAny_pure h₃))) fun _ _ x=>x)
 first
  |exact wpAny_pure (wpAny_bind fin)
  |exact wpAny_bind (wpAny_pure (wpAny_bind fin))
  |exact wpAny_bind fin
theorem dG{X:Cx}{pins:List (Addr×Obj)}{σ:St}{H:Hp}{s:Shared}{a:Addr}{y:V}{o:Option V}(I:Inv X pins σ H s)(g:DGet H a y o):s.TypeIs (.ref a) "dict" :=by
 rcases g with⟨kvs,k,e,_,_⟩|⟨kvs,k,b,e,_,_,_⟩
 ·obtain⟨_,_,vs,_,dd⟩:=tB I.hok e;exact dd.typeIs
 ·obtain⟨_,_,xs,_,dd⟩:=dH I.hok e;exact dd.typeIs
def tDGet(td ty:TE):TE:=fun σ H Q=>td σ H fun x H1=>ty σ H1 fun y H2=>∃ a v,x= .ref a/\DGet H2 a y (some v)/\Q v H2
def sDPut(td ty tv:TE):TS:=fun D σ H=>tv σ H fun v H1=>td σ H1 fun x H2=>ty σ H2 fun y H3=>∃ a H4,x= .ref a/\DPut H3 a y v H4/\D.nx σ H4
section
variable{X:Cx}{o i e value:Expr}{pos pos' tpos:Pos}{td ty tv:TE}
theorem yL(hu:X.A.units+1<cLine)(ho:PE X o td)(hi:PE X i ty)(hs:NoSl i):PE X (.Subscript o i pos) (tDGet td ty):=by
 intro pins s σ H Q I h;refine subD_of PySem.F.slot_dict_getitem.lookup hs (thn (ho pins s σ H _ I h) fun u s1 ⟨x,H1,I1,rx,q1⟩=>thn (hi pins s1 σ H1 _ I1 q1) fun iv s2 ⟨y,H2,I2,ry,a,v,ex,g,q2⟩=>?_);subst ex;obtain rfl:u=Value.ref a:=rx;exact⟨dG I2 g,d_getItem hu I2 g ry fun w' s3 I3 rw'=>⟨v,H2,I3,rw',q2⟩⟩
theorem cD(hu:X.A.units+1<cLine)(ho:PE X o td)(hi:PE X i ty)(hv:PE X value tv)(hs:swapsWith value (some (.Subscript o i pos')) pos.line X.env=pure false) :
  PS X (.Assign [.Subscript o i pos'] value pos) (sDPut td ty tv):=by
 intro pins s σ H D I h;refine wpAny_Assign_Subscript (thn (hv pins s σ H _ I h) fun r s1 ⟨v,H1,I1,rv,q1⟩=>thn (ho pins s1 σ H1 _ I1 q1) fun u s2 ⟨x,H2,I2,rx,q2⟩=>thn (hi pins s2 σ H2 _ I2 q2) fun iv s3 ⟨y,H3,I3,ry,a,H4,ex,g,q3⟩=>?_) hs;subst ex;obtain rfl:u=Value.ref a:=rx;exact d_setItem hu I3 g ry rv fun s4 I4=>⟨σ,H4,I4,q3⟩
end
theorem dk_empty{P:Program}{w:World}{H:Hp}(h:Heap)(hb:sysModules<h.objs.size):zU P w H (h.push {cls:=.type "dict",data:=.dict #[]}) h.objs.size (.dK []) :=
 ⟨zero_le _,beq_eq_false_iff_ne.mpr (Ne.symm (ne_of_lt hb)),[],.nil,Heap.DictOf.new h⟩
def tDNewK:TE:=fun _ H Q=>∀ p,H p=none->Q (.ref p) (upd H p (.dK []))
section
variable{X:Cx}{pos:Pos}
theorem re:PE X (.Dict [] [] pos) tDNewK:=fun pins s σ H Q I h =>
 wpAny_Dict_empty ⟨.ref s.heap.objs.size,_,I.laid (a:=s.heap.objs.size) (o:=.dK []) (t':=s.toks) (fun _ _ q=>Heap.get?_push_of_some _ q) (le_refl _) (dk_empty s.heap I.big),rfl,h _ (I.hok.fresh (le_refl _))⟩
end
structure M1(X:Cx)(o:Expr)(m:Str)(apos:Pos)(e:Expr)(cpos:Pos):Prop where
 base:attributeBase o m X.env (eval o X.env)=eval o X.env
 few:((backTo cpos (starEach [e] X.env)).all (fun x=>!x.1)&&(backToKw cpos (keywordEach [] X.env)).all (fun x=>x.1.isSome)
  &&decide (([e]:List Expr).length+([]:List Keyword).length+(if([]:List Keyword).isEmpty then 0 else 1)<30))=true
 line:(apos.endLine==cpos.line)=true
 trees:backTo cpos (starEach [e] X.env)=[(false,eval e X.env)]
structure M2(X:Cx)(o:Expr)(m:Str)(apos:Pos)(e f:Expr)(cpos:Pos):Prop where
 base:attributeBase o m X.env (eval o X.env)=eval o X.env
 few:((backTo cpos (starEach [e,f] X.env)).all (fun x=>!x.1)&&(backToKw cpos (keywordEach [] X.env)).all (fun x=>x.1.isSome)
  &&decide (([e,f]:List Expr).length+([]:List Keyword).length+(if([]:List Keyword).isEmpty then 0 else 1)<30))=true
 line:(apos.endLine==cpos.line)=true
 trees:backTo cpos (starEach [e,f] X.env)=[(false,eval e X.env),(false,eval f X.env)]
def IsD(H:Hp)(a:Addr):Prop:=(∃kvs,Rd H a (.dK kvs))\/ ∃kvs,Rd H a (.dT kvs)
theorem isD_at{X:Cx}{pins:List (Addr×Obj)}{σ:St}{H:Hp}{s:Shared}{a:Addr}(I:Inv X pins σ H s)(d:IsD H a) :
  s.TypeIs (.ref a) "dict"/\(∀b,Value.ref a= .ref b-> ∃ob,s.heap.get? b=some ob/\ob.dict=none)/\(a==sysModules)=false:=by
 rcases d with⟨kvs,e⟩|⟨kvs,e⟩
 ·obtain⟨_,hd,vs,_,dd⟩:=tB I.hok e;refine⟨dd.typeIs,fun b q=>?_,hd⟩;cases q;obtain⟨ob,_,_,h1,h2,_⟩:=dd;exact⟨ob,h1,h2.2.1⟩
 ·obtain⟨_,hd,xs,_,dd⟩:=dH I.hok e;refine⟨dd.typeIs,fun b q=>?_,hd⟩;cases q;obtain⟨ob,_,_,h1,h2,_⟩:=dd;exact⟨ob,h1,h2.2.1⟩
section
variable{X:Cx}{pins:List (Addr×Obj)}{σ:St}{H:Hp}{s:Shared}{a:Addr}{y d:V}{u r:Value}{o:Option V}{A:Around}{E:Value->Shared->Prop}
theorem d_get2{Q:Value->Shared->Prop}(hu:A.units+1<cLine)(I:Inv X pins σ H s)(g:DGet H a y o)(ry:RelV y u)(rd:RelV d r)(h:∀w' s',Inv X pins σ H s'->RelV (o.getD d) w'->Q w' s') :
  wpAny (model X.prog X.w) A (call (.builtin "dict.get") [.ref a,u,r]) Q E s:=by
 rcases g with⟨kvs,k,e,ey,l⟩|⟨kvs,k,b,e,ey,eb,l⟩
 ·subst ey;obtain⟨z,hd,vs,rel,dd⟩:=tB I.hok e;refine call_meetsIn PySem.F.slot_dict_get dd.typeIs PySem.F.entry_dict_get (PySem.F.args_dict_get_3 _ _ _) (meets_dict_get_default (zW X.prog X.w) a (qV ry) hd r) ⟨_,dd.mapOf,h _ _ (I.tok _) ?_⟩;rw[l];exact(rel.val k).getD rd
 ·subst ey;cases(show u=Value.ref b from ry);obtain⟨z,hd,xs,rel,dd⟩:=dH I.hok e;refine call_meetsIn PySem.F.slot_dict_get dd.typeIs PySem.F.entry_dict_get (PySem.F.args_dict_get_3 _ _ _) (meetsH_dict_get_default (tupleKind (zW X.prog X.w)) a b hd r) ⟨tupleKind_room_in1 hu,k,xs,gN I.hok eb,dd,h _ _ (I.tok _) ?_⟩;rw[l];exact(rel.val k).getD rd
end
def tDGet2(td ty tx:TE):TE:=fun σ H Q=>td σ H fun x H1=>∃ a,x= .ref a/\IsD H1 a/\ty σ H1 fun y H2=>tx σ H2 fun z H3=>∃ o,DGet H3 a y o/\Q (o.getD z) H3
def tDPop1(td ty:TE):TE:=fun σ H Q=>td σ H fun x H1=>∃ a,x= .ref a/\IsD H1 a/\ty σ H1 fun y H2=>∃ kvs k v,H2 a=some (.dK kvs)/\y=kV k/\valV kvs k=some v/\Q v (upd H2 a (.dK (qT kvs k)))
section
variable{X:Cx}{o e f:Expr}{apos cpos:Pos}{td ty tx:TE}
theorem pe_dget2(hu:X.A.units+1<cLine)(ho:PE X o td)(he:PE X e ty)(hf:PE X f tx)(m:M2 X o "get" apos e f cpos):PE X (.Call (.Attribute o "get" apos) [e,f] [] cpos) (tDGet2 td ty tx):=by
 intro pins s σ H Q I h;refine wpAny_Call_method m.base m.few m.line PySem.F.plainAttrs_dict PySem.F.slot_dict_get PySem.F.type_dict_get (thn (ho pins s σ H _ I h) fun u s1 ⟨x,H1,I1,rx,a,ex,d,q1⟩=>?_);subst ex;obtain rfl:u=Value.ref a:=rx;obtain⟨t1,t2,_⟩:=isD_at I1 d;refine⟨t1,t2,?_⟩;rw[m.trees];refine Calls.callWith_builtin rfl (Calls.evalArgs_plain (Calls.spliced_cons (thn (he pins s1 σ H1 _ I1 q1) fun iv s2 ⟨y,H2,I2,ry,q2⟩ =>
  Calls.spliced_cons (thn (hf pins s2 σ H2 _ I2 q2) fun fv s3 ⟨z,H3,I3,rz,ov,g,q3⟩=>Calls.spliced_nil ?_))))
 exact d_get2 hu I3 g ry rz fun w' s4 I4 rw'=>⟨_,H3,I4,rw',q3⟩
theorem bn(ho:PE X o td)(he:PE X e ty)(m:M1 X o "pop" apos e cpos):PE X (.Call (.Attribute o "pop" apos) [e] [] cpos) (tDPop1 td ty):=by
 intro pins s σ H Q I h;refine wpAny_Call_method m.base m.few m.line PySem.F.plainAttrs_dict PySem.F.slot_dict_pop PySem.F.type_dict_pop (thn (ho pins s σ H _ I h) fun u s1 ⟨x,H1,I1,rx,a,ex,d,q1⟩=>?_);subst ex;obtain rfl:u=Value.ref a:=rx;obtain⟨t1,t2,_⟩:=isD_at I1 d;refine⟨t1,t2,?_⟩;rw[m.trees];refine Calls.callWith_builtin rfl (Calls.evalArgs_plain (Calls.spliced_cons (thn (he pins s1 σ H1 _ I1 q1) fun iv s2 ⟨y,H2,I2,ry,kvs,k,v,ea,ey,l,q2⟩=>Calls.spliced_nil ?_)));subst ey;exact d_pop I2 ea ry l (.inl rfl) fun w' s3 I3 rw'=>⟨v,_,I3,rw',q2⟩
end
section
variable{κ:Type}[DecidableEq κ]
theorem valV_not{kvs:List (κ×V)}{k:κ}(h:valV kvs k=none):¬k∈kvs.map (·.1):=by
 intro m;obtain⟨p,hp,e⟩:=mem_map.mp m;have q:(kvs.any fun kv=>decide (kv.1=k))=true:=List.any_eq_true.mpr ⟨p,hp,decide_eq_true e⟩;rw[wG,h]at q;exact absurd q (by simp)
theorem valV_in{kvs:List (κ×V)}{k:κ}{v:V}(h:valV kvs k=some v):k∈kvs.map (·.1):=by
 have q:(kvs.any fun kv=>decide (kv.1=k))=true:=by
  rw[wG,h]
  all_goals rfl
 obtain⟨p,hp,e⟩:=List.any_eq_true.mp q;exact mem_map.mpr ⟨p,hp,of_decide_eq_true e⟩
end
theorem wp{α β:Type}{R:α-> β->Prop}:∀{xs:List α}{ys:List β},xs.length=ys.length->(∀(j:Nat) x y,xs[j]? =some x->ys[j]? =some y->R x y)->Paired R xs ys
 | [],[],_,_=>.nil
 |x::xs,y::ys,hl,h=>.cons (h 0 x y rfl rfl) (wp (by simpa using hl) fun j a b e1 e2=>h (j+1) a b (by simpa using e1) (by simpa using e2))
theorem dQ{kvs:List (Key×V)}{vs:List (Key×Value)}(r:KV kvs vs):vs.map (·.1)=kvs.map (·.1):=by
 unfold KV at r
 induction r with
 |nil=>rfl
 |cons h _ ih=>rw[map_cons,map_cons,ih,h.1]
section
variable{prog:Program}{w:World}{A:Around}{E:Value->Shared->Prop}{s:Shared}
theorem vV{x:Value}{ns:List Int}{b:Bool}{Q:Value->Shared->Prop}(h64:ns.length<64)(hc:∀(R:List Value->Shared->Prop),(∀h' tk (vs:List Value),(∀b o,s.heap.get? b=some o->h'.get? b=some o)->IntsAre vs ns->R vs {s with heap:=h',toks:=tk})->wpAny (model prog w) A.in1 (collect x) R E s)(h:∀(out:List Value) (n:Nat) (h1 h':Heap) (tk:Nat) (ns':List Int),(∀b o,s.heap.get? b=some o->h1.get? b=some o)->(∀b o,h1.get? b=some o->h'.get? b=some o)->h'.get? h1.objs.size=some (seqObj "list" out.toArray n)->IntsAre out ns'->ns'.Perm ns->Ordered b ns'->Q (.ref h1.objs.size) {s with heap:=h',toks:=tk}) :
  wpAny (model prog w) A (call (.builtin "sorted") [x] [(Str.ofString "reverse",.bool b)]) Q E s:=by
 refine call_function_entry_kw kind_sorted plain_sorted entry_sorted (args_sorted_rev _ _) ?_;unfold Builtin.«sorted»;refine wpAny_bind (m:=checkCount "sorted" 1 1 _) (wpAny_pure ?_);refine wpAny_bind (hc _ fun h1 tk vs hk1 hI=>?_);have hlv:vs.length<64:=by rw[<-hI.length]at h64;exact h64
 refine wpAny_bind (wpAny_newList ?_ (le_trans (Nat.le_of_lt hlv) (by decide)));have hoL:(h1.push (seqObj "list" vs.toArray 0)).get? h1.objs.size=some (seqObj "list" vs.toArray 0):=Heap.get?_push_size _ rfl;refine wpAny_bind (wpAny_holding (wpAny_call_entry_kw slot_list_sort ⟨_,hoL,rfl⟩ entry_list_sort (list_sort_tree_rev hoL hI hlv fun out ns' a1 a2 a3=>⟨_,rfl,?_⟩) (args_list_sort_rev _ _)));obtain⟨e,he⟩:=sortedHeap_at (vs:=vs) (out:=out) hoL;refine wpAny_pure ⟨_,rfl,h out.toList e h1 _ tk ns' hk1 (fun b o hb=>?_) he a1 a2 a3⟩;have hlt:=Heap.lt_size hb;rw[sortedHeap_old (ne_of_lt hlt) (by rw[Heap.size_push];exact lt_succ_of_lt hlt)];exact Heap.get?_push_of_some _ hb
end
section
variable{X:Cx}
def rSortD(b:Bool):V->Hp->VK->Prop:=fun x H Q=>∃ a kvs ns,x= .ref a/\H a=some (.dK kvs)/\kvs.map (·.1)=(ns:List Int).map Sum.inl/\ns.length<64/\ ∀ns' p,ns.Nodup->ns'.Perm ns->Ordered b ns'->H p=none->Q (.ref p) (upd H p (.lst (ns'.map V.int)))
def tSortD(b:Bool)(te:TE):TE:=fun σ H Q=>te σ H fun x H1=>rSortD b x H1 Q
theorem pe_sortD{e:Expr}{te:TE}{b:Bool}{p kp cp pos:Pos}{j:Nat}(hcm:X.calm=true)(hg:Gl X "sorted")(hm:X.mg "sorted"=none)(he:PE X e te)(hse:starEach [e] X.env=[(false,eval e X.env)]:=by rfl):PE X (.Call (.Name "sorted" p) [e] [⟨some "reverse",.Constant (.bool b) j cp,kp⟩] pos) (tSortD b te):=by
 intro pins s σ H Q I h;refine wpAny_Call_Name_kw (wa I hg hm boot_sorted ?_ (by decide) (by decide));refine callWith_kw (thn (kx he kY hse pos pins s σ H (fun vs H1=>match vs with| [x]=>rSortD b x H1 Q| _=>False) I h) fun us s1 ⟨vs,H1,I1,r1,q1⟩=>?_) (by rw[hse];rfl) (by rw[hse];rfl)
 match vs,r1,q1 with
 | [x],r1,q =>
  obtain⟨u,rfl,ru⟩:=jS r1;refine kws_cons (Constant_bool (kws_nil ?_));obtain⟨a,kvs,ns,rfl,hq,hks,hl,q⟩:=q;cases ru;show wpAny _ _ (call (.builtin "sorted") [.ref a] [(Str.ofString "reverse",.bool b)]) _ _ _;have hh:X.A.in1.handled=none:=I1.ok.hd hcm;obtain⟨hz,lo,ws,rel,o,es,ep,ho,hex,hd,hko,hpr,hnd⟩:=dk_of I1.hok hq;have hkeys:ws.map (·.1)=ns.map Sum.inl:=by rw[dQ rel,hks]
  have hlen:ws.length=ns.length:=by
   have:=congrArg length hkeys;simpa using this
  have hdup:ns.Nodup:=by
   rw[hkeys]at hnd;exact(List.Pairwise.of_map (S:=fun a b=>a≠b) Sum.inl (fun a b h z=>h (by rw[z])) hnd)
  refine vV hl (fun R hR=>W.kdu_collect (A:=X.A.in1) (W.kdl_dict (knd:=zW X.prog X.w) (kvs:=ws) (ep:=ep) lo) hh ⟨o,es,ho,hex,hd,hko,hpr,hnd⟩ (by rw[hlen];exact yS hl) fun h' tk acc hk hacc=>hR h' tk acc.toList hk ?_) fun out n h1 h' tk ns' k1 k2 e a1 a2 a3=>?_
  ·have hla:acc.toList.length=ns.length:=by rw[Array.length_toList,hacc.1,hlen]
   refine uI (wp (by rw[length_map,hla]) fun j x y e1 e2=>?_);obtain⟨z,hz,rfl⟩:=kU e1;obtain⟨kk,xx,hkk,his⟩:=hacc.2 j y (by rw[<-Array.getElem?_toList];exact e2);have e3:(ws.map (·.1))[j]? =some kk:=by rw[getElem?_map,hkk];rfl
   rw[hkeys,getElem?_map,hz]at e3;have e4:Sum.inl z=kk:=Option.some.inj e3;subst e4;rcases zP (show xD (Sum.inl z) y=true from his)with⟨i,t,e5,e6⟩|⟨i,t,e5,e6⟩
   ·cases e5;exact⟨t,e6⟩
   ·cases e5
  ·have hz':(ns'.map V.int).length<=sizeLine:=by rw[length_map,a2.length_eq];exact yS hl
   have I2:Inv X pins σ H1 {s1 with heap:=h1}:=I1.kept (t':=s1.toks) k1;exact⟨.ref _,_,I2.laid (t':=tk) k2 (le_refl _) (show zU X.prog X.w _ _ _ (.lst (ns'.map V.int))from⟨hz',out,n,wA a1,by simpa [seqObj]using e⟩),rfl,q ns' _ hdup a2 a3 (I2.hok.fresh (le_refl _))⟩
end
section
variable{X:Cx}
def rCatA(K:W.Frag):R2:=fun x y H Q=>∃ a b xs ys,x= .ref a/\y= .ref b/\SqT K H a xs/\SqT K H b ys/\xs.length+ys.length<=sizeLine/\
 (xs=[]->Q (.ref b) H)/\(xs≠[]->ys=[]->Q (.ref a) H)/\(xs≠[]->ys≠[]-> ∀p,H p=none->Q (.ref p) (upd H p (.tup (xs++ys))))
theorem qm:OpR X (binaryOp .Add) (rCatA X.K):=by
 intro pins s σ H x y v u Q I rx ry h;obtain⟨a,b,xs,ys,rfl,rfl,ha,hb,hz,q0,q1,q2⟩:=h;by_cases hx:xs=[]
 ·cases rx;cases ry;obtain⟨its,r1,p1,_⟩:=I.tuple ha;obtain⟨its2,r2,p2,_⟩:=I.tuple hb;obtain⟨⟨cls,dd,data,sl⟩,ho,hc,n,hd⟩:=id p1;obtain⟨⟨cls2,dd2,data2,sl2⟩,ho2,hc2,n2,hd2⟩:=id p2;simp only at hc hd hc2 hd2;subst hc hd hc2 hd2;have e0:its.toArray.isEmpty=true:=by
   have:=r1.nil_iff.mpr hx;simp[this]
  exact concat_meets ⟨_,ho,rfl⟩ ⟨_,ho2,rfl⟩ noFill_tuple_add seq_tuple_add PySem.F.slot_tuple_add PySem.F.entry_tuple_add (PySem.F.args_tuple_add_2 _ _)
   (tuple_addW0 a b its.toArray its2.toArray n n2 dd dd2 sl sl2 e0) ⟨ho,ho2,⟨.ref b,H,I,rfl,q0 hx⟩⟩
 ·exact op_catT pins s σ H (.ref a) (.ref b) v u Q I rx ry ⟨a,b,xs,ys,rfl,rfl,ha,hb,hx,hz,q1 hx,q2 hx⟩
def tRng1(ta:TA):TE:=fun σ H Q=>ta σ H fun vs H1=>∃ j:Int,vs=[.int j]/\ ∀p,H1 p=none->Q (.ref p) (upd H1 p (.rng 0 j))
theorem pe_rng1{a:Expr}{ta:TA}{p pos:Pos}(hg:Gl X "range")(hm:X.mg "range"=none)(ha:PA X [a] ta)(hs:starEach [a] X.env=[(false,eval a X.env)]:=by rfl):PE X (.Call (.Name "range" p) [a] [] pos) (tRng1 ta):=by
 intro pins s σ H Q I h;refine Call_ (wa I hg hm boot_range (PyProof.Rows.callWith_type1 (thn (ha pos pins s σ H _ I h) fun us s1 ⟨vs,H1,I1,r1,q1⟩=>?_) hs rfl));obtain⟨j,e,q⟩:=q1;subst e;cases r1 with
 |cons r rr =>
  cases rr;obtain⟨t,rfl⟩:=r;refine call_range_1 ?_;exact⟨.ref _,_,I1.laid (o:=.rng 0 j) (fun b o e=>Heap.get?_push_of_some _ e) (le_refl _) ⟨_,_,_,Heap.get?_push_size _ rfl⟩,rfl,q _ (I1.hok.fresh (le_refl _))⟩
theorem xt(hc:X.calm=true):kM X (.type "list") (fun xs H Q=>∃(p:Addr)(hi:Int),xs=[.ref p]/\H p=some (.rng 0 hi)/\0<=hi/\hi<=100000/\ ∀l,H l=none->Q (.ref l) (upd H l (.lst (((List.range hi.toNat).map fun(k:Nat)=>(k:Int)).map V.int)))):=by
 intro pins s σ H xs us Q I r h;obtain⟨p,hi,rfl,hq,h0,h1,q⟩:=h;obtain⟨u,rfl,ru⟩:=jS r;cases ru;obtain⟨t1,t2,t3,e⟩:=I.hok p _ hq;have hn:Builtin.Range.rangeSize 0 hi 1=((hi.toNat:Nat):Int):=by rw[rangeSize_one];split <;>omega
 refine call_list_range (I.ok.hd hc) e (small_one (by decide) (by decide) (by omega) (by omega)) hn (by omega) fun h' tk acc c kk hS hacc=>?_;refine⟨.ref _,_,I.laid (t':=tk) (o:=.lst (((List.range hi.toNat).map fun(k:Nat)=>(k:Int)).map V.int)) kk (le_refl _) ⟨?_,acc.toList,c,wp ?_ (fun j x y e1 e2=>?_),by simpa using hS⟩,rfl,q _ (I.hok.fresh (le_refl _))⟩
 ·rw[length_map,length_map,List.length_range];have:(100000:Nat)<=sizeLine:=by decide
  omega
 ·rw[length_map,length_map,List.length_range,Array.length_toList,hacc.1]
 ·obtain⟨z,hz,rfl⟩:=kU e1;obtain⟨tk,rfl⟩:=hacc.2 j y (by rw[<-Array.getElem?_toList];exact e2);rw[getElem?_map]at hz;cases hr:(List.range hi.toNat)[j]? with
  |none=>rw[hr]at hz;cases hz
  |some k =>
   rw[hr]at hz;have ek:j=k:=by
    obtain⟨h1,h2⟩:=List.getElem?_eq_some_iff.mp hr;rw[List.getElem_range]at h2;exact h2
   have:(k:Int)=z:=Option.some.inj hz;refine⟨tk,?_⟩;rw[<-this,<-ek];simp
end
end L2
namespace L2
def cntG(ns:List Int)(k:Int):Nat:=(ns.filter fun x=>decide (k<=x)).length
def turn(ns:List Int):List Int:=(List.range (ns.headD 0).toNat).map fun(k:Nat)=>((cntG ns ((k:Int)+1):Nat):Int)
end L2
namespace L2
open PySem PySem.Spec PyProof.Rows
def Tups(H H':Hp):Prop:=∀ b xs,H b=some (.tup xs)->H' b=some (.tup xs)
theorem Tups.trans{H H1 H2:Hp}(a:Tups H H1)(b:Tups H1 H2):Tups H H2:=fun c xs h=>b c xs (a c xs h)
theorem Same.tups{H H':Hp}(h:Same H H'):Tups H H':=fun b xs e=>h b _ e
theorem Keep.tups{H H':Hp}{st ga ca:Addr}{N:Nat}(K:Keep [st,ga] H H')(S:StAt H st ga ca N):Tups H H':=fun b xs e=>K b _ e (fun z=>by
 obtain⟨gs,cs,q,n,h1,h2,_⟩:=S.ex;simp only[mem_cons,not_mem_nil,or_false]at z;rcases z with rfl|rfl
 ·rw[h1]at e;cases e
 ·rw[h2]at e;cases e)
def Tup1(hs:List Int)(v:V)(H:Hp):Prop:=∃ q,v= .ref q/\H q=some (.tup (hs.map V.int))
theorem Tup1.mv{H H':Hp}{hs:List Int}{v:V}(t:Tups H H')(h:Tup1 hs v H):Tup1 hs v H':=let⟨q,e,h⟩:=h;⟨q,e,t _ _ h⟩
theorem All2.mv{H H':Hp}{ls:List (List Int)}{xs:List V}(t:Tups H H')(h:All2 Tup1 H ls xs):All2 Tup1 H' ls xs:=h.imp fun _ _ z=>z.mv t
theorem All2.at{α:Type}{R:α->V->Hp->Prop}{H:Hp}:∀{l:List α}{xs:List V}{i:Nat}{a:α},All2 R H l xs->l[i]? =some a-> ∃x,xs[i]? =some x/\R a x H
 | _,_,_,_,.nil,e=>by simp at e
 | _,_,0,_,.cons r _,e=>by simp at e;subst e;exact⟨_,rfl,r⟩
 | _,_,i+1,a,.cons _ t,e=>by
  obtain⟨u,h1,h2⟩:=All2.at (i:=i) (a:=a) t (by simpa using e);exact⟨u,by simpa using h1,h2⟩
theorem All2.snoc{α:Type}{R:α->V->Hp->Prop}{H:Hp}{l:List α}{xs:List V}{a:α}{x:V}(h:All2 R H l xs)(r:R a x H):All2 R H (l++[a]) (xs++[x]):=h.append (.cons r .nil)
theorem All2.take{α:Type}{R:α->V->Hp->Prop}{H:Hp}:∀{l:List α}{xs:List V}(n:Nat),All2 R H l xs->All2 R H (l.take n) (xs.take n)
 | _,_,0,_=>.nil
 | _,_,_+1,.nil=>.nil
 | _,_,n+1,.cons r t=>.cons r (t.take n)
def maxC:List (List Int)->Int->Nat
 | [],_=>0
 |h::r,x=>max (h.count x) (maxC r x)
def jJ(ls:List (List Int))(ms:List Int):Prop:=ms.Pairwise (· >= ·)/\ ∀x,ms.count x=maxC ls x
theorem jJ.uniq{ls:List (List Int)}{a b:List Int}(h1:jJ ls a)(h2:jJ ls b):a=b :=
 gW h1.1 h2.1 (List.perm_iff_count.mpr fun x=>by rw[h1.2,h2.2])
theorem dS(a b:List (List Int))(x:Int):maxC (a++b) x=max (maxC a x) (maxC b x):=by
 induction a with
 |nil=>simp[maxC]
 |cons h r ih=>rw[List.cons_append,maxC,ih,maxC];exact(Nat.max_assoc ..).symm
theorem maxC_le{ls:List (List Int)}{x:Int}{B:Nat}(h:∀l∈ls,l.count x<=B):maxC ls x<=B:=by
 induction ls with
 |nil=>exact zero_le _
 |cons a r ih =>
  have h1:=h a (by simp);have h2:=ih fun l hl=>h l (by simp[hl]);rw[maxC];exact Nat.max_le.mpr ⟨h1,h2⟩
theorem le_maxC{ls:List (List Int)}{x:Int}{l:List Int}(h:l∈ls):l.count x<=maxC ls x:=by
 induction ls with
 |nil=>cases h
 |cons a r ih =>
  rw[maxC];rcases mem_cons.mp h with rfl|h
  ·exact Nat.le_max_left _ _
  ·exact le_trans (ih h) (Nat.le_max_right _ _)
theorem pR(ls:List (List Int))(x:Int):maxC ls x<=ls.flatten.count x:=by
 induction ls with
 |nil=>exact zero_le _
 |cons a r ih=>rw[maxC,flatten_cons,List.count_append];exact Nat.max_le.mpr ⟨Nat.le_add_right _ _,le_trans ih (Nat.le_add_left _ _)⟩
theorem maxC_zero{ls:List (List Int)}{x:Int}(h:x∉ls.flatten):maxC ls x=0:=by
 have:=pR ls x;rw[List.count_eq_zero_of_not_mem h]at this;omega
theorem xE{ls:List (List Int)}{x m:Int}(h:Ismax m (ls.map fun l=>((l.count x:Nat):Int))):m=((maxC ls x:Nat):Int):=by
 obtain⟨h1,h2⟩:=h;obtain⟨l,hl,rfl⟩:=mem_map.mp h1;have a:=le_maxC (x:=x) hl;have b:maxC ls x<=l.count x:=maxC_le fun k hk=>by
  have:=h2 _ (mem_map.mpr ⟨k,hk,rfl⟩);omega
 omega
def blow(f:Int->Nat):List Int->List Int
 | []=>[]
 |u::r=>replicate (f u) u++blow f r
theorem dm(f:Int->Nat)(a b:List Int):blow f (a++b)=blow f a++blow f b:=by
 induction a with
 |nil=>rfl
 |cons u r ih=>rw[List.cons_append,blow,ih,blow,append_assoc]
theorem blow_mem{f:Int->Nat}{us:List Int}{x:Int}(h:x∈blow f us):x∈us:=by
 induction us with
 |nil=>exact h
 |cons u r ih =>
  rcases mem_append.mp h with h|h
  ·rw[List.eq_of_mem_replicate h];simp
  ·simp[ih h]
theorem blow_count{f:Int->Nat}{us:List Int}(hn:us.Nodup)(x:Int):(blow f us).count x=if x∈us then f x else 0:=by
 induction us with
 |nil=>rfl
 |cons u r ih =>
  obtain⟨h1,h2⟩:=nodup_cons.mp hn;rw[blow,List.count_append,ih h2,List.count_replicate];by_cases e:u=x
  ·subst e;simp[h1]
  ·have e':¬x=u:=fun z=>e z.symm;simp[e,e',mem_cons]
theorem blow_pw{f:Int->Nat}{us:List Int}(h:us.Pairwise (· >= ·)):(blow f us).Pairwise (· >= ·):=by
 induction us with
 |nil=>exact .nil
 |cons u r ih =>
  obtain⟨h1,h2⟩:=pairwise_cons.mp h;refine List.pairwise_append.mpr ⟨?_,ih h2,fun a ha b hb=>?_⟩
  ·exact List.pairwise_replicate.mpr (Or.inr (Int.le_refl _))
  ·rw[List.eq_of_mem_replicate ha];exact h1 _ (blow_mem hb)
theorem tm{ls:List (List Int)}{us:List Int}(hn:us.Nodup)(hp:us.Pairwise (· >= ·))(hm:∀x,x∈us↔x∈ls.flatten):jJ ls (blow (maxC ls) us):=by
 refine⟨blow_pw hp,fun x=>?_⟩;rw[blow_count hn];by_cases h:x∈us
 ·rw[if_pos h]
 ·rw[if_neg h,maxC_zero fun z=>h ((hm x).mpr z)]
def chG(ns:List Int):List (List Int):=ns.foldl (fun cs n=>cs++cs.map (· ++[n])) [[]]
theorem vY(ns:List Int)(n:Int):chG (ns++[n])=chG ns++(chG ns).map (· ++[n]):=by
 unfold chG;rw[List.foldl_append];rfl
theorem pc:∀(k:Nat)(ns:List Int),ns.length=k->(chG ns).length=2^k
 | 0,ns,h=>by rw[List.length_eq_zero_iff.mp h];rfl
 |k+1,ns,h=>by
  have hne:ns≠[]:=fun z=>by rw[z]at h;cases h
  have e:=(List.dropLast_concat_getLast hne).symm;rw[e,vY,length_append,length_map,pc k ns.dropLast (by rw[List.length_dropLast];omega),Nat.pow_succ];omega
theorem wU:∀(k:Nat)(ns:List Int),ns.length=k-> ∀c∈chG ns,c.length<=k/\ ∀x∈c,x∈ns
 | 0,ns,h,c,hc=>by
  rw[List.length_eq_zero_iff.mp h]at hc;have:c=[]:=by simpa [chG]using hc
  rw[this];exact⟨le_refl _,fun x hx=>nomatch hx⟩
 |k+1,ns,h,c,hc=>by
  have hne:ns≠[]:=fun z=>by rw[z]at h;cases h
  have e:=(List.dropLast_concat_getLast hne).symm;rw[e,vY]at hc;have ih:=wU k ns.dropLast (by rw[List.length_dropLast];omega);rcases mem_append.mp hc with hc|hc
  ·obtain⟨a,b⟩:=ih c hc;exact⟨by omega,fun x hx=>(List.dropLast_sublist ns).subset (b x hx)⟩
  ·obtain⟨d,hd,rfl⟩:=mem_map.mp hc;obtain⟨a,b⟩:=ih d hd;refine⟨by simp;omega,fun x hx=>?_⟩;rcases mem_append.mp hx with hx|hx
   ·exact(List.dropLast_sublist ns).subset (b x hx)
   ·have:x=ns.getLast hne:=by simpa using hx
    rw[this];exact List.getLast_mem hne
theorem putK_keys{κ:Type}[DecidableEq κ]{kvs:List (κ×V)}{k:κ}{v w:V}(h:valV kvs k=some v):(putK kvs k w).map (·.1)=kvs.map (·.1):=by
 unfold putK;rw[if_pos (by rw[wG,h];rfl),map_map];refine List.map_congr_left fun x _=>?_;show(if x.1=k then(x.1,w)else x).1=x.1;split <;>rfl
section
variable{X:Cx}
theorem OpR.kk{f:Value->Value->Sem Value}(K0:W.Frag)(r:W.Frag->R2)(ho:OpR X f (r X.K))(h:X.K=K0):OpR X f (r K0):=by subst h;exact ho
theorem IxR.kk(K0:W.Frag)(r:W.Frag->R2)(ho:IxR X (r X.K))(h:X.K=K0):IxR X (r K0):=by subst h;exact ho
theorem kM.kk{f:Value}(K0:W.Frag)(r:W.Frag->List V->Hp->VK->Prop)(ho:kM X f (r X.K))(h:X.K=K0):kM X f (r K0):=by subst h;exact ho
theorem MtR.kk{id:String}(K0:W.Frag)(r:W.Frag->V->List V->Hp->VK->Prop)(ho:MtR X id (r X.K))(h:X.K=K0):MtR X id (r K0):=by subst h;exact ho
theorem bg(K0:W.Frag)(h:X.K=K0):OpR X (binaryOp .Add) (rCatA K0):=OpR.kk K0 rCatA qm h
theorem ix_tupK(K0:W.Frag)(h:X.K=K0):IxR X (rIxT K0):=IxR.kk K0 rIxT zI h
theorem gP(K0:W.Frag)(h:X.K=K0):MtR X "tuple.count" (br K0 SqT):=MtR.kk K0 (fun K=>br K SqT) pS h
variable{o e:Expr}{es:List Expr}{to:TE}{t:TA}{name:Str}{apos cpos:Pos}{T id:String}{r:V->List V->Hp->VK->Prop}
theorem pe_bmK(K0:W.Frag)(h:X.K=K0)(pa:PlainAttrs T)(slot:Slot T name id)(hty:typeOf (.builtin id)=pure (.type "method_descriptor"))(hm:MtR X id r)(ho:PE X o to)(ha:PA X (e::es) t)(hbase:attributeBase o name X.env (eval o X.env)=eval o X.env:=by rfl)(hfew:((backTo cpos (starEach (e::es) X.env)).all (fun x=>!x.1)&&(backToKw cpos (keywordEach [] X.env)).all (fun x=>x.1.isSome)&&decide ((e::es).length+([]:List Keyword).length+(if([]:List Keyword).isEmpty then 0 else 1)<30))=true:=by rfl)(hline:(apos.endLine==cpos.line)=true:=by rfl)(hs:starEach (e::es) X.env=(false,eval e X.env)::starEach es X.env:=by rfl)(hplain:(backTo cpos (starEach es X.env)).any (·.1)=false:=by rfl):PE X (.Call (.Attribute o name apos) (e::es) [] cpos) (tBM K0 T r to t):=by
 subst h;exact kG pa slot hty hm ho ha hbase hfew hline hs hplain
theorem pt_truthK{a:Expr}{ta:TE}(K0:W.Frag)(h:X.K=K0)(ha:PE X a ta)(he:∀whole,isTrue a X.env whole=(do let v <-whole;standAt a.pos;holding [v] (truthy v))):PT X a (fun σ H Q=>ta σ H fun x H'=>∃ k,TruV K0 x H' k/\Q k H'):=by
 subst h;exact zY ha he
def rSumI(K:W.Frag):List V->Hp->VK->Prop:=fun xs H Q=>∃(a:Addr)(ns:List Int),xs=[.ref a]/\(SqL K H a (ns.map V.int)\/SqT K H a (ns.map V.int))/\Q (.int ns.sum) H
theorem qS(K0:W.Frag)(hc:X.calm=true)(h:X.K=K0):kM X (.builtin "sum") (rSumI K0):=kM.kk K0 rSumI (u5 hc) h
end
def upto(n:Nat):List Int:=(List.range n).map fun(k:Nat)=>(k:Int)
theorem upto_succ(n:Nat):upto (n+1)=upto n++[(n:Int)]:=by unfold upto;rw[List.range_succ,map_append];rfl
theorem kI(n:Nat):(upto n).length=n:=by unfold upto;simp
theorem p8{n:Nat}{x:Int}(h:x∈upto n):0<=x/\x<n:=by
 unfold upto at h;obtain⟨k,hk,rfl⟩:=mem_map.mp h;rw[mem_range]at hk;omega
theorem cat_one{K:W.Frag}{H:Hp}{q:Addr}{hs:List Int}{z:Int}{t:Addr}{Q:V->Hp->Prop}(hq:H q=some (.tup (hs.map V.int)))(ht:H t=some (.tup [V.int z]))(hl:hs.length<=60)(k:∀(v:V) (H':Hp),Tup1 (hs++[z]) v H'->Same H H'->Q v H'):rCatA K (.ref q) (.ref t) H Q:=by
 refine⟨q,t,_,_,rfl,rfl,SqT.of hq,SqT.of ht,?_,fun e=>?_,fun _ e=>?_,fun _ _ p hp=>?_⟩
 ·rw[length_map];exact le_trans (m:=61) (by simp;omega) (by decide)
 ·have:hs=[]:=List.map_eq_nil_iff.mp e;subst this;exact k _ _ ⟨t,rfl,ht⟩ (fun _ _ h=>h)
 ·cases e
 ·exact k _ _ ⟨p,rfl,by rw[z6,map_append];rfl⟩ (Same.new hp)
def yt(rule:List (List Int))(ch:List Int):List (List Int):=ch.map fun j=>rule.getD j.toNat []
theorem pick_at{H:Hp}{rule:List (List Int)}{rs:List V}(h2:All2 Tup1 H rule rs){j:Int}(h0:0<=j)(h1:j<rule.length):∃v,atI rs j=some v/\Tup1 (rule.getD j.toNat []) v H:=by
 obtain⟨n,rfl⟩:∃n:Nat,j=(n:Int):=⟨j.toNat,by omega⟩;have hn:n<rule.length:=by omega
 obtain⟨x,hx,r⟩:=h2.at (getElem?_eq_getElem hn);refine⟨x,zp hx,?_⟩;have:rule.getD (n:Int).toNat []=rule[n]:=by simp[hn]
 rw[this];exact r
theorem pz{B:Nat}:∀{ls:List (List Int)},(∀l∈ls,l.length<=B)->ls.flatten.length<=B*ls.length
 | [],_=>zero_le _
 |l::r,h=>by
  have h1:=h l (by simp);have h2:=pz (ls:=r) fun m hm=>h m (by simp[hm]);rw[flatten_cons,length_append,length_cons,Nat.mul_succ];omega
theorem joinStep{M c t h:Nat}(hc:c=max M (min h (M+t)))(ht:t+1<=h)(hlt:c<h):c+1=max M (min h (M+(t+1))):=by
 rcases Nat.lt_or_ge (M+t) h with g|g
 ·rw[Nat.min_eq_right (a:=h) (b:=M+(t+1)) g,Nat.max_eq_right (Nat.le_add_right _ _),hc,Nat.min_eq_right (Nat.le_of_lt g),Nat.max_eq_right (Nat.le_add_right _ _)];rfl
 ·rw[hc,Nat.min_eq_left g]at hlt;exact absurd (Nat.le_max_right M h) (Nat.not_le_of_lt hlt)
theorem joinStay{M c t h:Nat}(hc:c=max M (min h (M+t)))(ht:t+1<=h)(hlt:¬c<h):c=max M (min h (M+(t+1))):=by
 rcases Nat.lt_or_ge (M+t) h with g|g
 ·rw[hc,Nat.min_eq_right (Nat.le_of_lt g),Nat.max_eq_right (Nat.le_add_right _ _)]at hlt;exact absurd g hlt
 ·rw[Nat.min_eq_left (a:=h) (b:=M+(t+1)) (Nat.le_succ_of_le g),hc,Nat.min_eq_left g]
open AutoSeq1 (wpAny_loadPart')
theorem drawsS{prog:Program}{w:World}{A:Around}(hh:A.handled=none)(k:Bool)(it l:Addr)(hne:l≠it)(items:Array Value) :
  Draws prog w A it [it,l] items.size (fun i v=>items[i]? =some v) (fun i h=>kN k h it l i/\kh k h l items) where
 live:=fun _ _ st=>let⟨o,ho,_⟩:=st.1;⟨o,ho⟩
 frame:=fun _ _ _ st hk=>⟨st.1.kept fun o e=>hk it (by simp) o e,st.2.kept fun o e=>hk l (by simp) o e⟩
 item:=fun i s Q E hi st hQ=>nextS st.1 st.2 (x:=items[i]) (by simp[hi]) fun h' a b=>hQ _ h' s.toks (by simp[hi]) ⟨a,st.2.kept fun o e=>b.extBut _ _ hne e⟩ b
 done:=fun s Q E st hE=>endS hh st.1 st.2 (by simp) hE
def eH1(k:Bool)(h:Heap)(l:Addr):Heap:=h.push {cls:=.type (gM k),data:=.fields #[.ref l,.int 0 0]}
def eH2(k:Bool)(h:Heap)(l:Addr):Heap:=(eH1 k h l).push {cls:=.type "enumerate",data:=.fields #[.none,.bool false,.ref h.objs.size,rawInt 0,.none,.none]}
set_option maxHeartbeats 1000000 in
theorem qU(l:Addr)(items:Array Value)(n:Nat)(dct:Option Addr)(sl:Array (Option Value)) :
  Meets (Builtin.«enumerate.__new__» ⟨[.type "enumerate",.ref l],[]⟩) (fun _ R s=>s.heap.get? l=some {cls:=.type "tuple",dict:=dct,data:=.seq items n,slots:=sl}/\R (.ok (.ret (.ref (eH1 true s.heap l).objs.size))) {s with heap:=eH2 true s.heap l}) :=
 .of_wp fun prog w A R s h=>by
  obtain⟨hp,g,d,tk,os⟩:=s;obtain⟨hl,h⟩:=h;have hsub:=sub_enumerate;have hL:Heap.IsTuple (Shared.heap ⟨hp,g,d,tk,os⟩) l items:=⟨_,hl,rfl,n,rfl⟩
  wp_walk using wpAny_loadPart' hl
  refine wpAny_stack_any fun st=>wpAny_pure ?_;split
  ·rename_i c _ _ _ _ _;cases(c==Value.type "enumerate")
   all_goals (wp_walk using wpAny_loadPart' hl,wpAny_pyIter_tuple hL;exact⟨_,rfl,h⟩)
  ·wp_walk using wpAny_loadPart' hl,wpAny_pyIter_tuple hL
   exact⟨_,rfl,h⟩
section
variable{prog:Program}{w:World}{A:Around}{E:Value->Shared->Prop}{s:Shared}
theorem call_enumS{k:Bool}{l:Addr}{items:Array Value}{Q:Value->Shared->Prop}(hL:kh k s.heap l items)(h:∀h',IsEnum h' (s.heap.objs.size+1) s.heap.objs.size 0 .none->kN k h' s.heap.objs.size l 0->(∀b o,s.heap.get? b=some o->h'.get? b=some o)->Q (.ref (s.heap.objs.size+1)) {s with heap:=h'}) :
  wpAny (model prog w) A (call (.type "enumerate") [.ref l]) Q E s:=by
 cases k
 ·exact call_enumerate_list hL fun h' a b _ c=>h h' a b c
 ·obtain⟨⟨c,dct,dt,sl⟩,hl,hc,n,hd⟩:=hL
  replace hc:c= .type "tuple" :=hc
  replace hd:dt= .seq items n:=hd
  subst hc hd;refine callType_new F.called_enumerate (by decide) (F.typeCall_enumerate_1 _) (F.newCall_enumerate_1 _) (fun obj=>F.args_object_init_2 obj _) F.entry_enumerate_new (qU l items n dct sl) ⟨hl,?_⟩;have n1:(eH1 true s.heap l).objs.size=s.heap.objs.size+1:=Heap.size_push ..;have f2:(eH2 true s.heap l).get? (eH1 true s.heap l).objs.size=some _:=Heap.get?_push_size _ rfl;have f1:(eH2 true s.heap l).get? s.heap.objs.size=some _:=Heap.get?_push_of_some _ (Heap.get?_push_size _ rfl);show _/\_;rw[n1]at f2 ⊢;exact⟨⟨_,f2,rfl⟩,h _ f2 ⟨_,f1,rfl,rfl⟩ fun b o e=>Heap.get?_push_of_some _ (Heap.get?_push_of_some _ e)⟩
end
def Ite(K:W.Frag)(k:Bool)(a:Addr):It :=
 ⟨fun i H=>∃ xs x,Sq k K H a xs/\xs[i]? =some x,
  fun i H v H'=>∃ T x,H T=none/\v= .ref T/\H'=upd H T (.tup [.int i,x])/\ ∀xs,Sq k K H a xs->xs[i]? =some x,
  fun i H=>∃ xs,Sq k K H a xs/\xs.length=i⟩
theorem turn_enum{P:Program}{w:World}{K:W.Frag}{elts:List Expr}{x1:Nat}{pos:Pos}(k:Bool)(a e it:Addr)(hei:e≠it)(hai:a≠it)(hae:a≠e) :
  Turn P w K (.Tuple elts x1 pos) (Ite K k a) [e,it] e (fun i h=>(∃old,IsEnum h e it i old)/\kN k h it a i) where
 mem:=by simp
 obj:=fun i h st c hc=>by
  obtain⟨⟨old,g0⟩,⟨o1,e1,_,d1⟩⟩:=st;simp only[mem_cons,not_mem_nil,or_false]at hc;rcases hc with rfl|rfl
  ·exact⟨_,g0,fun v q=>by cases q⟩
  ·exact⟨_,e1,fun v q=>by rw[d1]at q;cases q⟩
 keep:=fun i h h' st f=>by
  obtain⟨⟨old,g0⟩,g1⟩:=st;exact⟨⟨old,f e (by simp) _ g0⟩,g1.kept (f it (by simp))⟩
 item:=by
  intro X hP hw hK hc i pins s σ H E I hf st hg;subst hP hw hK;obtain⟨xs,x,hq,hx⟩:=hg;obtain⟨us,rv,p,_⟩:=I.sq hq;obtain⟨u,hu,ru⟩:=rv.get hx;obtain⟨⟨old,g0⟩,g1⟩:=st;have hlt:i<us.toArray.size:=by
   have:=(List.getElem?_eq_some_iff.mp hu).1;simpa using this
  have hh:X.A.in1.handled=none:=I.ok.hd hc;refine wpAny_pyNext_enum_itemD (drawsS hh k it a hai us.toArray) g0 ⟨g1,p⟩ hlt hei (by simp[hei,Ne.symm hae]) fun y h' tk hy ho hst hT _ kk=>⟨_,rfl,?_⟩;have ey:y=u:=by
   have:us.toArray[i]? =some u:=by simpa using hu
   rw[this]at hy;exact(Option.some.inj hy).symm
  subst ey;refine wpAny_letOwnedTupleGo_enum (s:={s with heap:=h',toks:=tk+1}) ho fun h2 he2 sb=>?_;have up:∀c o,c≠e->h'.get? c=some o->h2.get? c=some o:=fun c o n q=>(sb.2 c n).trans q;have lt:e<s.heap.objs.size:=Heap.lt_size g0;have tp:IsPair h2 s.heap.objs.size (.int i tk) y:=up _ _ (Nat.ne_of_gt lt) hT;have I1:Inv X pins σ (upd H s.heap.objs.size (.tup [.int i,x])) {s with heap:=h2,toks:=tk+1}:=I.turnedN (t':=tk+1) (ch:=[e,it]) hf (fun c o n q=>up c o (fun z=>n (by simp[z])) (kk c o (fun z=>n (by simp[z])) (fun z=>n (by simp[z])) q)) (le_refl _) (pair_ok ⟨tk,rfl⟩ ru tp);refine⟨.ref s.heap.objs.size,_,I1,rfl,⟨_,x,I.hok.fresh (le_refl _),rfl,rfl,fun xs' h=>by rw[I.sq_inj h hq];exact hx⟩,⟨⟨y,by simpa using he2⟩,hst.1.kept fun o q=>up _ _ (Ne.symm hei) q⟩,fun c hc=>?_⟩;have hlt2:c<s.heap.objs.size:=by
   simp only[mem_cons,not_mem_nil,or_false]at hc;rcases hc with rfl|rfl
   ·exact lt
   ·exact g1.lt
  rw[zh (ne_of_lt hlt2)];exact(hf c hc).1
 done:=by
  intro X hP hw hK hc i pins s σ H E I hf st hg;subst hP hw hK;obtain⟨xs,hq,hl⟩:=hg;obtain⟨us,rv,p,_⟩:=I.sq hq;obtain⟨⟨old,g0⟩,g1⟩:=st;have hh:X.A.in1.handled=none:=I.ok.hd hc;have e1:i=us.toArray.size:=by
   have:=rv.length;rw[<-hl,this];simp
  rw[e1]at g1;exact wpAny_pyNext_enum_endD (drawsS hh k it a hai us.toArray) g0 ⟨g1,p⟩ fun h' kk=>⟨rfl,I.turnedL (t':=s.toks) (ch:=[e,it]) hf fun c o n q=>kk c o (fun z=>n (by simp[z])) q⟩
 self:=fun _ _ _ _ _ st h=>by
  obtain⟨⟨old,g0⟩,_⟩:=st;exact wpAny_pyIter_enum g0 h
section
variable{X:Cx}{elts:List Expr}{x1:Nat}{tpos:Pos}
def iEnum(K:W.Frag)(k:Bool)(ta:TA):TI:=fun σ H R=>ta σ H fun vs H1=>∃ a,vs=[.ref a]/\(∃xs,Sq k K H1 a xs)/\R (Ite K k a) H1
theorem pi_enum(k:Bool){a:Expr}{ta:TA}{p pos:Pos}(hg:Gl X "enumerate")(hm:X.mg "enumerate"=none)(ha:PA X [a] ta)(hs:starEach [a] X.env=[(false,eval a X.env)]:=by rfl):PI X (.Tuple elts x1 tpos) (.Call (.Name "enumerate" p) [a] [] pos) (iEnum X.K k ta):=by
 intro pins s σ H R I h;refine Call_ (wa I hg hm boot_enumerate (PyProof.Rows.callWith_type1 (thn (ha pos pins s σ H _ I h) fun us s1 ⟨vs,H1,I1,r1,q1⟩=>?_) hs rfl));obtain⟨a,e,⟨xs,hq⟩,q⟩:=q1;subst e;cases r1 with
 |cons r rr =>
  cases rr;cases r;obtain⟨us,rv,p,_⟩:=I1.sq hq;have hlt:=p.lt;refine call_enumS p fun h' g0 g1 kk=>?_;have I2:Inv X pins σ H1 {s1 with heap:=h'}:=I1.kept (t':=s1.toks) kk;refine wpAny_pyIter_enum (s:={s1 with heap:=h'}) g0 ⟨_,[s1.heap.objs.size+1,s1.heap.objs.size],_,_,H1,rfl,I2,turn_enum k a _ _ (Nat.succ_ne_self _) (ne_of_lt hlt) (ne_of_lt (lt_succ_of_lt hlt)),⟨⟨_,g0⟩,g1⟩,fun c hc=>?_,q⟩;have hle:s1.heap.objs.size<=c:=by
   have hc':c=s1.heap.objs.size+1\/c=s1.heap.objs.size:=by simpa using hc
   rcases hc' with e|e <;>rw[e] <;>first|exact le_refl _|exact Nat.le_add_right _ _
  exact I1.fpOk hle (I1.hok.fresh hle)
end
theorem comp_enum{K:W.Frag}{k:Bool}{a:Addr}{xs:List V}{g:TG}{tf:TT}{te:TE}{σ:St}{H:Hp}{Q:VK}(Pv:Nat->List V->St->Hp->Prop)(h0:Pv 0 [] σ H)(hl:∀i zs σ H,i<=xs.length->Pv i zs σ H->Sq k K H a xs/\zs.length<=sizeLine)(hs:∀i x zs σ H T,xs[i]? =some x->Pv i zs σ H->H T=none->g (.ref T) σ (upd H T (.tup [.int i,x])) fun σ2 H2=>tf σ2 H2 fun b H3=>if b=true then te σ2 H3 fun v H4=>Pv (i+1) (zs++[v]) σ2 H4 else Pv (i+1) zs σ2 H3)(hd:∀zs σ H,Pv xs.length zs σ H-> ∀p,H p=none->Q (.ref p) (upd H p (.lst zs))):wQ g tf te σ (Ite K k a) H Q:=by
 refine⟨fun i m zs σ H=>m=xs.length-i/\i<=xs.length/\Pv i zs σ H,⟨_,(Nat.sub_zero _).symm,zero_le _,h0⟩,?_⟩;rintro i m zs σ H ⟨rfl,hi,p⟩;obtain⟨q1,hz⟩:=hl i zs σ H hi p;by_cases hlt:i<xs.length
 ·refine .inr ⟨⟨xs,xs[i],q1,by simp[hlt]⟩,hz,Pv (i+1),fun ys' σ' H' p'=>⟨xs.length-(i+1),by omega,rfl,hlt,p'⟩,fun x H' y=>?_⟩;obtain⟨T,u,hT,rfl,rfl,e1⟩:=y;exact hs i u zs σ H T (e1 xs q1) p hT
 ·have e:i=xs.length:=by omega
  rw[e]at p;exact .inl ⟨⟨xs,q1,e.symm⟩,hz,hd zs σ H p⟩
end L2
namespace L2
open PySem PySem.Spec PyProof.Rows PySem.W
theorem zD(x:Str):Str.empty++x=x:=by
 show(⟨#[]++x.cps⟩:Str)=x;simp
end L2
namespace L2
open PySem PySem.Spec PyProof.Rows
def idxP(rule:List (List Int))(hs:List Int)(i:Nat):List Int:=((List.range i).filter fun i=>lies (rule.getD i []) hs).map fun(k:Nat)=>(k:Int)
def idxG(rule:List (List Int))(hs:List Int):List Int:=idxP rule hs rule.length
theorem js(rule:List (List Int))(hs:List Int)(i:Nat):idxP rule hs (i+1)=idxP rule hs i++if lies (rule.getD i []) hs=true then [(i:Int)]else []:=by
 unfold idxP;rw[List.range_succ,List.filter_append,map_append];by_cases h:lies (rule.getD i []) hs=true
 ·rw[filter_cons,if_pos h,if_pos h];rfl
 ·rw[filter_cons,if_neg h,if_neg h];rfl
theorem idxP_len(rule:List (List Int))(hs:List Int)(i:Nat):(idxP rule hs i).length<=i:=by
 unfold idxP;rw[length_map];exact le_trans (List.length_filter_le _ _) (by simp)
theorem idxP_lt{rule:List (List Int)}{hs:List Int}{i:Nat}{x:Int}(h:x∈idxP rule hs i):0<=x/\x<i/\lies (rule.getD x.toNat []) hs=true:=by
 unfold idxP at h;obtain⟨k,hk,rfl⟩:=mem_map.mp h;obtain⟨h1,h2⟩:=mem_filter.mp hk;rw[mem_range]at h1;refine⟨by omega,by omega,?_⟩;simpa using h2
def jV(rule:List (List Int))(hs:List Int):Option Int:=(idxG rule hs).head?
def optV:Option Int->V
 |none=>.non
 |some i=>.int i
theorem tJ(rule:List (List Int))(hs:List Int):∀i m,Ismin m (idxP rule hs i)->(idxP rule hs i).head? =some m
 | 0,m,h=>nomatch h.1
 |i+1,m,h=>by
  rw[js]at h ⊢;cases e:idxP rule hs i with
  |nil =>
   rw[e]at h;by_cases c:lies (rule.getD i []) hs=true
   ·rw[if_pos c]at h ⊢;have:m=(i:Int):=by simpa using h.1
    rw[this];rfl
   ·rw[if_neg c]at h;exact nomatch h.1
  |cons y ys =>
   have ih:=tJ rule hs i;rw[e]at ih h;show some y=some m;have hy:y∈idxP rule hs i:=by rw[e];simp
   have hmem:m∈y::ys:=by
    rcases mem_append.mp h.1 with z|z
    ·exact z
    ·by_cases c:lies (rule.getD i []) hs=true
     ·rw[if_pos c]at z;have e1:m=(i:Int):=by simpa using z
      have:=h.2 y (by simp);have:=(idxP_lt hy).2.1;omega
     ·rw[if_neg c]at z;exact nomatch z
   exact ih m ⟨hmem,fun x hx=>h.2 x (by rcases mem_cons.mp hx with z|z <;>simp[z])⟩
theorem gJ{rule:List (List Int)}{hs:List Int}(h:idxP rule hs rule.length=[]):jV rule hs=none:=by unfold jV idxG;rw[h];rfl
theorem first_some{rule:List (List Int)}{hs:List Int}{i:Nat}(h:idxP rule hs i=[])(hi:i<rule.length)(c:lies (rule.getD i []) hs=true):jV rule hs=some (i:Int):=by
 have step:∀d,(idxP rule hs (i+1+d)).head? =some (i:Int):=by
  intro d
  induction d with
  |zero=>rw[Nat.add_zero,js,h,if_pos c];rfl
  |succ d ih =>
   rw[<-Nat.add_assoc,js];cases e:idxP rule hs (i+1+d)with
   |nil=>rw[e]at ih;cases ih
   |cons y ys=>rw[e]at ih;exact ih
 have:=step (rule.length-(i+1));rw[show i+1+(rule.length-(i+1))=rule.length by omega]at this;exact this
end L2
namespace L2
open PySem PySem.Spec PyProof.Rows PySem.W
theorem dP{K:Frag}:kitOne K (.type "int") (.type "str")=some false:=by
 unfold kitOne;rw[if_neg (by decide+kernel)];rfl
end L2
namespace L2
end L2
namespace L2
def sumN:Nat->(Nat->Int)->Int
 | 0,_=>0
 |n+1,f=>sumN n f+f n
end L2
namespace L2
open PySem PySem.Spec PyProof.Rows
def cv(a b:List Int)(k:Nat):Int:=sumN a.length fun i=>sumN b.length fun j=>if i+j=k then a.getD i 0*b.getD j 0 else 0
section
variable{X:Cx}{tg l:Expr}{t1 t2:TI}
def iOr(t1 t2:TI):TI:=fun σ H R=>t1 σ H R\/t2 σ H R
theorem pi_or(h1:PI X tg l t1)(h2:PI X tg l t2):PI X tg l (iOr t1 t2):=by
 intro pins s σ H R I h;rcases h with h|h
 ·exact h1 pins s σ H R I h
 ·exact h2 pins s σ H R I h
end
theorem cut_from(xs:List V)(s:Nat)(h:s<=xs.length):cutV xs (some (s:Int)) none=xs.drop s:=by
 unfold cutV;rw[HT.sIx_none,HT.sIx_nat,Nat.min_eq_left h];exact take_of_length_le (by rw[length_drop];exact le_refl _)
end L2
set_option exponentiation.threshold 200000
namespace L2
open PySem PySem.Spec PyProof.Rows
def hdL(T B:Nat->Int):Nat->List Int
 | 0=>[]
 |n+1=>hdL T B n++[T n-sumN n fun i=>B (i+1)*(hdL T B n).getD (n-(i+1)) 0]
def hd(T B:Nat->Int)(n:Nat):Int:=(hdL T B (n+1)).getD n 0
end L2
namespace L2
open PySem PySem.Spec PyProof.Rows PySem.W
theorem matches_b{M:Model}{A:Around}{E:Value->Shared->Prop}{nm q nm' q':Str}{C N S N':Addr}{bs bm bs' bm':List Value}{hdct hdct':Bool}{sn sn':List Str}{sub sub':List Value}{ab ab':Bool}{col col':Option Bool}{dd dd':Option Addr}{k0 k1 k2 k3 k5 k0' k1' k2' k3' k5':Option Value}{newId newId':String}{h:Heap}{g:Array GenState}{d:Drawn}{t:Nat}{os:OsState}{e:Addr}{oe:Obj}{Q:Bool->Shared->Prop}(hC:h.get? C=some (excClassObj nm q C N bs bm hdct sn sub ab col dd k0 k1 k2 k3 k5 newId))(hS:h.get? S=some (excClassObj nm' q' S N' bs' bm' hdct' sn' sub' ab' col' dd' k0' k1' k2' k3' k5' newId'))(he:h.get? e=some oe)(hcls:oe.cls= .ref C)(hb:bm'.contains (.type "BaseException")=true)(hm:(Value.ref C::bm).contains (.ref S)=false)(hq:Q false ⟨h,g,d,t,os⟩):wpAny M A (excMatches (.ref e) (.ref S)) Q E ⟨h,g,d,t,os⟩:=by
 have hB:(Value.ref S::bm').contains (.type "BaseException")=true:=by rw[List.contains_cons,hb,Bool.or_true]
 have f:=tc_notTuple;unfold excMatches
 repeat (first|(with_reducible refine wpAny_loadPart_at he ?_;rw[hcls])|with_reducible refine wpAny_loadPart_at hS ?_|(with_reducible refine wpAny_isSubtype_exc hS ?_;rw[hB])|(with_reducible refine wpAny_isSubtype_exc hC ?_;rw[hm])|wp_step)
 exact hq
structure TakesNot(K:Frag)(c S:Addr):Prop where
 ex:∃bm bm',IsXC K c bm/\IsXC K S bm'/\bm'.contains (.type "BaseException")=true/\(Value.ref c::bm).contains (.ref S)=false
end L2
namespace L2
open PySem PySem.Spec PyProof.Rows
section
variable{X:Cx}
theorem qp(hu:X.A.units+1<cLine):OpR X (compareOp .NotIn) (fun x y H Q=>∃ a o,y= .ref a/\DGet H a x o/\Q (.bl (!o.isSome)) H):=by
 intro pins s σ H x y v u Q I rx ry h;obtain⟨a,o,rfl,g,k⟩:=h;cases ry;exact d_notIn hu I g rx fun s3 I3=>⟨.bl (!o.isSome),H,I3,rfl,k⟩
end
end L2
namespace L2
end L2
namespace L2
end L2
namespace L2
end L2
namespace L2
theorem tE:∀L:List Int,∃us:List Int,us.Pairwise (· > ·)/\ ∀y,y∈us↔y∈L
 | []=>⟨[],.nil,fun _=>Iff.rfl⟩
 |x::L=>by
  obtain⟨us,h1,h2⟩:=tE L;by_cases hx:x∈us
  ·refine⟨us,h1,fun y=>?_⟩;rw[mem_cons,<-h2 y];exact⟨.inr,fun h=>h.elim (fun e=>e▸hx) id⟩
  ·refine⟨us.filter (fun y=>decide (x<y))++x::us.filter (fun y=>decide (y<x)),?_,fun y=>?_⟩
   ·refine List.pairwise_append.mpr ⟨h1.sublist List.filter_sublist,pairwise_cons.mpr ⟨fun y hy=>?_,h1.sublist List.filter_sublist⟩,fun a ha b hb=>?_⟩
    ·exact of_decide_eq_true (mem_filter.mp hy).2
    ·have ha':x<a:=of_decide_eq_true (mem_filter.mp ha).2;rcases mem_cons.mp hb with rfl|hb
     ·exact ha'
     ·have hb':b<x:=of_decide_eq_true (mem_filter.mp hb).2;show b<a;omega
   ·rw[mem_append,mem_cons,mem_filter,mem_filter,mem_cons,<-h2 y];constructor
    ·rintro(h|h|h)
     ·exact .inr h.1
     ·exact .inl h
     ·exact .inr h.1
    ·rintro(h|h)
     ·exact .inr (.inl h)
     ·rcases Int.lt_trichotomy x y with z|z|z
      ·exact .inl ⟨h,decide_eq_true z⟩
      ·exact .inr (.inl z.symm)
      ·exact .inr (.inr ⟨h,decide_eq_true z⟩)
theorem ex_join(ls:List (List Int)):∃ms,jJ ls ms:=by
 obtain⟨us,h1,h2⟩:=tE ls.flatten;exact⟨_,tm (h1.imp fun h=>Int.ne_of_gt h) (h1.imp fun h=>le_of_lt h) h2⟩
noncomputable def dN(ls:List (List Int)):List Int:=Classical.choose (ex_join ls)
theorem xC(ls:List (List Int)):jJ ls (dN ls):=Classical.choose_spec (ex_join ls)
theorem ba{ls:List (List Int)}{ms:List Int}(h:jJ ls ms):dN ls=ms:=(xC ls).uniq h
end L2
namespace L2
open PySem PySem.Spec PyProof.Rows
structure SeenU(H0 H:Hp)(d:Addr)(L:List Int):Prop where
 ex:∃(kvs:List (Key×V))(ns:List Int),H d=some (.dK kvs)/\kvs.map (·.1)=ns.map Sum.inl/\ns.Nodup/\ns.length<=L.length/\ ∀x,x∈ns↔x∈L
 sm:∀b o,H0 b=some o->H b=some o
 nw:H0 d=none
theorem SeenU.put{H0 H:Hp}{d:Addr}{L:List Int}{z:Int}(h:SeenU H0 H d L)(hl:L.length<1000):∃H',DPut H d (.int z) (.bl true) H'/\SeenU H0 H' d (L++[z]):=by
 obtain⟨⟨kvs,ns,hd,hk,hnd,hn,hm⟩,sm,nw⟩:=h;have hlen:kvs.length=ns.length:=by
  have:=congrArg length hk;simpa using this
 refine⟨upd H d (.dK (putK kvs (Sum.inl z) (.bl true))),DPut.k (k:=Sum.inl z) hd (lt_of_lt_of_le (show kvs.length<1000 by omega) (by decide)),⟨?_,fun b o e=>by rw[zh (zr e nw)];exact sm b o e,nw⟩⟩;cases e:valV kvs (Sum.inl z)with
 |none =>
  have hz:z∉ns:=fun hz=>valV_not e (by rw[hk];exact mem_map.mpr ⟨z,hz,rfl⟩);refine⟨_,ns++[z],z6,by rw[putK_new _ e,map_append,hk,map_append];rfl,?_,by simp;omega,fun x=>by simp[hm]⟩;refine List.nodup_append.mpr ⟨hnd,by simp,fun a ha b hb e=>?_⟩;have:b=z:=by simpa using hb
  exact hz (by rw[<-this,<-e];exact ha)
 |some v =>
  have hin:=valV_in e;rw[hk]at hin;have hz:z∈ns:=by
   obtain⟨y,hy,e2⟩:=mem_map.mp hin;have:y=z:=Sum.inl.inj e2;rw[<-this];exact hy
  refine⟨_,ns,z6,?_,hnd,by simp;omega,fun x=>?_⟩
  ·have:(putK kvs (Sum.inl z) (V.bl true)).map (·.1)=kvs.map (·.1):=putK_keys e;rw[this,hk]
  ·rw[mem_append,<-hm];exact⟨Or.inl,fun h=>h.elim id fun h=>by rw[show x=z by simpa using h];exact hz⟩
theorem m9:∀{a b:List Int},a.Nodup->(∀x∈a,x∈b)->a.length<=b.length
 | [],_,_,_=>zero_le _
 |x::a,b,hn,h=>by
  obtain⟨h1,h2⟩:=nodup_cons.mp hn;have hx:=h x mem_cons_self;have:=m9 (b:=b.erase x) h2 fun y hy=>by
   have hne:y≠x:=fun e=>h1 (by rw[<-e];exact hy);exact(List.mem_erase_of_ne hne).mpr (h y (mem_cons_of_mem _ hy))
  rw[List.length_erase_of_mem hx]at this;have:0<b.length:=List.length_pos_of_mem hx;rw[length_cons];omega
def RuleJ(rule:List (List Int)):Prop:=(∃D:List Int,D.length<64/\ ∀h∈rule,∀x∈h,x∈D)/\(∀h∈rule,h.length<=100)/\ ∀h∈rule,∀x∈h,1<=x
theorem rl{rule:List (List Int)}{ch:List Int}{l:List Int}(h:l∈yt rule ch):l∈rule\/l=[]:=by
 obtain⟨j,_,rfl⟩:=mem_map.mp h;by_cases hj:j.toNat<rule.length
 ·left;rw[getD_eq_getElem?_getD,getElem?_eq_getElem hj];exact getElem_mem hj
 ·right;rw[getD_eq_getElem?_getD,List.getElem?_eq_none (by omega)];rfl
theorem RuleJ.pick{rule:List (List Int)}(h:RuleJ rule){ch:List Int}(hc:ch.length<=6):(∃D:List Int,D.length<64/\ ∀x∈(yt rule ch).flatten,x∈D)/\(yt rule ch).flatten.length<1000:=by
 obtain⟨⟨D,hD,hm⟩,hl,_⟩:=h;refine⟨⟨D,hD,fun x hx=>?_⟩,?_⟩
 ·obtain⟨l,hl,hx⟩:=List.mem_flatten.mp hx;rcases rl hl with h|h
  ·exact hm l h x hx
  ·rw[h]at hx;cases hx
 ·have:(yt rule ch).flatten.length<=100*(yt rule ch).length:=pz fun l hl'=>by
   rcases rl hl' with h|h
   ·exact hl l h
   ·rw[h];exact zero_le _
  have e:(yt rule ch).length=ch.length:=by unfold yt;rw[length_map]
  omega
open PySem.Builtin.Str (occurrences subAt)
theorem zO(i j:Str):(i++j).length=i.length+j.length:=by
 show(i.cps++j.cps).size=_;simp;rfl
end L2
namespace L2
open PySem PySem.Spec PyProof.Rows
def postC(M:Model)(A:Around)(E:Value->Shared->Prop)(use:Option (Value->Sem Unit))(Q:Value->Shared->Prop)(acc:Value)(ce:Env)(r:Result)(s':Shared):Prop :=
 match r with
 | .ok f=>compPost M A E use Q acc ce.locals (.ok f) s'
 | .error x=>∃ m,s'.heap.Ns ce.locals m/\ ∀h',Heap.SameBut ce.locals s'.heap h'->wpAny M A (PySem.passOn "comprehension.variables-let-go" x ce:Sem Value) (fun _ _=>False) E {s' with heap:=h'}
abbrev r9(scope:Scope):List (Str×NameKind):=(scope.names.filter fun z=>(z.2== .local||z.2== .cell)&&z.1 !=(".0" : Str)).reverse
theorem dC{M:Model}{A:Around}{E:Value->Shared->Prop}{s:Shared}{env:Env}{e:Expr}{scope:Scope}{pos:Pos}{acc0 one:Sem Value}{c:Comprehension}{cs:List Comprehension}{cl:List (Str×Addr)}{use:Option (Value->Sem Unit)}{Q:Value->Shared->Prop}(h1:clausesOf e=c::cs)(h2:∀x,foldedSetIterable c.iter env x=pure x)(h3:closureFor scope env=pure cl)(h4:scope.kind= .function)(h5:∀x∈scope.names,x.2= .local->scope.names.lookup x.1=some .local)(h:wpAny M A one (fun x a1=>wpAny M A (pyIter x) (fun it a2=>wpAny M A acc0 (fun acc a3=>wpAny M A (newFunctionEnv scope env.globals cl [] env.qual none .none (some env)) (fun ce a4 =>
   codeAny M A (.compStart e 0 it acc {ce with scope:=relabel scope env}) (postC M A E use Q acc {ce with scope:=relabel scope env}) a4) E a3) E a2) E a1) E s) :
  wpAny M A (comprehension e scope env pos acc0 false one use) Q E s:=by
 unfold comprehension;rw[h3,h1];refine wpAny_bind (wpAny_mono h (fun x a1 k1=>?_) fun _ _ z=>z);refine wpAny_bind (wpAny_standAt (wpAny_bind (wpAny_of_eq (h2 x) (wpAny_bind (wpAny_holding (wpAny_mono k1 (fun it a2 k2=>?_) fun _ _ z=>z))))));refine wpAny_standIf (wpAny_bind (wpAny_mono k2 (fun acc a3 k3=>?_) fun _ _ z=>z));refine wpAny_bind (wpAny_pure (wpAny_bind (wpAny_mono k3 (fun ce a4 k4=>?_) fun _ _ z=>z)));dsimp only;have v1:∀y∈r9 scope,y.2= .local->Env.kindOf {ce with scope:=relabel scope env} y.1=some .local :=
  fun y hy hl=>lookup_relabel_local (h5 y (mem_filter.mp (List.mem_reverse.mp hy)).1 hl)
 have v2:∀y∈(r9 scope).drop 1++(r9 scope).take 1,y.2= .local->Env.kindOf {ce with scope:=relabel scope env} y.1=some .local :=
  fun y hy hl=>(mem_append.mp hy).elim (fun z=>v1 y (List.mem_of_mem_drop z) hl) fun z=>v1 y (List.mem_of_mem_take z) hl
 refine wpAny_holding (wpAny_bind (wpAny_attempt (wpAny_holding (wpAny_run (codeAny_mono k4 fun r s' k5=>?_)))));cases r with
 |error x =>
  obtain⟨m,hn,k6⟩:=k5;refine wpAny_bind (wpAny_holding (wpAny_comp_letGo h4 _ s' m v1 hn fun h' _ _ sb=>?_));exact wpAny_mono (k6 h' sb) (fun _ _ z=>z.elim) fun _ _ z=>z
 |ok f =>
  cases use with
  |some u =>
   refine wpAny_bind (wpAny_rule (wpAny_bind (wpAny_holding (wpAny_mono k5 (fun _ s2 k6=>?_) fun _ _ z=>z))));obtain⟨m,hn,k7⟩:=k6;exact wpAny_bind (wpAny_comp_letGo h4 _ s2 m v2 hn fun h' _ _ sb=>wpAny_pure (k7 h' sb))
  |none =>
   obtain⟨m,hn,k6⟩:=k5;exact wpAny_bind (wpAny_holding (wpAny_comp_letGo h4 _ s' m v1 hn fun h' _ _ sb=>wpAny_pure (k6 h' sb)))
theorem note_eq{v:Value}{a b:Env}(h:a.frame=b.frame):noteFrame v a=noteFrame v b:=by
 unfold noteFrame PySem.frameOf;rw[h]
def XEc(X:Cx)(E:XK)(C:Addr):Value->Shared->Prop:=fun ev s'=>∃(e:Addr)(c:Value)(dd:Option Addr)(H':Hp),ev= .ref e/\E c dd H'/\ExcAt X H' e c dd s'/\H' C=none/\ ∃m,s'.heap.Ns C m
abbrev cxE(X:Cx)(E:XK)(scope:Scope)(N:List Str)(C:Addr)(s:Shared)(H:Hp)(ex:List Addr):Cx:=(cxC X scope N C s H ex).wish (XEc X E C)
def vg(X:Cx)(C:Addr)(s:Shared)(H:Hp)(ex:List Addr):Prop:=∃ pins σ,Inv X pins σ H s/\s.heap.objs.size<=C/\ ∀b∈ex,FpOk X pins H b/\b<s.heap.objs.size
theorem Inv.noFr{X:Cx}{pins:List (Addr×Obj)}{σ:St}{H:Hp}{s:Shared}{C:Addr}(I:Inv X pins σ H s)(h:s.heap.objs.size<=C):C∉frs X.stack:=fun hb =>
 I.nofs h ((mem_cons.mp (I.stkSub _ hb)).resolve_left fun z=>absurd I.lt (by rw[<-z];exact Nat.not_lt.mpr h))
theorem passC{X:Cx}{E E':XK}{scope:Scope}{N:List Str}{C:Addr}{s:Shared}{H:Hp}{ex:List Addr}(hC:vg X C s H ex)(top:X.stack=X.env::X.outer:=by rfl)(fr:X.env.frame=some X.env.locals:=by rfl)(h:∀c dd H',E' c dd H'->E c dd H':=by exact fun _ _ _ h=>h) :
  jq (CX1 X.prog X.w) (cxE X E scope N C s H ex) E':=fun pins1 σ1 H1 s1 ev s' I1 hx=>by
 obtain⟨pins,σ,I,hCs,hex⟩:=hC;have J1:Inv (cxC X scope N C s H ex) pins1 σ1 H1 s1:=I1.unwish;have J:Inv X pins σ H1 s1:=I.call' J1.os J1.base J1.hok J1.bare fun b hb=>by
  obtain⟨⟨_,f1,_,f3,f4,f5⟩,_⟩:=hex b hb;exact⟨f3,f1,f4,f5⟩
 obtain⟨m,hn,_⟩:=id J1.loc;have hn:s1.heap.Ns C m:=hn;have hfree:H1 C=none:=J1.free;obtain⟨e2,c2,d2,H2,he2,hE2,hos,hb,un,hok,fe,B,hf,cv⟩:=(hx:CX1 X.prog X.w X.stack H1 s1 E' ev s');obtain⟨e,c,dd,H',he,⟨rfl,rfl,rfl⟩,x⟩:=ExcAt.come (E:=fun c dd H'=>c=c2/\dd=d2/\H'=H2) ⟨J.ok,top,fr⟩ J ⟨e2,c2,d2,H2,he2,⟨rfl,rfl,rfl⟩,hos,hb,un,hok,fe,B,hf,cv⟩;obtain⟨o,es,ep,g,r⟩:=hn;exact⟨e,c,dd,H',he,h _ _ _ hE2,x,un.free C _ g hfree (by simp),m,⟨o,es,ep,un.keep C o g hfree (I.noFr hCs) (by simp),r⟩⟩
theorem ns_slots{h h':Heap}{C:Addr}{m:Str->Option Value}(hn:h.Ns C m)(up:∀b o,h.get? b=some o->(∀vs,o.data≠ .fields vs)-> ∃sl,h'.get? b=some {o with slots:=sl}):h'.Ns C m:=by
 obtain⟨o,es,ep,g,hd,r⟩:=hn;obtain⟨sl,g'⟩:=up C o g fun vs z=>by rw[hd]at z;cases z
 exact⟨_,es,ep,g',hd,r⟩
section
variable{X:Cx}
theorem ExcAt.noteC{M:Model}{E':Value->Shared->Prop}{H':Hp}{e C:Addr}{c:Value}{dd:Option Addr}{m:Str->Option Value}{s':Shared}{Q:Unit->Shared->Prop}(o:Own X)(x:ExcAt X H' e c dd s')(hn:s'.heap.Ns C m)(h:∀s'',ExcAt X H' e c dd s''->(∃B,uB B X.stack e c dd X.env.locals s''.heap/\Cov X.s₀.heap X.H₀ (frs X.stack) X.ex H' B)->s''.heap.Ns C m->Q () s''):wpAny M X.A (noteFrame (.ref e) X.env) Q E' s':=by
 obtain⟨B,cv,st⟩:=x.st;have fin:∀{h':Heap},uB B X.stack e c dd X.env.locals h'->UpS s'.heap h'->Q () {s' with heap:=h'}:=fun{h'} hh up=>by
  obtain⟨u,k⟩:=cv.turn o.sub (ki st.frames) st.stays hh.1 up x.un x.hok o.old;exact h _ ⟨x.os,x.bare,u,k,x.fe,B,cv,.held hh⟩ ⟨B,hh,cv⟩ (ns_slots hn up)
 have hfr:X.A.frames=some (X.env::X.outer):=by rw[<-o.top];exact o.ok.frames
 cases st with
 |made oe vs b1 b2 b3 he hc hdd hd h1 =>
  subst hc hdd;rw[o.top]at b2;exact bD hfr b2 o.fr he b1 b3 hd h1 fun h' hh up=>fin (by rw[o.top];exact hh) up
 |fly hf =>
  rw[o.top]at hf;exact cO hfr o.fr hf fun h' hh up=>fin (by rw[o.top];exact hh) up
 |held hh =>
  exact bB (fl:=.none) o.fr hh.2.2.2 (fin hh (UpS.same _))
theorem ExcAt.but{H':Hp}{e C:Addr}{c:Value}{dd:Option Addr}{m:Str->Option Value}{s':Shared}{h':Heap}(o:Own X)(x:ExcAt X H' e c dd s')(hx:∃B,uB B X.stack e c dd X.env.locals s'.heap/\Cov X.s₀.heap X.H₀ (frs X.stack) X.ex H' B)(hn:s'.heap.Ns C m)(hC:X.s₀.heap.objs.size<=C)(hfr:C∉frs X.stack)(hf:H' C=none)(sb:Heap.SameBut C s'.heap h'):ExcAt X H' e c dd {s' with heap:=h'}/\ ∃B,uB B X.stack e c dd X.env.locals h'/\Cov X.s₀.heap X.H₀ (frs X.stack) X.ex H' B:=by
 obtain⟨B,⟨f1,f2,f3,f4⟩,cv⟩:=hx;have neC:∀b ob,X.s₀.heap.get? b=some ob->b≠C:=fun b ob q=>ne_of_lt (lt_of_lt_of_le (Heap.lt_size q) hC);have neF:∀b ob vs,s'.heap.get? b=some ob->ob.data= .fields vs->b≠C:=fun b ob vs q hd z=>by
  obtain⟨o1,es,ep,g,hd1,_⟩:=hn;rw[z,g]at q;cases q;rw[hd1]at hd;cases hd
 have get:∀b ob,b≠C->s'.heap.get? b=some ob->h'.get? b=some ob:=fun b ob hb q=>(sb.2 b hb).trans q;have inB:∀b ob,(W.hideAll B [C]).get? b=some ob->B.get? b=some ob/\b≠C:=fun b ob q=>⟨W.of_hideAll _ q,fun z=>by
  rw[z,W.hideAll_none [C] (by simp)]at q;cases q⟩
 have toB:∀b ob,b≠C->B.get? b=some ob->(W.hideAll B [C]).get? b=some ob:=fun b ob hb q=>W.hideAll_get _ q (by simpa using hb);have cv':Cov X.s₀.heap X.H₀ (frs X.stack) X.ex H' (W.hideAll B [C]):=⟨fun b u q=>by
   obtain⟨ob,g⟩:=cv.trk b u q;exact⟨ob,toB b ob (fun z=>by rw[z,hf]at q;cases q) g⟩,fun b ob q n h1 h2=>toB b ob (neC b ob q) (cv.old b ob q n h1 h2),fun b ob q h1 h2=>by
   obtain⟨ob',g⟩:=cv.all b ob q h1 h2;exact⟨ob',toB b ob' (neC b ob q) g⟩⟩
 have ff:∀{l:List Env},s'.heap.FunFrames B l->(∀b∈frs l,b≠C)->h'.FunFrames (W.hideAll B [C]) l:=fun{l}=>by
  induction l with
  |nil=>exact fun _ _=>trivial
  |cons env r ih =>
   rintro⟨k1,⟨L,ob,k2,k3,k4,k5⟩,k6⟩ hl;have hL:L≠C:=hl L (by unfold frs;rw[filterMap_cons,k2];exact mem_cons_self);refine⟨k1,⟨L,ob,k2,?_,get L ob hL k4,k5⟩,ih k6 fun b hb=>hl b (by unfold frs;rw[filterMap_cons,k2];exact mem_cons_of_mem _ hb)⟩;cases q:(W.hideAll B [C]).get? L with
   |none=>rfl
   |some ob'=>have:=(inB L ob' q).1;rw[k3]at this;cases this
 have hh:uB (W.hideAll B [C]) X.stack e c dd X.env.locals h':=by
  obtain⟨oe,vs,T,oT,ts,he,hcl,hd,h1,hnT,hTe,hT,hdT,h3⟩:=f4;have no:∀b,B.get? b=none->(W.hideAll B [C]).get? b=none:=fun b q=>by
   cases z:(W.hideAll B [C]).get? b with
   |none=>rfl
   |some ob'=>have:=(inB b ob' z).1;rw[q]at this;cases this
  exact⟨fun b ob q=>get b ob (inB b ob q).2 (f1 b ob (inB b ob q).1),no e f2,ff f3 fun b hb z=>hfr (z▸hb),oe,vs,T,oT,ts,get e oe (neF e oe vs he hd) he,hcl,hd,h1,no T hnT,hTe,get T oT (neF T oT ts hT hdT) hT,hdT,h3⟩
 refine⟨⟨x.os,x.bare,⟨fun b ob q n h1 h2=>get b ob (neC b ob q) (x.un.keep b ob q n h1 h2),fun b ob q n h1 h2=>?_,x.un.free,fun b ob q h2=>?_,x.un.tups,x.un.frzs,x.un.tbls⟩,fun b u q=>?_,x.fe,_,cv',.held hh⟩,_,hh,cv'⟩
 ·obtain⟨sl,g⟩:=x.un.slot b ob q n h1 h2;exact⟨sl,get b _ (neC b ob q) g⟩
 ·obtain⟨ob',g⟩:=x.un.there b ob q h2;exact⟨ob',get b _ (neC b ob q) g⟩
 ·refine(x.hok b u q).stay (fun d v hd g=>get d v (fun z=>?_) g) (fun _ g=>g) fun _ _ g=>g;rcases hd with rfl|hd
  ·rw[z,hf]at q;cases q
  ·rw[z,hf]at hd;cases hd
theorem ExcAt.on{M:Model}{E:XK}{H':Hp}{e:Addr}{c:Value}{dd:Option Addr}{s':Shared}{what:String}{ce:Env}(o:Own X)(hce:ce.frame=X.env.frame)(hE:E c dd H')(x:ExcAt X H' e c dd s')(hx:∃B,uB B X.stack e c dd X.env.locals s'.heap/\Cov X.s₀.heap X.H₀ (frs X.stack) X.ex H' B) :
  wpAny M X.A (PySem.passOn what (.ref e) ce:Sem Value) (fun _ _=>False) (XE X E) s':=by
 obtain⟨B,⟨f1,f2,f3,f4⟩,cv⟩:=hx;obtain⟨oe,vs,T,oT,ts,he,hcls,hd,h1,hnT,hTe,hT,hdT,h3⟩:=id f4;unfold PySem.passOn;refine wpAny_bind (wpAny_field he hd h1 ?_);rw[if_neg (show ¬((Value.ref T==Value.none)=true)from by simp),hce,o.fr];refine wpAny_bind ?_;refine wy (some X.env.locals) f1 f3 f4 fun h' k1 k2 k3 up=>?_;obtain⟨u,k⟩:=cv.turn o.sub (ki f3) f1 k1 up x.un x.hok o.old;exact wpAny_throw ⟨e,c,dd,H',rfl,hE,x.os,x.bare,u,k,x.fe,B,cv,.held ⟨k1,f2,k2,k3⟩⟩
end
section
variable{X:Cx}{scope:Scope}{ls:List Str}{fr:List (Str×Nat)}
theorem dB{EX:XK}{pins:List (Addr×Obj)}{σ:St}{H:Hp}{s:Shared}{it:Addr}{fp:List Addr}{tn:Nat->Heap->Prop}{J:It}{tg elt iter:Expr}{ifs:List Expr}{pos:Pos}{g:TG}{tf:TT}{te:TE}{Q:VK}{E:Value->Shared->Prop}{RR:Value->Env->Result->Shared->Prop}(own:Own X)(S:CScope X scope ls fr)(hc:X.calm=true)(I:Inv X pins σ H s)(T:Turn X.prog X.w X.K tg J fp it tn)(st:tn 0 s.heap)(hf:∀b∈fp,FpOk X pins H b)(hq:wQ g tf te (jR ls fr σ) J H Q)(hg:∀C s H ex,vg X C s H ex->PG (cxE X EX scope (ls++fr.map (·.1)) C s H ex) tg g)(ht:∀C s H ex,vg X C s H ex->PF (cxE X EX scope (ls++fr.map (·.1)) C s H ex) ifs tf)(he:∀C s H ex,vg X C s H ex->PE (cxE X EX scope (ls++fr.map (·.1)) C s H ex) elt te)(hRR:∀(D C:Addr) (ce:Env) (s':Shared) (H':Hp) (m:Str->Option Value),ce.locals=C->Inv X pins σ H' s'->s'.heap.Ns C m->s.heap.objs.size<=C->H' C=none->Q (.ref D) H'->RR (.ref D) ce (.ok .next) s')(hRE:∀(D C e:Addr) (ce:Env) (c:Value) (dd:Option Addr) (H':Hp) (s':Shared) (m:Str->Option Value),ce.locals=C->ce.frame=X.env.frame->s.heap.objs.size<=C->EX c dd H'->ExcAt X H' e c dd s'->(∃B,uB B X.stack e c dd X.env.locals s'.heap/\Cov X.s₀.heap X.H₀ (frs X.stack) X.ex H' B)->s'.heap.Ns C m->H' C=none->RR (.ref D) ce (.error (.ref e)) s') :
  wpAny (model X.prog X.w) X.A (newList []) (fun acc s₃=>wpAny (model X.prog X.w) X.A (newFunctionEnv scope X.env.globals (clos scope X.env) [] X.env.qual none .none (some X.env)) (fun cenv s₄ =>
   codeAny (model X.prog X.w) X.A (.compStart (.ListComp elt [⟨tg,iter,ifs,0⟩] scope pos) 0 (.ref it) acc {cenv with scope:=relabel scope X.env}) (RR acc {cenv with scope:=relabel scope X.env}) s₄) E s₃) E s:=by
 refine wpAny_newObj_type (wpAny_newFunctionEnv S.nocell (by intro y hy;simp at hy) (fun h₁ hns₁ hsb₁=>?_) S.kind);dsimp only at hns₁ hsb₁ ⊢;generalize hH2:s.heap.push {cls:=.type "list",dict:=none,data:=.seq ([]:List Value).toArray}=H2 at hns₁ hsb₁ ⊢;have hC:H2.objs.size=s.heap.objs.size+1:=by rw[<-hH2,Heap.size_push]
 have hDC:s.heap.objs.size≠H2.objs.size:=by rw[hC];exact ne_of_lt (Nat.lt_succ_self _)
 have hCle:s.heap.objs.size<=H2.objs.size:=by rw[hC];exact le_succ _
 have below:∀b,b<s.heap.objs.size->b≠H2.objs.size/\b≠s.heap.objs.size:=fun b hb=>⟨by rw[hC];exact ne_of_lt (lt_succ_of_lt hb),ne_of_lt hb⟩;have old:∀b o,s.heap.get? b=some o->h₁.get? b=some o:=fun b o e=>hsb₁.extBut b o (below b (Heap.lt_size e)).1 (Heap.get?_push_of_some _ (hH2▸Heap.get?_push_of_some _ e));have hacc:h₁.PlainList s.heap.objs.size #[]:=⟨_,hsb₁.extBut _ _ hDC (Heap.get?_push_of_some _ (hH2▸Heap.get?_push_size _ rfl))⟩;have hfl:∀b∈fp,b<s.heap.objs.size:=fun b hb=>by
  obtain⟨o,e,_⟩:=T.obj _ _ st b hb;exact Heap.lt_size e
 have hex:∀b∈fp,FpOk X pins H b/\b<s.heap.objs.size:=fun b hb=>⟨hf b hb,hfl b hb⟩;generalize hs4:({s with heap:=h₁,toks:=s.toks+([]:List (Str×Value)).length}:Shared)=s4;generalize hX:cxE X EX scope (ls++fr.map (·.1)) H2.objs.size s H fp=Y;have I4:Inv Y [] (jR ls fr σ) H s4:=by
  have I4':Inv (cxC X scope (ls++fr.map (·.1)) H2.objs.size s H fp) [] (jR ls fr σ) H s4:=by
   rw[<-hs4];exact cT S I hCle hex rfl I.bare old hns₁
  rw[<-hX];exact I4'.wish _
 have YP:Y.prog=X.prog:=by rw[<-hX];rfl
 have Yw:Y.w=X.w:=by rw[<-hX];rfl
 have YK:Y.K=X.K:=by rw[<-hX];rfl
 have YA:Y.A=X.A:=by rw[<-hX];rfl
 have Yc:Y.calm=true:=by rw[<-hX];exact hc
 have Yx:Y.xe=XEc X EX H2.objs.size:=by rw[<-hX]
 have Yf:Y.env.frame=X.env.frame:=by rw[<-hX];rfl
 have cat:vg X H2.objs.size s H fp:=⟨pins,σ,I,hCle,hex⟩;have Yl:Y.env.locals=H2.objs.size:=by rw[<-hX];rfl
 have Yok:(cxC X scope (ls++fr.map (·.1)) H2.objs.size s H fp).Ok:=dD S I hCle hex;have fpY:∀{H':Hp}{o:Obj},(∀b∈fp,H' b=none)-> ∀b∈fp,FpOk Y [(s.heap.objs.size,o)] H' b:=fun{H' o} hn b hb=>by
  rw[<-hX];obtain⟨f0,f1,f2,f3,f4,f5⟩:=hf b hb;refine⟨hn b hb,(below b (hfl b hb)).1,fun z=>Yok.exfs b hb z,.inl hb,fun x c e=>f4 x c (S.look I e),fun p hp=>?_⟩;have e:p=(s.heap.objs.size,o):=by simpa [cxC]using hp
  subst e;exact Ne.symm (below b (hfl b hb)).2
 have pinD:∀{σ':St}{H':Hp}{s':Shared}{its:Array Value}{n:Nat},Inv Y [] σ' H' s'->H' s.heap.objs.size=none->s'.heap.get? s.heap.objs.size=some {cls:=.type "list",data:=.seq its n}->
   Inv Y [(s.heap.objs.size,{cls:=.type "list",data:=.seq its n})] σ' H' s':=fun{σ' H' s' its n} I' hn e=>I'.pins_of fun p hp=>by
  have ep:p=(s.heap.objs.size,{cls:=.type "list",data:=.seq its n}):=by simpa using hp
  subst ep;refine⟨e,hn,by rw[Yl];exact hDC,?_,fun v z=>nomatch z⟩;rw[<-hX];exact fun hb=>I.nofs (le_refl _) ((mem_cons.mp (I.stkSub _ hb)).resolve_left fun z=>absurd I.lt (by rw[<-z];exact lt_irrefl _))
 obtain⟨W0,⟨m0,w0⟩,turn⟩:=hq;have E1:∀{α:Type}{t:Sem α}{Q1:α->Shared->Prop}{s1:Shared},wpAny (model X.prog X.w) X.A t Q1 Y.xe s1->wpAny (model X.prog X.w) X.A t Q1 (notedBy (model X.prog X.w) X.A Y.env fun e s'=>RR (Value.ref s.heap.objs.size) Y.env (Except.error e) s') s1:=fun h=>wpAny_mono h (fun _ _ z=>z) fun ev s' z=>by
  rw[Yx]at z;obtain⟨e,c,dd,H',rfl,hE,x,hCn,m,hn⟩:=z;show wpAny _ X.A (noteFrame (.ref e) Y.env) _ _ s';rw[note_eq Yf];exact x.noteC own hn fun s'' x'' hh hn''=>hRE _ _ e Y.env c dd H' s'' m Yl Yf hCle hE x'' hh hn'' hCn
 have endC:∀{σ':St}{H':Hp}{s':Shared}{its:List Value}{ys:List V},Inv Y [] σ' H' s'->H' s.heap.objs.size=none->s'.heap.PlainList s.heap.objs.size its.toArray->Vals ys its->ys.length<=sizeLine->
   (∀p,H' p=none->Q (.ref p) (upd H' p (.lst ys)))->RR (.ref s.heap.objs.size) Y.env (.ok .next) s':=fun{σ' H' s' its ys} I' hn ⟨n,e⟩ rv hz q=>by
  subst hX;obtain⟨m,hm,_⟩:=id I'.loc;have hCn:H' H2.objs.size=none:=I'.free;refine hRR _ _ _ s' (upd H' s.heap.objs.size (.lst ys)) m rfl (I.call' I'.os (Un.add I'.base (le_refl _) hn) (I'.hok.add hn ⟨hz,its,n,rv,e⟩) I'.bare fun b hb=>?_) hm hCle (by show upd H' s.heap.objs.size (.lst ys) H2.objs.size=none;rw[zh (Ne.symm hDC)];exact hCn) (q _ hn);obtain⟨f0,f1,f2,f3,f4,f5⟩:=hf b hb;exact⟨f3,f1,f4,f5⟩
 have loop:codeAny (model X.prog X.w) X.A (.compLoop (.ListComp elt [⟨tg,iter,ifs,0⟩] scope pos) 0 (.ref it) (.ref s.heap.objs.size) Y.env) (RR (.ref s.heap.objs.size) Y.env) s4:=by
  refine u6 (fun n s'=>∃(i:Nat)(σ':St)(H':Hp)(ys:List V)(its:List Value),Inv Y [] σ' H' s'/\tn i s'.heap/\(∀b∈fp,H' b=none)/\H' s.heap.objs.size=none/\s'.heap.PlainList s.heap.objs.size its.toArray/\Vals ys its/\W0 i n ys σ' H') ?_ m0
   ⟨0,jR ls fr σ,H,[],[],I4,T.keep _ _ _ st fun b _ o e=>by rw[<-hs4];exact old b o e,fun b hb=>(hf b hb).1,I.hok.fresh (le_refl _),by rw[<-hs4];exact hacc,.nil,w0⟩
  rintro n s5 ⟨i,σ5,H5,ys,its,I5,st5,fr5,hn5,⟨nn,e5⟩,rv,w5⟩;have I5p:=pinD I5 hn5 e5;rcases turn i n ys σ5 H5 w5 with⟨stop,hz,qn⟩|⟨go,hz,NN,hNN,step⟩
  ·rw[<-YA];refine thn (T.done Y YP Yw YK Yc i _ s5 σ5 H5 _ I5p (fpY fr5) st5 stop) fun r s6 ⟨hr,I6⟩=>?_;subst hr;exact endC (I6.pins_of fun p hp=>nomatch hp) hn5 ⟨nn,(I6.pin _ (mem_append_right _ mem_cons_self)).1⟩ rv hz qn
  ·have hit:=T.item Y YP Yw YK Yc i _ s5 σ5 H5 (notedBy (model X.prog X.w) X.A Y.env fun e s'=>RR (Value.ref s.heap.objs.size) Y.env (Except.error e) s') I5p (fpY fr5) st5 go;rw[YA]at hit;refine thn hit fun r s6 ⟨u,hr,h6⟩=>?_;subst hr;refine thn h6 fun _ s7 ⟨x,H7,I7,r7,y7,st7,fr7⟩=>?_;have I7':=I7.pinned (fpY fr7) (T.obj _ _ st7);have h8:=hg H2.objs.size s H fp cat;have h9:=ht H2.objs.size s H fp cat;have h10:=he H2.objs.size s H fp cat;rw[hX]at h8 h9 h10;have a8:=h8 _ s7 σ5 H7 x u _ I7' r7 (step x H7 y7);rw[YP,Yw,YA]at a8;refine thn (E1 a8) fun _ s8 ⟨σ8,H8,I8,q8⟩=>?_;have a9:=h9 _ s8 σ8 H8 _ I8 q8;rw[YP,Yw,YA]at a9;refine thn (E1 a9) fun b s9 ⟨H9,I9,q9⟩=>?_;have back:∀{σ':St}{H':Hp}{s':Shared},Inv Y ([(s.heap.objs.size,{cls:=.type "list",data:=.seq its.toArray nn})]++gX fp s7.heap) σ' H' s'->
     tn (i+1) s'.heap/\(∀b∈fp,H' b=none)/\H' s.heap.objs.size=none/\s'.heap.PlainList s.heap.objs.size its.toArray:=fun{σ' H' s'} I'=>by
    have hp:=I'.pin (s.heap.objs.size,{cls:=.type "list",data:=.seq its.toArray nn}) (mem_append_right _ (List.mem_append_left _ mem_cons_self));refine⟨T.keep _ _ _ st7 fun b hb o e=>(I'.pin (b,o) (mem_append_right _ (mem_append_right _ (kK hb e)))).1,fun b hb=>?_,hp.2.1,⟨nn,hp.1⟩⟩;obtain⟨o,e,d⟩:=T.obj _ _ st7 b hb;exact(I'.pin (b,o) (mem_append_right _ (mem_append_right _ (kK hb e)))).2.1
   cases b with
   |false =>
    rw[if_neg Bool.false_ne_true]at q9 ⊢;obtain⟨m',hm,w9⟩:=hNN _ _ _ q9;obtain⟨z1,z2,z3,z4⟩:=back I9;exact⟨m',hm,i+1,σ8,H9,ys,its,I9.pins_of (fun p hp=>nomatch hp),z1,z2,z3,z4,rv,w9⟩
   |true =>
    rw[if_pos rfl]at q9 ⊢;have a10:=h10 _ s9 σ8 H9 _ I9 q9;rw[YP,Yw,YA]at a10;refine thn (E1 a10) fun xv s10 ⟨v,H10,I10,rx,q10⟩=>?_;obtain⟨m',hm,w10⟩:=hNN _ _ _ q10;obtain⟨z1,z2,z3,z4⟩:=back I10;have hlen:its.length=ys.length:=(rv.length).symm;refine wpAny_list_append_plain z4 (fun h' pl sb=>?_) (by rw[size_toArray,hlen];exact hz);refine⟨m',hm,i+1,σ8,H10,ys++[v],its++[xv],?_,?_,z2,z3,?_,rv.append (.cons rx .nil),w10⟩
    ·have I10':Inv Y [] σ8 H10 s10:=I10.pins_of fun p hp=>nomatch hp
     refine I10'.turned (t':=s10.toks) (it:=s.heap.objs.size) (fun b o hb e=>(sb.2 b hb).trans e) z3 (by rw[Yl];exact hDC) (.inr ?_) (fun x c e=>?_) fun p hp=>?_
     ·rw[<-hX];exact le_refl _
     ·rw[<-hX]at e;intro z;obtain⟨v0,q0⟩:=I.cell x c (S.look I e);exact absurd q0.lt (by rw[z];exact lt_irrefl _)
     ·rw[<-hX]at hp;exact nomatch hp
    ·refine T.keep _ _ _ z1 fun b hb o e=>(sb.2 b (below b (hfl b hb)).2).trans e
    ·have:(its++[xv]).toArray=its.toArray.push xv:=by simp
     rw[this];exact pl
 have hYe:Y.env={newEnv scope H2.objs.size X.env.globals (clos scope X.env) X.env.qual none .none (some X.env) builtinsNs with scope:=relabel scope X.env}:=by rw[<-hX];rfl
 rw[<-hYe];rw[hYe]at loop ⊢;refine codeAny_compStart_list loop ?_;exact T.self _ 0 _ _ _ (T.keep _ _ _ st fun b _ o e=>by rw[<-hs4];exact old b o e) loop
theorem pe_compE{EX:XK}{wi:TI}{tg elt iter:Expr}{ifs:List Expr}{pos:Pos}{g:TG}{tf:TT}{te:TE}(S:CScope (X.wish (XE X EX)) scope ls fr)(hc:X.calm=true)(hi:PI (X.wish (XE X EX)) tg iter wi)(hg:∀C s H ex,vg X C s H ex->PG (cxE X EX scope (ls++fr.map (·.1)) C s H ex) tg g)(ht:∀C s H ex,vg X C s H ex->PF (cxE X EX scope (ls++fr.map (·.1)) C s H ex) ifs tf)(he:∀C s H ex,vg X C s H ex->PE (cxE X EX scope (ls++fr.map (·.1)) C s H ex) elt te)(top:X.stack=X.env::X.outer:=by rfl)(frm:X.env.frame=some X.env.locals:=by rfl)(hs:∀x,foldedSetIterable iter X.env x=pure x:=by intro _;rfl):PE (X.wish (XE X EX)) (.ListComp elt [⟨tg,iter,ifs,0⟩] scope pos) (tComp wi ls fr g tf te):=by
 intro pins s σ H Q I h;rw[eval_ListComp];have S':CScope X scope ls fr:=⟨S.kind,S.nocell,S.names,S.free,S.slots⟩;refine dC (use:=none) rfl hs (jz (S.cells I)) S.kind S.names (thn (hi pins s σ H _ I h) fun xv s₁ h₁=>thn h₁ fun itv s₂ h₂=>?_);obtain⟨it,fp,tn,J,H2,rfl,I2w,T,st,hf,q⟩:=h₂;have I2:Inv X pins σ H2 s₂:=I2w.unwish;have own:Own X:=⟨I2.ok,top,frm⟩;refine dB (X:=X) (EX:=EX) (RR:=fun acc ce=>postC (model X.prog X.w) X.A (XE X EX) none (EP (X.wish (XE X EX)) pins σ Q) acc ce) own S' hc I2 T st hf q hg ht he ?_ ?_
 ·intro D C ce s' H' m hce I' hn hC hCn hq;subst hce;refine⟨m,hn,fun h' sb=>?_⟩;have nC:∀{b:Addr},b<s₂.heap.objs.size->b≠ce.locals:=fun hb=>ne_of_lt (lt_of_lt_of_le hb hC);refine⟨.ref D,H',(I'.turned (t':=s'.toks) (it:=ce.locals) (fun b o hb e=>(sb.2 b hb).trans e) hCn (Ne.symm (nC I2.lt)) (.inr (le_trans I2.sz hC)) (fun x c e=>?_) fun p hp=>?_).wish _,rfl,hq⟩
  ·obtain⟨v0,q0⟩:=I2.cell x c e;exact nC q0.lt
  ·exact nC (Heap.lt_size (I2.pin p hp).1)
 ·intro D C e ce c dd H' s' m hce hcf hC hE x hh hn hCn;subst hce;refine⟨m,hn,fun h' sb=>?_⟩;obtain⟨x2,hh2⟩:=x.but own hh hn (le_trans I2.sz hC) (I2.noFr hC) hCn sb;exact x2.on own hcf hE hh2
end
theorem pgcE{X:Cx}{E:XK}{scope:Scope}{ls:List Str}{fr:List (Str×Nat)}{C:Addr}{s:Shared}{H:Hp}{ex:List Addr}{x:Str}{pos:Pos}(i:Nat)(hN:(ls++fr.map (·.1)).Nodup)(hi:(ls++fr.map (·.1))[i]? =some x)(hx:scope.names.lookup x=some .local) :
  PG (cxE X E scope (ls++fr.map (·.1)) C s H ex) (.Name x pos) (jX i) :=
 cB hN hi (.inl (lookup_relabel_local hx)) (.inr (lookup_relabel_local hx))
theorem pvcE(sc:Scope)(i:Nat){X:Cx}{E:XK}{scope:Scope}{N:List Str}{C:Addr}{s:Shared}{H:Hp}{ex:List Addr}{x:Str}{pos:Pos}(hN:N[i]? =some x:=by rfl)(hs:X.env.scope=sc:=by rfl)(hv:visB scope sc x=true:=by decide+kernel)(hd:(x==("__debug__" : Str))=false:=by decide+kernel)(hcd:(x==("__classdict__" : Str))=false:=by decide+kernel):PE (cxE X E scope N C s H ex) (.Name x pos) (tVar i):=by
 subst hs;refine pe_var hN ?_ hd hcd;have hv':visB scope X.env.scope x=true:=hv;unfold visB at hv';show(relN scope X.env.scope).lookup x=some .local\/(relN scope X.env.scope).lookup x=some .cell\/(relN scope X.env.scope).lookup x=some .free;split at hv'
 ·rename_i e;exact .inl e
 ·rename_i e;exact .inr (.inl e)
 ·rename_i e;exact .inr (.inr e)
 ·cases hv'
theorem glcE(sc:Scope){X:Cx}{E:XK}{scope:Scope}{N:List Str}{C:Addr}{s:Shared}{H:Hp}{ex:List Addr}{x:Str}(hs:X.env.scope=sc:=by rfl)(h:((relN scope sc).lookup x==some .globalImplicit)=true:=by decide+kernel):Gl (cxE X E scope N C s H ex) x:=by
 subst hs;exact eq_of_beq h
theorem Same.updN{H H':Hp}{p:Addr}{o:HO}(s:Same H H')(h:H p=none):Same H (upd H' p o):=fun b u e=>by rw[zh (zr e h)];exact s b u e
abbrev Lane:=Nat×Nat
def laneT(l:Lane)(v:Nat):Nat:=v*(l.2 / Nat.gcd l.1 l.2)
def timesOf(z:Lane×Nat):Nat:=laneT z.1 z.2
def sumT(ls:List Lane)(row:List Nat):Nat:=((ls.zip row).map timesOf).sum
theorem gF{K:W.Frag}{i:Nat}{a:Addr}{xs:List V}{nm:Str}{fr:List (Str×Nat)}{te:TE}{σ:St}{H:Hp}{Q:VK}{β:Type}(R:β->V->Hp->Prop)(bs:List β)(tl:St)(hb:bs.length=xs.length)(hle:xs.length<=sizeLine)(mono:∀b v H H',Same H H'->R b v H->R b v H')(htl:jR [nm] fr σ=none::tl)(hs:σ[i]? =some (some (.ref a)))(h:H a=some (.lst xs))(step:∀(j:Nat) (x:V) (b:β) (H':Hp) (P:VK),xs[j]? =some x->bs[j]? =some b->Same H H'->(∀v H'',Same H' H''->R b v H''->P v H'')->te (some x::tl) H' P)(hd:∀zs H' p,Same H H'->All2 R H' bs zs->H' p=none->Q (.ref p) (upd H' p (.lst zs))):tComp (iList K (tVar i)) [nm] fr (jX 0) tYes te σ H Q:=by
 refine⟨_,hs,a,rfl,⟨_,SqL.of h⟩,kP (xs:=xs) (fun j zs σ' H'=>Same H H'/\(∃v,σ'=v::tl)/\All2 R H' (bs.take j) zs/\j<=bs.length) ⟨Same.refl _,⟨_,htl⟩,.nil,zero_le _⟩ ?_ ?_ ?_⟩
 ·rintro j zs σ' H' hj ⟨s',_,a2,hj'⟩;refine⟨SqL.of (s' _ _ h),?_⟩;rw[<-a2.length,length_take];exact le_trans (Nat.min_le_right _ _) (by rw[hb];exact hle)
 ·rintro j x zs σ' H' hx ⟨s',⟨v,rfl⟩,a2,hj'⟩;have hj:j<bs.length:=by rw[hb];exact(List.getElem?_eq_some_iff.mp hx).1
  have hbj:bs[j]? =some bs[j]:=getElem?_eq_getElem hj;refine step j x bs[j] H' _ hx hbj s' fun v2 H2 s2 r2=>⟨s'.trans s2,⟨_,rfl⟩,?_,hj⟩;rw[take_succ,hbj];exact(a2.imp fun _ _ z=>mono _ _ _ _ s2 z).snoc r2
 ·rintro zs σ' H' ⟨s',_,a2,_⟩ p hp;rw[<-hb,take_length]at a2;exact hd zs H' p s' a2 hp
theorem uD{K:W.Frag}{i:Nat}{a:Addr}{xs:List V}{nm:Str}{fr:List (Str×Nat)}{te:TE}{σ:St}{H:Hp}{Q:VK}{β:Type}(R:β->V->Hp->Prop)(bs:List β)(tl:St)(hb:bs.length=xs.length)(hle:xs.length<=sizeLine)(mono:∀b v H H',Same H H'->R b v H->R b v H')(htl:jR [nm] fr σ=none::tl)(hs:σ[i]? =some (some (.ref a)))(h:H a=some (.tup xs))(step:∀(j:Nat) (x:V) (b:β) (H':Hp) (P:VK),xs[j]? =some x->bs[j]? =some b->Same H H'->(∀v H'',Same H' H''->R b v H''->P v H'')->te (some x::tl) H' P)(hd:∀zs H' p,Same H H'->All2 R H' bs zs->H' p=none->Q (.ref p) (upd H' p (.lst zs))):tComp (iTup K (tVar i)) [nm] fr (jX 0) tYes te σ H Q:=by
 refine⟨_,hs,a,rfl,⟨_,SqT.of h⟩,je (xs:=xs) (fun j zs σ' H'=>Same H H'/\(∃v,σ'=v::tl)/\All2 R H' (bs.take j) zs/\j<=bs.length) ⟨Same.refl _,⟨_,htl⟩,.nil,zero_le _⟩ ?_ ?_ ?_⟩
 ·rintro j zs σ' H' hj ⟨s',_,a2,hj'⟩;refine⟨SqT.of (s' _ _ h),?_⟩;rw[<-a2.length,length_take];exact le_trans (Nat.min_le_right _ _) (by rw[hb];exact hle)
 ·rintro j x zs σ' H' hx ⟨s',⟨v,rfl⟩,a2,hj'⟩;have hj:j<bs.length:=by rw[hb];exact(List.getElem?_eq_some_iff.mp hx).1
  have hbj:bs[j]? =some bs[j]:=getElem?_eq_getElem hj;refine step j x bs[j] H' _ hx hbj s' fun v2 H2 s2 r2=>⟨s'.trans s2,⟨_,rfl⟩,?_,hj⟩;rw[take_succ,hbj];exact(a2.imp fun _ _ z=>mono _ _ _ _ s2 z).snoc r2
 ·rintro zs σ' H' ⟨s',_,a2,_⟩ p hp;rw[<-hb,take_length]at a2;exact hd zs H' p s' a2 hp
theorem dJ{H:Hp}:∀{bs:List Int}{zs:List V},All2 (fun(b:Int) v _=>v=V.int b) H bs zs->zs=bs.map V.int
 | _,_,.nil=>rfl
 | _,_,.cons h r=>by rw[map_cons,<-dJ r,h]
theorem rK{H:Hp}:∀{bs:List Str}{zs:List V},All2 (fun(b:Str) v _=>v=V.str b) H bs zs->zs=bs.map V.str
 | _,_,.nil=>rfl
 | _,_,.cons h r=>by rw[map_cons,<-rK r,h]
theorem rT{H:Hp}{α:Type}(f:α->List Int)(g:α->Prop):∀{rows:List α}{ts:List V},All2 (fun(b:List Int×Prop) v H'=>Tup1 b.1 v H'/\b.2) H (rows.map fun r=>(f r,g r)) ts->All2 Tup1 H (rows.map f) ts/\ ∀r∈rows,g r
 | [],_,.nil=>⟨.nil,(fun _ h=>by cases h)⟩
 |r::rows,_,.cons h a=>by
  obtain⟨a1,a2⟩:=rT f g (rows:=rows) a;refine⟨.cons h.1 a1,fun x hx=>?_⟩;rcases mem_cons.mp hx with rfl|hx
  ·exact h.2
  ·exact a2 x hx
theorem iteT'{b:Bool}{p q:Prop}(h:b=true)(hp:p):if b=true then p else q:=by rw[if_pos h];exact hp
theorem xy(xs:List V)(s:Nat):cutV xs none (some (s:Int))=xs.take (min s xs.length):=by
 unfold cutV;rw[HT.sIx_none,HT.sIx_nat,drop_zero,Nat.sub_zero]
end L2
namespace L2
open PySem PySem.Spec PyProof.Rows PySem.NumText
def numV(z:Str):Int:=((digitsVal z.cps.toList:Nat):Int)
def zE(z:Str):List Str:=Txt.split z (Str.ofString " ")
theorem da(z:Str):((zE z).map (·.length)).sum+(zE z).length<=z.length+1:=PyProof.Rows.split_weight z _ (by decide)
theorem gO{l:List Str}{w:Str}(h:w∈l):w.length<=(l.map (·.length)).sum:=by
 induction l with
 |nil=>cases h
 |cons a r ih =>
  rw[map_cons,List.sum_cons];rcases mem_cons.mp h with rfl|h
  ·omega
  ·have:=ih h;omega
theorem word_len{z w:Str}(h:w∈zE z):w.length<=z.length:=by
 have h1:=da z;have h2:=gO h;have h3:1<=(zE z).length:=List.length_pos_iff.mpr fun e=>by rw[e]at h;cases h
 omega
theorem pF(w:Str):kr w=true↔ ∃c r,w.cps.toList=c::r/\(c::r).length<=60/\c≠48/\ ∀d∈c::r,48<=d/\d<=57:=by
 unfold kr;cases h:w.cps.toList with
 |nil=>simp
 |cons c r =>
  simp only[and_eq_true,decide_eq_true_eq,all_eq_true];constructor
  ·rintro⟨⟨h1,h2⟩,h3⟩;exact⟨c,r,rfl,h1,h2,h3⟩
  ·rintro⟨c',r',e,h1,h2,h3⟩;cases e;exact⟨⟨h1,h2⟩,h3⟩
theorem fold_ge(cs:List Nat):∀a:Nat,a<=cs.foldl (fun acc c=>acc*10+(c-48)) a:=by
 induction cs with
 |nil=>exact fun a=>le_refl _
 |cons c r ih =>
  intro a;rw[List.foldl_cons];exact le_trans (by omega) (ih _)
theorem numV_pos{w:Str}(h:kr w=true):1<=numV w:=by
 obtain⟨c,r,e,_,h2,h3⟩:=(pF w).mp h;unfold numV digitsVal;rw[e,List.foldl_cons];have h4:=h3 c mem_cons_self;have:=fold_ge r (0*10+(c-48));omega
theorem qg{w:Str}(h:kr w=true):PySem.intText? w=some (numV w):=by
 obtain⟨c,r,e,h1,h2,h3⟩:=(pF w).mp h;refine intText_digits (fun d hd=>h3 d (by rw[<-e];exact hd)) (by rw[e];exact fun z=>by cases z) ?_;rw[zJ,e];omega
def ky(z:Str):Option (List Int):=if z=gi then some []else
 if(zE z).length<=60/\(∀w∈zE z,kr w=true)/\((zE z).map numV).Pairwise (· >= ·)then some ((zE z).map numV)else none
theorem qv:ky gi=some []:=by unfold ky;rw[if_pos rfl]
theorem readN_no{z:Str}(h:z≠gi)(h2:¬((zE z).length<=60/\(∀w∈zE z,kr w=true)/\((zE z).map numV).Pairwise (· >= ·))):ky z=none:=by
 unfold ky;rw[if_neg h,if_neg h2]
theorem qw{z:Str}(h:z≠gi)(h2:((zE z).length<=60/\(∀w∈zE z,kr w=true)/\((zE z).map numV).Pairwise (· >= ·))):ky z=some ((zE z).map numV):=by
 unfold ky;rw[if_neg h,if_pos h2]
theorem ma{n:Int}(h:1<=n)(h2:n<10^60):numV (numS n)=n:=by
 have e1:=qg (uP h h2);rw[numS_reads (by omega) (Int.lt_trans h2 (by decide+kernel))]at e1;exact(Option.some.inj e1).symm
theorem wq{ns:List Int}(hh:IsHeap 60 (10^60) ns):ky (txt ns)=some ns:=by
 have hb1:∀x∈ns,1<=x:=fun x hx=>(hh.bd x hx).1;by_cases h0:ns=[]
 ·subst h0;exact qv
 ·have e:(zE (txt ns)).map numV=ns:=by
   unfold zE;rw[qP h0 hb1,map_map]
   conv=>rhs;rw[<-List.map_id ns]
   exact List.map_congr_left fun x hx=>ma (hb1 x hx) (hh.bd x hx).2
  have e2:=qw (z:=txt ns) (fun z=>h0 ((txt_none hb1).mp z)) ⟨by
   unfold zE;rw[qP h0 hb1,length_map];exact hh.ln,fun w hw=>by
   unfold zE at hw;rw[qP h0 hb1]at hw;obtain⟨n,hn,rfl⟩:=mem_map.mp hw;exact uP (hb1 n hn) (hh.bd n hn).2,by rw[e];exact hh.pw⟩
  rw[e]at e2;exact e2
theorem atI_end{α:Type}{xs:List α}{x:α}(h:xs.getLast? =some x):atI xs (-1)=some x:=by
 have hne:xs≠[]:=fun e=>by rw[e]at h;cases h
 have hl:0<xs.length:=List.length_pos_iff.mpr hne;unfold atI ixN;rw[if_neg (by decide),if_pos (by omega)];show xs[(-1+(xs.length:Int)).toNat]? =some x;rw[show(-1+(xs.length:Int)).toNat=xs.length-1 by omega,<-List.getLast?_eq_getElem?,h]
def weight(ys:List Str):Nat:=(ys.map (·.length)).sum+ys.length
theorem cQ(y:Str)(ys:List Str):weight (y::ys)=weight ys+y.length+1:=by
 unfold weight;rw[map_cons,List.sum_cons,length_cons];omega
theorem join_len(sep:Str)(hs:sep.length<=4)(ys:List Str):(Txt.join sep ys).length<=4*weight ys:=by
 rw[show Txt.join sep ys=Str.join sep ys from StrLaws.glued_eq_join _ _];cases ys with
 |nil =>
  show(Str.join sep []).length<=_;exact zero_le _
 |cons a r =>
  rw[PyProof.Rows.len_join_cons];unfold weight;rw[length_cons];have:r.length*sep.length<=r.length*4:=Nat.mul_le_mul_left _ hs;omega
end L2
namespace L2
open PySem PySem.Spec PyProof.Rows
open PySem.StrLaws (At ChainG partsFrom)
open PySem.Builtin.Str (occurrences subAt)
def bar:Str:=Str.ofString " | "
theorem dh:bar.cps.toList=[32,124,32]:=by decide+kernel
theorem kO:bar.length=3:=by decide
theorem cY(a:Array Nat)(i n:Nat):(a.extract i (i+n)).toList=(a.toList.drop i).take n:=by
 simp[List.extract,List.take_drop]
theorem at_bar{x:Str}{k:Nat}(h:At x bar x.length k):(x.cps.toList.drop k).take 3=[32,124,32]:=by
 have h2:=h.2;unfold subAt at h2;rw[kO]at h2;have h3:=congrArg Array.toList (eq_of_beq h2);rw[cY,dh]at h3;exact h3
theorem bar_at{x:Str}{k:Nat}{r:List Nat}(h:x.cps.toList.drop k=[32,124,32]++r):At x bar x.length k:=by
 refine⟨?_,?_⟩
 ·have:=congrArg length h;rw[length_drop,length_append]at this;rw[kO,zJ];have e:[32,124,32].length=3:=rfl;rw[e]at this;omega
 ·unfold subAt;rw[kO];refine beq_iff_eq.mpr (Array.ext' ?_);rw[cY,dh,h];rfl
theorem at_mid{x:Str}{a k:Nat}{L:List Nat}(ha:x.cps.toList.drop a=L)(hk:a<=k)(h:At x bar x.length k):L[k-a+1]? =some 124/\L[k-a]? =some 32:=by
 have h1:=at_bar h;have e:x.cps.toList.drop k=L.drop (k-a):=by rw[<-ha,List.drop_drop];congr 1;omega
 rw[e]at h1;have h2:((L.drop (k-a)).take 3)[1]? =some 124:=by rw[h1];rfl
 have h3:((L.drop (k-a)).take 3)[0]? =some 32:=by rw[h1];rfl
 rw[List.getElem?_take_of_lt (by decide),List.getElem?_drop]at h2 h3;exact⟨h2,h3⟩
def dM:List (List Nat)->List Nat
 | []=>[]
 | [w]=>w
 |w::w2::r=>w++([32,124,32]++dM (w2::r))
theorem gV(x:Str):∀(ws:List Str)(a f:Nat)(cuts:List Nat),ws≠[]->(∀w∈ws,124∉w.cps.toList)->a<=x.length->x.cps.toList.drop a=dM (ws.map fun w=>w.cps.toList)->ChainG x bar x.length a cuts f->(∀k,f<=k-> ¬At x bar x.length k)->partsFrom x 3 a cuts=ws
 | [],_,_,_,h,_,_,_,_,_=>absurd rfl h
 | [w],a,f,cuts,_,hw,hax,hd,hc,hn=>by
  have no:∀k,a<=k-> ¬At x bar x.length k:=fun k hk hA=>by
   have:=(at_mid hd hk hA).1;exact hw w (by simp) (mem_of_getElem? this)
  cases cuts with
  |cons c r=>exact absurd hc.2.1 (no c hc.1)
  |nil =>
   show [PySem.Builtin.Str.strSub x a x.length]=[w];congr 1;apply yE;rw[PySem.StrLaws.strSub_toList,hd];show w.cps.toList.take _=_;have hl:=congrArg length hd;rw[length_drop]at hl;exact take_of_length_le (by rw[zJ];simp[dM]at hl ⊢;omega)
 |w::w2::r,a,f,cuts,_,hw,hax,hd,hc,hn=>by
  have hd':x.cps.toList.drop a=w.cps.toList++([32,124,32]++dM ((w2::r).map fun w=>w.cps.toList)):=hd;have hat:At x bar x.length (a+w.cps.toList.length):=by
   refine bar_at (r:=dM ((w2::r).map fun w=>w.cps.toList)) ?_;rw[<-List.drop_drop,hd',List.drop_left]
  have no:∀k,a<=k->k<a+w.cps.toList.length-> ¬At x bar x.length k:=fun k hk hk2 hA=>by
   have h1:=(at_mid hd' hk hA).1;by_cases hlt:k-a+1<w.cps.toList.length
   ·rw[List.getElem?_append_left hlt]at h1;exact hw w (by simp) (mem_of_getElem? h1)
   ·rw[List.getElem?_append_right (by omega),show k-a+1-w.cps.toList.length=0 by omega]at h1;cases h1
  cases cuts with
  |nil =>
   have e:f=a:=hc;exact absurd hat (hn _ (by omega))
  |cons c cs =>
   obtain⟨h1,h2,h3,h4⟩:=hc;have ec:c=a+w.cps.toList.length:=by
    rcases Nat.lt_trichotomy c (a+w.cps.toList.length)with h|h|h
    ·exact absurd h2 (no c h1 h)
    ·exact h
    ·exact absurd hat (h3 _ (by omega) h)
   subst ec;have hd3:x.cps.toList.drop (a+w.cps.toList.length+3)=dM ((w2::r).map fun w=>w.cps.toList):=by
    rw[Nat.add_assoc,<-List.drop_drop,hd',<-List.drop_drop,List.drop_left];rfl
   show PySem.Builtin.Str.strSub x a (a+w.cps.toList.length)::partsFrom x 3 (a+w.cps.toList.length+3) cs=w::w2::r;have h4':ChainG x bar x.length (a+w.cps.toList.length+3) cs f:=h4;rw[gV x (w2::r) _ f cs (by simp) (fun y hy=>hw y (mem_cons_of_mem _ hy)) (by have:=hat.1;rw[kO]at this;exact this) hd3 h4' hn];congr 1;apply yE;rw[PySem.StrLaws.strSub_toList,hd',Nat.add_sub_cancel_left,List.take_left]
theorem cN(x:Str):Txt.split x bar=partsFrom x 3 0 (occurrences x bar 0 x.length (x.length+1)):=by
 obtain⟨f,hG,hn⟩:=PySem.StrLaws.occ_tight x bar (by rw[kO];decide);have one:occurrences x bar 0 x.length (x.length+1)=[]->[x]=partsFrom x 3 0 (occurrences x bar 0 x.length (x.length+1)):=fun e=>by
  rw[e];show [x]=[PySem.Builtin.Str.strSub x 0 x.length];rw[PySem.StrLaws.sub_whole]
 unfold Txt.split;split
 ·rename_i hc;refine one ?_;cases e:occurrences x bar 0 x.length (x.length+1)with
  |nil=>rfl
  |cons c r =>
   rw[e]at hG;have h1:=hG.2.1.1;rw[kO]at h1;rw[Bool.or_eq_true,decide_eq_true_eq,decide_eq_true_eq]at hc;rcases hc with h|h
   ·rw[kO]at h;omega
   ·exfalso;have hb:PySem.Builtin.Str.strKind bar=1:=by decide+kernel
    rw[hb]at h;unfold PySem.Builtin.Str.strKind at h;split at h
    ·omega
    ·split at h <;>omega
 ·split
  ·rename_i he;exact one (List.isEmpty_iff.mp he)
  ·rw[PySem.StrLaws.partsBetween_eq,kO]
theorem join_bar(ws:List Str):(Txt.join bar ws).cps.toList=dM (ws.map fun w=>w.cps.toList):=by
 rw[show Txt.join bar ws=Str.join bar ws from StrLaws.glued_eq_join _ _]
 induction ws with
 |nil=>rfl
 |cons w r ih =>
  cases r with
  |nil=>rfl
  |cons w2 r =>
   show(w++bar++Str.join bar (w2::r)).cps.toList=_;show((w.cps++bar.cps)++(Str.join bar (w2::r)).cps).toList=_;rw[Array.toList_append,Array.toList_append,ih,dh,append_assoc];rfl
theorem split_bar{ws:List Str}(h0:ws≠[])(h:∀w∈ws,124∉w.cps.toList):Txt.split (Txt.join bar ws) bar=ws:=by
 obtain⟨f,hG,hn⟩:=PySem.StrLaws.occ_tight (Txt.join bar ws) bar (by rw[kO];decide);rw[cN];exact gV _ ws 0 f _ h0 h (zero_le _) (by rw[drop_zero,join_bar]) hG hn
def ku:Str:=Str.ofString "no heaps"
def rtxt(rs:List (List Int)):Str:=if rs=[]then ku else Txt.join bar (rs.map txt)
def kH(z:Str):List Str:=Txt.split z bar
theorem cJ(z:Str):weight (kH z)<=z.length+1:=PyProof.Rows.split_weight z _ (by rw[kO];decide)
theorem row_len{z w:Str}(h:w∈kH z):w.length<=z.length:=by
 have h1:=cJ z;have h2:=gO h;have h3:1<=(kH z).length:=List.length_pos_iff.mpr fun e=>by rw[e]at h;cases h
 unfold weight at h1;omega
def vQ(z:Str):Option (List (List Int)):=if z=ku then some []else
 if(kH z).length<=6/\(∀w∈kH z,(ky w).isSome=true)then some ((kH z).map fun w=>(ky w).getD [])else none
theorem qy:vQ ku=some []:=by unfold vQ;rw[if_pos rfl]
theorem readR_no{z:Str}(h:z≠ku)(h2:¬((kH z).length<=6/\(∀w∈kH z,(ky w).isSome=true))):vQ z=none:=by
 unfold vQ;rw[if_neg h,if_neg h2]
theorem qz{z:Str}(h:z≠ku)(h2:(kH z).length<=6/\(∀w∈kH z,(ky w).isSome=true)):vQ z=some ((kH z).map fun w=>(ky w).getD []):=by
 unfold vQ;rw[if_neg h,if_pos h2]
theorem tS{c d:Nat}:∀{ws:List (List Nat)},d∈yV c ws->d=c\/ ∃w∈ws,d∈w
 | [],h=>by simp[yV]at h
 | [w],h=>.inr ⟨w,by simp,by simpa [yV]using h⟩
 |w::w2::r,h=>by
  have h':d∈w++c::yV c (w2::r):=h;rcases mem_append.mp h' with h|h
  ·exact .inr ⟨w,by simp,h⟩
  ·rcases mem_cons.mp h with h|h
   ·exact .inl h
   ·rcases tS h with h|⟨y,hy,h⟩
    ·exact .inl h
    ·exact .inr ⟨y,mem_cons_of_mem _ hy,h⟩
theorem txt_nobar{ns:List Int}(hb:∀x∈ns,1<=x):124∉(txt ns).cps.toList:=fun h=>by
 unfold txt at h;split at h
 ·rw[xQ]at h;revert h;decide
 ·have e1:Txt.join (Str.ofString " ") (ns.map numS)=Str.join ⟨#[32]⟩ (ns.map numS):=by rw[yJ];exact StrLaws.glued_eq_join _ _
  rw[e1,jf]at h;rcases tS h with h|⟨w,hw,h⟩
  ·cases h
  ·obtain⟨y,hy,rfl⟩:=mem_map.mp hw;obtain⟨n,hn,rfl⟩:=mem_map.mp hy;have:=kX (n:=n) (by have:=hb n hn;omega) 124 h;omega
theorem mK:ky ku=none:=by decide+kernel
theorem qA{rs:List (List Int)}(h0:rs≠[])(hb:∀r∈rs,IsHeap 60 (10^60) r):kH (rtxt rs)=rs.map txt:=by
 unfold kH rtxt;rw[if_neg h0];refine split_bar (by simpa using h0) fun w hw=>?_;obtain⟨r,hr,rfl⟩:=mem_map.mp hw;exact txt_nobar fun x hx=>((hb r hr).bd x hx).1
theorem rtxt_none{rs:List (List Int)}(h0:rs≠[])(hb:∀r∈rs,IsHeap 60 (10^60) r):rtxt rs≠ku:=fun e=>by
 have h1:=qA h0 hb;rw[e]at h1;have h2:kH ku=[ku]:=by decide+kernel
 rw[h2]at h1;cases rs with
 |nil=>exact h0 rfl
 |cons r rs' =>
  simp only[map_cons,List.cons.injEq]at h1;have h3:=wq (hb r (by simp));rw[<-h1.1,mK]at h3;cases h3
theorem readR_rtxt{rs:List (List Int)}(h6:rs.length<=6)(hb:∀r∈rs,IsHeap 60 (10^60) r):vQ (rtxt rs)=some rs:=by
 by_cases h0:rs=[]
 ·subst h0;exact qy
 ·rw[qz (rtxt_none h0 hb) ?_,qA h0 hb,map_map]
  ·congr 1
   conv=>rhs;rw[<-List.map_id rs]
   exact List.map_congr_left fun r hr=>by
    show(ky (txt r)).getD []=r;rw[wq (hb r hr)];rfl
  ·rw[qA h0 hb];refine⟨by rw[length_map];exact h6,fun w hw=>?_⟩;obtain⟨r,hr,rfl⟩:=mem_map.mp hw;rw[wq (hb r hr)];rfl
theorem tP(sep:Str)(ys:List Str):(Txt.join sep ys).length<=(ys.map (·.length)).sum+ys.length*sep.length:=by
 rw[show Txt.join sep ys=Str.join sep ys from StrLaws.glued_eq_join _ _];exact StrLaws.join_length_le sep ys
theorem wz{ns:List Int}(hl:ns.length<=10)(hb:∀x∈ns,1<=x/\x<10^60):(txt ns).length<=620:=by
 unfold txt;split
 ·decide
 ·refine le_trans (tP _ _) ?_;have e1:(Str.ofString " ").length=1:=by decide
  rw[e1,Nat.mul_one];have:∀ms:List Int,(∀x∈ms,1<=x/\x<10^60)->weight (ms.map numS)<=61*ms.length:=fun ms=>by
   induction ms with
   |nil=>intro _;decide
   |cons a r ih =>
    intro h;rw[map_cons,cQ,length_cons];have h1:=ih fun x hx=>h x (mem_cons_of_mem _ hx);have h2:=h a mem_cons_self;have h3:=ya (n:=a) (by omega) (k:=60) (by decide) h2.2;rw[zJ];omega
  have:=this ns hb;unfold weight at this;omega
theorem vc{ys:List Str}{n:Nat}(h:∀y∈ys,y.length<=n):(ys.map (·.length)).sum<=ys.length*n:=by
 induction ys with
 |nil=>exact zero_le _
 |cons a r ih =>
  rw[map_cons,List.sum_cons,length_cons,Nat.add_mul,Nat.one_mul];have h1:=ih fun y hy=>h y (mem_cons_of_mem _ hy);have h2:=h a mem_cons_self;omega
theorem bu{rs:List (List Int)}(h6:rs.length<=6)(hb:∀r∈rs,r.length<=10/\ ∀x∈r,1<=x/\x<10^60):(rtxt rs).length<=4000:=by
 unfold rtxt;split
 ·decide
 ·refine le_trans (tP _ _) ?_;have h1:=vc (ys:=rs.map txt) (n:=620) fun y hy=>by
   obtain⟨r,hr,rfl⟩:=mem_map.mp hy;exact wz (hb r hr).1 (hb r hr).2
  rw[length_map]at h1;rw[kO,length_map];omega
theorem gC{K:W.Frag}{a:Addr}{xs:List V}{te:TE}{σ0:St}{H:Hp}{Q:VK}{β:Type}(R:β->V->Hp->Prop)(bs:List β)(tl:St)(hb:bs.length=xs.length)(hle:xs.length<=sizeLine)(mono:∀b v H H',Same H H'->R b v H->R b v H')(htl:σ0=none::tl)(h:H a=some (.lst xs))(step:∀(j:Nat) (x:V) (b:β) (H':Hp) (P:VK),xs[j]? =some x->bs[j]? =some b->Same H H'->(∀v H'',Same H' H''->R b v H''->P v H'')->te (some x::tl) H' P)(hd:∀zs H' p,Same H H'->All2 R H' bs zs->H' p=none->Q (.ref p) (upd H' p (.lst zs))):wQ (jX 0) tYes te σ0 (Itl K a) H Q:=by
 refine kP (xs:=xs) (fun j zs σ' H'=>Same H H'/\(∃v,σ'=v::tl)/\All2 R H' (bs.take j) zs/\j<=bs.length) ⟨Same.refl _,⟨_,htl⟩,.nil,zero_le _⟩ ?_ ?_ ?_
 ·rintro j zs σ' H' hj ⟨s',_,a2,hj'⟩;refine⟨SqL.of (s' _ _ h),?_⟩;rw[<-a2.length,length_take];exact le_trans (Nat.min_le_right _ _) (by rw[hb];exact hle)
 ·rintro j x zs σ' H' hx ⟨s',⟨v,rfl⟩,a2,hj'⟩;have hj:j<bs.length:=by rw[hb];exact(List.getElem?_eq_some_iff.mp hx).1
  have hbj:bs[j]? =some bs[j]:=getElem?_eq_getElem hj;refine step j x bs[j] H' _ hx hbj s' fun v2 H2 s2 r2=>⟨s'.trans s2,⟨_,rfl⟩,?_,hj⟩;rw[take_succ,hbj];exact(a2.imp fun _ _ z=>mono _ _ _ _ s2 z).snoc r2
 ·rintro zs σ' H' ⟨s',_,a2,_⟩ p hp;rw[<-hb,take_length]at a2;exact hd zs H' p s' a2 hp
end L2
namespace L2
open PySem PySem.Spec PyProof.Rows
theorem maxC_mem{ls:List (List Int)}{x:Int}(h:0<maxC ls x):∃l∈ls,x∈l:=by
 induction ls with
 |nil=>simp[maxC]at h
 |cons a r ih =>
  rw[maxC]at h;by_cases ha:0<a.count x
  ·exact⟨a,by simp,List.count_pos_iff.mp ha⟩
  ·obtain⟨l,hl,hx⟩:=ih (by omega);exact⟨l,mem_cons_of_mem _ hl,hx⟩
theorem join_mem{ls:List (List Int)}{x:Int}(h:x∈dN ls):∃l∈ls,x∈l:=by
 refine maxC_mem ?_;rw[<-(xC ls).2 x];exact List.count_pos_iff.mpr h
def relS(scope sc:Scope):Scope:={scope with names:=relN scope sc}
section
variable{X:Cx}{scope1 scope:Scope}{N1 N:List Str}{C1 C:Addr}{s1 s:Shared}{H1 H:Hp}{ex1 ex:List Addr}
theorem env_rel(sc:Scope)(hs:X.env.scope=sc):(cxC X scope1 N1 C1 s1 H1 ex1).env.scope=relS scope1 sc:=by
 subst hs;rfl
theorem cs_of2{ls:List Str}{fr:List (Str×Nat)}(sc:Scope)(hs:X.env.scope=sc:=by rfl)(h:xw (relS scope1 sc) N1 scope fr=true:=by decide+kernel):CScope (cxC X scope1 N1 C1 s1 H1 ex1) scope ls fr :=
 cs_of _ N1 (env_rel sc hs) rfl h
theorem pvc2(sc:Scope)(i:Nat){x:Str}{pos:Pos}(hN:N[i]? =some x:=by rfl)(hs:X.env.scope=sc:=by rfl)(hv:visB scope (relS scope1 sc) x=true:=by decide+kernel)(hd:(x==("__debug__" : Str))=false:=by decide+kernel)(hcd:(x==("__classdict__" : Str))=false:=by decide+kernel):PE (cxC (cxC X scope1 N1 C1 s1 H1 ex1) scope N C s H ex) (.Name x pos) (tVar i) :=
 pvc _ i hN (env_rel sc hs) hv hd hcd
end
theorem pi_tupK2{X:Cx}{tg l:Expr}{tl:TE}(K0:W.Frag)(h:X.K=K0)(hl:PE X l tl):PI X tg l (iTup K0 tl):=by
 subst h;exact kD hl
theorem All2.imp2{α:Type}{R R':α->V->Hp->Prop}{H H':Hp}(f:∀a v,R a v H->R' a v H'):∀{l:List α}{xs:List V},All2 R H l xs->All2 R' H' l xs
 | _,_,.nil=>.nil
 | _,_,.cons h r=>.cons (f _ _ h) (r.imp2 f)
theorem sum_cons(a:Lane)(ls:List Lane)(m:Nat)(row:List Nat):sumT (a::ls) (m::row)=laneT a m+sumT ls row:=rfl
theorem cV(xs:List V)(s:Nat):cutV xs (some (s:Int)) none=xs.drop s:=by
 rcases Nat.le_total s xs.length with h|h
 ·exact cut_from xs s h
 ·unfold cutV;rw[HT.sIx_nat,HT.sIx_none,Nat.min_eq_right h,List.drop_length,List.drop_of_length_le h];simp
def kn(p:Keyed):Int:=numOf p.1
theorem for_seq{K:W.Frag}{a:Addr}{xs:List V}{g:TG}{tb:TS}{D:Ends}{σ:St}{H:Hp}{i:Nat}{o:HO}(ho:o= .lst xs\/o= .tup xs)(hs:σ[i]? =some (some (.ref a)))(hH:H a=some o)(Pv:Nat->St->Hp->Prop)(h0:Pv 0 σ H)(hl:∀i σ H,i<=xs.length->Pv i σ H->H a=some o)(st:∀i x σ H,xs[i]? =some x->Pv i σ H->g x σ H fun σ2 H2=>tb {D with nx:=Pv (i+1),ct:=Pv (i+1),bk:=D.nx} σ2 H2)(hd:∀ σ H,Pv xs.length σ H->D.nx σ H):tFor (iOr (iList K (tVar i)) (iTup K (tVar i))) g tb D σ H:=by
 rcases ho with rfl|rfl
 ·exact .inl ⟨_,hs,a,rfl,⟨_,SqL.of hH⟩,wC Pv h0 (fun i σ H hi p=>SqL.of (hl i σ H hi p)) st hd⟩
 ·exact .inr ⟨_,hs,a,rfl,⟨_,SqT.of hH⟩,uE Pv h0 (fun i σ H hi p=>SqT.of (hl i σ H hi p)) st hd⟩
theorem vj:∀(a b:List Int),(∀x,a.count x<=b.count x)->a.length<=b.length
 | [],_,_=>zero_le _
 |x::a,b,h=>by
  have hx:x∈b:=List.count_pos_iff.mp (lt_of_lt_of_le (by rw[List.count_cons_self];omega) (h x));have:=vj a (b.erase x) fun y=>by
   have hy:=h y;rw[List.count_erase,List.count_cons]at*;split at hy <;>split <;>simp_all <;>omega
  rw[List.length_erase_of_mem hx]at this;have:0<b.length:=List.length_pos_of_mem hx;rw[length_cons];omega
theorem jJ.len{ls:List (List Int)}{ms:List Int}(h:jJ ls ms):ms.length<=ls.flatten.length:=vj _ _ fun x=>by
 rw[h.2 x];exact pR ls x
structure LD where
 L:Nat
 R:Nat
 m:Nat
 k:Nat
 sp:Bool
 lev:List Nat
structure LD.Ok(d:LD):Prop where
 l1:1<=d.L
 l8:d.L<=8
 r1:1<=d.R
 r8:d.R<=8
 m8:d.m<=8
 k8:d.k<=8
 eq:d.L*d.m=d.R*d.k
 dv:d.sp=true->d.R*(d.L / d.R)=d.L/\d.R<d.L
 lv:∀v∈d.lev,v<=2
 mR:d.m<=d.R
 kL:d.k<=d.L
def LD.at(d:LD)(j:Nat):Nat:=d.lev.getD j 0
theorem dI{α:Type}{p:α->Bool}:∀{l:List α}{i:Nat}{a:α},l[i]? =some a->p a=true->(∀(j:Nat)(b:α),j<i->l[j]? =some b->p b=false)->l.find? p=some a
 | [],i,a,h,_,_=>by simp at h
 |x::l,0,a,h,hp,_=>by
  have:x=a:=by simpa using h
  subst this;rw[List.find?_cons_of_pos hp]
 |x::l,i+1,a,h,hp,hn=>by
  have h0:=hn 0 x (by omega) rfl;rw[List.find?_cons_of_neg (by rw[h0];decide)];exact dI (i:=i) (by simpa using h) hp fun j b hj hb=>hn (j+1) b (by omega) (by simpa using hb)
theorem find_no{α:Type}{p:α->Bool}{l:List α}(hn:∀(j:Nat) (b:α),l[j]? =some b->p b=false):l.find? p=none:=by
 refine List.find?_eq_none.mpr fun x hx=>?_;obtain⟨j,hj⟩:=List.getElem?_of_mem hx;rw[hn j x hj];decide
abbrev Rule:=List (List Int)
theorem getD_mem{rule:Rule}{j:Nat}{x:Int}(h:x∈rule.getD j []):∃hh∈rule,x∈hh:=by
 rw[getD_eq_getElem?_getD]at h;cases e:rule[j]? with
 |none=>rw[e]at h;cases h
 |some r=>rw[e]at h;exact⟨r,mem_of_getElem? e,h⟩
theorem joinX_len{rule:Rule}(hb:∀h∈rule,h.length<=64/\ ∀x∈h,1<=x){c:List Int}(hc:c.length<=6):(dN (yt rule c)).length<=384:=by
 have h1:=(xC (yt rule c)).len;have h2:(yt rule c).flatten.length<=64*(yt rule c).length:=pz fun l hl=>by
  obtain⟨j,hj,rfl⟩:=mem_map.mp hl;rw[getD_eq_getElem?_getD];cases e:rule[j.toNat]? with
  |none=>exact zero_le _
  |some x=>exact(hb x (mem_of_getElem? e)).1
 have e:(yt rule c).length=c.length:=by unfold yt;rw[length_map]
 rw[e]at h2;omega
end L2
namespace L2
open PySem PySem.Spec PyProof.Rows PySem.W
section
variable{prog:Program}{w:World}{A:Around}{E:Value->Shared->Prop}{s:Shared}{K:Frag}{e dx C:Addr}{oe:Obj}{vs:Array Value}{mA:Str->Option Value}{name:Str}{v:Value}
theorem noCls{o:Obj}{vs:Array Value}(h:o.data= .fields vs):notCls o=true:=by
 unfold notCls;rw[h]
def onlyVE:List Value->Bool
 | .ref _::r=>onlyVE r
 |l=>l==bmV
theorem mL(self:Value):∀{l:List Value},onlyVE l=true->refuseLoop self "__setattr__" l=pure ()
 | .ref c::r,z=>by
  rw[refuseLoop_ref];exact mL self z
 | [],z=>by cases z
 | .type n::r,z=>by
  have e:Value.type n::r=bmV:=beq_iff_eq.mp z;rw[e];exact PySem.F.store_ValueError.passes self
 | .none::r,z=>by cases z
 | .bool _::r,z=>by cases z
 | .int _ _::r,z=>by cases z
 | .float _ _::r,z=>by cases z
 | .str _ _::r,z=>by cases z
 | .bytes _ _::r,z=>by cases z
 | .ellipsis::r,z=>by cases z
 | .notImplemented::r,z=>by cases z
 | .builtin _::r,z=>by cases z
def overX(K:Frag)(C:Addr):Bool:=(clsIn K C).any fun cd=>onlyVE cd.mro
structure ClsX(K:Frag)(C:Addr):Prop where
 ga:findIn K (.ref C) "__getattribute__"=some (some (.builtin "BaseException.__getattribute__"))
 gn:findIn K (.ref C) "__getattr__"=some none
 be:mroIn K C (.type "BaseException")=some true
 hd:hasDictIn K C=true
 ob:mroIn K C (.type "object")=some true
 po:overX K C=true
 sa:findIn K (.ref C) "__setattr__"=some (some (.builtin "object.__setattr__"))
theorem getX{b:Bool}{Q:Value->Shared->Prop}(X:K.In s.heap)(g:s.heap.get? e=some oe)(hc:oe.cls= .ref C)(hda:oe.data= .fields vs)(hdd:oe.dict=some dx)(n:s.heap.Ns1 dx mA)(c:ClsX K C)(hn:kz K C name)(hv:mA name=some v)(hv':handedIn v=true)(h:Q v {s with toks:=s.toks+1}):wpAny (model prog w) A (getAttr (.ref e) name b) Q E s:=by
 obtain⟨od,ho,hl⟩:=tR n;have J:InstAt s.heap e oe C (some od):=⟨g,hc,noCls hda,by rw[hdd];exact ho⟩;have hf:findObj K C (some od) name=some (.value v):=findObj_own c.hd hn rfl (by rw[hl,hv]);obtain⟨hh,gg,d,t,os⟩:=s;have T:=J.type (M:=model prog w);have G:=looks_findIn (M:=model prog w) X c.ga;have N:=looks_findIn (M:=model prog w) X c.gn;have F1:=looks_find (M:=model prog w) X J hf;have Bx:=looks_mroIn (M:=model prog w) X c.be;unfold getAttr getAttrBy;refine wpAny_bind (wpAny_mkText (wpAny_holding (wpAny_bind (T.at (wpAny_bind (G.at ?_))))));have hx2:(Value.builtin "BaseException.__getattribute__"==Value.builtin "object.__getattribute__")=false:=by decide+kernel
 have hx1:¬(onTheHeap (Value.ref C)&&Value.builtin "BaseException.__getattribute__"==Value.builtin "object.__getattribute__")=true:=by rw[hx2,Bool.and_false];exact Bool.false_ne_true
 dsimp only at G N F1 Bx T ⊢;rw[if_neg hx1];unfold getAttrByItsOwn hookBefore callGetattribute boundAndCalled;refine wpAny_bind (N.at ?_);have hx0:¬(b&&onTheHeap (Value.builtin "BaseException.__getattribute__"))=true:=by cases b <;>exact Bool.false_ne_true
 rw[if_neg hx0];refine wpAny_bind (wpAny_attempt (wpAny_holding ?_));refine wpAny_bind (wpAny_of_eq (PySem.F.attrBase_ValueError.ga.bind _) ?_);refine wpAny_call (codeAny_call_builtin PySem.F.attrBase_ValueError.ga.plain PySem.F.entry_bexc_ga ?_);have hk:builtinKind "BaseException.__getattribute__"=some .slot:=by decide+kernel
 have hsplit:splitId "BaseException.__getattribute__"=some ("BaseException","__getattribute__"):=by decide+kernel
 have hag:=PySem.F.args_bexc_ga (.ref e) (.str name t);simp only[checkBuiltinCall,hk,hsplit];unfold isInstance
 repeat (first|lk|wp_step)
 show wpAny _ _ (handedOut v) _ _ _;rw[handedOut_of hv'];exact wpAny_pure h
theorem osaX{od:Option Obj}{tk:Tok}{R:Result->Shared->Prop}(X:K.In s.heap)(J:InstAt s.heap e oe C od)(c:ClsX K C)(hn:kz K C name)(h:∀b,wpAny (model prog w) A.in1 (Builtin.ObjectAttr.storeInOwnDict (.ref e) (.ref C) (.str name tk) name v b)
   (fun fin s'=>match fin with| .done f=>R (.ok f) s'| .again c'=>c'.quiet=true/\codeAny (model prog w) A c' R s') (fun e s'=>R (.error e) s') s) :
  codeAny (model prog w) A (.call (.builtin "object.__setattr__") ⟨[.ref e,.str name tk,v],[]⟩) R s:=by
 have SF:=PySem.F.store_object;obtain⟨cd,hc,ho⟩:=any_some c.po;have sub:Looks (model prog w) s.heap (isInstance (.ref e) (.type "object")) true:=J.type.andThen (looks_mroIn X c.ob);have hm:Looks (model prog w) s.heap (mroOf (.ref C)) cd.mro:=(looks_clsIn X hc).andThen .now;refine codeAny_call_builtin SF.slot.plain SF.entry
  (@check_slot (model prog w) _ _ s "object.__setattr__" "object" "__setattr__" (.ref e) [.str name tk,v] [] _ SF.kind SF.split sub
   (SF.args (.ref e) (.str name tk) v) ?_)
 rw[osa_eq,refuse_eq];refine wpAny_bind (wpAny_bind (J.type.here (wpAny_bind (hm.here ?_))));rw[mL _ ho];refine wpAny_pure (wpAny_bind (J.type.here (wpAny_bind ((looks_findIn X hn).here ?_))));have L3:Looks (model prog w) s.heap (Builtin.ObjectAttr.storeTaker? none) none:=.now;refine wpAny_bind (L3.here ?_);exact h _
theorem setX{Q:Unit->Shared->Prop}(X:K.In s.heap)(g:s.heap.get? e=some oe)(hc:oe.cls= .ref C)(hda:oe.data= .fields vs)(hdd:oe.dict=none)(c:ClsX K C)(hn:kz K C name)(h:∀h' tk,h'.get? e=some {oe with dict:=some s.heap.objs.size}->h'.Ns1 s.heap.objs.size (fun y=>if y=name then some v else none)->(∀b o,b≠e->s.heap.get? b=some o->h'.get? b=some o)->s.heap.objs.size<h'.objs.size->Q () {s with heap:=h',toks:=tk}) :
  wpAny (model prog w) A (setAttr (.ref e) name v) Q E s:=by
 obtain⟨oc,od,odt,osl⟩:=oe;dsimp only at hc hda hdd;subst hc hda hdd;have J:InstAt s.heap e ⟨.ref C,none,.fields vs,osl⟩ C none:=⟨g,rfl,rfl,trivial⟩;refine set_plain X J c.sa (osaX (s:={s with toks:=s.toks+1}) X J c hn fun b=>?_);obtain⟨cd,hcd,hd'⟩:=any_some c.hd;refine wpAny_bind (wpAny_pure (wpAny_bind (wpAny_bind (wpAny_loadPart g (wpAny_bind (Looks.here (s:={s with toks:=s.toks+1}) (looks_clsIn X hcd) ?_))))));rw[hd'];rw[if_neg (by simp)];dsimp only;rw[if_neg (by simp[typeHasDict])];refine wpAny_bind (wpAny_alloc' ?_);have g1:(s.heap.push {cls:=.type "dict",data:=.dict #[]}).get? e=some ⟨.ref C,none,.fields vs,osl⟩:=Heap.get?_push_of_some _ g;have ne:e≠s.heap.objs.size:=ne_of_lt (Heap.lt_size g);refine wpAny_bind (wpAny_update' g1 ?_);refine wpAny_pure ?_;have gd:((s.heap.push {cls:=.type "dict",data:=.dict #[]}).update e fun o=>{cls:=o.cls,dict:=some s.heap.objs.size,data:=o.data,slots:=o.slots}).get? s.heap.objs.size=some {cls:=.type "dict",data:=.dict #[]}:=(Heap.get?_update_ne _ _ _ _ ne.symm).trans (Heap.get?_push_at rfl rfl);have ge:=Heap.get?_update_self (fun o=>{cls:=o.cls,dict:=some s.heap.objs.size,data:=o.data,slots:=o.slots}) g1 rfl;have far:∀b o,b≠e->s.heap.get? b=some o->((s.heap.push {cls:=.type "dict",data:=.dict #[]}).update e fun o=>{cls:=o.cls,dict:=some s.heap.objs.size,data:=o.data,slots:=o.slots}).get? b=some o:=fun b o hb q=>(Heap.get?_update_ne _ _ _ _ hb).trans (Heap.get?_push_of_some _ q);generalize((s.heap.push {cls:=.type "dict",data:=.dict #[]}).update e fun o=>{cls:=o.cls,dict:=some s.heap.objs.size,data:=o.data,slots:=o.slots})=h2 at gd ge far;have n0:h2.Ns s.heap.objs.size (fun _=>none):=⟨_,#[],_,gd,rfl,fun e he=>absurd he (by simp),fun _=>rfl⟩;show wpAny _ _ (Builtin.ObjectAttr.storeInDict s.heap.objs.size (.str name s.toks) name v) _ _ _;unfold Builtin.ObjectAttr.storeInDict Builtin.ObjectAttr.newKeyGuard;refine wpAny_bind (wpAny_pure (wpAny_bind (wpAny_nsSet1 (Heap.Ns1.of_empty n0) fun h' n1 sb=>?_)));obtain⟨oD,esD,epD,hoD,hdD,hcD⟩:=n1.count (Within.cons name v Within.nil);refine wpAny_bind (wpAny_lookBehind hoD (by rw[hdD];exact pastItsLine_dict (le_trans hcD (by rw[length_cons,List.length_nil,sizeLine_eq];omega))) ?_);exact wpAny_pure (h h' _ ((sb.2 e ne).trans ge) n1 (fun b o hb q=>(sb.2 b (ne_of_lt (Heap.lt_size q))).trans (far b o hb q)) (Heap.lt_size hoD))
end
def ExcM(e C:Addr)(dd:Option Addr)(h:Heap):Prop:=∃ t sl,h.get? e=some ⟨.ref C,dd,.fields #[.ref t,.none,.none,.none,.bool false,.none],sl⟩
theorem ExcM.ext{e C:Addr}{dd:Option Addr}:∀h1 h2:Heap,ExcM e C dd h1->(∀o,h1.get? e=some o->h2.get? e=some o)->ExcM e C dd h2:=fun _ _ ⟨t,sl,g⟩ k=>⟨t,sl,k _ g⟩
section
variable{X:Cx}{pins:List (Addr×Obj)}{σ:St}{H:Hp}{s:Shared}{e C:Addr}{f:Str}{A:Around}{E:Value->Shared->Prop}
theorem HOk.addX{P:Program}{w:World}{H:Hp}{h:Heap}{a:Addr}{o:HO}(ok:HOk P w H h)(hn:H a=none)(new:zU P w (upd H a o) h a o):HOk P w (upd H a o) h:=fun b u q=>by
 by_cases hb:b=a
 ·subst hb;rw[z6]at q;cases q;exact new
 ·rw[zh hb]at q;have ne:∀c y,H c=some y->c≠a:=fun c y r z=>by rw[z,hn]at r;cases r
  exact(ok b u q).stay (fun _ _ _ r=>r) (fun c r=>by rw[zh (ne c _ r)];exact r) fun c xs r=>by rw[zh (ne c _ r)];exact r
theorem cL{y:V}{u:Value}{Q:Unit->Shared->Prop}(I:Inv X pins σ H s)(he:H e=some (.ext (ExcM e C none)))(c:ClsX X.K C)(n:kz X.K C f)(ry:RelV y u)(h:∀dx s',H dx=none->Inv X pins σ (upd (upd H e (.ext (ExcM e C (some dx)))) dx (.xd [(f,y)])) s'->Q () s'):wpAny (model X.prog X.w) A (setAttr (.ref e) f u) Q E s:=by
 obtain⟨t,sl,g⟩:=(show zU X.prog X.w H s.heap e (.ext (ExcM e C none))from I.hok e _ he).1;refine setX I.kIn g rfl rfl rfl c n fun h' tk ge n1 far lt=>?_;have hfr:H s.heap.objs.size=none:=I.hok.fresh (le_refl _);have ne:s.heap.objs.size≠e:=fun z=>by rw[z,he]at hfr;cases hfr
 refine h s.heap.objs.size _ hfr (I.un ⟨fun b o q n hb hx=>?_,fun b o q n hb hx=>?_,fun b o q n hx=>?_,fun b o q hx=>?_,fun b xs q=>?_,fun b o w q=>?_,fun b ps q=>?_⟩ ?_)
 ·exact far b o (fun z=>by rw[z,he]at n;cases n) q
 ·exact⟨o.slots,far b o (fun z=>by rw[z,he]at n;cases n) q⟩
 ·rw[zh (ne_of_lt (Heap.lt_size q)),zh (fun z=>by rw[z,he]at n;cases n)];exact n
 ·by_cases hb:b=e
  ·subst hb;exact⟨_,ge⟩
  ·exact⟨o,far b o hb q⟩
 ·rw[zh (fun z=>by rw[z,hfr]at q;cases q),zh (fun z=>by rw[z,he]at q;cases q)];exact q
 ·rw[zh (fun z=>by rw[z,hfr]at q;cases q),zh (fun z=>by rw[z,he]at q;cases q)];exact q
 ·rw[zh (fun z=>by rw[z,hfr]at q;cases q),zh (fun z=>by rw[z,he]at q;cases q)];exact⟨#[],by rw[Array.append_empty];exact q⟩
 ·have w1:HOk X.prog X.w (upd H e (.ext (ExcM e C (some s.heap.objs.size)))) h':=I.hok.write (by rw[he];trivial) (.inl rfl) (fun b o hb q=>far b o hb q) ⟨_,ge⟩ ⟨⟨t,sl,ge⟩,⟨_,ge⟩,ExcM.ext⟩;refine w1.addX (by rw[zh ne];exact hfr) ⟨_,n1,fun g=>?_⟩;by_cases hg:g=f
  ·subst hg;rw[if_pos rfl];simp only[List.lookup,beq_self_eq_true];exact ry
  ·rw[if_neg hg];simp[List.lookup,beq_eq_false_iff_ne.mpr hg]
   trivial
end
abbrev ck(C t:Addr):Obj:={cls:=.ref C,data:=.fields #[.ref t,.none,.none,.none,.bool false,.none]}
abbrev wW(h:Heap)(C:Addr)(args:List Value):Heap:=(h.push {cls:=.type "tuple",data:=.seq args.toArray}).push (ck C h.objs.size)
section
variable{prog:Program}{w:World}{A:Around}{E:Value->Shared->Prop}{h:Heap}{g:Array GenState}{d:Drawn}{t:Nat}{os:OsState}
variable{nm q:Str}{C N:Addr}{bs bm bmB bmN:List Value}{hdct:Bool}{sn:List Str}{sub:List Value}{ab:Bool}{col:Option Bool}{dd:Option Addr}{k0 k1 k2 k3 k5:Option Value}{B Bn newId nid initId inN:String}
theorem rM(Fn:ExcBaseFacts Bn newId inN bmN)(hBn:bmB.contains (.type Bn)=true)(F:ExcBaseFacts B nid initId bmB)(T:OwnTail h bmB bm){mN:Str->Option Value}{rest:List Value}{fI:Addr}{oI:Obj}{Q:Fin->Shared->Prop}(hC:h.get? C=some (excClassObj nm q C N bs bm hdct sn sub ab col dd k0 k1 k2 k3 k5 newId))(hn:h.Ns N mN)(hi:mN "__init__"=some (.ref fI))(gI:h.get? fI=some oI)(cI:oI.cls= .type "function")(hq:wpAny (model prog w) A (call (.ref fI) (.ref (h.objs.size+1)::rest)) (fun r s'=>r= .none/\Q (.done (.ret (.ref (h.objs.size+1)))) s') E ⟨wW h C rest,g,d,t,os⟩)(hl:rest.length<=sizeLine) :
  wpAny (model prog w) A (Builtin.«type.__call__» ⟨.ref C::rest,[]⟩) Q E ⟨h,g,d,t,os⟩:=by
 repeat
  first
  |with_reducible refine wpAny_loadPart_at hC ?_
  |with_reducible refine wpAny_madeBy_exc hC ?_
  |wp_step
 refine codeAny_call_builtin_code (Code.quiet_builtin _ Fn.quiet)
  (wpAny_check_new_subU Fn hBn T hC ?_)
 refine codeAny_exc_new_subU Fn hBn F T hC ?_ hl;show wpAny _ _ _ _ _ _;have kp:∀b o,h.get? b=some o->(wW h C rest).get? b=some o:=fun b o z=>Heap.get?_push_of_some _ (Heap.get?_push_of_some _ z);have hC1:=kp _ _ hC;have hn1:(wW h C rest).Ns N mN:=let⟨o,es,ep,z,r⟩:=hn;⟨o,es,ep,kp _ _ z,r⟩
 have ge:(wW h C rest).get? (h.objs.size+1)=some (ck C h.objs.size):=by heap_get
 have T1:=T.keeps kp;have own:(Value.ref C::bm).contains (.ref C)=true:=by simp
 unfold isInstance
 repeat
  first
  |with_reducible refine wpAny_loadPart_at ge ?_
  |(with_reducible refine wpAny_isSubtype_exc hC1 ?_;rw[own])
  |wp_step
 show wpAny _ _ (typeLookup (.ref C) _) _ _ _;refine wpAny_typeLookup_tail hC1 hn1 T1 F.mroIs F.init.lookup ?_;rw[hi];refine wpAny_holding (wpAny_bind ?_);unfold bindSpecial;refine wpAny_bind (wpAny_typeOf (T :="function") ⟨_,kp _ _ gI,cI⟩ ?_);rw[if_pos (by decide)];refine wpAny_pure (wpAny_bind (wpAny_mono hq (fun r s' hr=>?_) fun _ _ z=>z));obtain⟨rfl,y⟩:=hr
 wp_walk
 exact y
theorem call_init(Fn:ExcBaseFacts Bn newId inN bmN)(hBn:bmB.contains (.type Bn)=true)(F:ExcBaseFacts B nid initId bmB)(T:OwnTail h bmB bm){mN:Str->Option Value}{rest:List Value}{fI:Addr}{oI:Obj}{Q:Value->Shared->Prop}(hC:h.get? C=some (excClassObj nm q C N bs bm hdct sn sub ab col dd k0 k1 k2 k3 k5 newId))(hn:h.Ns N mN)(hi:mN "__init__"=some (.ref fI))(gI:h.get? fI=some oI)(cI:oI.cls= .type "function")(hq:wpAny (model prog w) (A.under (.builtin "type.__call__" ⟨.ref C::rest,[]⟩)) (call (.ref fI) (.ref (h.objs.size+1)::rest)) (fun r s'=>r= .none/\Q (.ref (h.objs.size+1)) s') E ⟨wW h C rest,g,d,t,os⟩)(hl:rest.length<=sizeLine) :
  wpAny (model prog w) A (call (.ref C) rest) Q E ⟨h,g,d,t,os⟩:=by
 have f1:=tc_lookup;have f2:=tc_bind (.ref C);have hT:(⟨h,g,d,t,os⟩:Shared).TypeIs (.ref C) "type" :=⟨_,hC,rfl⟩;refine wpAny_call (codeAny_of_tree ?_);show wpAny _ _ (callAny (.ref C) _) _ _ _
 repeat
  any_goals
   first
   |assumption
   |with_reducible refine wpAny_loadPart_at hC ?_
   |wp_step
 refine⟨rfl,?_⟩;exact codeAny_call_builtin_at (Code.quiet_builtin _ (by decide+kernel)) entry_typeCall
  (wpAny_check_type_call_sub hC (rM Fn hBn F T hC hn hi gI cI hq hl))
end
section
variable{M:Model}{A:Around}{E:Value->Shared->Prop}{s:Shared}{env:Env}{nm q:Str}{C N:Addr}{bs bm:List Value}{hdct:Bool}{sn:List Str}{sub:List Value}{ab:Bool}{col:Option Bool}{dd:Option Addr}{k0 k1 k2 k3 k5:Option Value}{newId:String}
theorem raise_ref{x:Sem Value}{Q:Flow->Shared->Prop}(hb:bm.contains (.type "BaseException")=true)(hh:A.handled=none)(h:wpAny M A x (fun v s1=>∃ e dx t sl,v= .ref e/\s1.heap.get? C=some (excClassObj nm q C N bs bm hdct sn sub ab col dd k0 k1 k2 k3 k5 newId)/\
   s1.heap.get? e=some ⟨.ref C,dx,.fields #[.ref t,.none,.none,.none,.bool false,.none],sl⟩/\E (.ref e) s1) E s):wpAny M A (raiseStmt env (some x) none) Q E s:=by
 have hcB:(Value.ref C::bm).contains (.type "BaseException")=true:=by rw[List.contains_cons,hb,Bool.or_true]
 unfold raiseStmt;refine wpAny_bind (wpAny_mono h (fun v s1 ⟨e,dx,t,sl,ev,hC,ge,hE⟩=>?_) fun _ _ z=>z);subst ev;obtain⟨hp,g,d,tk,os⟩:=s1
 repeat
  first
  |with_reducible refine wpAny_loadPart_at ge ?_
  |with_reducible refine wpAny_loadPart_at hC ?_
  |(with_reducible refine wpAny_isSubtype_exc hC ?_;rw[hcB])
  |wp_step
 exact wpAny_raiseNew_none hh hE
end
def excInI(K:Frag)(C f:Addr):Bool :=
 match K.lookup C with
 |some ⟨.type "type",_,.cls cd,sl⟩ =>
  (match cd.mro,sl.toList with
  | .ref D::bm,[_,_,_,_,some (.builtin n),_] =>
   (D==C&&n=="ValueError.__new__"&& !cd.hasDel)&&(tailIn K bmV bm&&nsOkIn K cd.ns&&nsIn K cd.ns "__init__"==some (some (.ref f)))
  | _,_=>false)
 | _=>false
theorem nsSome_of{K:Frag}{h:Heap}{N:Addr}{m:Str->Option Value}{x:Str}{v:Value}(X:K.In h)(G:h.Ns N m)(q:nsIn K N x=some (some v)):m x=some v:=by
 obtain⟨o,es,ep,ho,hd,_,hf⟩:=G;unfold nsIn at q;split at q
 ·rename_i es' _ _ lk;have z:=X _ _ lk;rw[ho]at z;cases z;cases hd;split at q
  ·rename_i y hy;cases q;have:=hf x;unfold nsFind findBy at this;rw[<-Array.find?_toList,hy]at this;exact this.symm
  ·split at q <;>cases q
 ·cases q
structure ExcI(K:Frag)(C f:Addr):Prop where
 inn:excInI K C f=true
 kp:keepIn K (.ref C)=true
 fn:isFn K (.ref f)=true
theorem ExcI.obj{K:Frag}{C f:Addr}{h:Heap}(c:ExcI K C f)(X:K.In h):∃(bm:List Value)(N:Addr)(nm q:Str)(bs:List Value)(hdct:Bool)(sn:List Str)(sub:List Value)(ab:Bool)(col:Option Bool)(dd:Option Addr)(k0 k1 k2 k3 k5:Option Value)(mN:Str->Option Value),
  h.get? C=some (excClassObj nm q C N bs bm hdct sn sub ab col dd k0 k1 k2 k3 k5 "ValueError.__new__")/\h.Ns N mN/\mN "__init__"=some (.ref f)/\OwnTail h bmV bm/\K.lookup C=some (excClassObj nm q C N bs bm hdct sn sub ab col dd k0 k1 k2 k3 k5 "ValueError.__new__"):=by
 have q:=c.inn;unfold excInI at q;split at q
 ·rename_i dd cd sl ho;split at q
  ·rename_i D bm k0 k1 k2 k3 n k5 hm hs;simp only[and_eq_true,beq_iff_eq,Bool.not_eq_true']at q;obtain⟨⟨⟨rfl,rfl⟩,hdel⟩,⟨ht,hok⟩,hni⟩:=q;obtain⟨nm,bs,mro,ns,qn,hd,sn,sub,ab,col,del⟩:=cd;dsimp only at hm hdel hok hni;subst hm hdel;have hsl:sl= #[k0,k1,k2,k3,some (.builtin "ValueError.__new__"),k5]:=by
    obtain⟨l⟩:=sl;simp only at hs;rw[hs]
   subst hsl;have hN:h.Ns ns (h.nsMap ns):=.of_isNs (isNs_of_in X hok);exact⟨bm,ns,nm,qn,bs,hd,sn,sub,ab,col,dd,k0,k1,k2,k3,k5,_,X _ _ ho,hN,nsSome_of X hN hni,tail_of_in X ht,ho⟩
  ·cases q
 ·cases q
theorem ExcI.isX{K:Frag}{C f:Addr}{h:Heap}(c:ExcI K C f)(X:K.In h):∃bm,IsXC K C bm/\OwnTail h bmV bm:=by
 obtain⟨bm,N,nm,q,bs,hdct,sn,sub,ab,col,dd,k0,k1,k2,k3,k5,mN,hC,hn,hni,hT,hlk⟩:=c.obj X;exact⟨bm,⟨nm,q,N,bs,hdct,sn,sub,ab,col,dd,k0,k1,k2,k3,k5,_,hlk⟩,hT⟩
theorem Takes.mkI{K:Frag}{c f S:Addr}{h:Heap}(X:K.In h)(hc:ExcI K c f)(hS:∃bm,IsXC K S bm/\OwnTail h bmV bm)(hm:mroIn K c (.ref S)=some true):Takes K c S:=by
 obtain⟨bm,x,_⟩:=hc.isX X;obtain⟨bm',x',t'⟩:=hS;refine⟨bm,bm',x,x',t'.hasType (by decide),?_⟩;obtain⟨nm,q,N,bs,hdct,sn,sub,ab,col,dd,k0,k1,k2,k3,k5,nid,lc⟩:=x;unfold mroIn clsIn at hm;rw[lc]at hm;simpa using hm
def delH(H:Hp)(a:Addr):Hp:=fun b=>if b=a then none else H b
theorem cW{H:Hp}{a:Addr}:delH H a a=none:=by unfold delH;rw[if_pos rfl]
theorem vi{H:Hp}{a b:Addr}(h:b≠a):delH H a b=H b:=by unfold delH;rw[if_neg h]
theorem cX{H:Hp}{a b:Addr}{o:HO}(h:delH H a b=some o):b≠a/\H b=some o:=by
 by_cases z:b=a
 ·subst z;rw[cW]at h;cases h
 ·rw[vi z]at h;exact⟨z,h⟩
theorem ExcAt.init{X:Cx}{pins:List (Addr×Obj)}{σ:St}{H:Hp}{s:Shared}{e C:Addr}{dd:Option Addr}(I:Inv X pins σ H s)(he:H e=some (.ext (ExcM e C dd)))(hnew:X.s₀.heap.get? e=none):ExcAt X (delH H e) e (.ref C) dd s:=by
 obtain⟨t,sl,g⟩:=(show zU X.prog X.w H s.heap e (.ext (ExcM e C dd))from I.hok e _ he).1;have nf:e∉frs X.stack:=fun z=>by rw[I.stkFree e z]at he;cases he
 have ne:∀b ob,X.s₀.heap.get? b=some ob->b≠e:=fun b ob q z=>by rw[z,hnew]at q;cases q
 have sub:∀b,b∉frs X.stack->b∉X.fs:=fun b hb z=>by
  rcases I.ok.stk with e|⟨e,hf⟩
  ·rw[e]at hb;exact hb z
  ·rw[e]at hb;unfold frs at hb;rw[filterMap_cons,hf]at hb;exact hb (mem_cons_of_mem _ z)
 have out:∀b,b≠e->b∉frs X.stack->b∉e::frs X.stack:=fun b h1 h2 z=>(mem_cons.mp z).elim h1 h2;have tr:∀b u,X.H₀ b=some u->(∀ φ,u≠ .ext φ)->H b=some u->delH H e b=some u:=fun b u _ hu q=>by
  rw[vi (fun z=>by rw[z,he]at q;cases q;exact hu _ rfl)];exact q
 refine⟨I.os,I.bare,⟨I.base.keep,I.base.slot,fun b ob q n hx=>?_,I.base.there,fun b xs q=>?_,fun b ob u q=>?_,fun b ps q=>?_⟩,fun b u q=>?_,cW,hideAll s.heap (e::frs X.stack),⟨fun b u q=>?_,fun b ob q n hb hx=>?_,fun b ob q hb hx=>?_⟩,?_⟩
 ·rw[vi (ne b ob q)];exact I.base.free b ob q n hx
 ·exact tr b _ q (fun φ z=>by cases z) (I.base.tups b xs q)
 ·exact tr b _ q (fun φ z=>by cases z) (I.base.frzs b ob u q)
 ·obtain⟨more,z⟩:=I.base.tbls b ps q;refine⟨more,?_⟩;rw[vi (fun y=>by rw[y,he]at z;cases z)];exact z
 ·obtain⟨hb,q'⟩:=cX q;refine(I.hok b u q').stay (fun _ _ _ r=>r) (fun c r=>?_) fun c xs r=>?_
  ·rw[vi (fun y=>by rw[y,he]at r;cases r)];exact r
  ·rw[vi (fun y=>by rw[y,he]at r;cases r)];exact r
 ·obtain⟨hb,q'⟩:=cX q;obtain⟨ob,e1⟩:=(I.hok b u q').some;exact⟨ob,hideAll_get _ e1 (out b hb fun z=>by rw[I.stkFree b z]at q';cases q')⟩
 ·exact hideAll_get _ (I.base.keep b ob q n (sub b hb) hx) (out b (ne b ob q) hb)
 ·obtain⟨o',e1⟩:=I.base.there b ob q hx;exact⟨o',hideAll_get _ e1 (out b (ne b ob q) hb)⟩
 ·refine .made _ _ (fun b ob q=>of_hideAll _ q) (funFrames_hide I.stack fun env hm a ha=>mem_cons_of_mem _ (List.mem_filterMap.mpr ⟨env,hm,ha⟩)) (hideAll_none _ (by simp)) g rfl rfl rfl rfl
def tRaiseI(C:Addr)(sp:Sp)(E:XK)(ta:TA):TS:=fun _ σ H=>ta σ H fun vs H1=>vs.length<=sizeLine/\ ∀e,H1 e=none->sp (.ref e::vs) (upd H1 e (.ext (ExcM e C none))) (fun v H2=>v= .non/\ ∃dd,H2 e=some (.ext (ExcM e C dd))/\E (.ref C) dd (delH H2 e)) E0
theorem ps_raiseI{X:Cx}{E:XK}{C f:Addr}{fd:FuncData}{ps:List Str}{sp:Sp}{cm:Bool}{k:Nat}{x:Str}{a:Expr}{args:List Expr}{np cpos pos:Pos}{ta:TA}(hc:X.calm=true)(c:ExcI X.K C f)(F:FnOk X.prog X.w X.K X.mg X.base CX0 k f fd ps sp cm)(hr:Room (k+1) X.A cm)(hb:wZ X.K fd ps [])(hg:Gl (X.wish (XE X E)) x)(hm:X.mg x=some (.ref C))(ha:PA (X.wish (XE X E)) (a::args) ta)(hd:(x==("__debug__" : Str))=false:=by decide)(he:starEach (a::args) X.env=(false,eval a X.env)::starEach args X.env:=by rfl)(hpl:(backTo cpos (starEach args X.env)).any (·.1)=false:=by rfl) :
  PS (X.wish (XE X E)) (.Raise (some (.Call (.Name x np) (a::args) [] cpos)) none pos) (tRaiseI C sp E ta):=by
 intro pins s σ H D I hw;obtain⟨bm,N,nm,q,bs,hdct,sn,sub,ab,col,dd,k0,k1,k2,k3,k5,mN,hC0,hn0,hi0,hT0,hlk⟩:=c.obj I.ok.mod.kin;rw[arm_exec_Raise];refine wpAny_bind (wpAny_standAt (raise_ref (C:=C) (nm:=nm) (q:=q) (N:=N) (bs:=bs) (bm:=bm) (hdct:=hdct) (sn:=sn) (sub:=sub) (ab:=ab) (col:=col) (dd:=dd) (k0:=k0) (k1:=k1) (k2:=k2) (k3:=k3) (k5:=k5) (newId :="ValueError.__new__") (hT0.hasType (by decide)) (I.ok.hd hc) (wpAny_bind (wpAny_mono ?_ (fun v s1 h1=>wpAny_bind (wpAny_standAt (wpAny_pure h1))) fun _ _ z=>z))));refine wpAny_Call_Name_kw (wb I hg hm ?_ hd);refine callWith_K (h₀:=X.base) I.ok.mod.kin c.kp (thn (ha cpos pins s σ H _ I hw) fun us s1 ⟨vs,H1,I1,r,hl,q1⟩=>⟨I1.kIn,?_⟩) he hpl;have kb:∀b ob,X.base.get? b=some ob->s1.heap.get? b=some ob:=I1.bk;obtain⟨h1,g1,d1,t1,os1⟩:=s1;have fnT:typeIn X.K (.ref f)=some (.type "function"):=beq_iff_eq.mp c.fn;obtain⟨oI,lI,cI⟩:∃oI,X.K.lookup f=some oI/\oI.cls= .type "function" :=by
  unfold typeIn at fnT;exact map_eq_some_iff.mp fnT
 have hfree:H1 (h1.objs.size+1)=none:=I1.hok.fresh (le_succ _);have hq:=q1 (h1.objs.size+1) hfree;have I2:Inv (X.wish (XE X E)) pins σ (upd H1 (h1.objs.size+1) (.ext (ExcM (h1.objs.size+1) C none))) ⟨wW h1 C us,g1,d1,t1,os1⟩:=by
  have ge:(wW h1 C us).get? (h1.objs.size+1)=some (ck C h1.objs.size):=by heap_get
  exact I1.laid (t':=t1) (fun b o z=>Heap.get?_push_of_some _ (Heap.get?_push_of_some _ z)) (le_succ _) ⟨⟨_,_,ge⟩,⟨_,ge⟩,ExcM.ext⟩
 have r2:Vals (V.ref (h1.objs.size+1)::vs) (Value.ref (h1.objs.size+1)::us):=.cons rfl r;have hlen:(Value.ref (h1.objs.size+1)::us).length=ps.length:=by
  have e:=r2.length;rw[F.len _ _ _ _ hq]at e;exact e.symm
 refine call_init PySem.F.excBase_ValueError (by decide) PySem.F.excBase_ValueError (hT0.keeps kb) (kb _ _ hC0) (hn0.keeps kb) hi0 (I1.kIn _ _ lI) cI ?_ (by show us.length<=sizeLine;rw[<-r.length];exact hl);refine wpAny_call (codeAny_mono (F.run _ X.stack _ _ ⟨Value.ref (h1.objs.size+1)::us,[]⟩ (Value.ref (h1.objs.size+1)::us) _ _ E0 (hr.make C us []) (I2.env0.make C us []) ?_ r2 hq) fun r s' hq'=>?_)
 ·have z:=hb _ (Value.ref (h1.objs.size+1)::us) I2.kIn (by rw[append_nil];exact hlen);rw[append_nil]at z;exact z
 cases r with
 |error e=>exact False.elim hq'
 |ok fl =>
  cases fl with
  |ret u =>
   obtain⟨v,H',I3,rv,ev,dd',ge,hE⟩:=I2.after hq';subst ev;obtain⟨t,sl,g⟩:=(show zU X.prog X.w H' s'.heap (h1.objs.size+1) (.ext (ExcM (h1.objs.size+1) C dd'))from I3.hok _ _ ge).1;refine⟨rv,_,_,t,sl,rfl,I3.bk _ _ hC0,g,_,_,dd',_,rfl,hE,ExcAt.init I3.unwish ge ?_⟩;exact Heap.get?_none_of_le (le_trans I1.sz (le_succ _))
  |next=>exact False.elim hq'
  |brk=>exact False.elim hq'
  |cont=>exact False.elim hq'
section
variable{X:Cx}{o e value:Expr}{f:Str}{pos pos':Pos}{ta tv:TE}
def sFldX(K:Frag)(ta tv:TE)(f:Str):TS:=fun D σ H=>tv σ H fun y H1=>ta σ H1 fun x H2=>∃ e C,x= .ref e/\H2 e=some (.ext (ExcM e C none))/\ClsX K C/\kz K C f/\
 ∀dx,H2 dx=none->D.nx σ (upd (upd H2 e (.ext (ExcM e C (some dx)))) dx (.xd [(f,y)]))
theorem ps_fldX(ha:PE X o ta)(hv:PE X value tv)(hs:swapsWith value (some (.Attribute o f pos')) pos.line X.env=pure false):PS X (.Assign [.Attribute o f pos'] value pos) (sFldX X.K ta tv f):=by
 intro pins s σ H D I h;refine plainObj_wpAny_Assign_Attribute (thn (hv pins s σ H _ I h) fun u s1 ⟨y,H1,I1,ry,q⟩=>thn (ha pins s1 σ H1 _ I1 q) fun ov s2 ⟨x,H2,I2,rx,a,C,ex,ea,c,n,q2⟩=>?_) hs;subst ex;obtain rfl:ov=Value.ref a:=rx;exact cL I2 ea c n ry fun dx s3 hx I3=>⟨σ,_,I3,q2 dx hx⟩
def tFldX(K:Frag)(ta:TE)(f:Str):TE:=fun σ H Q=>ta σ H fun x H1=>∃ a C dx fs v,x= .ref a/\H1 a=some (.ext (vh a (.ref C) (some dx)))/\H1 dx=some (.xd fs)/\ClsX K C/\kz K C f/\fs.lookup f=some v/\Q v H1
theorem pe_fldX{K:Frag}(hK:X.K=K)(he:PE X e ta)(hb:attributeBase e f X.env (eval e X.env)=eval e X.env):PE X (.Attribute e f pos) (tFldX K ta f):=by
 subst hK;intro pins s σ H Q I h;refine attr_of hb (thn (he pins s σ H _ I h) fun u s1 ⟨x,H1,I1,rx,a,C,dx,fs,v,ex,ea,ed,c,n,l,q⟩=>?_);subst ex;obtain rfl:u=Value.ref a:=rx;obtain⟨oe,vs,g,g1,g2,g3⟩:=(show zU X.prog X.w H1 s1.heap a (.ext (vh a (.ref C) (some dx)))from I1.hok a _ ea).1;obtain⟨mA,n1,r⟩:=(show zU X.prog X.w H1 s1.heap dx (.xd fs)from I1.hok dx _ ed);obtain⟨u,hu,ru⟩:=RelO.some_of (v:=v) (o:=mA f) (by rw[<-l];exact r f);exact getX I1.kIn g g1 g3 g2 n1 c n hu (tI ru) ⟨v,H1,I1.tok _,ru,q⟩
end
theorem del_made{H:Hp}{e dx C:Addr}{f:Str}{y:V}{H':Hp}(he:H e=none)(hd:upd H e (.ext (ExcM e C none)) dx=none)(eH:H'=upd (upd (upd H e (.ext (ExcM e C none))) e (.ext (ExcM e C (some dx)))) dx (.xd [(f,y)])) :
  H' e=some (.ext (ExcM e C (some dx)))/\delH H' e dx=some (.xd [(f,y)])/\ ∀b o,H b=some o->delH H' e b=some o:=by
 have ne:dx≠e:=fun z=>by rw[z,z6]at hd;cases hd
 have hdx:H dx=none:=by rw[zh ne]at hd;exact hd
 subst eH;refine⟨by rw[zh ne.symm,z6],by rw[vi ne,z6],fun b o q=>?_⟩;have nb:b≠e:=fun z=>by rw[z,he]at q;cases q
 have nb2:b≠dx:=fun z=>by rw[z,hdx]at q;cases q
 rw[vi nb,zh nb2,zh nb,zh nb];exact q
theorem Takes.mkG{K:Frag}{c S:Addr}{h:Heap}(hc:∃bm,IsXC K c bm/\OwnTail h bmV bm)(hS:∃bm,IsXC K S bm/\OwnTail h bmV bm)(hm:mroIn K c (.ref S)=some true):Takes K c S:=by
 obtain⟨bm,x,_⟩:=hc;obtain⟨bm',x',t'⟩:=hS;refine⟨bm,bm',x,x',t'.hasType (by decide),?_⟩;obtain⟨nm,q,N,bs,hdct,sn,sub,ab,col,dd,k0,k1,k2,k3,k5,nid,lc⟩:=x;unfold mroIn clsIn at hm;rw[lc]at hm;simpa using hm
theorem TakesNot.mkG{K:Frag}{c S:Addr}{h:Heap}(hc:∃bm,IsXC K c bm/\OwnTail h bmV bm)(hS:∃bm,IsXC K S bm/\OwnTail h bmV bm)(hm:mroIn K c (.ref S)=some false):TakesNot K c S:=by
 obtain⟨bm,x,_⟩:=hc;obtain⟨bm',x',t'⟩:=hS;refine⟨bm,bm',x,x',t'.hasType (by decide),?_⟩;obtain⟨nm,q,N,bs,hdct,sn,sub,ab,col,dd,k0,k1,k2,k3,k5,nid,lc⟩:=x;unfold mroIn clsIn at hm;rw[lc]at hm;simpa using hm
end L2
namespace L2
open PySem PySem.Spec PyProof.Rows
def jr:Str:=⟨#[32]⟩
def zN:Nat->List Nat->List (List Nat)
 | 0,l=>[l]
 | _+1,[]=>[[]]
 |k+1,c::l=>if c=32 then []::zN k l else match zN (k+1) l with
  | []=>[]
  |w::r=>(c::w)::r
theorem wY(l:List Nat):zN 0 l=[l]:=by cases l <;>simp[zN]
def jA:Nat->Nat->List Nat->List Nat
 | 0,_,_=>[]
 | _+1,_,[]=>[]
 |k+1,a,c::l=>if c=32 then a::jA k (a+1) l else jA (k+1) (a+1) l
theorem jU(k a:Nat):jA k a []=[]:=by cases k <;>simp[jA]
theorem kJ(a:Nat)(l:List Nat):jA 0 a l=[]:=by cases l <;>simp[jA]
theorem p6(x:Str)(limit:Nat):∀(n a free:Nat)(acc:Array Nat),free<=a->a+n=x.length+1->
  (forIn (List.range' a n) (acc,free) (StrLaws.occBody x jr x.length limit)).run.fst.toList=acc.toList++jA (limit-acc.size) a (x.cps.toList.drop a)
 | 0,a,free,acc,_,hn=>by
  have hd:x.cps.toList.drop a=[]:=by
   apply List.drop_eq_nil_of_le;have:x.cps.toList.length=x.length:=by simp[Str.length]
   omega
  rw[hd,jU,append_nil];rfl
 |n+1,a,free,acc,hf,hn=>by
  have hlen:x.cps.toList.length=x.length:=by simp[Str.length]
  rw[List.range'_succ,List.forIn_cons];unfold StrLaws.occBody;have h1:=StrLaws.subAt_one x 32 a;by_cases hc:x.cps.toList[a]? =some 32
  ·obtain⟨h2,h3⟩:=h1.mpr hc;have hlt:=(List.getElem?_eq_some_iff.mp hc).1;have hd:x.cps.toList.drop a=32::x.cps.toList.drop (a+1):=by
    rw[drop_eq_getElem_cons hlt,(List.getElem?_eq_some_iff.mp hc).2]
   by_cases hs:acc.size<limit
   ·rw[if_pos ⟨⟨⟨hs,hf⟩,h2⟩,h3⟩];show(forIn (List.range' (a+1) n) (acc.push a,a+1) (StrLaws.occBody x jr x.length limit)).run.fst.toList=_;rw[p6 x limit n (a+1) (a+1) (acc.push a) (le_refl _) (by omega),hd,Array.toList_push,Array.size_push,show limit-acc.size=(limit-(acc.size+1))+1 by omega,jA,if_pos rfl,append_assoc];rfl
   ·rw[if_neg fun z=>hs z.1.1.1];show(forIn (List.range' (a+1) n) (acc,free) (StrLaws.occBody x jr x.length limit)).run.fst.toList=_;rw[p6 x limit n (a+1) free acc (by omega) (by omega),show limit-acc.size=0 by omega,kJ,kJ]
  ·rw[if_neg fun z=>hc (h1.mp ⟨z.1.2,z.2⟩)];show(forIn (List.range' (a+1) n) (acc,free) (StrLaws.occBody x jr x.length limit)).run.fst.toList=_;rw[p6 x limit n (a+1) free acc (by omega) (by omega)];congr 1;by_cases hlt:a<x.cps.toList.length
   ·rw[drop_eq_getElem_cons hlt];cases limit-acc.size with
    |zero=>rw[kJ,kJ]
    |succ k =>
     rw[jA,if_neg fun e=>hc (by rw[getElem?_eq_getElem hlt,e])]
   ·rw[List.drop_eq_nil_of_le (by omega),List.drop_eq_nil_of_le (by omega),jU,jU]
theorem occ_blank(x:Str)(limit:Nat):Builtin.Str.occurrences x jr 0 x.length limit=jA limit 0 x.cps.toList:=by
 rw[StrLaws.occ_eq,show x.length+1-0=x.length+1 by omega,p6 x limit (x.length+1) 0 0 #[] (le_refl _) (by omega)];simp
theorem uS(x:Str):∀(l:List Nat)(k a b:Nat),a<=b->x.cps.toList.drop b=l->
  (StrLaws.partsFrom x 1 a (jA k b l)).map (fun w=>w.cps.toList)=match zN k l with| []=>[]|w::r=>((x.cps.toList.drop a).take (b-a)++w)::r
 |l,0,a,b,hab,hd=>by
  rw[kJ,wY];show [(Builtin.Str.strSub x a x.length).cps.toList]=[_++l];have hlen:x.cps.toList.length=x.length:=by simp[Str.length]
  rw[StrLaws.strSub_toList,<-hd];congr 1;have e1:(x.cps.toList.drop a).take (x.length-a)=x.cps.toList.drop a:=take_of_length_le (by rw[length_drop];omega);rw[e1]
  conv=>lhs;rw[<-List.take_append_drop (b-a) (x.cps.toList.drop a)]
  rw[List.drop_drop,show a+(b-a)=b by omega]
 | [],k+1,a,b,hab,hd=>by
  rw[jU];show [(Builtin.Str.strSub x a x.length).cps.toList]=[_++[]];have hlen:x.cps.toList.length=x.length:=by simp[Str.length]
  rw[StrLaws.strSub_toList,append_nil];have h1:x.length<=b:=by
   have:=congrArg length hd;rw[length_drop,hlen]at this;have e0:([]:List Nat).length=0:=rfl;omega
  rw[take_of_length_le (by rw[length_drop];omega),take_of_length_le (by rw[length_drop];omega)]
 |c::l,k+1,a,b,hab,hd=>by
  have hlt:b<x.cps.toList.length:=by
   refine Decidable.byContradiction fun h=>?_;rw[List.drop_eq_nil_of_le (by omega)]at hd;cases hd
  have hd':x.cps.toList.drop (b+1)=l:=by
   rw[drop_eq_getElem_cons hlt]at hd;exact(List.cons.inj hd).2
  have hc:x.cps.toList[b]? =some c:=by
   rw[drop_eq_getElem_cons hlt]at hd;rw[getElem?_eq_getElem hlt,(List.cons.inj hd).1]
  by_cases e:c=32
  ·subst e;rw[jA,if_pos rfl];have es:zN (k+1) (32::l)=[]::zN k l:=by rw[zN,if_pos rfl]
   rw[es];show(Builtin.Str.strSub x a b).cps.toList::(StrLaws.partsFrom x 1 (b+1) (jA k (b+1) l)).map _=((x.cps.toList.drop a).take (b-a)++[])::zN k l;rw[uS x l k (b+1) (b+1) (le_refl _) hd',StrLaws.strSub_toList,append_nil];cases zN k l with
   |nil=>rfl
   |cons w r=>simp
  ·rw[jA,if_neg e,uS x l (k+1) a (b+1) (by omega) hd'];have es:zN (k+1) (c::l)=match zN (k+1) l with| []=>[]|w::r=>(c::w)::r:=by
    rw[zN,if_neg e]
   rw[es];cases zN (k+1) l with
   |nil=>rfl
   |cons w r =>
    dsimp only;congr 1;have e2:(x.cps.toList.drop a).take (b+1-a)=(x.cps.toList.drop a).take (b-a)++[c]:=by
     rw[show b+1-a=(b-a)+1 by omega,take_succ,List.getElem?_drop,show a+(b-a)=b by omega,hc];rfl
    rw[e2,append_assoc];rfl
theorem jo(x:Str)(k:Nat):(Txt.splitMax x jr k).map (fun w=>w.cps.toList)=zN k x.cps.toList:=by
 have hcut:=occ_blank x k;have hlim:limitOf x (k:Int)=k:=by
  unfold limitOf;rw[if_neg (by omega)];omega
 have key:(StrLaws.partsFrom x 1 0 (jA k 0 x.cps.toList)).map (fun w=>w.cps.toList)=zN k x.cps.toList:=by
  rw[uS x x.cps.toList k 0 0 (le_refl _) rfl];cases zN k x.cps.toList with
  |nil=>rfl
  |cons w r=>simp
 have one:jA k 0 x.cps.toList=[]->[x].map (fun w=>w.cps.toList)=zN k x.cps.toList:=fun e=>by
  rw[<-key,e];show [x.cps.toList]=[(Builtin.Str.strSub x 0 x.length).cps.toList];rw[StrLaws.strSub_toList];have hlen:x.cps.toList.length=x.length:=by simp[Str.length]
  rw[drop_zero,take_of_length_le (by omega)]
 unfold Txt.splitMax;rw[hlim,hcut];split
 ·rename_i hc;refine one ?_;cases hx:jA k 0 x.cps.toList with
  |nil=>rfl
  |cons c r =>
   exfalso;rw[hx]at hcut;have h32:32∈x.cps.toList:=by
    refine Decidable.byContradiction fun hno=>?_;have:∀(l:List Nat)(k a:Nat),32∉l->jA k a l=[]:=by
     intro l
     induction l with
     |nil=>intro k a _;exact jU k a
     |cons y l ih =>
      intro k a hn;cases k with
      |zero=>exact kJ _ _
      |succ k =>
       rw[jA,if_neg fun e=>hn (by simp[e])];exact ih _ _ fun z=>hn (by simp[z])
    rw[this _ _ _ hno]at hx;cases hx
   have hlen:x.cps.toList.length=x.length:=by simp[Str.length]
   rw[Bool.or_eq_true,decide_eq_true_eq,decide_eq_true_eq]at hc;rcases hc with h|h
   ·have:jr.length=1:=rfl;have:=List.length_pos_of_mem h32;omega
   ·have hb:PySem.Builtin.Str.strKind jr=1:=by decide+kernel
    rw[hb]at h;unfold PySem.Builtin.Str.strKind at h;split at h
    ·omega
    ·split at h <;>omega
 ·split
  ·rename_i he;exact one (List.isEmpty_iff.mp he)
  ·rw[StrLaws.partsBetween_eq];exact key
theorem d5(x:Str):Txt.split x jr=Txt.splitMax x jr ((x.length+1:Nat):Int):=by
 unfold Txt.split Txt.splitMax limitOf;rw[if_neg (show ¬(((x.length+1:Nat):Int)<0)by omega),toNat_natCast]
theorem uZ:∀{w:List Nat}(k:Nat)(r:List Nat),32∉w->zN (k+1) (w++32::r)=w::zN k r
 | [],k,r,_=>by rw[List.nil_append,zN,if_pos rfl]
 |c::w,k,r,h=>by
  rw[List.cons_append,zN,if_neg fun e=>h (by simp[e]),uZ k r fun z=>h (by simp[z])]
theorem xn:∀{w:List Nat}(k:Nat),32∉w->zN k w=[w]
 |w,0,_=>wY w
 | [],k+1,_=>by rw[zN]
 |c::w,k+1,h=>by rw[zN,if_neg fun e=>h (by simp[e]),xn (k+1) fun z=>h (by simp[z])]
section
variable{X:Cx}
theorem mt_splitM:MtR X "str.split" (fun x vs H Q=>∃ z sep k,x= .str z/\vs=[.str sep,.int k]/\(sep.length==0)=false/\(0<=k/\k<=1000)/\z.length<=1000000/\ ∀l,H l=none->Q (.ref l) (upd H l (.lst ((Txt.splitMax z sep k).map V.str)))):=by
 intro pins s σ H x vs v us Q I rx rv h;obtain⟨z,sep,k,rfl,rfl,hy,hk,hz,q⟩:=h;obtain⟨t,rfl⟩:=rx
 match us,rv with
 | _,.cons ru (.cons rk .nil) =>
  obtain⟨u',rfl⟩:=ru;obtain⟨v',rfl⟩:=rk;have hkk:(decide (k< -(2^63:Int))||decide (k>=2^63))=false:=by
   rw[Bool.or_eq_false_iff,decide_eq_false_iff_not,decide_eq_false_iff_not];omega
  have hl:(Builtin.Str.partsBetween z (Builtin.Str.occurrences z sep 0 z.length (limitOf z k)) sep.length).length<=1001:=by
   unfold Builtin.Str.partsBetween;have:=StrLaws.occ_length_le z sep 0 z.length (limitOf z k);have h2:limitOf z k<=1000:=by
    unfold limitOf;rw[if_neg (by omega)];omega
   simp;omega
  have hsz:z.length<=sizeLine:=by rw[sizeLine_eq];omega
  have fin:∀(l:List (Str×Tok))(tk:Nat),l.map (·.1)=Txt.splitMax z sep k->EP X pins σ Q (.ref s.heap.objs.size) {s with heap:=s.heap.push {cls:=.type "list",data:=.seq (strValues l).toArray},toks:=tk}:=fun l tk e=>by
   have hlen:((Txt.splitMax z sep k).map V.str).length<=sizeLine:=by
    rw[length_map];unfold Txt.splitMax;split
    ·show 1<=sizeLine;decide
    ·split
     ·show 1<=sizeLine;decide
     ·rw[sizeLine_eq];omega
   refine⟨.ref s.heap.objs.size,_,I.laid (fun b o e=>Heap.get?_push_of_some _ e) (le_refl _) (show zU X.prog X.w _ _ _ (.lst ((Txt.splitMax z sep k).map V.str))from⟨hlen,strValues l,0,?_,Heap.get?_push_size _ rfl⟩),rfl,q _ (I.hok.fresh (le_refl _))⟩;rw[<-e];exact qQ l
  cases h1:(decide (z.length<sep.length)||decide (Builtin.Str.strKind z<Builtin.Str.strKind sep))
  ·cases hf:(Builtin.Str.occurrences z sep 0 z.length (limitOf z k)).isEmpty
   ·refine call_meets F.slot_str_split (typeIs_str _ _ _) F.entry_str_split (F.args_str_split_3 _ _ _) (meets_str_split_sep_max z sep k t u' v' hkk h1 hy hf hsz (by rw[sizeLine_eq];omega)) ?_;show wants _ _ _ {s with toks:=_,heap:=s.heap.push {cls:=.type "list",data:=.seq (strsFrom s.toks (Builtin.Str.partsBetween z (Builtin.Str.occurrences z sep 0 z.length (limitOf z k)) sep.length)).toArray}};rw[strsFrom_eq];exact fin (numbered s.toks _) _ ((numbered_texts _ _).trans ((if_neg (ne_true_of_eq_false h1)).trans (if_neg (ne_true_of_eq_false hf))).symm)
   ·exact call_meets F.slot_str_split (typeIs_str _ _ _) F.entry_str_split (F.args_str_split_3 _ _ _) (meets_str_split_max_not_found z sep k t u' v' hkk h1 hy hf)
     (fin [(z,t)] s.toks ((if_neg (ne_true_of_eq_false h1)).trans (if_pos hf)).symm)
  ·exact call_meets F.slot_str_split (typeIs_str _ _ _) F.entry_str_split (F.args_str_split_3 _ _ _) (meets_str_split_max_cannot_occur z sep k t u' v' hkk h1)
    (fin [(z,t)] s.toks (if_pos h1).symm)
end
section
variable{prog:Program}{w:World}{A:Around}{E:Value->Shared->Prop}{s:Shared}
theorem vH{x:Value}{ss:List Str}{Q:Value->Shared->Prop}(h64:ss.length<64)(hc:∀(R:List Value->Shared->Prop),(∀h' tk (vs:List Value),(∀b o,s.heap.get? b=some o->h'.get? b=some o)->StrsAre vs ss->R vs {s with heap:=h',toks:=tk})->wpAny (model prog w) A.in1 (collect x) R E s)(h:∀(out:List Value) (n:Nat) (h1 h':Heap) (tk:Nat) (ss':List Str),(∀b o,s.heap.get? b=some o->h1.get? b=some o)->(∀b o,h1.get? b=some o->h'.get? b=some o)->h'.get? h1.objs.size=some (seqObj "list" out.toArray n)->StrsAre out ss'->ss'.Perm ss->sortedS ss'=true->Q (.ref h1.objs.size) {s with heap:=h',toks:=tk}) :
  wpAny (model prog w) A (call (.builtin "sorted") [x]) Q E s:=by
 refine Calls.call_function_entry kind_sorted plain_sorted entry_sorted (args_sorted1 _) ?_;unfold Builtin.«sorted»;refine wpAny_bind (m:=checkCount "sorted" 1 1 _) (wpAny_pure ?_);refine wpAny_bind (hc _ fun h1 tk vs hk1 hI=>?_);have hlv:vs.length<64:=by rw[hI.length];exact h64
 refine wpAny_bind (wpAny_newList ?_ (le_trans (Nat.le_of_lt hlv) (by decide)));have hoL:(h1.push (seqObj "list" vs.toArray 0)).get? h1.objs.size=some (seqObj "list" vs.toArray 0):=Heap.get?_push_size _ rfl;refine wpAny_bind (wpAny_holding (wpAny_call_entry slot_list_sort ⟨_,hoL,rfl⟩ entry_list_sort (list_sort_treeK strKind_oneLt hoL hI.keysOf (fun v₁ v₂ rest e=>keyKind_strs (by rw[<-e];exact hI)) hlv fun st' a1 a2=>⟨_,rfl,?_⟩) (args_list_sort _)));obtain⟨ss',b1,b2,b3⟩:=sorted_out_str hI a1 a2;obtain⟨e,he⟩:=sortedHeap_at (vs:=vs) (out:=(arrOf st').map (·.2)) hoL;refine wpAny_pure ⟨_,rfl,h ((arrOf st').map (·.2)).toList e h1 _ tk ss' hk1 (fun b o hb=>?_) he b1 b2 b3⟩;have hlt:=Heap.lt_size hb;rw[sortedHeap_old (ne_of_lt hlt) (by rw[Heap.size_push];exact lt_succ_of_lt hlt)];exact Heap.get?_push_of_some _ hb
end
theorem ve:∀{ss:List Str}{vs:List Value},StrsAre vs ss->Vals (ss.map V.str) vs
 | _,_,.nil=>.nil
 | _,_,.cons x t r=>.cons ⟨t,rfl⟩ (ve r)
section
variable{X:Cx}
theorem dy:kM X (.builtin "sorted") (fun xs H Q=>∃(a:Addr)(ss:List Str),xs=[.ref a]/\SqL X.K H a (ss.map V.str)/\ss.length<64/\ ∀(ss':List Str)(p:Addr),ss'.Perm ss->sortedS ss'=true->H p=none->Q (.ref p) (upd H p (.lst (ss'.map V.str)))):=by
 intro pins s σ H xs us Q I r h;obtain⟨a,ss,rfl,hq,hl,q⟩:=h;obtain⟨u,rfl,rx⟩:=jS r;cases rx;obtain⟨its,r',pl,hz⟩:=I.list hq;obtain⟨o,ho,hc,n,hd⟩:=pl.isList;have hlen:=r'.length;rw[length_map]at hlen;refine vH hl (fun R hR=>wpAny_collect_seq a (.inl rfl) ho hc hd (fun h1 hk1=>hR h1 s.toks its hk1 (va r')) (by rw[size_toArray,sizeLine_eq];omega)) fun out n h1 h' tk ss' k1 k2 e a1 a2 a3=>?_;have hz':(ss'.map V.str).length<=sizeLine:=by rw[length_map,a2.length_eq];exact yS hl
 have I2:Inv X pins σ H {s with heap:=h1,toks:=tk}:=I.kept (t':=tk) k1;exact⟨.ref _,_,I2.laid (t':=tk) k2 (le_refl _) (show zU X.prog X.w _ _ _ (.lst (ss'.map V.str))from⟨hz',out,n,ve a1,by simpa [seqObj]using e⟩),rfl,q ss' _ a2 a3 (I2.hok.fresh (le_refl _))⟩
theorem dw(hcm:X.calm=true):kM X (.builtin "sorted") (fun xs H Q=>∃(a:Addr)(kvs:List (Key×V))(ss:List Str),xs=[.ref a]/\H a=some (.dK kvs)/\kvs.map (·.1)=ss.map Sum.inr/\ss.length<64/\ ∀(ss':List Str)(p:Addr),ss'.Perm ss->sortedS ss'=true->H p=none->Q (.ref p) (upd H p (.lst (ss'.map V.str)))):=by
 intro pins s σ H xs us Q I r h;obtain⟨a,kvs,ss,rfl,hq,hks,hl,q⟩:=h;obtain⟨u,rfl,rx⟩:=jS r;cases rx;have hh:X.A.in1.handled=none:=I.ok.hd hcm;obtain⟨hz,lo,ws,rel,o,es,ep,ho,hex,hd,hko,hpr,hnd⟩:=dk_of I.hok hq;have hkeys:ws.map (·.1)=ss.map Sum.inr:=by rw[dQ rel,hks]
 have hlen:ws.length=ss.length:=by
  have:=congrArg length hkeys;simpa using this
 refine vH hl (fun R hR=>W.kdu_collect (A:=X.A.in1) (W.kdl_dict (knd:=zW X.prog X.w) (kvs:=ws) (ep:=ep) lo) hh ⟨o,es,ho,hex,hd,hko,hpr,hnd⟩ (by rw[hlen];exact yS hl) fun h' tk acc hk hacc=>hR h' tk acc.toList hk ?_) fun out n h1 h' tk ss' k1 k2 e a1 a2 a3=>?_
 ·have hla:acc.toList.length=ss.length:=by rw[Array.length_toList,hacc.1,hlen]
  refine va (wp (by rw[length_map,hla]) fun j x y e1 e2=>?_);rw[getElem?_map]at e1;obtain⟨z,hz,rfl⟩:=map_eq_some_iff.mp e1;obtain⟨kk,xx,hkk,his⟩:=hacc.2 j y (by rw[<-Array.getElem?_toList];exact e2);have e3:(ws.map (·.1))[j]? =some kk:=by rw[getElem?_map,hkk];rfl
  rw[hkeys,getElem?_map,hz]at e3;have e4:Sum.inr z=kk:=Option.some.inj e3;subst e4;rcases zP (show xD (Sum.inr z) y=true from his)with⟨i,t,e5,e6⟩|⟨i,t,e5,e6⟩
  ·cases e5
  ·cases e5;exact⟨t,e6⟩
 ·have hz':(ss'.map V.str).length<=sizeLine:=by rw[length_map,a2.length_eq];exact yS hl
  have I2:Inv X pins σ H {s with heap:=h1,toks:=tk}:=I.kept (t':=tk) k1;exact⟨.ref _,_,I2.laid (t':=tk) k2 (le_refl _) (show zU X.prog X.w _ _ _ (.lst (ss'.map V.str))from⟨hz',out,n,ve a1,by simpa [seqObj]using e⟩),rfl,q ss' _ a2 a3 (I2.hok.fresh (le_refl _))⟩
theorem jn:kM X (.type "dict") (fun xs H Q=>∃(a:Addr)(kvs:List (Key×V)),xs=[.ref a]/\H a=some (.dK kvs)/\ ∀p,H p=none->Q (.ref p) (upd H p (.dK kvs))):=by
 intro pins s σ H xs us Q I r h;obtain⟨a,kvs,rfl,hq,q⟩:=h;obtain⟨u,rfl,rx⟩:=jS r;cases rx;obtain⟨hz,lo,ws,rel,dd⟩:=dk_of I.hok hq;refine kt_call_dict lo dd (by rw[<-rel.length];exact hz) fun h' dd' hs=>?_;have hb:sysModules<s.heap.objs.size:=I.big;refine⟨.ref s.heap.objs.size,_,I.laid (t':=s.toks) (a:=s.heap.objs.size) (o:=.dK kvs) (fun b o e=>?_) (le_refl _) (show zU X.prog X.w _ _ _ (.dK kvs)from⟨hz,beq_eq_false_iff_ne.mpr (Ne.symm (ne_of_lt hb)),ws,rel,dd'⟩),rfl,q _ (I.hok.fresh (le_refl _))⟩;exact(hs.2 b (ne_of_lt (Heap.lt_size e))).trans (Heap.get?_push_of_some _ e)
end
def xr(P:Program)(w:World)(K:W.Frag)(a:Addr)(ws:List (Key×Value)):Prop:=(a==sysModules)=false/\ ∀h:Heap,K.In h->h.DictOf (zW P w) a ws
section
variable{X:Cx}
theorem op_inKD:OpR X (compareOp .In) (fun x y H Q=>∃(a:Addr)(ws:List (Key×Value))(z:Str),x= .str z/\y= .ref a/\xr X.prog X.w X.K a ws/\Q (.bl (valueAt ws (.inr z)).isSome) H):=by
 intro pins s σ H x y v u Q I rx ry h;obtain⟨a,ws,z,rfl,rfl,⟨hd,hk⟩,q⟩:=h;obtain⟨t,rfl⟩:=rx;cases ry;exact wpAny_in_of (k:=.inr z) (qV (k:=.inr z) ⟨t,rfl⟩) hd (hk _ I.kIn).mapOf ⟨.bl _,H,I.tok _,rfl,q⟩
theorem op_notInKD:OpR X (compareOp .NotIn) (fun x y H Q=>∃(a:Addr)(ws:List (Key×Value))(z:Str),x= .str z/\y= .ref a/\xr X.prog X.w X.K a ws/\Q (.bl (!(valueAt ws (.inr z)).isSome)) H):=by
 intro pins s σ H x y v u Q I rx ry h;obtain⟨a,ws,z,rfl,rfl,⟨hd,hk⟩,q⟩:=h;obtain⟨t,rfl⟩:=rx;cases ry;exact wpAny_notIn_of (k:=.inr z) (qV (k:=.inr z) ⟨t,rfl⟩) hd (hk _ I.kIn).mapOf ⟨.bl _,H,I.tok _,rfl,q⟩
def tKDGet(P:Program)(w:World)(K:W.Frag)(td ty:TE):TE:=fun σ H Q=>td σ H fun x H1=>ty σ H1 fun y H2=>∃(a b:Addr)(ws:List (Key×Value))(z:Str),x= .ref a/\y= .str z/\xr P w K a ws/\valueAt ws (.inr z)=some (.ref b)/\Q (.ref b) H2
theorem p7{o i:Expr}{td ty:TE}{pos:Pos}(ho:PE X o td)(hi:PE X i ty)(hs:NoSl i):PE X (.Subscript o i pos) (tKDGet X.prog X.w X.K td ty):=by
 intro pins s σ H Q I h;refine subD_of PySem.F.slot_dict_getitem.lookup hs (thn (ho pins s σ H _ I h) fun u s1 ⟨x,H1,I1,rx,q1⟩=>thn (hi pins s1 σ H1 _ I1 q1) fun iv s2 ⟨y,H2,I2,ry,a,b,ws,z,ex,ey,⟨hd,hk⟩,hv,q2⟩=>?_);subst ex ey;obtain rfl:u=Value.ref a:=rx;obtain⟨t,rfl⟩:=ry;have dd:=hk _ I2.kIn;exact⟨dd.typeIs,wpAny_getItem_of (k:=.inr z) (qV (k:=.inr z) ⟨t,rfl⟩) dd.mapOf hv ⟨.ref b,H2,I2.tok _,rfl,q2⟩⟩
end
section
variable{X:Cx}{E:XK}
structure CallsOk(X:Cx)(f:Addr)(sp:Sp)(E:XK):Prop where
 kp:W.keepIn X.K (.ref f)=true
 run:∀(pins:List (Addr×Obj))(σ:L2.St)(H:Hp)(s:Shared)(Q:VK)(us:List Value)(vs:List V),Inv X pins σ H s->Vals vs us->sp vs H Q E->wpAny (model X.prog X.w) X.A (call (.ref f) us) (EP X pins σ Q) X.xe s
theorem CallsOk.of{CX:CXT}{k:Nat}{f:Addr}{fd:FuncData}{ps:List Str}{sp:Sp}{cm:Bool}(F:FnOk X.prog X.w X.K X.mg X.base CX k f fd ps sp cm)(hr:Room k X.A cm)(hk:W.keepIn X.K (.ref f)=true)(hb:wZ X.K fd ps [])(hx:jq CX X E):CallsOk X f sp E :=
 ⟨hk,fun pins σ H s Q us vs I r h=>bv F hr hb .nil hx I r (by rw[append_nil];exact h)⟩
def tCallE(G:Addr->Sp->Prop)(E:XK)(t0:TE)(t:TA):TE:=fun σ H Q=>t0 σ H fun x H1=>∃ f sp,x= .ref f/\G f sp/\t σ H1 fun vs H2=>sp vs H2 Q E
theorem bj{G:Addr->Sp->Prop}{e0 e:Expr}{es:List Expr}{t0:TE}{t:TA}{pos:Pos}(ok:∀f sp,G f sp->CallsOk X f sp E)(h0:PE X e0 t0)(ha:PA X (e::es) t)(hc:∀{Q:Value->Shared->Prop} {s:Shared},wpAny (model X.prog X.w) X.A (eval e0 X.env) (fun f s1=>wpAny (model X.prog X.w) X.A (callWith pos f [] (backTo pos (starEach (e::es) X.env)) []) Q X.xe s1) X.xe s->wpAny (model X.prog X.w) X.A (eval (.Call e0 (e::es) [] pos) X.env) Q X.xe s)(he:starEach (e::es) X.env=(false,eval e X.env)::starEach es X.env:=by rfl)(hpl:(backTo pos (starEach es X.env)).any (·.1)=false:=by rfl):PE X (.Call e0 (e::es) [] pos) (tCallE G E t0 t):=by
 intro pins s σ H Q I h;refine hc (thn (h0 pins s σ H _ I h) fun u s1 ⟨x,H1,I1,rx,f,sp,ex,g,q⟩=>?_);subst ex;obtain rfl:u=Value.ref f:=rx;have C:=ok f sp g;refine W.callWith_K (h₀:=X.base) I1.ok.mod.kin C.kp (thn (ha pos pins s1 σ H1 _ I1 q) fun us s2 ⟨vs,H2,I2,r,q2⟩=>⟨I2.kIn,?_⟩) he hpl;exact C.run pins σ H2 s2 Q us vs I2 r q2
end
section
variable{X:Cx}
def rSlX:V->Option Int->Option Int->Hp->VK->Prop:=fun x lo hi H Q=>∃ z,x= .str z/\z.length<=sizeLine/\Q (.str (Txt.slice z lo hi)) H
theorem rE:SlR X rSlX:=by
 intro pins s σ H x v vl vu lo hi sl Q I rx hs pl pu h;obtain⟨z,rfl,hz,q⟩:=h;obtain⟨t,rfl⟩:=rx;refine⟨"str",_,F.slot_str_getitem.lookup,typeIs_str _ _ _,?_⟩;cases pl with
 |none =>
  cases pu with
  |none=>exact wpAny_getItem_str_slice (l:=none) (u:=none) (st:=none) hs rfl (post_val_or_str ⟨le_trans (Txt.slice_le z none none) hz,fun t' k=>⟨.str (Txt.slice z none none),H,I.tok k,⟨t',rfl⟩,q⟩⟩)
  |int j tj=>exact wpAny_getItem_str_slice (l:=none) (u:=some (j,tj)) (st:=none) hs rfl (post_val_or_str ⟨le_trans (Txt.slice_le z none (some j)) hz,fun t' k=>⟨.str (Txt.slice z none (some j)),H,I.tok k,⟨t',rfl⟩,q⟩⟩)
 |int i ti =>
  cases pu with
  |none=>exact wpAny_getItem_str_slice (l:=some (i,ti)) (u:=none) (st:=none) hs rfl (post_val_or_str ⟨le_trans (Txt.slice_le z (some i) none) hz,fun t' k=>⟨.str (Txt.slice z (some i) none),H,I.tok k,⟨t',rfl⟩,q⟩⟩)
  |int j tj=>exact wpAny_getItem_str_slice (l:=some (i,ti)) (u:=some (j,tj)) (st:=none) hs rfl (post_val_or_str ⟨le_trans (Txt.slice_le z (some i) (some j)) hz,fun t' k=>⟨.str (Txt.slice z (some i) (some j)),H,I.tok k,⟨t',rfl⟩,q⟩⟩)
theorem ps_try0{body:List Stmt}{h₀:ExceptHandler}{hs:List ExceptHandler}{t:TS}{pos:Pos}(hb:PSs X.nox body t):PS X (.Try body (h₀::hs) [] [] pos) t:=by
 intro pins s σ H D I h;refine wpAny_Try_except (wpAny_mono (hb pins s σ H D (I.wish _) h) (fun f s1 hf=>?_) fun _ _ z=>False.elim z);cases f with
 |next=>exact wpAny_execs_nil (SP.unwish hf)
 |brk=>exact SP.unwish hf
 |cont=>exact SP.unwish hf
 |ret u=>exact SP.unwish hf
end
abbrev Std:=List (Str×List (List Int))
def zG(S:Std)(n:Str):Option (List (List Int)):=(S.find? fun p=>decide (p.1=n)).map (·.2)
def putS(S:Std)(n:Str)(r:List (List Int)):Std:=if S.any (fun p=>decide (p.1=n))then S.map (fun p=>if p.1=n then(p.1,r)else p)else S++[(n,r)]
def pj(S:Std)(n:Str):Std:=S.filter fun p=>decide (p.1≠n)
def wT(r:List (List Int))(v:V)(H:Hp):Prop:=∃ p xs,v= .ref p/\H p=some (.tup xs)/\All2 Tup1 H r xs
theorem wT.mv{H H':Hp}{r:List (List Int)}{v:V}(t:Tups H H'):wT r v H->wT r v H'
 |⟨p,xs,e,h1,h2⟩=>⟨p,xs,e,t _ _ h1,h2.mv t⟩
inductive StdV(H:Hp):Std->List (Key×V)->Prop
 |nil:StdV H [] []
 |cons {n:Str} {r:List (List Int)} {v:V} {S:Std} {kvs:List (Key×V)}:wT r v H->StdV H S kvs->StdV H ((n,r)::S) ((Sum.inr n,v)::kvs)
theorem StdV.mv{H H':Hp}(t:Tups H H'):∀{S:Std}{kvs:List (Key×V)},StdV H S kvs->StdV H' S kvs
 | _,_,.nil=>.nil
 | _,_,.cons r q=>.cons (r.mv t) (StdV.mv t q)
theorem StdV.length{H:Hp}:∀{S:Std}{kvs:List (Key×V)},StdV H S kvs->kvs.length=S.length
 | _,_,.nil=>rfl
 | _,_,.cons _ q=>by rw[length_cons,length_cons,q.length]
theorem StdV.keys{H:Hp}:∀{S:Std}{kvs:List (Key×V)},StdV H S kvs->kvs.map (·.1)=(S.map (·.1)).map Sum.inr
 | _,_,.nil=>rfl
 | _,_,.cons _ q=>by rw[map_cons,map_cons,map_cons,q.keys]
theorem lookS_pos{p:Str×List (List Int)}{S:Std}{n:Str}(e:p.1=n):zG (p::S) n=some p.2:=by simp[zG,find?_cons,e]
theorem lookS_neg{p:Str×List (List Int)}{S:Std}{n:Str}(e:¬p.1=n):zG (p::S) n=zG S n:=by simp[zG,find?_cons,e]
theorem StdV.val{H:Hp}(n:Str):∀{S:Std}{kvs:List (Key×V)},StdV H S kvs->(zG S n=none/\valV kvs (Sum.inr n)=none)\/ ∃r v,zG S n=some r/\valV kvs (Sum.inr n)=some v/\wT r v H
 | _,_,.nil=>.inl ⟨rfl,rfl⟩
 | _,_,.cons (n:=m) (r:=r) (v:=v) (S:=S) (kvs:=kvs) hr q=>by
  by_cases e:m=n
  ·subst e;exact .inr ⟨r,v,lookS_pos rfl,pb rfl,hr⟩
  ·have e':¬(Sum.inr m:Key)=Sum.inr n:=fun z=>e (Sum.inr.inj z);rw[lookS_neg (p:=(m,r)) e,p9 (p:=((Sum.inr m:Key),v)) e'];exact q.val n
theorem StdV.any{H:Hp}(n:Str):∀{S:Std}{kvs:List (Key×V)},StdV H S kvs->(kvs.any fun kv=>decide (kv.1=Sum.inr n))=S.any fun p=>decide (p.1=n)
 | _,_,.nil=>rfl
 | _,_,.cons (n:=m) _ q=>by
  rw[any_cons,any_cons,q.any n];have:decide ((Sum.inr m:Key)=Sum.inr n)=decide (m=n):=key_rr m n;rw[this]
theorem StdV.repl{H:Hp}{n:Str}{r:List (List Int)}{v:V}(hr:wT r v H):∀{S:Std}{kvs:List (Key×V)},StdV H S kvs->StdV H (S.map fun p=>if p.1=n then(p.1,r)else p) (kvs.map fun kv=>if kv.1=Sum.inr n then(kv.1,v)else kv)
 | _,_,.nil=>.nil
 | _,_,.cons (n:=m) (r:=r') (v:=v') h0 q=>by
  rw[map_cons,map_cons];by_cases e:m=n
  ·subst e;rw[if_pos rfl,if_pos rfl];exact .cons hr (StdV.repl hr q)
  ·have e':¬(Sum.inr m:Key)=Sum.inr n:=fun z=>e (Sum.inr.inj z);rw[if_neg e,if_neg e'];exact .cons h0 (StdV.repl hr q)
theorem StdV.snoc{H:Hp}{n:Str}{r:List (List Int)}{v:V}(hr:wT r v H):∀{S:Std}{kvs:List (Key×V)},StdV H S kvs->StdV H (S++[(n,r)]) (kvs++[(Sum.inr n,v)])
 | _,_,.nil=>.cons hr .nil
 | _,_,.cons h0 q=>.cons h0 (StdV.snoc hr q)
theorem StdV.put{H:Hp}{n:Str}{r:List (List Int)}{v:V}(hr:wT r v H){S:Std}{kvs:List (Key×V)}(q:StdV H S kvs):StdV H (putS S n r) (putK kvs (Sum.inr n) v):=by
 unfold putS putK;rw[q.any n];split
 ·exact q.repl hr
 ·exact q.snoc hr
theorem StdV.drop{H:Hp}(n:Str):∀{S:Std}{kvs:List (Key×V)},StdV H S kvs->StdV H (pj S n) (qT kvs (Sum.inr n))
 | _,_,.nil=>.nil
 | _,_,.cons (n:=m) (S:=S) (kvs:=kvs) h0 q=>by
  unfold pj qT;rw[filter_cons,filter_cons];by_cases e:m=n
  ·subst e;have a:¬decide ((Sum.inr m:Key)≠Sum.inr m)=true:=by simp
   have b:¬decide (m≠m)=true:=by simp
   rw[if_neg b,if_neg a];exact StdV.drop m q
  ·have e':¬(Sum.inr m:Key)=Sum.inr n:=fun z=>e (Sum.inr.inj z);have a:decide ((Sum.inr m:Key)≠Sum.inr n)=true:=by simp[e']
   have b:decide (m≠n)=true:=by simp[e]
   rw[if_pos b,if_pos a];exact .cons h0 (StdV.drop n q)
theorem putS_len(S:Std)(n:Str)(r:List (List Int)):(putS S n r).length<=S.length+1:=by
 unfold putS;split
 ·rw[length_map];omega
 ·simp
theorem pk(S:Std)(n:Str):(pj S n).length<=S.length:=List.length_filter_le _ _
theorem kT{S:Std}{n:Str}{r:List (List Int)}(h:zG S n=some r):(n,r)∈S:=by
 unfold zG at h;obtain⟨p,hp,rfl⟩:=map_eq_some_iff.mp h;have h1:=List.mem_of_find?_eq_some hp;have h2:=List.find?_some hp;have h3:p.1=n:=of_decide_eq_true h2;rw[<-h3];exact h1
theorem bq{S:Std}{n:Str}{r:List (List Int)}{p:Str×List (List Int)}(h:p∈putS S n r):p∈S\/(p.1=n/\p.2=r):=by
 unfold putS at h;split at h
 ·obtain⟨q,hq,e⟩:=mem_map.mp h;by_cases z:q.1=n
  ·rw[if_pos z]at e;subst e;exact .inr ⟨z,rfl⟩
  ·rw[if_neg z]at e;subst e;exact .inl hq
 ·rcases mem_append.mp h with h|h
  ·exact .inl h
  ·rw[List.mem_singleton.mp h];exact .inr ⟨rfl,rfl⟩
theorem pq{S:Std}{n:Str}{p:Str×List (List Int)}(h:p∈pj S n):p∈S:=(mem_filter.mp h).1
theorem ltC_irr{x y:Str}(h:ltCps x.cps.toList y.cps.toList=false)(h':ltCps y.cps.toList x.cps.toList=false):x=y:=by
 rw[PyProof.Rows.ltCps_eq]at h h';have a:=of_decide_eq_false h;have b:=of_decide_eq_false h';exact yE (List.le_antisymm (List.not_lt.mp b) (List.not_lt.mp a))
theorem ltC_trans{x y z:Str}(h:ltCps y.cps.toList x.cps.toList=false)(h':ltCps z.cps.toList y.cps.toList=false):ltCps z.cps.toList x.cps.toList=false:=by
 rw[PyProof.Rows.ltCps_eq]at h h' ⊢;have a:=List.not_lt.mp (of_decide_eq_false h);have b:=List.not_lt.mp (of_decide_eq_false h');exact decide_eq_false (List.not_lt.mpr (List.le_trans a b))
theorem mM:∀(l:List Str)(p:Str),risingS p l=true->(p::l).Pairwise fun a b=>ltCps b.cps.toList a.cps.toList=false
 | [],p,_=>List.pairwise_singleton _ _
 |x::r,p,h=>by
  simp only[risingS,and_eq_true,Bool.not_eq_true']at h;have ih:=mM r x h.2;refine pairwise_cons.mpr ⟨fun b hb=>?_,ih⟩;rcases mem_cons.mp hb with rfl|hb
  ·exact h.1
  ·exact ltC_trans h.1 ((pairwise_cons.mp ih).1 b hb)
theorem xm{l:List Str}(h:sortedS l=true):l.Pairwise fun a b=>ltCps b.cps.toList a.cps.toList=false:=by
 cases l with
 |nil=>exact List.Pairwise.nil
 |cons x r=>exact mM r x h
theorem sortedS_eq{a b:List Str}(ha:sortedS a=true)(hb:sortedS b=true)(p:a.Perm b):a=b :=
 List.Perm.eq_of_pairwise (fun x y _ _ h1 h2=>ltC_irr h2 h1) (xm ha) (xm hb) p
def cn:Str:=Str.ofString "no names"
def yi(ns:List Str)(z:Str):Prop:=(ns=[]/\z=cn)\/(ns≠[]/\ ∃ss:List Str,ss.Perm ns/\sortedS ss=true/\z=Txt.join (Str.ofString " ") ss)
theorem yi.eq{ns ms:List Str}{x y:Str}(p:ns.Perm ms)(h:yi ns x)(h':yi ms y):x=y:=by
 rcases h with⟨e,rfl⟩|⟨e,ss,p1,s1,rfl⟩
 ·rcases h' with⟨_,rfl⟩|⟨e2,_⟩
  ·rfl
  ·subst e;exact absurd p.nil_eq.symm e2
 ·rcases h' with⟨e2,_⟩|⟨_,ss',p2,s2,rfl⟩
  ·subst e2;exact absurd p.eq_nil e
  ·rw[sortedS_eq s1 s2 (p1.trans (p.trans p2.symm))]
def StdR(O:List Addr)(S:Std)(v:V)(H:Hp):Prop:=∃ d kvs,v= .ref d/\d∈O/\H d=some (.dK kvs)/\StdV H S kvs
theorem StdR.mv{O O':List Addr}{H H':Hp}{S:Std}{v:V}(t:Tups H H')(k:∀b kvs,b∈O->H b=some (.dK kvs)->H' b=some (.dK kvs))(o:∀b∈O,b∈O'):StdR O S v H->StdR O' S v H'
 |⟨d,kvs,e,m,h1,h2⟩=>⟨d,kvs,e,o d m,k _ _ m h1,h2.mv t⟩
theorem All2.to{α:Type}{R R':α->V->Hp->Prop}{H H':Hp}(f:∀a v,R a v H->R' a v H'):∀{l:List α}{xs:List V},All2 R H l xs->All2 R' H' l xs
 | _,_,.nil=>.nil
 | _,_,.cons h t=>.cons (f _ _ h) (t.to f)
def dkF(d pl ul:Addr):List (Str×V):=[("standing",.ref d),("past",.ref pl),("undone",.ref ul)]
structure DeskAt(C:Addr)(H:Hp)(x:Addr)(O:List Addr)(S:Std)(past undone:List Std):Prop where
 mem:x∈O
 all:∀b∈O,∃o,H b=some o
 at_:∃dx d pl ul xs ys,H x=some (.ins C dx (dkF d pl ul))/\StdR O S (.ref d) H/\H pl=some (.lst xs)/\All2 (StdR O) H past xs/\H ul=some (.lst ys)/\All2 (StdR O) H undone ys/\pl∈O/\ul∈O/\pl≠ul
theorem DeskAt.mv{C:Addr}{H H':Hp}{x:Addr}{O:List Addr}{S:Std}{past undone:List Std}(D:DeskAt C H x O S past undone)(t:Tups H H')(k:∀b o,b∈O->H b=some o->H' b=some o):DeskAt C H' x O S past undone:=by
 obtain⟨m,al,dx,d,pl,ul,xs,ys,h1,h2,h3,h4,h5,h6,m1,m2,ne⟩:=D;have kk:∀b kvs,b∈O->H b=some (.dK kvs)->H' b=some (.dK kvs):=fun b kvs hb e=>k b _ hb e;exact⟨m,fun b hb=>let⟨o,e⟩:=al b hb;⟨o,k b o hb e⟩,dx,d,pl,ul,xs,ys,k _ _ m h1,h2.mv t kk fun _ z=>z,k _ _ m1 h3,h4.imp fun _ _ z=>z.mv t kk fun _ z=>z,k _ _ m2 h5,h6.imp fun _ _ z=>z.mv t kk fun _ z=>z,m1,m2,ne⟩
theorem jl{H:Hp}{a b:Addr}{o u:HO}(h:H b=some u):∃o',upd H a o b=some o':=by
 by_cases e:b=a
 ·subst e;exact⟨o,z6⟩
 ·exact⟨u,by rw[zh e];exact h⟩
theorem DeskAt.nin{C:Addr}{H:Hp}{x:Addr}{O:List Addr}{S:Std}{past undone:List Std}(D:DeskAt C H x O S past undone){p:Addr}(h:H p=none):p∉O:=fun m=>by
 obtain⟨o,e⟩:=D.all p m;rw[h]at e;cases e
theorem DeskAt.same{C:Addr}{H H':Hp}{x:Addr}{O:List Addr}{S:Std}{past undone:List Std}(D:DeskAt C H x O S past undone)(s:Same H H'):DeskAt C H' x O S past undone:=D.mv s.tups fun b o _ e=>s b o e
theorem DeskAt.keep{C:Addr}{H H':Hp}{x:Addr}{O L:List Addr}{S:Std}{past undone:List Std}(D:DeskAt C H x O S past undone)(t:Tups H H')(K:Keep L H H')(n:∀b∈O,b∉L):DeskAt C H' x O S past undone:=D.mv t fun b o hb e=>K b o e (n b hb)
structure After(C:Addr)(H H':Hp)(x:Addr)(O O':List Addr)(S:Std)(past undone:List Std):Prop where
 desk:DeskAt C H' x O' S past undone
 keep:Keep O H H'
 tups:Tups H H'
 own:∀b∈O',b∈O\/H b=none
theorem After.pre{C:Addr}{H H1 H':Hp}{x:Addr}{O O':List Addr}{S:Std}{past undone:List Std}(s:Same H H1)(a:After C H1 H' x O O' S past undone):After C H H' x O O' S past undone :=
 ⟨a.desk,fun b o e n=>a.keep b o (s _ _ e) n,s.tups.trans a.tups,fun b hb=>(a.own b hb).imp id fun h=>s.free h⟩
theorem After.post{C:Addr}{H H1 H':Hp}{x:Addr}{O O':List Addr}{S:Std}{past undone:List Std}(a:After C H H1 x O O' S past undone)(s:Same H1 H'):After C H H' x O O' S past undone :=
 ⟨a.desk.same s,fun b o e n=>s _ _ (a.keep b o e n),a.tups.trans s.tups,a.own⟩
theorem After.refl{C:Addr}{H H':Hp}{x:Addr}{O:List Addr}{S:Std}{past undone:List Std}(D:DeskAt C H x O S past undone)(s:Same H H'):After C H H' x O O S past undone:=⟨D.same s,s.keep,s.tups,fun b hb=>.inl hb⟩
theorem mH{P:Program}{w:World}:∀rows:List (Str×Tok×Value),Pairs (zW P w) (rows.map fun r=>(⟨PyData.keyHash w.params r.1,.str r.1 r.2.1,r.2.2⟩:DictEntry)) (rows.map fun r=>((Sum.inr r.1:Key),r.2.2))
 | []=>.nil
 |r::rs=>.cons (pG r.1 r.2.1) rfl (mH rs)
theorem xr.lit{P:Program}{w:World}{K:W.Frag}{a:Addr}{n:Nat}(rows:List (Str×Tok×Value))(hs:(a==sysModules)=false)(hl:K.lookup a=some {cls:=.type "dict",data:=.dict (rows.map fun r=>(⟨PyData.keyHash w.params r.1,.str r.1 r.2.1,r.2.2⟩:DictEntry)).toArray n})(nd:(rows.map (·.1)).Nodup):xr P w K a (rows.map fun r=>((Sum.inr r.1:Key),r.2.2)):=by
 refine⟨hs,fun h hk=>⟨_,_,n,hk a _ hl,⟨rfl,rfl,rfl⟩,rfl,fun e he=>?_,mH rows,?_⟩⟩
 ·obtain⟨r,_,rfl⟩:=mem_map.mp (List.mem_toArray.mp he);exact⟨.inr r.1,pG r.1 r.2.1,rfl⟩
 ·rw[map_map];have:(rows.map fun r=>(Sum.inr r.1:Key))=(rows.map (·.1)).map Sum.inr:=by rw[map_map];rfl
  show(rows.map fun r=>(Sum.inr r.1:Key)).Nodup;rw[this];exact List.Pairwise.map _ (fun x y z e=>z (Sum.inr.inj e)) nd
def KTup(K:W.Frag)(a:Addr)(xs:List V):Prop:=∃(o:Obj)(its:Array Value)(n:Nat),K.lookup a=some o/\o.cls= .type "tuple"/\o.data= .seq its n/\its.size<=sizeLine/\Vals xs its.toList
theorem KTup.sq{K:W.Frag}{H:Hp}{a:Addr}{xs:List V}(h:KTup K a xs):SqT K H a xs:=.inr h
theorem bG:∀rows:List (Str×Tok),Vals (rows.map fun r=>V.str r.1) (rows.map fun r=>Value.str r.1 r.2)
 | []=>.nil
 |r::rs=>.cons ⟨r.2,rfl⟩ (bG rs)
theorem KTup.lit{K:W.Frag}{a:Addr}(rows:List (Str×Tok))(hl:K.lookup a=some {cls:=.type "tuple",data:=.seq (rows.map fun r=>Value.str r.1 r.2).toArray})(h:rows.length<=100):KTup K a (rows.map fun r=>V.str r.1) :=
 ⟨_,_,_,hl,rfl,rfl,by simp only[size_toArray,length_map];exact le_trans h (by decide),bG rows⟩
def KFns(P:Program)(w:World)(K:W.Frag)(a:Addr)(names:List Str)(fs:List (Str×Addr)):Prop:=∃ ws:List (Key×Value),xr P w K a ws/\ws.map (·.1)=names.map Sum.inr/\ ∀p∈fs,valueAt ws (.inr p.1)=some (.ref p.2)
def KForms(P:Program)(w:World)(K:W.Frag)(a:Addr)(rows:List (Str×List Str)):Prop:=∃ ws:List (Key×Value),xr P w K a ws/\ws.map (·.1)=(rows.map (·.1)).map Sum.inr/\ ∀p∈rows,∃b,valueAt ws (.inr p.1)=some (.ref b)/\KTup K b (p.2.map V.str)
theorem vJ{ws:List (Key×Value)}{names:List Str}(h:ws.map (·.1)=names.map Sum.inr){n:Str}:(valueAt ws (.inr n)).isSome=decide (n∈names):=by
 unfold valueAt;rw[Option.isSome_map];by_cases hn:n∈names
 ·rw[decide_eq_true hn];have:(Sum.inr n:Key)∈ws.map (·.1):=by rw[h];exact mem_map.mpr ⟨n,hn,rfl⟩
  obtain⟨p,hp,e⟩:=mem_map.mp this;rw[List.find?_isSome];exact⟨p,hp,by simpa using e⟩
 ·rw[decide_eq_false hn];cases hf:ws.find? fun kv=>decide (kv.1=Sum.inr n)with
  |none=>rfl
  |some p =>
   have e2:=List.find?_some hf;have e:p.1=Sum.inr n:=of_decide_eq_true e2;have:(Sum.inr n:Key)∈names.map Sum.inr:=by rw[<-h,<-e];exact mem_map.mpr ⟨p,List.mem_of_find?_eq_some hf,rfl⟩
   obtain⟨m,hm,e3⟩:=mem_map.mp this;exact absurd (Sum.inr.inj e3▸hm) hn
def AllP{α:Type}(P:α->Prop):List α->Prop
 | []=>True
 |a::l=>P a/\AllP P l
theorem AllP.mem{α:Type}{P:α->Prop}:∀{l:List α},AllP P l-> ∀a∈l,P a
 | _::l,h,b,hb=>by
  rcases mem_cons.mp hb with rfl|hb
  ·exact h.1
  ·exact AllP.mem h.2 b hb
theorem vf:∀{rows:List (Str×Tok×Value)}(i:Nat){n:Str}{t:Tok}{v:Value},rows[i]? =some (n,t,v)->(rows.map (·.1)).Nodup->valueAt (rows.map fun r=>((Sum.inr r.1:Key),r.2.2)) (.inr n)=some v
 | [],i,n,t,v,h,_=>by simp at h
 |r::rs,0,n,t,v,h,_=>by
  have e:r=(n,t,v):=by simpa using h
  subst e;simp[valueAt]
 |r::rs,i+1,n,t,v,h,nd=>by
  have h':rs[i]? =some (n,t,v):=by simpa using h
  rw[map_cons,nodup_cons]at nd;have hne:r.1≠n:=fun e=>nd.1 (by rw[e];exact mem_map.mpr ⟨_,mem_of_getElem? h',rfl⟩);have ih:=vf i h' nd.2;unfold valueAt at ih ⊢;rw[map_cons,find?_cons];have:decide ((Sum.inr r.1:Key)=Sum.inr n)=false:=decide_eq_false fun e=>hne (Sum.inr.inj e);simp only[this];exact ih
theorem KFns.lit{P:Program}{w:World}{K:W.Frag}{a:Addr}{n:Nat}(rows:List (Str×Tok×Value))(fs:List (Str×Addr))(hs:(a==sysModules)=false)(hl:K.lookup a=some {cls:=.type "dict",data:=.dict (rows.map fun r=>(⟨PyData.keyHash w.params r.1,.str r.1 r.2.1,r.2.2⟩:DictEntry)).toArray n})(nd:(rows.map (·.1)).Nodup)(names:List Str)(hn:names=rows.map (·.1))(h:AllP (fun p:Str×Addr=>∃(i:Nat) (t:Tok),rows[i]? =some (p.1,t,.ref p.2)) fs):KFns P w K a names fs :=
 ⟨_,xr.lit rows hs hl nd,by rw[hn,map_map,map_map];rfl,fun p hp=>let⟨i,t,e⟩:=h.mem p hp;vf i e nd⟩
theorem KForms.lit{P:Program}{w:World}{K:W.Frag}{a:Addr}{n:Nat}(rows:List (Str×Tok×Value))(fs:List (Str×List Str))(hs:(a==sysModules)=false)(hl:K.lookup a=some {cls:=.type "dict",data:=.dict (rows.map fun r=>(⟨PyData.keyHash w.params r.1,.str r.1 r.2.1,r.2.2⟩:DictEntry)).toArray n})(nd:(rows.map (·.1)).Nodup)(hn:fs.map (·.1)=rows.map (·.1))(h:AllP (fun p:Str×List Str=>∃(i:Nat) (t:Tok) (b:Addr),rows[i]? =some (p.1,t,.ref b)/\KTup K b (p.2.map V.str)) fs):KForms P w K a fs :=
 ⟨_,xr.lit rows hs hl nd,by rw[hn,map_map,map_map];rfl,fun p hp=>let⟨i,t,b,e,k⟩:=h.mem p hp;⟨b,vf i e nd,k⟩⟩
section
variable{X:Cx}
theorem ip_addS:PIp X .Add (fun x y H Q=>∃ i j,x= .str i/\y= .str j/\i.length+j.length<=sizeLine/\Q (.str (i++j)) H):=dL
theorem call_len_D:kM X (.builtin "len") (fun xs H Q=>∃ a kvs,xs=[V.ref a]/\H a=some (.dK kvs)/\Q (.int kvs.length) H):=by
 intro pins s σ H xs us Q I r h;obtain⟨a,kvs,rfl,ha,q⟩:=h;obtain⟨u,rfl,ru⟩:=jS r;cases ru;exact d_len I (.inl ha) fun t s' I'=>⟨.int kvs.length,H,I',⟨t,rfl⟩,q⟩
theorem pass0A{X:Cx}{E:XK}:jq CX0 X E:=fun _ _ _ _ _ _ _ h=>h.elim
theorem cz(hu:X.A.units+1<cLine):OpR X (compareOp .In) (fun x y H Q=>∃ a o,y= .ref a/\DGet H a x o/\Q (.bl o.isSome) H):=by
 intro pins s σ H x y v u Q I rx ry h;obtain⟨a,o,rfl,g,q⟩:=h;obtain rfl:u=Value.ref a:=ry;exact d_in hu I g rx fun s' I'=>⟨.bl o.isSome,H,I',rfl,q⟩
theorem dq(hcm:X.calm=true):kM X (.type "list") (fun xs H Q=>∃(a:Addr)(kvs:List (Key×V))(ss:List Str),xs=[.ref a]/\H a=some (.dK kvs)/\kvs.map (·.1)=ss.map Sum.inr/\ ∀(p:Addr),H p=none->Q (.ref p) (upd H p (.lst (ss.map V.str)))):=by
 intro pins s σ H xs us Q I r h;obtain⟨a,kvs,ss,rfl,hq,hks,q⟩:=h;obtain⟨u,rfl,rx⟩:=jS r;cases rx;have hh:X.A.handled=none:=I.ok.hd hcm;obtain⟨hz,lo,ws,rel,o,es,ep,ho,hex,hd,hko,hpr,hnd⟩:=dk_of I.hok hq;have hkeys:ws.map (·.1)=ss.map Sum.inr:=by rw[dQ rel,hks]
 have hlen:ws.length=ss.length:=by
  have:=congrArg length hkeys;simpa using this
 have hlk:kvs.length=ss.length:=by
  have:=congrArg length hks;simpa using this
 refine W.kdl_call (W.kdl_dict (knd:=zW X.prog X.w) (kvs:=ws) (ep:=ep) lo) hh ⟨o,es,ho,hex,hd,hko,hpr,hnd⟩ (by omega) fun h' tk acc c' hk hS hacc=>?_;have hla:acc.toList.length=ss.length:=by rw[Array.length_toList,hacc.1,hlen]
 have hv:Vals (ss.map V.str) acc.toList:=by
  refine wp (by rw[length_map,hla]) fun j x y e1 e2=>?_;rw[getElem?_map]at e1;obtain⟨z,hz,rfl⟩:=map_eq_some_iff.mp e1;obtain⟨kk,xx,hkk,his⟩:=hacc.2 j y (by rw[<-Array.getElem?_toList];exact e2);have e3:(ws.map (·.1))[j]? =some kk:=by rw[getElem?_map,hkk];rfl
  rw[hkeys,getElem?_map,hz]at e3;have e4:Sum.inr z=kk:=Option.some.inj e3;subst e4;rcases zP (show xD (Sum.inr z) y=true from his)with⟨i,t,e5,e6⟩|⟨i,t,e5,e6⟩
  ·cases e5
  ·cases e5;exact⟨t,e6⟩
 have hz':(ss.map V.str).length<=sizeLine:=by rw[length_map];omega
 exact⟨.ref _,_,I.laid (t':=tk) hk (le_refl _) (show zU X.prog X.w _ _ _ (.lst (ss.map V.str))from⟨hz',acc.toList,c',hv,by simpa using hS⟩),rfl,q _ (I.hok.fresh (le_refl _))⟩
end
def formsT:List (Str×List Str):=[("rule",["FREE","RULE"]),("add",["NAME","HEAP"]),("take",["NAME","NUMBER"]),("copy",["NAME","FREE"]),("drop",["NAME"]),("undo",[]),("again",[]),("names",[]),("show",["NAME"]),("keeps",["NAME","HEAP"]),("count",["NAME","NUMBER"]),("list",["NAME","NUMBER"]),("match",["NAME","NAME"]),("send",["NAME","NAME","HEAP"]),("steps",["NAME","NAME","HEAP"])]
inductive DArg where
 |rule (r:List (List Int))|heap (h:List Int)|num (n:Int)|name (s:Str)
def ArgV:DArg->V->Hp->Prop
 | .rule r,v,H=>wT r v H
 | .heap h,v,H=>Tup1 h v H
 | .num n,v,_=>v= .int n
 | .name s,v,_=>v= .str s
theorem ArgV.mv{H H':Hp}(t:Tups H H'):∀{a:DArg}{v:V},ArgV a v H->ArgV a v H'
 | .rule _,_,h=>wT.mv t h
 | .heap _,_,h=>Tup1.mv t h
 | .num _,_,h=>h
 | .name _,_,h=>h
def zF(z:Str):Bool:=decide (1<=z.length/\z.length<=8)&&z.cps.toList.all fun c=>decide (97<=c/\c<=122)
def yX(z:Str):Option Int:=if z=Str.ofString "0" then some 0 else if z.length<=9/\kr z=true then some (numV z)else none
def jE(kind z:Str):Option DArg:=if kind=Str.ofString "RULE" then(vQ z).map .rule else if kind=Str.ofString "HEAP" then(ky z).map .heap else if kind=Str.ofString "NUMBER" then(yX z).map .num else if zF z=true then some (.name z)else none
def ju:List Str->List Str->Option (List DArg)
 |k::ks,p::ps=>(jE k p).bind fun a=>(ju ks ps).map (a:: ·)
 | _,_=>some []
def y0(w:Str):Option (List Str):=(formsT.find? fun r=>decide (r.1=w)).map (·.2)
def wR(z:Str):Str:=(Txt.split z jr).headD (Str.ofString "")
def yw(z:Str)(form:List Str):List Str:=Txt.splitMax z jr (form.length:Int)
def vP(z:Str):Option (Str×List DArg):=(y0 (wR z)).bind fun form =>
 if(yw z form).headD (Str.ofString "")=wR z/\form.length<(yw z form).length then(ju form (yw z form).tail).map fun as=>(wR z,as)else none
theorem qN:∀(ps:List (List Nat))(w:List Nat),(∀x∈(w::ps).dropLast,32∉x)->zN ps.length (yV 32 (w::ps))=w::ps
 | [],w,_=>wY w
 |p::ps,w,h=>by
  have hw:32∉w:=h w (by simp[List.dropLast]);show zN (ps.length+1) (w++32::yV 32 (p::ps))=w::p::ps;rw[uZ _ _ hw,qN ps p fun x hx=>h x (by
   cases ps with
   |nil=>simp at hx
   |cons q qs=>simp only[List.dropLast]at hx ⊢;exact mem_cons_of_mem _ hx)]
theorem pf:∀{a b:List Str},a.map (fun w=>w.cps.toList)=b.map (fun w=>w.cps.toList)->a=b
 | [],[],_=>rfl
 | [],_::_,h=>by simp at h
 | _::_,[],h=>by simp at h
 |x::a,y::b,h=>by
  rw[map_cons,map_cons]at h;injection h with h1 h2
  rw[yE h1,pf h2]
theorem rp{z w:Str}{form ps:List Str}(hf:y0 w=some form)(hz:z.cps.toList=yV 32 ((w::ps).map fun x=>x.cps.toList))(hl:ps.length=form.length)(hb:∀x∈(w::ps).dropLast,32∉x.cps.toList)(hw:32∉w.cps.toList) :
  vP z=(ju form ps).map fun as=>(w,as):=by
 have e1:yw z form=w::ps:=by
  refine pf ?_;unfold yw;rw[jo,hz,<-hl];have:=qN (ps.map fun x=>x.cps.toList) w.cps.toList (fun x hx=>by
   have:((w::ps).map fun x=>x.cps.toList).dropLast=(w::ps).dropLast.map fun x=>x.cps.toList:=by rw[List.map_dropLast]
   have hx':x∈((w::ps).dropLast.map fun x=>x.cps.toList):=by rw[<-this];exact hx
   obtain⟨y,hy,rfl⟩:=mem_map.mp hx';exact hb y hy)
  rw[length_map]at this;rw[map_cons];exact this
 have e2:wR z=w:=by
  unfold wR;rw[d5];have h:=jo z (z.length+1);have hh:zN (z.length+1) z.cps.toList=w.cps.toList::(zN (z.length+1) z.cps.toList).tail:=by
   rw[hz];cases ps with
   |nil=>rw[show yV 32 (([w]:List Str).map fun x=>x.cps.toList)=w.cps.toList from rfl,xn _ hw];rfl
   |cons p qs=>rw[show yV 32 ((w::p::qs).map fun x=>x.cps.toList)=w.cps.toList++32::yV 32 ((p::qs).map fun x=>x.cps.toList)from rfl,uZ _ _ hw];rfl
  rw[hh]at h;cases hs:Txt.splitMax z jr ((z.length+1:Nat):Int)with
  |nil=>rw[hs]at h;simp at h
  |cons a r =>
   rw[hs,map_cons]at h;injection h with h1 _
   exact yE h1
 unfold vP;rw[e2,hf];show(if(yw z form).headD _=w/\_ then _ else none)=_;rw[e1,if_pos ⟨rfl,by rw[length_cons];omega⟩];rfl
theorem yU(z:Str):zF z=true↔(1<=z.length/\z.length<=8)/\ ∀c∈z.cps.toList,97<=c/\c<=122:=by
 unfold zF;simp only[and_eq_true,decide_eq_true_eq,all_eq_true]
theorem jt{z:Str}(h:zF z=true):32∉z.cps.toList:=fun m=>by have:=((yU z).mp h).2 32 m;omega
theorem yg{z:Str}(h:zF z=true):jE (Str.ofString "NAME") z=some (.name z)/\jE (Str.ofString "FREE") z=some (.name z):=by
 constructor <;>
 ·unfold jE;rw[if_neg (by decide+kernel),if_neg (by decide+kernel),if_neg (by decide+kernel),if_pos h]
theorem readP_rule(z:Str):jE (Str.ofString "RULE") z=(vQ z).map .rule:=by unfold jE;rw[if_pos rfl]
theorem xb(z:Str):jE (Str.ofString "HEAP") z=(ky z).map .heap:=by unfold jE;rw[if_neg (by decide+kernel),if_pos rfl]
theorem readP_num(z:Str):jE (Str.ofString "NUMBER") z=(yX z).map .num:=by unfold jE;rw[if_neg (by decide+kernel),if_neg (by decide+kernel),if_pos rfl]
theorem cH{n:Int}(h0:0<=n)(h:n<10^9):yX (numS n)=some n:=by
 unfold yX;by_cases e:n=0
 ·subst e;rw[if_pos (by decide+kernel)]
 ·have h1:1<=n:=by omega
  rw[if_neg (fun z=>by
   obtain⟨c,r,e1,e2⟩:=cq h1;rw[z]at e1;rw[show(Str.ofString "0").cps.toList=[48]from by decide+kernel]at e1;injection e1 with e3 _
   exact e2 e3.symm),if_pos ⟨by rw[zJ];exact ya h0 (by decide) h,uP h1 (Int.lt_trans h (by decide))⟩,ma h1 (Int.lt_trans h (by decide))]
theorem pe(x y:Str):(x++y).cps.toList=x.cps.toList++y.cps.toList:=by
 show(x.cps++y.cps).toList=_;rw[Array.toList_append]
theorem line0{w:Str}(hf:y0 w=some [])(hw:32∉w.cps.toList):vP w=some (w,[]):=by
 rw[rp (ps:=[]) hf rfl rfl (fun x hx=>by simp at hx) hw];rfl
theorem line1{z w a:Str}{k:Str}{u:DArg}(hf:y0 w=some [k])(hw:32∉w.cps.toList)(hz:z.cps.toList=w.cps.toList++32::a.cps.toList)(h1:jE k a=some u):vP z=some (w,[u]):=by
 rw[rp (ps:=[a]) hf hz rfl (fun x hx=>by rw[show x=w by simpa using hx];exact hw) hw];simp[ju,h1]
theorem line2{z w a b:Str}{k l:Str}{u v:DArg}(hf:y0 w=some [k,l])(hw:32∉w.cps.toList)(ha:32∉a.cps.toList)(hz:z.cps.toList=w.cps.toList++32::(a.cps.toList++32::b.cps.toList))(h1:jE k a=some u)(h2:jE l b=some v):vP z=some (w,[u,v]):=by
 rw[rp (ps:=[a,b]) hf hz rfl (fun x hx=>by
  have:x=w\/x=a:=by simpa using hx
  rcases this with rfl|rfl
  ·exact hw
  ·exact ha) hw]
 simp[ju,h1,h2]
def zw(S:Std):List Str->List DArg->Option Str
 |k::ks,.name n::as=>if k=Str.ofString "NAME"/\zG S n=none then some n else zw S ks as
 | _::ks,_::as=>zw S ks as
 | _,_=>none
theorem dcut_to(x:Str)(k:Nat):(Txt.slice x none (some (k:Int))).cps.toList=x.cps.toList.take k:=by
 by_cases h:k<=x.cps.toList.length
 ·show(StrLaws.sliceText x none (some (k:Int))).cps.toList=_;rw[StrLaws.sliceText_to ⟨by omega,by omega⟩];simp
 ·have hx:x.length=x.cps.toList.length:=zJ x;have:(Builtin.Str.strSliceIndices none (some (k:Int)) 1 x.length).length=x.length:=by
   unfold Builtin.Str.strSliceIndices sliceRange;simp only[show(1:Int)>0 by decide,if_true,length_map,List.length_range];rw[<-hx]at h
   (split <;>(try split) <;>(try split) <;>(try simp only[Int.ediv_one]) <;>omega)
  unfold Txt.slice;rw[if_pos (by simp[this]),take_of_length_le (by omega)]
theorem tz(x:Str)(k:Nat)(hk:0<k):(Txt.slice x (some (-(k:Int))) none).cps.toList=x.cps.toList.drop (x.length-k):=by
 have hx:x.length=x.cps.toList.length:=zJ x;by_cases h:k<=x.length
 ·show(StrLaws.sliceText x (some (-(k:Int))) none).cps.toList=_;rw[StrLaws.sliceText_from_neg (by omega) (by omega)];simp;rw[show(-(k:Int)+(x.length:Int)).toNat=x.length-k by omega];rw[take_of_length_le (by rw[length_drop,<-hx];have:x.cps.size=x.length:=rfl;omega)]
 ·have:(Builtin.Str.strSliceIndices (some (-(k:Int))) none 1 x.length).length=x.length:=by
   unfold Builtin.Str.strSliceIndices sliceRange;simp only[show(1:Int)>0 by decide,if_true,length_map,List.length_range]
   (split <;>(try split) <;>(try split) <;>(try simp only[Int.ediv_one]) <;>omega)
  unfold Txt.slice;rw[if_pos (by simp[this]),show x.length-k=0 by omega,drop_zero]
def uK:Str:=Str.ofString "abcdefghijklmnopqrstuvwxyz"
theorem pM:uK.cps.toList=[97,98,99,100,101,102,103,104,105,106,107,108,109,110,111,112,113,114,115,116,117,118,119,120,121,122]:=by decide+kernel
theorem in_letters(c:Nat):(!(Builtin.Str.occurrences (Str.ofString "abcdefghijklmnopqrstuvwxyz") ⟨#[c]⟩ 0 (Str.ofString "abcdefghijklmnopqrstuvwxyz").length 1).isEmpty)=decide (97<=c/\c<=122):=by
 rw[StrLaws.found_one,show(Str.ofString "abcdefghijklmnopqrstuvwxyz").cps.toList=_ from pM];congr 1;rw[show([97,98,99,100,101,102,103,104,105,106,107,108,109,110,111,112,113,114,115,116,117,118,119,120,121,122]:List Nat)=(List.range 26).map (97+ ·)by decide+kernel];simp only[mem_map,mem_range,eq_iff_iff];exact⟨fun⟨k,hk,e⟩=>⟨by omega,by omega⟩,fun h=>⟨c-97,by omega,by omega⟩⟩
theorem qu{z wd:Str}{as:List DArg}(h:vP z=some (wd,as)):∃form,wR z=wd/\y0 wd=some form/\ ∃rest,yw z form=wd::rest/\form.length<=rest.length/\ju form rest=some as:=by
 unfold vP at h;obtain⟨form,hf,h⟩:=Option.bind_eq_some_iff.mp h;by_cases c:(yw z form).headD (Str.ofString "")=wR z/\form.length<(yw z form).length
 ·rw[if_pos c]at h;obtain⟨as',ha,e⟩:=map_eq_some_iff.mp h;injection e with e1 e2
  subst e1 e2;refine⟨form,rfl,hf,?_⟩;cases hp:yw z form with
  |nil=>rw[hp]at c;simp at c
  |cons a r =>
   rw[hp]at c ha;have c1:a=wR z:=c.1;have c2:=c.2;rw[length_cons]at c2;exact⟨r,by rw[c1],by omega,ha⟩
 ·rw[if_neg c]at h;cases h
theorem uF{w:Str}{form:List Str}(h:y0 w=some form):(w,form)∈formsT:=by
 unfold y0 at h;obtain⟨p,hp,rfl⟩:=map_eq_some_iff.mp h;have h1:=List.mem_of_find?_eq_some hp;have h2:=List.find?_some hp;have h3:p.1=w:=of_decide_eq_true h2;rw[<-h3];exact h1
theorem b7{w:Str}{form:List Str}(h:y0 w=some form):form.length<=3:=by
 have:=uF h;have k:∀p∈formsT,p.2.length<=3:=by decide+kernel
 exact k _ this
theorem uU:∀{form rest:List Str}{as:List DArg},form.length<=rest.length->ju form rest=some as->as.length=form.length
 | [],rest,as,_,h=>by
  have:ju [] rest=some []:=by cases rest <;>rfl
  rw[this]at h;cases h;rfl
 |k::ks,[],as,hl,h=>by simp at hl
 |k::ks,p::ps,as,hl,h=>by
  simp only[ju]at h;obtain⟨a,ha,h⟩:=Option.bind_eq_some_iff.mp h;obtain⟨bs,hb,rfl⟩:=map_eq_some_iff.mp h;rw[length_cons,length_cons,uU (by simpa using hl) hb]
theorem qx:∀{form rest:List Str}{as:List DArg}(i:Nat){k p:Str},ju form rest=some as->form[i]? =some k->rest[i]? =some p-> ∃a,as[i]? =some a/\jE k p=some a
 | [],_,_,i,_,_,_,h,_=>by simp at h
 | _::_,[],_,i,_,_,_,_,h=>by simp at h
 |k::ks,p::ps,as,0,k',p',h,e1,e2=>by
  simp only[ju]at h;obtain⟨a,ha,h⟩:=Option.bind_eq_some_iff.mp h;obtain⟨bs,hb,rfl⟩:=map_eq_some_iff.mp h;have e1':k=k':=by simpa using e1
  have e2':p=p':=by simpa using e2
  subst e1' e2';exact⟨a,rfl,ha⟩
 |k::ks,p::ps,as,i+1,k',p',h,e1,e2=>by
  simp only[ju]at h;obtain⟨a,ha,h⟩:=Option.bind_eq_some_iff.mp h;obtain⟨bs,hb,rfl⟩:=map_eq_some_iff.mp h;obtain⟨b,h1,h2⟩:=qx i hb (by simpa using e1) (by simpa using e2);exact⟨b,by simpa using h1,h2⟩
theorem split_ne0(z:Str):(Txt.split z jr)[0]? =some (wR z):=by
 unfold wR;have:=bA z jr;cases h:Txt.split z jr with
 |nil=>exact absurd h this
 |cons a r=>rfl
theorem word_le{z w:Str}{form:List Str}(h:w∈yw z form):w.length<=z.length:=by
 unfold yw at h;have h1:=jo z form.length;have h2:w.cps.toList∈zN form.length z.cps.toList:=by rw[<-h1];exact mem_map.mpr ⟨w,h,rfl⟩
 rw[zJ,zJ];have gen:∀(k:Nat)(l w:List Nat),w∈zN k l->w.length<=l.length:=by
  intro k l
  induction l generalizing k with
  |nil=>intro w hw;cases k <;>simp[zN]at hw <;>simp[hw]
  |cons c l ih =>
   intro w hw;cases k with
   |zero=>simp[zN]at hw;rw[hw];simp
   |succ k =>
    simp only[zN]at hw;split at hw
    ·rcases mem_cons.mp hw with rfl|hw
     ·simp
     ·have:=ih k w hw;simp;omega
    ·have ih':=ih (k+1);cases hs:zN (k+1) l with
     |nil=>rw[hs]at hw;simp at hw
     |cons a r =>
      rw[hs]at hw ih';simp only at hw;rcases mem_cons.mp hw with rfl|hw
      ·have:=ih' a (by simp);simp;omega
      ·have:=ih' w (mem_cons_of_mem _ hw);simp;omega
 exact gen _ _ _ h2
def rQ(r:List (List Int)):Prop:=r.length<=6/\ ∀h∈r,h.length<=10/\ ∀x∈h,1<=x/\x<10^60
def u0(S:Std):Prop:=∀ p∈S,p.1.length<=8
theorem u0.put{S:Std}{n:Str}{r:List (List Int)}(h:u0 S)(hn:n.length<=8):u0 (putS S n r):=fun p hp=>by
 rcases bq hp with hp|⟨e,_⟩
 ·exact h p hp
 ·rw[e];exact hn
theorem u0.drop{S:Std}{n:Str}(h:u0 S):u0 (pj S n):=fun p hp=>h p (pq hp)
def PNew(S:Std)(as:List DArg)(n:Str)(r:List (List Int)):Prop:=as=[.name n,.rule r]
def PAdd(S:Std)(as:List DArg)(n:Str)(r:List (List Int)):Prop:=∃ h r0,as=[.name n,.heap h]/\zG S n=some r0/\r0.length<6/\r=r0++[h]
def PTake(S:Std)(as:List DArg)(n:Str)(r:List (List Int)):Prop:=∃(k:Nat)(r0:List (List Int)),as=[.name n,.num (k:Int)]/\zG S n=some r0/\k<r0.length/\r0.length<=1000/\r=r0.eraseIdx k
def PCopy(S:Std)(as:List DArg)(n:Str)(r:List (List Int)):Prop:=∃ a,as=[.name a,.name n]/\zG S a=some r
def dc(S:Std)(as:List DArg):Prop:=∃ n h r0,as=[.name n,.heap h]/\zG S n=some r0/\6<=r0.length
def wS(S:Std)(as:List DArg):Prop:=∃(n:Str)(k:Nat)(r0:List (List Int)),as=[.name n,.num (k:Int)]/\zG S n=some r0/\r0.length<=k
def PNo(_:Std)(_:List DArg):Prop:=False
def PutOf(S:Std)(wd:Str)(as:List DArg)(n:Str)(r:List (List Int)):Prop:=(wd=Str.ofString "rule"/\PNew S as n r)\/(wd=Str.ofString "add"/\PAdd S as n r)\/(wd=Str.ofString "take"/\PTake S as n r)\/(wd=Str.ofString "copy"/\PCopy S as n r)
def cR(S:Std)(past und:List Std)(wd:Str)(as:List DArg)(S':Std)(past' und':List Std):Prop :=
 (wd=Str.ofString "drop"/\ ∃n r,as=[.name n]/\zG S n=some r/\S'=pj S n/\past'=past++[S]/\und'=[])\/
 (wd=Str.ofString "undo"/\as=[]/\past=past'++[S']/\und'=und++[S])\/
 (wd=Str.ofString "again"/\as=[]/\und=und'++[S']/\past'=past++[S])
theorem tH:y0 (Str.ofString "rule")=some [Str.ofString "FREE",Str.ofString "RULE"]:=by decide+kernel
theorem vZ:y0 (Str.ofString "add")=some [Str.ofString "NAME",Str.ofString "HEAP"]:=by decide+kernel
theorem u8:y0 (Str.ofString "take")=some [Str.ofString "NAME",Str.ofString "NUMBER"]:=by decide+kernel
theorem pA:y0 (Str.ofString "copy")=some [Str.ofString "NAME",Str.ofString "FREE"]:=by decide+kernel
theorem pB:y0 (Str.ofString "drop")=some [Str.ofString "NAME"]:=by decide+kernel
theorem u9:y0 (Str.ofString "undo")=some []:=by decide+kernel
theorem wD:y0 (Str.ofString "again")=some []:=by decide+kernel
theorem gK:y0 (Str.ofString "names")=some []:=by decide+kernel
theorem pC:y0 (Str.ofString "show")=some [Str.ofString "NAME"]:=by decide+kernel
theorem uG:y0 (Str.ofString "keeps")=some [Str.ofString "NAME",Str.ofString "HEAP"]:=by decide+kernel
theorem wE:y0 (Str.ofString "match")=some [Str.ofString "NAME",Str.ofString "NAME"]:=by decide+kernel
theorem kW{S:Std}{n:Str}{r:List (List Int)}(k:Str)(ks:List Str)(as:List DArg)(h:zG S n=some r):zw S (k::ks) (.name n::as)=zw S ks as:=by
 rw[zw,if_neg (fun z=>by rw[h]at z;cases z.2)]
theorem nl_free{S:Std}(n:Str)(k:Str)(ks:List Str)(as:List DArg)(hk:k≠Str.ofString "NAME"):zw S (k::ks) (.name n::as)=zw S ks as:=by
 rw[zw,if_neg (fun z=>hk z.1)]
theorem m5(S:Std)(as:List DArg):zw S [] as=none:=by simp[zw]
theorem nl_put{S:Std}{wd:Str}{as:List DArg}{n:Str}{r:List (List Int)}{form:List Str}(h:PutOf S wd as n r)(hf:y0 wd=some form):zw S form as=none:=by
 rcases h with⟨rfl,e⟩|⟨rfl,e⟩|⟨rfl,e⟩|⟨rfl,e⟩
 ·rw[tH]at hf;cases hf;unfold PNew at e;subst e;rw[nl_free _ _ _ _ (by decide+kernel)];simp[zw]
 ·rw[vZ]at hf;cases hf;obtain⟨h,r0,rfl,hl,_⟩:=e;rw[kW _ _ _ hl];simp[zw]
 ·rw[u8]at hf;cases hf;obtain⟨h,r0,rfl,hl,_⟩:=e;rw[kW _ _ _ hl];simp[zw]
 ·rw[pA]at hf;cases hf;obtain⟨a,rfl,hl⟩:=e;rw[kW _ _ _ hl,nl_free _ _ _ _ (by decide+kernel),m5]
theorem nl_move{S S':Std}{past und past' und':List Std}{wd:Str}{as:List DArg}{form:List Str}(h:cR S past und wd as S' past' und')(hf:y0 wd=some form):zw S form as=none:=by
 rcases h with⟨rfl,n,r,rfl,hl,_⟩|⟨rfl,rfl,_⟩|⟨rfl,rfl,_⟩
 ·rw[pB]at hf;cases hf;rw[kW _ _ _ hl,m5]
 ·rw[u9]at hf;cases hf;rfl
 ·rw[wD]at hf;cases hf;rfl
theorem mJ{form rest:List Str}{as:List DArg}(h:ju form rest=some as)(hl:form.length<=rest.length):∀(i:Nat),form[i]? =some (Str.ofString "NAME")-> ∀a,as[i]? =some a-> ∃n,a=DArg.name n:=fun i e a ha=>by
 have hi:=(List.getElem?_eq_some_iff.mp e).1;obtain⟨p,hp⟩:∃p,rest[i]? =some p:=⟨_,getElem?_eq_getElem (by omega)⟩;obtain⟨b,hb,hr⟩:=qx i h e hp;rw[ha]at hb;cases hb;unfold jE at hr;rw[if_neg (by decide+kernel),if_neg (by decide+kernel),if_neg (by decide+kernel)]at hr;split at hr
 ·cases hr;exact⟨_,rfl⟩
 ·cases hr
theorem cG{z wd:Str}{as:List DArg}{form:List Str}(h:vP z=some (wd,as))(hf:y0 wd=some form):as.length=form.length/\ ∀(i:Nat),form[i]? =some (Str.ofString "NAME")-> ∀a,as[i]? =some a-> ∃n,a=DArg.name n:=by
 obtain⟨form',_,hf',rest,_,hl,hps⟩:=qu h;rw[hf]at hf';cases hf';exact⟨uU hl hps,mJ hps hl⟩
theorem nl_step(S:Std):∀(form:List Str)(as:List DArg)(i:Nat){k:Str}{a:DArg},form[i]? =some k->as[i]? =some a->zw S (form.drop i) (as.drop i)=(match a with| .name n=>if k=Str.ofString "NAME"/\zG S n=none then some n else zw S (form.drop (i+1)) (as.drop (i+1))| _=>zw S (form.drop (i+1)) (as.drop (i+1))):=fun form as i k a e1 e2=>by
 have h1:=(List.getElem?_eq_some_iff.mp e1).1;have h2:=(List.getElem?_eq_some_iff.mp e2).1;rw[drop_eq_getElem_cons h1,drop_eq_getElem_cons h2,(List.getElem?_eq_some_iff.mp e1).2,(List.getElem?_eq_some_iff.mp e2).2];cases a <;>simp[zw]
theorem dcatG{K:W.Frag}{H:Hp}{a b:Addr}{xs ys:List V}{Q:VK}(ha:H a=some (.tup xs))(hb:H b=some (.tup ys))(hl:xs.length+ys.length<=sizeLine)(h:∀(p:Addr) (H':Hp),H' p=some (.tup (xs++ys))->Same H H'->Q (.ref p) H'):rCatA K (.ref a) (.ref b) H Q:=by
 refine⟨a,b,xs,ys,rfl,rfl,SqT.of ha,SqT.of hb,hl,fun e=>?_,fun _ e=>?_,fun _ _ p hp=>h p _ z6 (Same.new hp)⟩
 ·subst e;exact h b H hb (Same.refl _)
 ·subst e;exact h a H (by rw[append_nil];exact ha) (Same.refl _)
theorem xA{K:W.Frag}{H:Hp}{a:Addr}{xs:List V}{lo hi:Option Int}{Q:VK}(ha:H a=some (.tup xs))(h:∀(p:Addr) (H':Hp),H' p=some (.tup (cutV xs lo hi))->Same H H'->Q (.ref p) H'):rSlTA K (.ref a) lo hi H Q:=by
 by_cases c:HT.sIx xs.length 0 lo=0/\HT.sIx xs.length xs.length hi=xs.length
 ·refine .inl ⟨a,xs,rfl,SqT.of ha,c,h a H ?_ (Same.refl _)⟩;unfold cutV;rw[c.1,c.2,drop_zero,Nat.sub_zero,take_length];exact ha
 ·exact .inr ⟨a,xs,rfl,SqT.of ha,c,fun p hp=>h p _ z6 (Same.new hp)⟩
theorem wB(xs:List V)(k:Nat)(h:k<xs.length):cutV xs none (some (k:Int))++cutV xs (some ((k:Int)+1)) none=xs.eraseIdx k:=by
 rw[xy,show((k:Int)+1)=((k+1:Nat):Int)by omega,cV,Nat.min_eq_left (by omega),List.eraseIdx_eq_take_drop_succ]
theorem All2.erase{α:Type}{R:α->V->Hp->Prop}{H:Hp}:∀{l:List α}{xs:List V}(k:Nat),All2 R H l xs->All2 R H (l.eraseIdx k) (xs.eraseIdx k)
 | _,_,_,.nil=>.nil
 | _,_,0,.cons _ t=>t
 | _,_,k+1,.cons h t=>.cons h (t.erase k)
theorem All2.unsnoc{α:Type}{R:α->V->Hp->Prop}{H:Hp}:∀{l:List α}{a:α}{xs:List V},All2 R H (l++[a]) xs-> ∃zs v,xs=zs++[v]/\All2 R H l zs/\R a v H
 | [],_,_,.cons h .nil=>⟨[],_,rfl,.nil,h⟩
 | _::_,_,_,.cons h t=>let⟨zs,v,e,a2,hv⟩:=t.unsnoc;⟨_::zs,v,by rw[e];rfl,.cons h a2,hv⟩
theorem pre_cps{w w':Str}(h:w'.cps.toList=w.cps.toList++[32])(a:Str):(w'++a).cps.toList=w.cps.toList++32::a.cps.toList:=by
 rw[pe,h,append_assoc];rfl
def LetS(z:Str):Prop:=∀ c∈z.cps.toList,97<=c/\c<=122
theorem LetS.app{x y:Str}(hx:LetS x)(hy:LetS y):LetS (x++y):=fun c hc=>by
 rw[pe]at hc;rcases mem_append.mp hc with h|h
 ·exact hx c h
 ·exact hy c h
theorem jZ{z:Str}(h:LetS z)(h1:1<=z.length)(h8:z.length<=8):zF z=true:=(yU z).mpr ⟨⟨h1,h8⟩,h⟩
theorem uJ{z:Str}(h:zF z=true):LetS z:=((yU z).mp h).2
theorem zB{z:Str}(h:zF z=true):1<=z.length/\z.length<=8:=((yU z).mp h).1
theorem LetS.to{x:Str}(h:LetS x)(k:Nat):LetS (Txt.slice x none (some (k:Int))):=fun c hc=>by
 rw[dcut_to]at hc;exact h c (List.mem_of_mem_take hc)
theorem LetS.last{x:Str}(h:LetS x)(k:Nat)(hk:0<k):LetS (Txt.slice x (some (-(k:Int))) none):=fun c hc=>by
 rw[tz x k hk]at hc;exact h c (List.mem_of_mem_drop hc)
theorem xz(x:Str)(k:Nat):(Txt.slice x none (some (k:Int))).length=min k x.length:=by
 rw[zJ,dcut_to,length_take,<-zJ]
theorem tD(x:Str)(k:Nat)(hk:0<k):(Txt.slice x (some (-(k:Int))) none).length=min k x.length:=by
 rw[zJ,tz x k hk,length_drop,<-zJ];omega
theorem pL{r:Int}(h0:0<=r)(h1:r<26):∃c:Nat,atI uK.cps.toList r=some c/\97<=c/\c<=122/\(c:Int)=97+r:=by
 obtain⟨j,rfl⟩:∃j:Nat,r=(j:Int):=⟨r.toNat,by omega⟩;have hj:j<26:=by omega
 refine⟨97+j,zp (j:=j) ?_,by omega,by omega,by omega⟩;rw[pM];have:∀j:Fin 26,[97,98,99,100,101,102,103,104,105,106,107,108,109,110,111,112,113,114,115,116,117,118,119,120,121,122][j.1]? =some (97+j.1):=by decide
 exact this ⟨j,hj⟩
theorem LetS.one{c:Nat}(h:97<=c/\c<=122):LetS ⟨#[c]⟩:=fun d hd=>by
 have:d=c:=by simpa using hd
 rw[this];exact h
theorem inV_str(x:Str):∀ss:List Str,inV (.str x) (ss.map V.str)=decide (x∈ss)
 | []=>by simp[inV]
 |y::ss=>by
  have ih:=inV_str x ss;unfold inV at ih ⊢;rw[map_cons,any_cons,ih];have:eqV (V.str y) (V.str x)=decide (x=y):=by
   show(y==x)=_;by_cases h:y=x
   ·subst h;simp
   ·have h':¬x=y:=fun e=>h e.symm;simp[h,h']
  rw[this];by_cases h:x=y
  ·simp[h]
  ·simp[h]
theorem tF(ss:List Str):(ss.map V.str).all u7=true:=by
 rw[all_map];exact all_eq_true.mpr fun _ _=>rfl
def vX(k:Nat):Str:=⟨#[122,122,122,122,122,122,122,97+k]⟩
theorem zName_inj{i j:Nat}(h:vX i=vX j):i=j:=by
 unfold vX at h;injection h with h
 have:=congrArg Array.toList h;simp at this;exact this
theorem zName_name{k:Nat}(h:k<26):zF (vX k)=true:=jZ (fun c hc=>by
 unfold vX at hc;simp at hc;omega) (by decide+kernel:1<=(8:Nat)) (by show(8:Nat)<=8;decide)
theorem zName_eq{k:Nat}{c:Nat}(hc:(c:Int)=97+(k:Int)):(Str.ofString "zzzzzzz")++(⟨#[c]⟩:Str)=vX k:=by
 have e:c=97+k:=by omega
 subst e;exact yE (by rw[pe,show(Str.ofString "zzzzzzz").cps.toList=[122,122,122,122,122,122,122]by decide+kernel];rfl)
theorem gH:∀{l m:List Str},l.Nodup->l⊆m->l.length<=m.length
 | [],_,_,_=>zero_le _
 |x::l,m,nd,sub=>by
  have h:=nodup_cons.mp nd;have hx:x∈m:=sub mem_cons_self;have ih:=gH (m:=m.erase x) h.2 fun y hy=>(List.mem_erase_of_ne (fun(e:y=x)=>h.1 (by rw[<-e];exact hy))).mpr (sub (mem_cons_of_mem _ hy));rw[List.length_erase_of_mem hx]at ih;have:=List.length_pos_of_mem hx;rw[length_cons];omega
theorem few_names{known:List Str}(h:∀i,i<=known.length->vX i∈known):False:=by
 have nd:((List.range (known.length+1)).map vX).Nodup:=List.Pairwise.map _ (fun a b (hab:a≠b) e=>hab (zName_inj e)) List.nodup_range;have sub:((List.range (known.length+1)).map vX)⊆known:=fun x hx=>by
  obtain⟨i,hi,rfl⟩:=mem_map.mp hx;exact h i (by have:=mem_range.mp hi;omega)
 have:=gH nd sub;rw[length_map,List.length_range]at this;omega
def DkL(C:Addr)(H:Hp)(L:List Addr)(x:Addr)(O:List Addr)(S:Std)(past und:List Std):Prop:=DeskAt C H x O S past und/\ ∀b∈O,b∉L
def Trk(H:Hp)(L:List Addr):Prop:=∀ b∈L,∃o,H b=some o
section
variable{C:Addr}{H H':Hp}{L M:List Addr}{x:Addr}{O O':List Addr}{S S':Std}{past und past' und':List Std}
theorem DkL.keep(D:DkL C H L x O S past und)(t:Tups H H')(K:Keep M H H')(sub:∀b∈M,b∈L):DkL C H' L x O S past und :=
 ⟨D.1.keep t K fun b hb m=>D.2 b hb (sub b m),D.2⟩
theorem DkL.same(D:DkL C H L x O S past und)(s:Same H H'):DkL C H' L x O S past und:=⟨D.1.same s,D.2⟩
theorem DkL.after(D:DkL C H L x O S past und)(A:After C H H' x O O' S' past' und')(tr:Trk H L):DkL C H' L x O' S' past' und'/\ ∀b∈L,∀o,H b=some o->H' b=some o:=by
 refine⟨⟨A.desk,fun b hb m=>?_⟩,fun b hb o e=>A.keep b o e fun m=>D.2 b m hb⟩;rcases A.own b hb with h|h
 ·exact D.2 b h m
 ·obtain⟨o,e⟩:=tr b m;rw[h]at e;cases e
end
theorem StAt.mv{H H':Hp}{st ga ca:Addr}{N:Nat}(S:StAt H st ga ca N)(k:∀b∈[st,ga,ca],∀o,H b=some o->H' b=some o):StAt H' st ga ca N:=by
 obtain⟨⟨gs,cs,q,n,h1,h2,h3,h4⟩,a,b,c⟩:=S;exact⟨⟨gs,cs,q,n,k _ (by simp) _ h1,k _ (by simp) _ h2,k _ (by simp) _ h3,h4⟩,a,b,c⟩
theorem StAt.trk{H:Hp}{st ga ca:Addr}{N:Nat}(S:StAt H st ga ca N):Trk H [st,ga,ca]:=by
 obtain⟨⟨gs,cs,q,n,h1,h2,h3,h4⟩,_⟩:=S;intro b hb;have:b=st\/b=ga\/b=ca:=by simpa using hb
 rcases this with rfl|rfl|rfl
 ·exact⟨_,h1⟩
 ·exact⟨_,h2⟩
 ·exact⟨_,h3⟩
theorem tups_upd{H:Hp}{a:Addr}{o u:HO}(h:H a=some u)(n:∀xs,u≠ .tup xs):Tups H (upd H a o):=fun b xs e=>by
 have:b≠a:=fun z=>by subst z;rw[h]at e;exact n xs (Option.some.inj e)
 rw[zh this];exact e
def yo(r:List (List Int)):Prop:=r.length<=6/\ ∀h∈r,h.length<=10/\IsHeap 60 (10^60) h
theorem yo.fine{r:List (List Int)}(h:yo r):rQ r:=⟨h.1,fun x hx=>⟨(h.2 x hx).1,(h.2 x hx).2.bd⟩⟩
theorem yo.reads{r:List (List Int)}(h:yo r):jE (Str.ofString "RULE") (rtxt r)=some (.rule r):=by
 rw[readP_rule,readR_rtxt h.1 fun x hx=>(h.2 x hx).2];rfl
theorem ub{w w':Str}(h:w'.cps.toList=w.cps.toList++[32])(a b:Str):(((w'++a)++Str.ofString " ")++b).cps.toList=w.cps.toList++32::(a.cps.toList++32::b.cps.toList):=by
 rw[pe,pe,pre_cps h,show(Str.ofString " ").cps.toList=[32]by decide+kernel];simp
theorem deskAt_new{C:Addr}{H H':Hp}{x dx:Addr}{O:List Addr}(nx:H x=none)(ndx:H dx=none)(ne:x≠dx\/dx≠x)(k:∀b o,upd (upd H dx (.own x)) x (.ins C dx []) b=some o->b≠x->H' b=some o)(ho:∀b∈O,b=x\/upd (upd H dx (.own x)) x (.ins C dx []) b=none):Same H H'/\ ∀b∈O,H b=none:=by
 have hne:dx≠x:=ne.elim (fun h=>h.symm) id;constructor
 ·intro b o e;have n1:b≠x:=zr e nx;have n2:b≠dx:=zr e ndx;exact k b o (by rw[zh n1,zh n2];exact e) n1
 ·intro b hb;rcases ho b hb with rfl|h
  ·exact nx
  ·by_cases e1:b=x
   ·rw[e1];exact nx
   ·rw[zh e1]at h;by_cases e2:b=dx
    ·rw[e2];exact ndx
    ·rw[zh e2]at h;exact h
structure WL(C:Addr)(H:Hp)(st ga ca x:Addr)(B:List (Addr×HO))(O:List Addr)(N:Nat)(S:Std)(past und:List Std):Prop where
 s:StAt H st ga ca N
 d:DkL C H ([st,ga,ca]++B.map (·.1)) x O S past und
 bx:∀p∈B,H p.1=some p.2/\p.1∉[st,ga,ca]
 nd:(B.map (·.1)).Nodup
namespace WL
variable{C:Addr}{H H':Hp}{st ga ca x:Addr}{B:List (Addr×HO)}{O O':List Addr}{N N':Nat}{S S':Std}{past past' und und':List Std}
theorem mono(W0:WL C H st ga ca x B O N S past und)(h:N<=N'):WL C H st ga ca x B O N' S past und:=⟨W0.s.mono h,W0.d,W0.bx,W0.nd⟩
theorem same(W0:WL C H st ga ca x B O N S past und)(s:Same H H'):WL C H' st ga ca x B O N S past und :=
 ⟨W0.s.same s,W0.d.same s,fun p hp=>⟨s _ _ (W0.bx p hp).1,(W0.bx p hp).2⟩,W0.nd⟩
theorem drawn(W0:WL C H st ga ca x B O N S past und)(S':StAt H' st ga ca N')(K:Keep [st,ga] H H'):WL C H' st ga ca x B O N' S past und:=by
 have t:=K.tups W0.s;refine⟨S',W0.d.keep t K fun b hb=>?_,fun p hp=>⟨K.at (W0.bx p hp).1 (nin2 (W0.bx p hp).2),(W0.bx p hp).2⟩,W0.nd⟩;have:b=st\/b=ga:=by simpa using hb
 rcases this with rfl|rfl <;>simp
theorem trk(W0:WL C H st ga ca x B O N S past und):Trk H ([st,ga,ca]++B.map (·.1)):=fun b hb=>by
 rcases mem_append.mp hb with hb|hb
 ·exact W0.s.trk b hb
 ·obtain⟨p,hp,rfl⟩:=mem_map.mp hb;exact⟨_,(W0.bx p hp).1⟩
theorem desk(W0:WL C H st ga ca x B O N S past und)(A:After C H H' x O O' S' past' und'):WL C H' st ga ca x B O' N S' past' und':=by
 obtain⟨d',k⟩:=W0.d.after A W0.trk;exact⟨W0.s.mv fun b hb o e=>k b (List.mem_append_left _ hb) o e,d',fun p hp=>⟨k p.1 (mem_append_right _ (mem_map.mpr ⟨p,hp,rfl⟩)) _ (W0.bx p hp).1,(W0.bx p hp).2⟩,W0.nd⟩
theorem push(W0:WL C H st ga ca x B O N S past und){l:Addr}{o:HO}(h:H l=none):WL C (upd H l o) st ga ca x ((l,o)::B) O N S past und:=by
 have s:=Same.new (o:=o) h;have W':=W0.same s;have nl0:l∉[st,ga,ca]++B.map (·.1):=fun m=>by obtain⟨u,e⟩:=W0.trk l m;rw[h]at e;cases e
 refine⟨W'.s,⟨W'.d.1,fun b hb m=>?_⟩,fun p hp=>?_,?_⟩
 ·have:b=l\/b∈[st,ga,ca]++B.map (·.1):=by
   simp only[map_cons,mem_append,mem_cons]at m ⊢;rcases m with m|m|m
   ·exact .inr (.inl m)
   ·exact .inl m
   ·exact .inr (.inr m)
  rcases this with rfl|h'
  ·exact W0.d.1.nin h hb
  ·exact W0.d.2 b hb h'
 ·rcases mem_cons.mp hp with rfl|hp
  ·exact⟨z6,fun m=>nl0 (List.mem_append_left _ m)⟩
  ·exact W'.bx p hp
 ·rw[map_cons,nodup_cons];exact⟨fun m=>nl0 (mem_append_right _ m),W0.nd⟩
end WL
theorem WL.new{C:Addr}{H H':Hp}{st ga ca x:Addr}{B:List (Addr×HO)}{O:List Addr}{N:Nat}(S:StAt H st ga ca N)(bx:∀p∈B,H p.1=some p.2/\p.1∉[st,ga,ca])(nd:(B.map (·.1)).Nodup)(D:DeskAt C H' x O [] [] [])(s:Same H H')(f:∀b∈O,H b=none):WL C H' st ga ca x B O N [] [] []:=by
 refine⟨S.same s,⟨D,fun b hb m=>?_⟩,fun p hp=>⟨s _ _ (bx p hp).1,(bx p hp).2⟩,nd⟩;have hf:=f b hb;rcases mem_append.mp m with m|m
 ·obtain⟨o,e⟩:=S.trk b m;rw[hf]at e;cases e
 ·obtain⟨p,hp,rfl⟩:=mem_map.mp m;rw[(bx p hp).1]at hf;cases hf
inductive Walks(L:Nat):Nat->List Bool->Nat->Prop
 |nil (h:Nat):h<L->Walks L h [] h
 |again {h e:Nat} {ws:List Bool}:Walks L (h+1) ws e->Walks L h (true::ws) e
 |undo {h e:Nat} {ws:List Bool}:h+1<L->Walks L h ws e->Walks L (h+1) (false::ws) e
theorem FS{N P:List Str}{sc:Scope}(kind:sc.kind= .function:=by rfl)(co:sc.isCoroutine=false:=by rfl)(gen:sc.isGenerator=false:=by rfl)(nd:N.Nodup:=by decide+kernel)(pre:N.take P.length=P:=by rfl)(par:∀x∈P,sc.names.lookup x=some .local\/sc.names.lookup x=some .cell:=by decide+kernel)(nofree:∀y∈sc.names,y.2≠ .free:=by decide+kernel):FnScope N P sc:=⟨kind,co,gen,nd,pre,par,nofree⟩
structure FB(K:W.Frag)(mg:Str->Option Value)(q:Str)(st:Stmt)(a:Addr)(fd:FuncData)(ps:List Str):Prop where
 F:Fun K q q st a fd
 b:wZ K fd ps []
 g:mg q=some (.ref a)
structure MB(K:W.Frag)(C:Addr)(m q:Str)(st:Stmt)(a:Addr)(fd:FuncData)(ps:List Str):Prop where
 F:Fun K m q st a fd
 b:wZ K fd ps []
 n:W.findIn K (.ref C) m=some (some (.ref a))
 i:W.isFn K (.ref a)=true
theorem MB.mt{K:W.Frag}{C:Addr}{m q:Str}{st:Stmt}{a:Addr}{fd:FuncData}{ps:List Str}(h:MB K C m q st a fd ps):Meth K C m a:=⟨h.n,h.i,h.F.kp⟩
def AllN:Nat->(List Value->Prop)->Prop
 | 0,p=>p []
 |n+1,p=>∀ v,AllN n fun l=>p (v::l)
theorem AllN.get:∀{n:Nat}{p:List Value->Prop},AllN n p-> ∀us:List Value,us.length=n->p us
 | 0,_,h,[],_=>h
 | _+1,_,h,v::us,e=>AllN.get (h v) us (Nat.succ.inj e)
section
variable{K:W.Frag}{h:Heap}{mg:Str->Option Value}{x q:Str}{st:Stmt}{a C:Addr}{oc:Value}{od an:Option Addr}{osl:Array (Option Value)}{kV doc pm cdv ct:Value}{ps:List Str}
def BindN(x q:Str)(st:Stmt)(ps:List Str):Prop:=∀(kV doc pm:Value)(an:Option Addr)(cdv ct:Value),AllN ps.length fun us=>bindArgs (W.fnOf x q (jB st) (kQ st) (z7 st) .none kV doc pm an cdv ct) ⟨us,[]⟩=pure (ps.zip us)
theorem FB.of(X:K.In h)(G:h.Ns mainGlobals mg)(n:W.nsIn K mainGlobals q=some (some (.ref a)))(l:K.lookup a=some ⟨oc,od,.func (W.fnOf q q (jB st) (kQ st) (z7 st) .none kV doc pm an cdv ct),osl⟩)(c:W.codeIn K cdv q=true)(k:W.keepIn K (.ref a)=true)(b:BindN q q st ps) :
  FB K mg q st a (W.fnOf q q (jB st) (kQ st) (z7 st) .none kV doc pm an cdv ct) ps :=
 ⟨b8 l c k,(b8 l c k).binds fun _ _ _ _ _ _ us e=>(b _ _ _ _ _ _).get us e,W.mg_of X G n⟩
theorem MB.of(n:W.findIn K (.ref C) x=some (some (.ref a)))(i:W.isFn K (.ref a)=true)(l:K.lookup a=some ⟨oc,od,.func (W.fnOf x q (jB st) (kQ st) (z7 st) .none kV doc pm an cdv ct),osl⟩)(c:W.codeIn K cdv q=true)(k:W.keepIn K (.ref a)=true)(b:BindN x q st ps) :
  MB K C x q st a (W.fnOf x q (jB st) (kQ st) (z7 st) .none kV doc pm an cdv ct) ps :=
 ⟨b8 l c k,(b8 l c k).binds fun _ _ _ _ _ _ us e=>(b _ _ _ _ _ _).get us e,n,i⟩
end
abbrev rowI{t:Tok}{v:Addr}(s:Str):Str×Tok×Value:=(s,t,.ref v)
abbrev colI{t:Tok}(s:Str):Str×Tok:=(s,t)
theorem mgI{K:W.Frag}{h:Heap}{mg:Str->Option Value}{x:Str}{n:Int}{t:Tok}(X:K.In h)(G:h.Ns mainGlobals mg)(e:W.nsIn K mainGlobals x=some (some (.int n t))):∃t,mg x=some (.int n t):=⟨_,W.mg_of X G e⟩
theorem mgS{K:W.Frag}{h:Heap}{mg:Str->Option Value}{x z:Str}{t:Tok}(X:K.In h)(G:h.Ns mainGlobals mg)(e:W.nsIn K mainGlobals x=some (some (.str z t))):∃t,mg x=some (.str z t):=⟨_,W.mg_of X G e⟩
section
variable{X:Cx}{e e2 e3:Expr}{te te2 te3:TE}{pos:Pos}
theorem pa1(ha:PE X e te)(hs:starEach [e] X.env=(false,eval e X.env)::starEach [] X.env:=by rfl):PA X [e] (yT te tNil):=kx ha kY hs
theorem pa2(ha:PE X e te)(hb:PE X e2 te2)(hs:starEach [e,e2] X.env=(false,eval e X.env)::starEach [e2] X.env:=by rfl)(h2:starEach [e2] X.env=(false,eval e2 X.env)::starEach [] X.env:=by rfl):PA X [e,e2] (yT te (yT te2 tNil)):=kx ha (pa1 hb h2) hs
theorem pa3(ha:PE X e te)(hb:PE X e2 te2)(hc:PE X e3 te3)(hs:starEach [e,e2,e3] X.env=(false,eval e X.env)::starEach [e2,e3] X.env:=by rfl)(h2:starEach [e2,e3] X.env=(false,eval e2 X.env)::starEach [e3] X.env:=by rfl)(h3:starEach [e3] X.env=(false,eval e3 X.env)::starEach [] X.env:=by rfl):PA X [e,e2,e3] (yT te (yT te2 (yT te3 tNil))):=kx ha (pa2 hb hc h2 h3) hs
theorem pset(i:Nat){x:Str}{pos':Pos}(hN:X.N.Nodup)(he:PE X e te)(hi:X.N[i]? =some x:=by rfl)(hx:Loc X.env.scope x:=by first|exact Or.inl rfl|exact Or.inr rfl)(hs:swapsWith e (some (.Name x pos')) pos.line X.env=pure false:=by rfl)(hf:X.fn x=true\/X.env.scope.names.lookup x=some .local:=by first|exact .inl rfl|exact .inr rfl|assumption) :
  PS X (.Assign [.Name x pos'] e pos) (tAsg te (jX i)):=ps_set hN hi hx he hs hf
theorem pgn(i:Nat){x:Str}(hN:X.N.Nodup)(hi:X.N[i]? =some x:=by rfl)(hx:Loc X.env.scope x:=by first|exact Or.inl rfl|exact Or.inr rfl)(hf:X.fn x=true\/X.env.scope.names.lookup x=some .local:=by first|exact .inl rfl|exact .inr rfl|assumption):PG X (.Name x pos) (jX i):=cB hN hi hx hf
theorem pcl{cm:Bool}{j k:Nat}{f:Addr}{fd:FuncData}{ps:List Str}{sp:Sp}{x:Str}{p:Pos}{es:List Expr}{t:TA}{st:Stmt}(F:FnOk X.prog X.w X.K X.mg X.base CX0 j f fd ps sp cm)(hr:Room k X.A cm)(B:FB X.K X.mg x st f fd ps)(ha:PA X (e::es) t)(hg:Gl X x:=by rfl)(hj:j<=k:=by decide)(hdb:(x==("__debug__" : Str))=false:=by decide)(he:starEach (e::es) X.env=(false,eval e X.env)::starEach es X.env:=by rfl)(hpl:(backTo pos (starEach es X.env)).any (·.1)=false:=by rfl) :
  PE X (.Call (.Name x p) (e::es) [] pos) (tCall sp [] E0 t):=yh F (hr.mono hj) hg B.g B.F.kp B.b .nil wX ha hdb he hpl
theorem pcm{op:CmpOp}{r:R2}(ho:OpR X (compareOp op) r)(ha:PE X e te)(hb:PE X e2 te2)(h:op≠ .In:=by decide)(h2:op≠ .NotIn:=by decide):PE X (.Compare e [op] [e2] pos) (tOp r te te2):=rc ho ha hb (zu _ h h2)
theorem pix{r:R2}(hr:IxR X r)(ha:PE X e te)(hb:PE X e2 te2)(hs:PlainIx e2:=by exact fun _ _=>rfl):PE X (.Subscript e e2 pos) (tOp r te te2):=pe_ix hr ha hb hs
theorem csf{scope:Scope}{ls:List Str}{fr:List (Str×Nat)}(sc:Scope)(N:List Str)(h1:X.env.scope=sc:=by rfl)(h2:X.N=N:=by rfl)(h:xw sc N scope fr=true:=by decide+kernel):CScope X scope ls fr:=cs_of sc N h1 h2 h
end
end L2
namespace L2
section
variable{t1 t2 t3 t4 t5 t6 t7 t8 u:TS}{D:Ends}{σ:St}{H:Hp}
theorem cut1(h:∀nx,nx=u D->t1 {D with nx:=nx} σ H):tSeq t1 u D σ H:=h _ rfl
theorem cut4(h:∀nx,nx=u D->tSeq t1 (tSeq t2 (tSeq t3 t4)) {D with nx:=nx} σ H):tSeq t1 (tSeq t2 (tSeq t3 (tSeq t4 u))) D σ H:=h _ rfl
end
end L2
namespace L2
open PySem PySem.Spec PyProof.Rows
abbrev TJ:=St->Hp->Str->(Str->Hp->Prop)->Prop
def PJ(X:Cx)(es:List Expr)(t:TJ):Prop:=∀(pins:List (Addr×Obj))(s:Shared)(σ:L2.St)(H:Hp)(out:Str)(Q:Str->Hp->Prop),Inv X pins σ H s->t σ H out Q->
 wpAny (model X.prog X.w) X.A (joinParts out (evalEach es X.env)) (EP X pins σ fun v H'=>∃ z,v= .str z/\Q z H') X.xe s
def jNil:TJ:=fun _ H out Q=>out.length<=sizeLine/\Q out H
def jStr(x:Str)(t:TJ):TJ:=fun σ H out Q=>(out++x).length<=sizeLine/\t σ H (out++x) Q
def jVal(te:TE)(t:TJ):TJ:=fun σ H out Q=>te σ H fun v H1=>∃ z:Str,((∃i:Int,v= .int i/\i.natAbs.log2<1920/\z=toString i)\/v= .str z)/\z.length<=sizeLine/\(out++z).length<=sizeLine/\t σ H1 (out++z) Q
section
variable{X:Cx}
theorem uj(hs:evalEach [] X.env=[]:=by rfl):PJ X [] jNil:=by
 intro pins s σ H out Q I h;rw[hs];exact joinParts_nil ⟨.str out,H,I.tok _,⟨_,rfl⟩,out,rfl,h.2⟩ h.1
theorem kj{x:Str}{j:Nat}{p:Pos}{es:List Expr}{t:TJ}(ht:PJ X es t)(hs:evalEach (.Constant (.str x) j p::es) X.env=eval (.Constant (.str x) j p) X.env::evalEach es X.env:=by rfl):PJ X (.Constant (.str x) j p::es) (jStr x t):=by
 intro pins s σ H out Q I h;rw[hs];exact joinParts_cons (Calls.Constant_str ⟨h.1,ht pins _ σ H _ Q (I.tok _) h.2⟩)
theorem jh{e:Expr}{p:Pos}{es:List Expr}{te:TE}{t:TJ}(he:PE X e te)(ht:PJ X es t)(hs:evalEach (.FormattedValue e (-1) none p::es) X.env=eval (.FormattedValue e (-1) none p) X.env::evalEach es X.env:=by rfl):PJ X (.FormattedValue e (-1) none p::es) (jVal te t):=by
 intro pins s σ H out Q I h;rw[hs];refine joinParts_cons (FormattedValue_plain (thn (he pins _ σ H _ I h) fun v s1 ⟨y,H1,I2,r,z,hz,l1,l2,q⟩=>?_));rcases hz with⟨i,rfl,hd,rfl⟩|rfl
 ·obtain⟨t',rfl⟩:=r;exact formatField_int_small hd ⟨l2,ht pins _ σ H1 _ Q ((I2.tok _).tok _) q⟩
 ·obtain⟨t',rfl⟩:=r;refine formatField_str (fun t'' tk=>?_) l1;exact⟨l2,ht pins _ σ H1 _ Q (I2.tok tk) q⟩
def tJs(t:TJ):TE:=fun σ H Q=>t σ H Str.empty fun z H'=>Q (.str z) H'
theorem rg{e1 e2:Expr}{es:List Expr}{pos:Pos}{t:TJ}(ht:PJ X (e1::e2::es) t)(hs:evalEach (e1::e2::es) X.env=eval e1 X.env::eval e2 X.env::evalEach es X.env:=by rfl):PE X (.JoinedStr (e1::e2::es) pos) (tJs t):=by
 intro pins s σ H Q I h;refine JoinedStr_many ?_;rw[<-hs];refine thn (ht pins s σ H Str.empty _ I h) fun v s1 ⟨y,H1,I1,r,z,e,q⟩=>?_;subst e;exact⟨.str z,H1,I1,r,q⟩
end
end L2
namespace L2
open PySem PySem.Spec PyProof.Rows PySem.W
def xMeth(C:Addr)(m:Str)(sp:Sp)(dvs:List V)(ta:TE)(t:TA):TX:=fun σ H Q E=>ta σ H fun x H1=>∃ a dx fs,x= .ref a/\H1 a=some (.ins C dx fs)/\fs.lookup m=none/\t σ H1 fun vs H2=>sp ((.ref a::vs)++dvs) H2 Q E
theorem px_meth{X:Cx}{k:Nat}{f C:Addr}{fd:FuncData}{ps:List Str}{sp:Sp}{dvs:List V}{ds:List Value}{m:Str}{pos apos:Pos}{o e:Expr}{es:List Expr}{ta:TE}{t:TA}{cm:Bool}{pl:Sem Bool}(he:PE X.nox o ta)(c:Cls X.K C)(hm:Meth X.K C m f)(F:FnOk X.prog X.w X.K X.mg X.base (CX1 X.prog X.w) k f fd ps sp cm)(hr:Room k X.A cm)(hb:wZ X.K fd ps ds)(hd:Vals dvs ds)(ha:PA X.nox (e::es) t)(hst:starEach (e::es) X.env=(false,eval e X.env)::starEach es X.env:=by rfl)(hpl:(backTo pos (starEach es X.env)).any (·.1)=false:=by rfl)(ht:eval (.Call (.Attribute o m apos) (e::es) [] pos) X.env=(do
   let ov <-eval o X.env
   standAt apos.atName
   let(f,first) <-holding [ov] (getMethod ov m pl)
   callWith pos f first (backTo pos (starEach (e::es) X.env)) (backToKw pos (keywordEach [] X.env))):=by rfl):PX X (.Call (.Attribute o m apos) (e::es) [] pos) (xMeth C m sp dvs ta t):=by
 intro pins s σ H Q E I h;have hO:=wpAny_mono (he pins s σ H _ (I.wish _) h) (fun us s1 q=>q) (E':=fun ev s'=>∃ H1 s1,Inv X pins σ H1 s1/\CX1 X.prog X.w X.stack H1 s1 E ev s') fun _ _ z=>False.elim z;refine W.methodCall_KW (pl:=pl) (thn hO fun u s1 ⟨x,H1,I1,rx,a,dx,fs,ex,ea,l,q⟩=>?_) ht;subst ex;obtain rfl:u=Value.ref a:=rx;have J1:=I1.unwish;refine uH J1 ea c hm l ?_;have hA:=wpAny_mono (ha pos pins s1 σ H1 _ I1 q) (fun us s1 q=>q) (E':=fun ev s'=>∃ H1 s1,Inv X pins σ H1 s1/\CX1 X.prog X.w X.stack H1 s1 E ev s') fun _ _ z=>False.elim z;refine W.callWith_K (first:=[.ref a]) (h₀:=X.base) I.ok.mod.kin hm.kp (thn hA fun us s2 ⟨vs,H2,I2,r,q2⟩=>⟨I2.kIn,?_⟩) hst hpl;have I1':=I2.unwish;have r2:Vals ((.ref a::vs)++dvs) ((.ref a::us)++ds):=Vals.append (.cons rfl r) hd;have hl:((.ref a::us)++ds).length=ps.length:=by rw[<-r2.length];exact F.len _ _ _ _ q2
 refine wpAny_call (codeAny_mono (F.run X.A X.stack s2 H2 ⟨.ref a::us,[]⟩ ((.ref a::us)++ds) ((.ref a::vs)++dvs) Q E hr I1'.env0 (hb s2 (.ref a::us) I1'.kIn hl) r2 q2) fun r s' hq=>?_);cases r with
 |error e=>exact⟨H2,s2,I1',hq⟩
 |ok fl=>cases fl with
  |ret u=>exact I1'.after hq
  | _=>exact False.elim hq
def xTup2(c:Str)(tx:TX):TX:=fun σ H Q E=>tx σ H (fun v H1=>∀ p,H1 p=none->Q (.ref p) (upd H1 p (.tup [.str c,v]))) E
theorem px_tup2{X:Cx}{c:Str}{j x1:Nat}{p pos:Pos}{e:Expr}{tx:TX}(hx:PX X e tx)(hs:starEach [.Constant (.str c) j p,e] X.env=[(false,eval (.Constant (.str c) j p) X.env),(false,eval e X.env)]:=by rfl):PX X (.Tuple [.Constant (.str c) j p,e] x1 pos) (xTup2 c tx):=by
 intro pins s σ H Q E I h;refine wpAny_Tuple_spliced ?_;rw[hs];show wpAny _ _ (spliced [(false,eval (.Constant (.str c) j p) X.env),(false,eval e X.env)]) _ _ s;refine Calls.spliced_cons (Calls.Constant_str ?_);refine Calls.spliced_cons (thn (hx pins _ σ H _ E (I.tok _) h) fun u s1 ⟨x,H1,I1,r1,q1⟩=>Calls.spliced_nil ?_);have hf:H1 s1.heap.objs.size=none:=I1.hok.fresh (le_refl _);refine⟨by show 2<=sizeLine;decide,.ref s1.heap.objs.size,upd H1 s1.heap.objs.size (.tup [.str c,x]),I1.laid (t':=s1.toks) (fun b u e=>Heap.get?_push_of_some _ e) (le_refl _) ?_,rfl,q1 _ hf⟩;exact⟨by show 2<=sizeLine;decide,[_,_],.cons ⟨_,rfl⟩ (.cons r1 .nil),⟨_,Heap.get?_push_size _ rfl,rfl,_,rfl⟩,jy⟩
end L2
namespace L2
open PySem PySem.Spec PyProof.Rows
def keepT(r:List (List Int))(h:List Int):Str:=match jV r h with
 |none=>Str.ofString "yes"
 |some z=>Str.ofString "no "++numS z
theorem cZ{r:List (List Int)}{h:List Int}{z:Int}(hl:r.length<=60)(e:jV r h=some z):0<=z/\z<60:=by
 unfold jV idxG at e;have:=idxP_lt (List.mem_of_mem_head? (by rw[e];rfl:z∈(idxP r h r.length).head?));omega
def lineK(n:Str)(h:List Int):Str:=((Str.ofString "keeps "++n)++Str.ofString " ")++txt h
section
variable{S:Std}{p u:List Std}{n:Str}{r:List (List Int)}{hs:List Int}{sm g:Nat}
theorem lineK_len{n:Str}{hs:List Int}(hn:zF n=true)(hh:IsHeap 60 (10^60) hs)(hl:hs.length<=10):(lineK n hs).length<=20000:=by
 have l:=zB hn;have l2:(txt hs).length<=10000:=txt_len (by omega) fun x hx=>⟨(hh.bd x hx).1,le_of_lt (hh.bd x hx).2⟩;have lb:(Str.ofString " ").length=1:=by decide+kernel
 have lk:(Str.ofString "keeps ").length=6:=by decide+kernel
 unfold lineK;simp only[zO];omega
theorem read_keeps(hn:zF n=true)(hh:IsHeap 60 (10^60) hs):vP (lineK n hs)=some (Str.ofString "keeps",[.name n,.heap hs]) :=
 line2 uG (by decide+kernel) (jt hn) (ub (by decide+kernel) n _) (yg hn).1 (by rw[xb,wq hh];rfl)
end
inductive Plan where
 |rule (n:Str) (r:List (List Int))
 |add (n:Str) (h:List Int)
 |take (n:Str) (k:Nat)
 |copy (n m:Str)
 |drop (n:Str)
 |move (w:Str)
def PlanV:Plan->Addr->Hp->Prop
 | .rule n r,q,H=>∃ v,H q=some (.tup [.str (Str.ofString "rule"),.str n,v])/\wT r v H
 | .add n h,q,H=>∃ p,H q=some (.tup [.str (Str.ofString "add"),.str n,.ref p])/\H p=some (.tup (h.map V.int))
 | .take n k,q,H=>H q=some (.tup [.str (Str.ofString "take"),.str n,.int (k:Int)])
 | .copy n m,q,H=>H q=some (.tup [.str (Str.ofString "copy"),.str n,.str m])
 | .drop n,q,H=>H q=some (.tup [.str (Str.ofString "drop"),.str n])
 | .move w,q,H=>H q=some (.tup [.str w])
theorem PlanV.mv{H H':Hp}(t:Tups H H'):∀{P:Plan}{q:Addr},PlanV P q H->PlanV P q H'
 | .rule _ _,_,⟨v,h,r⟩=>⟨v,t _ _ h,r.mv t⟩
 | .add _ _,_,⟨p,h,r⟩=>⟨p,t _ _ h,t _ _ r⟩
 | .take _ _,_,h=>t _ _ h
 | .copy _ _,_,h=>t _ _ h
 | .drop _,_,h=>t _ _ h
 | .move _,_,h=>t _ _ h
def rS(names:List Str):Plan->Prop
 | .rule n r=>n∈names/\yo r
 | .add n h=>n∈names/\h.length<=10/\IsHeap 60 (10^60) h
 | .take n k=>n∈names/\k<=6
 | .copy n m=>n∈names/\m∈names
 | .drop n=>n∈names
 | .move w=>w=Str.ofString "undo"\/w=Str.ofString "again"
theorem xL{names:List Str}{r:Int}(h4:names.length=4)(h0:0<=r)(h1:r<4):∃n∈names,atI (names.map V.str) r=some (.str n):=by
 obtain⟨k,rfl⟩:∃k:Nat,r=(k:Int):=⟨r.toNat,by omega⟩;have hk:k<names.length:=by omega
 exact⟨names[k],getElem_mem hk,zp (by rw[getElem?_map,getElem?_eq_getElem hk];rfl)⟩
variable{X:Cx}
def qR(v:V)(z:Str):Prop:=(∃i:Int,v= .int i/\i.natAbs.log2<1920/\z=toString i)\/v= .str z
theorem tu:kM X (.type "str") (fun xs H Q=>∃ v z,xs=[v]/\qR v z/\Q (.str z) H):=by
 intro pins s σ H xs us Q I r h;obtain⟨v,z,rfl,hv,q⟩:=h;obtain⟨u,rfl,r1⟩:=jS r;rcases hv with⟨i,rfl,hz,rfl⟩|rfl
 ·obtain⟨t,rfl⟩:=r1;exact PySem.P.str_of_int hz ⟨.str _,H,I.tok _,⟨_,rfl⟩,q⟩
 ·obtain⟨t,rfl⟩:=r1;exact PySem.P.str_of_str ⟨.str _,H,I,⟨_,rfl⟩,q⟩
def pN:Plan->Str
 | .rule n r=>((Str.ofString "rule "++n)++Str.ofString " ")++rtxt r
 | .add n h=>((Str.ofString "add "++n)++Str.ofString " ")++txt h
 | .take n k=>Txt.join (Str.ofString " ") [Str.ofString "take",n,numS (k:Int)]
 | .copy n m=>Txt.join (Str.ofString " ") [Str.ofString "copy",n,m]
 | .drop n=>Txt.join (Str.ofString " ") [Str.ofString "drop",n]
 | .move w=>w
end L2
namespace L2
open PySem PySem.Spec PyProof.Rows
inductive DueN where
 |told (z:Str)
 |name (n:Str)
 |bare (w:Str)
def DueN.vals:DueN->List V
 | .told z=>[.str (Str.ofString "told"),.str z]
 | .name n=>[.str (Str.ofString "name"),.str n]
 | .bare w=>[.str w,.int 0]
def rR(S:Std):Plan->Std->DueN->Prop
 | .rule n r,S',d=>S'=putS S n r/\d= .told (rtxt r)
 | .add n h,S',d=>(zG S n=none/\S'=S/\d= .name n)\/ ∃r,zG S n=some r/\((r.length=6/\S'=S/\d= .bare (Str.ofString "rule"))\/(r.length<6/\S'=putS S n (r++[h])/\d= .told (rtxt (r++[h]))))
 | .take n k,S',d=>(zG S n=none/\S'=S/\d= .name n)\/ ∃r,zG S n=some r/\((r.length<=k/\S'=S/\d= .bare (Str.ofString "place"))\/(k<r.length/\S'=putS S n (r.eraseIdx k)/\d= .told (rtxt (r.eraseIdx k))))
 | .copy n m,S',d=>(zG S n=none/\S'=S/\d= .name n)\/ ∃r,zG S n=some r/\S'=putS S m r/\d= .told (rtxt r)
 | .drop n,S',d=>(zG S n=none/\S'=S/\d= .name n)\/ ∃r z,zG S n=some r/\S'=pj S n/\yi (S'.map (·.1)) z/\d= .told z
 | .move _,_,_=>False
end L2
set_option maxHeartbeats 4000000
namespace L2
open PySem PySem.Spec PyProof.Rows
abbrev uC(h:Heap)(T:Addr)(a b c:Value):Prop:=h.get? T=some {cls:=.type "tuple",data:=.seq #[a,b,c]}
theorem mem6{n b:Nat}(h1:n<=b)(h2:b<=n+5):b∈([n,n+1,n+2,n+3,n+4,n+5]:List Nat):=by
 simp only[mem_cons,not_mem_nil,or_false];omega
theorem of6{n b:Nat}(h:b∈([n,n+1,n+2,n+3,n+4,n+5]:List Nat)):n<=b/\b<=n+5:=by
 simp only[mem_cons,not_mem_nil,or_false]at h;omega
theorem aN{a b:Nat}(h:a≠b):@Ne Addr a b:=h
structure Zip3(h:Heap)(n l1 l2 l3:Nat)(f0:Value)(j:Nat):Prop where
 zz:IsZip h (n+5) (n+3) (n+4) f0
 ti:uC h (n+3) (.ref n) (.ref (n+1)) (.ref (n+2))
 tO:∃a b c,uC h (n+4) a b c
 a1:h.IsListIter n l1 j
 a2:h.IsListIter (n+1) l2 j
 a3:h.IsListIter (n+2) l3 j
theorem yr{h h':Heap}{it l:Addr}{i:Nat}(x:h.IsListIter it l i)(f:∀o,h.get? it=some o->h'.get? it=some o):h'.IsListIter it l i:=let⟨o,e,r⟩:=x;⟨o,f o e,r⟩
theorem uL{h h':Heap}{l:Addr}{xs:Array Value}(x:h.IsList l xs)(f:∀o,h.get? l=some o->h'.get? l=some o):h'.IsList l xs:=let⟨o,e,r⟩:=x;⟨o,f o e,r⟩
theorem Zip3.kept{h h':Heap}{n l1 l2 l3:Nat}{f0:Value}{j:Nat}(x:Zip3 h n l1 l2 l3 f0 j)(f:∀b:Nat,n<=b->b<=n+5-> ∀o,h.get? b=some o->h'.get? b=some o):Zip3 h' n l1 l2 l3 f0 j:=by
 obtain⟨a,b,⟨c,d,e,g⟩,p,q,r⟩:=x;exact⟨f _ (by omega) (by omega) _ a,f _ (by omega) (by omega) _ b,⟨c,d,e,f _ (by omega) (by omega) _ g⟩,yr p (f _ (by omega) (by omega)),yr q (f _ (by omega) (by omega)),yr r (f _ (by omega) (by omega))⟩
section
variable{prog:Program}{w:World}{A:Around}{E:Value->Shared->Prop}{s:Shared}
theorem cP{T:Addr}{a b c x:Value}{k:Nat}{Q:Unit->Shared->Prop}(hT:uC s.heap T a b c)(h:∀h',h'.get? T=some {cls:=.type "tuple",data:=.seq ((#[a,b,c]:Array Value).setIfInBounds k x)}->Heap.SameBut T s.heap h'->Q () {s with heap:=h'}) :
  wpAny (model prog w) A (updateSeq T (·.setIfInBounds k x)) Q E s :=
 wpAny_updateSeq hT rfl (h _ (by rw[Heap.get?_update_self _ hT rfl];simp[Obj.mapSeq]) (Heap.SameBut.update ..))
theorem zip3_item{n l1 l2 l3:Nat}{j:Nat}{xs ys us:Array Value}{x y u:Value}{Q:Value->Shared->Prop}(d1:l1<n)(d2:l2<n)(d3:l3<n)(Z:Zip3 s.heap n l1 l2 l3 .none j)(b1:s.heap.IsList l1 xs)(b2:s.heap.IsList l2 ys)(b3:s.heap.IsList l3 us)(hx:xs[j]? =some x)(hy:ys[j]? =some y)(hu:us[j]? =some u)(hQ:∀h',Zip3 h' n l1 l2 l3 (rawInt s.heap.objs.size) (j+1)->uC h' s.heap.objs.size x y u->(∀(c:Nat) o,(c<n\/n+5<c)->s.heap.get? c=some o->h'.get? c=some o)->Q (.ref s.heap.objs.size) {s with heap:=h'}) :
  wpAny (model prog w) A (Builtin.«zip.__next__» ⟨[.ref (n+5)],[]⟩) (fun fin s'=>∃ v,fin= .done (.ret v)/\Q v s') E s:=by
 obtain⟨g0,g1,⟨oa,ob,oc,g2⟩,p1,p2,p3⟩:=Z;show wpAny _ _ (field (.ref (n+5)) 2 >>= _) _ _ _;refine wpAny_bind (wpAny_field g0 rfl (x:=.bool false) rfl ?_);show wpAny _ _ (field (.ref (n+5)) 3 >>= _) _ _ _;refine wpAny_bind (wpAny_field g0 rfl (x:=.ref (n+3)) rfl ?_);refine wpAny_bind (wpAny_seqItems g1 rfl ?_);show wpAny _ _ (Builtin.SmallTypes.ownedTupleIsFree (.ref (n+5)) >>= _) _ _ _;refine wpAny_bind ?_;unfold Builtin.SmallTypes.ownedTupleIsFree;refine wpAny_bind (wpAny_field g0 rfl (x:=.none) rfl (wpAny_pure ?_));simp only[if_true];refine wpAny_bind (wpAny_rule ?_);refine wpAny_bind (wpAny_field g0 rfl (x:=.ref (n+4)) rfl ?_);refine wpAny_bind (wpAny_setField_rec g0 (by simp) fun ha za sa=>?_)
 replace za:IsZip ha (n+5) (n+3) (n+4) .ellipsis:=za
 refine wpAny_bind ?_;simp only[List.zipIdx_cons,List.zipIdx_nil,List.forIn_cons,List.forIn_nil];refine wpAny_bind (wpAny_bind (wpAny_onRaise ?_));show wpAny _ _ (Builtin.SmallTypes.nextOf (.ref n) >>= _) _ _ _;refine wpAny_bind (wpAny_nextOf_list_item (yr p1 fun o e=>sa.extBut _ _ (aN (by omega)) e) (uL b1 fun o e=>sa.extBut _ _ (aN (by omega)) e) hx fun hb p1b sb=>wpAny_pure ?_);have t2:uC hb (n+4) oa ob oc:=sb.extBut _ _ (aN (by omega)) (sa.extBut _ _ (aN (by omega)) g2);refine wpAny_bind (wpAny_seqItems t2 rfl ?_);refine wpAny_bind (cP t2 fun hc t3 sc=>?_)
 replace t3:uC hc (n+4) x ob oc:=t3
 refine wpAny_bind (wpAny_letGo (wpAny_pure ?_));have kc:∀(c:Nat) o,c≠n+5->c≠n->c≠n+4->s.heap.get? c=some o->hc.get? c=some o:=fun c o q1 q2 q3 e=>sc.extBut _ _ (aN q3) (sb.extBut _ _ (aN q2) (sa.extBut _ _ (aN q1) e));refine wpAny_bind (wpAny_bind (wpAny_onRaise ?_));show wpAny _ _ (Builtin.SmallTypes.nextOf (.ref (n+1)) >>= _) _ _ _;refine wpAny_bind (wpAny_nextOf_list_item (yr p2 fun o e=>kc _ _ (by omega) (by omega) (by omega) e) (uL b2 fun o e=>kc _ _ (by omega) (by omega) (by omega) e) hy fun hd p2d sd=>wpAny_pure ?_);have t4:uC hd (n+4) x ob oc:=sd.extBut _ _ (aN (by omega)) t3;refine wpAny_bind (wpAny_seqItems t4 rfl ?_);refine wpAny_bind (cP t4 fun he t5 se=>?_)
 replace t5:uC he (n+4) x y oc:=t5
 refine wpAny_bind (wpAny_letGo (wpAny_pure ?_));have k2:∀(c:Nat) o,c≠n+5->c≠n->c≠n+4->c≠n+1->s.heap.get? c=some o->he.get? c=some o:=fun c o q1 q2 q3 q4 e=>se.extBut _ _ q3 (sd.extBut _ _ q4 (kc c o q1 q2 q3 e));refine wpAny_bind (wpAny_bind (wpAny_onRaise ?_));show wpAny _ _ (Builtin.SmallTypes.nextOf (.ref (n+2)) >>= _) _ _ _;refine wpAny_bind (wpAny_nextOf_list_item (yr p3 fun o e=>k2 _ _ (by omega) (by omega) (by omega) (by omega) e) (uL b3 fun o e=>k2 _ _ (by omega) (by omega) (by omega) (by omega) e) hu fun hf p3f sf=>wpAny_pure ?_);have t6:uC hf (n+4) x y oc:=sf.extBut _ _ (aN (by omega)) t5;refine wpAny_bind (wpAny_seqItems t6 rfl ?_);refine wpAny_bind (cP t6 fun hg t7 sg=>?_)
 replace t7:uC hg (n+4) x y u:=t7
 refine wpAny_bind (wpAny_letGo (wpAny_pure (wpAny_pure ?_)));refine wpAny_bind (wpAny_seqItems t7 rfl ?_);refine wpAny_bind (wpAny_newTuple ?_);have size:hg.objs.size=s.heap.objs.size:=by rw[sg.1,sf.1,se.1,sd.1,sc.1,sb.1,sa.1]
 have k3:∀(c:Nat) o,(c<n\/n+5<c\/c=n+3)->s.heap.get? c=some o->hg.get? c=some o:=fun c o q e=>sg.extBut _ _ (aN (by omega)) (sf.extBut _ _ (aN (by omega)) (k2 c o (by omega) (by omega) (by omega) (by omega) e));have ze:IsZip hg (n+5) (n+3) (n+4) .ellipsis:=sg.extBut _ _ (aN (by omega)) (sf.extBut _ _ (aN (by omega)) (se.extBut _ _ (aN (by omega)) (sd.extBut _ _ (aN (by omega)) (sc.extBut _ _ (aN (by omega)) (sb.extBut _ _ (aN (by omega)) za)))));have q1:hg.IsListIter n l1 (j+1):=yr p1b fun o e=>sg.extBut _ _ (aN (by omega)) (sf.extBut _ _ (aN (by omega)) (se.extBut _ _ (aN (by omega)) (sd.extBut _ _ (aN (by omega)) (sc.extBut _ _ (aN (by omega)) e))));have q2:hg.IsListIter (n+1) l2 (j+1):=yr p2d fun o e=>sg.extBut _ _ (aN (by omega)) (sf.extBut _ _ (aN (by omega)) (se.extBut _ _ (aN (by omega)) e));have q3:hg.IsListIter (n+2) l3 (j+1):=yr p3f fun o e=>sg.extBut _ _ (aN (by omega)) e;have zlt:n+5<hg.objs.size:=Heap.lt_size ze;show wpAny _ _ (Builtin.SmallTypes.ownedTupleHandOut (.ref (n+5)) (.ref hg.objs.size) >>= _) _ _ _;refine wpAny_bind ?_;unfold Builtin.SmallTypes.ownedTupleHandOut;have zf:IsZip (hg.push {cls:=.type "tuple",data:=.seq #[x,y,u]}) (n+5) (n+3) (n+4) .ellipsis:=Heap.get?_push_of_some _ ze;refine wpAny_bind (wpAny_setField_rec zf (by simp) fun hh zg sh=>?_)
 replace zg:IsZip hh (n+5) (n+3) (n+4) (rawInt hg.objs.size):=zg
 refine wpAny_setField_rec zg (by simp) fun hn zn sn=>?_
 replace zn:IsZip hn (n+5) (n+3) (n+4) (rawInt hg.objs.size):=zn
 have up:∀(c:Nat) o,c≠n+5->hg.get? c=some o->hn.get? c=some o:=fun c o q e=>sn.extBut _ _ q (sh.extBut _ _ q (Heap.get?_push_of_some _ e));have tn:uC hn hg.objs.size x y u:=sn.extBut _ _ (Nat.ne_of_gt zlt) (sh.extBut _ _ (Nat.ne_of_gt zlt) (Heap.get?_push_size _ rfl));rw[size]at zn tn;refine wpAny_pure ⟨_,rfl,?_⟩;show Q (.ref hg.objs.size) _;rw[size];exact hQ hn ⟨zn,up _ _ (aN (by omega)) (k3 _ _ (by omega) g1),⟨_,_,_,up _ _ (aN (by omega)) t7⟩,yr q1 fun o e=>up _ _ (aN (by omega)) e,yr q2 fun o e=>up _ _ (aN (by omega)) e,yr q3 fun o e=>up _ _ (aN (by omega)) e⟩ tn fun c o q e=>up c o (aN (by omega)) (k3 c o (by omega) e)
theorem zip3_end{n l1 l2 l3:Nat}{j:Nat}{xs:Array Value}{Q:Fin->Shared->Prop}(hh:A.handled=none)(d1:l1<n)(Z:Zip3 s.heap n l1 l2 l3 .none j)(b1:s.heap.IsList l1 xs)(hx:xs[j]? =none)(hE:∀h' e,(∀(c:Nat) o,(c<n\/n+5<c)->s.heap.get? c=some o->h'.get? c=some o)->(∃o,h'.get? e=some o/\o.cls= .type "StopIteration")->E (.ref e) {s with heap:=h'}) :
  wpAny (model prog w) A (Builtin.«zip.__next__» ⟨[.ref (n+5)],[]⟩) Q E s:=by
 obtain⟨g0,g1,⟨oa,ob,oc,g2⟩,p1,p2,p3⟩:=Z;show wpAny _ _ (field (.ref (n+5)) 2 >>= _) _ _ _;refine wpAny_bind (wpAny_field g0 rfl (x:=.bool false) rfl ?_);show wpAny _ _ (field (.ref (n+5)) 3 >>= _) _ _ _;refine wpAny_bind (wpAny_field g0 rfl (x:=.ref (n+3)) rfl ?_);refine wpAny_bind (wpAny_seqItems g1 rfl ?_);show wpAny _ _ (Builtin.SmallTypes.ownedTupleIsFree (.ref (n+5)) >>= _) _ _ _;refine wpAny_bind ?_;unfold Builtin.SmallTypes.ownedTupleIsFree;refine wpAny_bind (wpAny_field g0 rfl (x:=.none) rfl (wpAny_pure ?_));simp only[if_true];refine wpAny_bind (wpAny_rule ?_);refine wpAny_bind (wpAny_field g0 rfl (x:=.ref (n+4)) rfl ?_);refine wpAny_bind (wpAny_setField_rec g0 (by simp) fun ha za sa=>?_)
 replace za:IsZip ha (n+5) (n+3) (n+4) .ellipsis:=za
 refine wpAny_bind ?_;simp only[List.zipIdx_cons,List.zipIdx_nil,List.forIn_cons,List.forIn_nil];refine wpAny_bind (wpAny_bind (wpAny_onRaise ?_));show wpAny _ _ (Builtin.SmallTypes.nextOf (.ref n) >>= _) _ _ _;refine wpAny_bind (wpAny_nextOf_list_end hh (yr p1 fun o e=>sa.extBut _ _ (aN (by omega)) e) (uL b1 fun o e=>sa.extBut _ _ (aN (by omega)) e) hx fun hb e sb te=>?_);obtain⟨oe,e1,e2⟩:=te;have zb:IsZip hb (n+5) (n+3) (n+4) .ellipsis:=sb _ _ (aN (by omega)) za;have nez:e≠n+5:=fun q=>by subst q;rw[zb]at e1;cases e1;simp at e2
 exact wpAny_setField_rec zb (by simp) fun hc _ sc=>hE hc e (fun c o q r=>sc.extBut _ _ (aN (by omega)) (sb _ _ (aN (by omega)) (sa.extBut _ _ (aN (by omega)) r))) ⟨oe,sc.extBut _ _ nez e1,e2⟩
theorem cF{n l1 l2 l3:Nat}{j:Nat}{xs ys us:Array Value}{x y u:Value}{Q:Option Value->Shared->Prop}(d1:l1<n)(d2:l2<n)(d3:l3<n)(Z:Zip3 s.heap n l1 l2 l3 .none j)(b1:s.heap.IsList l1 xs)(b2:s.heap.IsList l2 ys)(b3:s.heap.IsList l3 us)(hx:xs[j]? =some x)(hy:ys[j]? =some y)(hu:us[j]? =some u)(hQ:∀h',Zip3 h' n l1 l2 l3 (rawInt s.heap.objs.size) (j+1)->uC h' s.heap.objs.size x y u->(∀(c:Nat) o,(c<n\/n+5<c)->s.heap.get? c=some o->h'.get? c=some o)->Q (some (.ref s.heap.objs.size)) {s with heap:=h'}) :
  wpAny (model prog w) A (pyNext (.ref (n+5))) Q E s:=by
 have ty:s.TypeIs (.ref (n+5)) "zip" :=⟨_,Z.zz,rfl⟩;unfold pyNext;exact wpAny_bind (wpAny_attempt (wpAny_callSpecial?_slot (name:=Str.ofString "__next__") ty F.slot_zip_next (wpAny_call_entry F.slot_zip_next ty F.entry_zip_next (zip3_item d1 d2 d3 Z b1 b2 b3 hx hy hu fun h' r1 r2 r3=>wpAny_pure (hQ h' r1 r2 r3)) (F.args_zip_next_1 _))))
theorem gw{n l1 l2 l3:Nat}{j:Nat}{xs:Array Value}{Q:Option Value->Shared->Prop}(hh:A.handled=none)(d1:l1<n)(Z:Zip3 s.heap n l1 l2 l3 .none j)(b1:s.heap.IsList l1 xs)(hx:xs[j]? =none)(hQ:∀h',(∀(c:Nat) o,(c<n\/n+5<c)->s.heap.get? c=some o->h'.get? c=some o)->Q none {s with heap:=h'}):wpAny (model prog w) A (pyNext (.ref (n+5))) Q E s:=by
 have ty:s.TypeIs (.ref (n+5)) "zip" :=⟨_,Z.zz,rfl⟩;unfold pyNext;refine wpAny_bind (wpAny_attempt (wpAny_callSpecial?_slot (name:=Str.ofString "__next__") ty F.slot_zip_next (wpAny_call_entry F.slot_zip_next ty F.entry_zip_next (zip3_end hh d1 Z b1 hx fun h' e hk he=>?_) (F.args_zip_next_1 _))));obtain⟨o,e1,e2⟩:=he;exact wpAny_bind (wpAny_isInstance (T :="StopIteration") (b:=true) ⟨o,e1,e2⟩ isSubtype_stop (wpAny_pure (hQ _ hk)))
end
def yIt(h:Heap)(l:Addr):Heap:=h.push {cls:=.type "list_iterator",data:=.fields #[.ref l,.int 0 0]}
def y3(h:Heap)(l1 l2 l3:Addr):Heap:=yIt (yIt (yIt h l1) l2) l3
def y4(h:Heap)(l1 l2 l3:Addr):Heap:=(y3 h l1 l2 l3).push {cls:=.type "tuple",data:=.seq #[.ref h.objs.size,.ref (yIt h l1).objs.size,.ref (yIt (yIt h l1) l2).objs.size]}
def y5(h:Heap)(l1 l2 l3:Addr):Heap:=(y4 h l1 l2 l3).push {cls:=.type "tuple",data:=.seq #[.none,.none,.none]}
def y6(h:Heap)(l1 l2 l3:Addr):Heap:=(y5 h l1 l2 l3).push {cls:=.type "zip",data:=.fields #[.none,.bool false,.bool false,.ref (y3 h l1 l2 l3).objs.size,.ref (y4 h l1 l2 l3).objs.size]}
theorem gA(l1 l2 l3:Addr)(xs ys us:Array Value) :
  Meets (Builtin.«zip.__new__» ⟨[.type "zip",.ref l1,.ref l2,.ref l3],[]⟩) (fun _ R s=>s.heap.IsList l1 xs/\s.heap.IsList l2 ys/\s.heap.IsList l3 us/\R (.ok (.ret (.ref (y5 s.heap l1 l2 l3).objs.size))) {s with heap:=y6 s.heap l1 l2 l3}) :=
 .of_wp fun prog w A R s h=>by
  obtain⟨hp,gn,dr,tk,os⟩:=s;obtain⟨q1,q2,q3,h⟩:=h;have hsub:=sub_zip;have r1:(Shared.heap ⟨hp,gn,dr,tk,os⟩).IsList l1 xs:=q1;have r2:(Shared.heap ⟨hp.push {cls:=.type "list_iterator",data:=.fields #[.ref l1,.int 0 0]},gn,dr,tk,os⟩).IsList l2 ys:=uL q2 fun o e=>Heap.get?_push_of_some _ e;have r3:(Shared.heap ⟨(hp.push {cls:=.type "list_iterator",data:=.fields #[.ref l1,.int 0 0]}).push {cls:=.type "list_iterator",data:=.fields #[.ref l2,.int 0 0]},gn,dr,tk,os⟩).IsList l3 us:=uL q3 fun o e=>Heap.get?_push_of_some _ (Heap.get?_push_of_some _ e)
  wp_walk using wpAny_pyIter_list r1,wpAny_pyIter_list r2,wpAny_pyIter_list r3
  exact⟨_,rfl,h⟩
theorem rO(a b c:Value):checkTypeCall "zip" ⟨[a,b,c],[]⟩=pure ():=by kernel_rfl
theorem db(a b c:Value):checkBuiltinCall "zip.__new__" ⟨[.type "zip",a,b,c],[]⟩=pure ():=by kernel_rfl
theorem zip3_init(a b c d:Value):argsOk "object.__init__" ⟨[a,b,c,d],[]⟩:=by
 unfold argsOk;rw[signature?_of (n :="__init__".toList.reverse) (o :="object".toList.reverse) (by kernel_rfl) F.owner_object]
 kernel_rfl
section
variable{prog:Program}{w:World}{A:Around}{E:Value->Shared->Prop}{s:Shared}
theorem call_zip3{l1 l2 l3:Addr}{xs ys us:Array Value}{Q:Value->Shared->Prop}(b1:s.heap.IsList l1 xs)(b2:s.heap.IsList l2 ys)(b3:s.heap.IsList l3 us)(hQ:∀h',Zip3 h' s.heap.objs.size l1 l2 l3 .none 0->(∀c o,s.heap.get? c=some o->h'.get? c=some o)->Q (.ref (s.heap.objs.size+5)) {s with heap:=h'}) :
  wpAny (model prog w) A (call (.type "zip") [.ref l1,.ref l2,.ref l3]) Q E s:=by
 refine callType_new F.called_zip (by decide) (rO _ _ _) (db _ _ _) (fun obj=>zip3_init obj _ _ _) F.entry_zip_new (gA l1 l2 l3 xs ys us) ⟨b1,b2,b3,?_⟩;have n1:∀h l,(yIt h l).objs.size=h.objs.size+1:=fun h l=>Heap.size_push ..;have n3:(y3 s.heap l1 l2 l3).objs.size=s.heap.objs.size+3:=by unfold y3;rw[n1,n1,n1]
 have n4:(y4 s.heap l1 l2 l3).objs.size=s.heap.objs.size+4:=by unfold y4;rw[Heap.size_push,n3]
 have n5:(y5 s.heap l1 l2 l3).objs.size=s.heap.objs.size+5:=by unfold y5;rw[Heap.size_push,n4]
 have p:∀{h:Heap}{c:Addr}{o x:Obj},h.get? c=some o->(h.push x).get? c=some o:=fun e=>Heap.get?_push_of_some _ e;have f5:(y6 s.heap l1 l2 l3).get? (y5 s.heap l1 l2 l3).objs.size=some _:=Heap.get?_push_size _ rfl;have f4:(y6 s.heap l1 l2 l3).get? (y4 s.heap l1 l2 l3).objs.size=some _:=p (Heap.get?_push_size _ rfl);have f3:(y6 s.heap l1 l2 l3).get? (y3 s.heap l1 l2 l3).objs.size=some _:=p (p (Heap.get?_push_size _ rfl));have f2:(y6 s.heap l1 l2 l3).get? (yIt (yIt s.heap l1) l2).objs.size=some _:=p (p (p (Heap.get?_push_size _ rfl)));have f1:(y6 s.heap l1 l2 l3).get? (yIt s.heap l1).objs.size=some _:=p (p (p (p (Heap.get?_push_size _ rfl))));have f0:(y6 s.heap l1 l2 l3).get? s.heap.objs.size=some _:=p (p (p (p (p (Heap.get?_push_size _ rfl)))));show _/\_;rw[n3,n4,n5]at f5;rw[n4]at f4;rw[n3,n1,n1,n1]at f3;rw[n1,n1]at f2;rw[n1]at f1;rw[n5];exact⟨⟨_,f5,rfl⟩,hQ _ ⟨f5,f3,⟨_,_,_,f4⟩,⟨_,f0,rfl,rfl⟩,⟨_,f1,rfl,rfl⟩,⟨_,f2,rfl,rfl⟩⟩ fun c o e=>p (p (p (p (p (p e)))))⟩
end
def It3(K:W.Frag)(a b c:Addr):It :=
 ⟨fun i H=>∃ xs ys us x y u,SqL K H a xs/\SqL K H b ys/\SqL K H c us/\xs[i]? =some x/\ys[i]? =some y/\us[i]? =some u,
  fun i H v H'=>∃ T x y u,H T=none/\v= .ref T/\H'=upd H T (.tup [x,y,u])/\(∀xs,SqL K H a xs->xs[i]? =some x)/\(∀ys,SqL K H b ys->ys[i]? =some y)/\ ∀us,SqL K H c us->us[i]? =some u,
  fun i H=>∃ xs,SqL K H a xs/\xs.length<=i⟩
theorem turn_zip3{P:Program}{w:World}{K:W.Frag}{elts:List Expr}{x1:Nat}{pos:Pos}(a b c n:Nat)(d1:a<n)(d2:b<n)(d3:c<n) :
  Turn P w K (.Tuple elts x1 pos) (It3 K a b c) [n,n+1,n+2,n+3,n+4,n+5] (n+5) (fun i h=>Zip3 h n a b c .none i) where
 mem:=by simp
 obj:=fun i h st b hb=>by
  obtain⟨g0,g1,⟨oa,ob,oc,g2⟩,⟨o1,e1,_,x1⟩,⟨o2,e2,_,x2⟩,⟨o3,e3,_,x3⟩⟩:=st;simp only[mem_cons,not_mem_nil,or_false]at hb;rcases hb with rfl|rfl|rfl|rfl|rfl|rfl
  ·exact⟨_,e1,fun v q=>by rw[x1]at q;cases q⟩
  ·exact⟨_,e2,fun v q=>by rw[x2]at q;cases q⟩
  ·exact⟨_,e3,fun v q=>by rw[x3]at q;cases q⟩
  ·exact⟨_,g1,fun v q=>by cases q⟩
  ·exact⟨_,g2,fun v q=>by cases q⟩
  ·exact⟨_,g0,fun v q=>by cases q⟩
 keep:=fun i h h' st k=>st.kept fun b q1 q2=>k b (mem6 q1 q2)
 item:=by
  intro X hP hw hK hc i pins s σ H E I hf st hg;subst hP hw hK;obtain⟨xs,ys,us,x,y,u,hq1,hq2,hq3,hx,hy,hu⟩:=hg;obtain⟨ws1,rv1,p1,_⟩:=I.list hq1;obtain⟨ws2,rv2,p2,_⟩:=I.list hq2;obtain⟨ws3,rv3,p3,_⟩:=I.list hq3;obtain⟨v1,hv1,r1⟩:=rv1.get hx;obtain⟨v2,hv2,r2⟩:=rv2.get hy;obtain⟨v3,hv3,r3⟩:=rv3.get hu;refine cF d1 d2 d3 st p1.isList p2.isList p3.isList (x:=v1) (y:=v2) (u:=v3) (by simpa using hv1) (by simpa using hv2) (by simpa using hv3) fun h' st' tp kk=>⟨_,rfl,?_⟩;refine wpAny_letOwnedTupleGo_zip st'.zz fun h2 hz2 sb=>?_;have up:∀(c:Nat) o,c≠n+5->h'.get? c=some o->h2.get? c=some o:=fun c o q e=>(sb.2 c q).trans e;have lt:n+5<s.heap.objs.size:=Heap.lt_size st.zz;have tp2:uC h2 s.heap.objs.size v1 v2 v3:=up _ _ (aN (by omega)) tp;have I1:Inv X pins σ (upd H s.heap.objs.size (.tup [x,y,u])) {s with heap:=h2}:=I.turnedN (t':=s.toks) (ch:=[n,n+1,n+2,n+3,n+4,n+5]) hf (fun c o q e=>by
   have q':c<n\/n+5<c:=by rcases Nat.lt_or_ge c n with z|z;exact .inl z;rcases Nat.lt_or_ge (n+5) c with y|y;exact .inr y;exact absurd (mem6 z y) q
   exact up c o (fun z=>q'.elim (fun y=>absurd y (by rw[z];exact Nat.not_lt.mpr (Nat.le_add_right _ _))) fun y=>absurd y (by rw[z];exact lt_irrefl _)) (kk c o q' e)) (le_refl _) ⟨by show 3<=sizeLine;decide,[v1,v2,v3],.cons r1 (.cons r2 (.cons r3 .nil)),⟨_,tp2,rfl,_,rfl⟩,fun o q=>by rw[tp2]at q;cases q;rfl⟩
  refine⟨.ref s.heap.objs.size,_,I1,rfl,⟨_,x,y,u,I.hok.fresh (le_refl _),rfl,rfl,fun xs' h=>by rw[I.list_inj h hq1];exact hx,fun ys' h=>by rw[I.list_inj h hq2];exact hy,fun us' h=>by rw[I.list_inj h hq3];exact hu⟩,
   ⟨hz2,up _ _ (aN (by omega)) st'.ti,?_,yr st'.a1 fun o e=>up _ _ (aN (by omega)) e,yr st'.a2 fun o e=>up _ _ (aN (by omega)) e,yr st'.a3 fun o e=>up _ _ (aN (by omega)) e⟩,fun c hc=>?_⟩
  ·obtain⟨oa,ob,oc,e⟩:=st'.tO;exact⟨oa,ob,oc,up _ _ (aN (by omega)) e⟩
  ·rw[zh (aN (by have:=of6 hc;omega))];exact(hf c hc).1
 done:=by
  intro X hP hw hK hc i pins s σ H E I hf st hg;subst hP hw hK;obtain⟨xs,hq1,hend⟩:=hg;obtain⟨ws1,rv1,p1,_⟩:=I.list hq1;have l1:=rv1.length;refine gw (I.ok.hd hc) d1 st p1.isList (by simp;omega) fun h' kk=>⟨rfl,I.turnedL (t':=s.toks) (ch:=[n,n+1,n+2,n+3,n+4,n+5]) hf fun c o q e=>kk c o ?_ e⟩;rcases Nat.lt_or_ge c n with z|z
  ·exact .inl z
  ·rcases Nat.lt_or_ge (n+5) c with y|y
   ·exact .inr y
   ·exact absurd (mem6 z y) q
 self:=fun _ _ _ _ _ st h=>wpAny_pyIter_zip st.zz h
section
variable{X:Cx}{elts:List Expr}{x1:Nat}{tpos:Pos}
def iZip3(K:W.Frag)(ta:TA):TI:=fun σ H R=>ta σ H fun vs H1=>∃ a b c,vs=[.ref a,.ref b,.ref c]/\(∃xs,SqL K H1 a xs)/\(∃ys,SqL K H1 b ys)/\(∃us,SqL K H1 c us)/\R (It3 K a b c) H1
theorem pi_zip3{a b c:Expr}{ta:TA}{p pos:Pos}(hg:Gl X "zip")(hm:X.mg "zip"=none)(ha:PA X [a,b,c] ta)(hs:starEach [a,b,c] X.env=[(false,eval a X.env),(false,eval b X.env),(false,eval c X.env)]:=by rfl)(hs2:starEach [b,c] X.env=[(false,eval b X.env),(false,eval c X.env)]:=by rfl) :
  PI X (.Tuple elts x1 tpos) (.Call (.Name "zip" p) [a,b,c] [] pos) (iZip3 X.K ta):=by
 intro pins s σ H R I h;refine Call_ (wa I hg hm boot_zip (PyProof.Rows.callWith_type1 (thn (ha pos pins s σ H _ I h) fun us s1 ⟨vs,H1,I1,r1,q1⟩=>?_) (by rw[hs,hs2]) (by rw[hs2];rfl)));obtain⟨a,b,c,e,⟨xs,hq1⟩,⟨ys,hq2⟩,⟨zs,hq3⟩,q⟩:=q1;subst e;cases r1 with
 |cons r rr =>
  cases rr with
  |cons r' rr =>
   cases rr with
   |cons r2 rr =>
    cases rr;cases r;cases r';cases r2;obtain⟨us1,rv1,p1,_⟩:=I1.list hq1;obtain⟨us2,rv2,p2,_⟩:=I1.list hq2;obtain⟨us3,rv3,p3,_⟩:=I1.list hq3;have lt:∀{l:Addr}{xs:Array Value},s1.heap.IsList l xs->l<s1.heap.objs.size:=fun⟨_,e,_⟩=>Heap.lt_size e;refine call_zip3 p1.isList p2.isList p3.isList fun h' Z kk=>?_;have I2:Inv X pins σ H1 {s1 with heap:=h'}:=I1.kept (t':=s1.toks) kk;refine wpAny_pyIter_zip (s:={s1 with heap:=h'}) Z.zz ⟨_,[s1.heap.objs.size,s1.heap.objs.size+1,s1.heap.objs.size+2,s1.heap.objs.size+3,s1.heap.objs.size+4,s1.heap.objs.size+5],_,_,H1,rfl,I2,turn_zip3 a b c _ (lt p1.isList) (lt p2.isList) (lt p3.isList),Z,fun d hd=>?_,q⟩;have hle:s1.heap.objs.size<=d:=(of6 hd).1;exact I1.fpOk hle (I1.hok.fresh hle)
end
theorem for_zip3{K:W.Frag}{a b c:Addr}{xs ys us:List V}{g:TG}{tb:TS}{D:Ends}{σ:St}{H:Hp}(Pv:Nat->St->Hp->Prop)(h0:Pv 0 σ H)(ly:ys.length=xs.length)(lu:us.length=xs.length)(hl:∀i σ H,i<=xs.length->Pv i σ H->SqL K H a xs/\SqL K H b ys/\SqL K H c us)(hs:∀i x y u σ H T,xs[i]? =some x->ys[i]? =some y->us[i]? =some u->Pv i σ H->H T=none->g (.ref T) σ (upd H T (.tup [x,y,u])) fun σ2 H2=>tb {D with nx:=Pv (i+1),ct:=Pv (i+1),bk:=D.nx} σ2 H2)(hd:∀ σ H,Pv xs.length σ H->D.nx σ H) :
  ∃W0:Nat->Nat->St->Hp->Prop,(∃m,W0 0 m σ H)/\ ∀i m σ H,W0 i m σ H->
   ((It3 K a b c).stop i H/\D.nx σ H)\/((It3 K a b c).go i H/\ ∃N:St->Hp->Prop,(∀ σ' H',N σ' H'-> ∃m',m'<m/\W0 (i+1) m' σ' H')/\ ∀x H',(It3 K a b c).yld i H x H'->g x σ H' fun σ2 H2=>tb {D with nx:=N,ct:=N,bk:=D.nx} σ2 H2):=by
 refine⟨fun i m σ H=>m=xs.length-i/\i<=xs.length/\Pv i σ H,⟨_,(Nat.sub_zero _).symm,zero_le _,h0⟩,?_⟩;rintro i m σ H ⟨rfl,hi,p⟩;obtain⟨q1,q2,q3⟩:=hl i σ H hi p;by_cases hlt:i<xs.length
 ·have l2:i<ys.length:=by omega
  have l3:i<us.length:=by omega
  refine .inr ⟨⟨xs,ys,us,xs[i],ys[i],us[i],q1,q2,q3,by simp[hlt],by simp[l2],by simp[l3]⟩,Pv (i+1),fun σ' H' p'=>⟨xs.length-(i+1),by omega,rfl,hlt,p'⟩,fun x H' y=>?_⟩;obtain⟨T,u,v,z,hT,rfl,rfl,e1,e2,e3⟩:=y;exact hs i u v z σ H T (e1 xs q1) (e2 ys q2) (e3 us q3) p hT
 ·have e:i=xs.length:=by omega
  rw[e]at p;exact .inl ⟨⟨xs,q1,by omega⟩,hd σ H p⟩
end L2
namespace L2
open PySem PySem.Spec PyProof.Rows PySem.W
abbrev TH:=Addr->Option Addr->Ends->St->Hp->Prop
def PH(X:Cx)(hs:List ExceptHandler)(th:TH):Prop:=∀(pins:List (Addr×Obj))(s s3:Shared)(σ:St)(H H':Hp)(a c:Addr)(dd:Option Addr)(D:Ends),X.Ok->Inv X pins σ H s->Lnd X s H H' a (.ref c) dd s3->th c dd D σ H'->
 wpAny (model X.prog X.w) X.A (handleBy (.ref a) X.env hs) (SP X pins D) X.xe s3
def tHas(K:Frag)(S:Addr)(i:Nat)(ts:TS)(th:TH):TH:=fun c dd D σ H=>(Takes K c S/\ ∀e,H e=none->
 ts {nx:=fun σ' H'=>D.nx (σ'.set i none) H',rt:=D.rt,bk:=fun σ' H'=>D.bk (σ'.set i none) H',ct:=fun σ' H'=>D.ct (σ'.set i none) H'} (σ.set i (some (.ref e))) (upd H e (.ext (vh e (.ref c) dd))))\/(TakesNot K c S/\th c dd D σ H)
def tHno(K:Frag)(S:Addr)(ts:TS)(th:TH):TH:=fun c dd D σ H=>(Takes K c S/\ts D σ H)\/(TakesNot K c S/\th c dd D σ H)
def tHnil:TH:=fun _ _ _ _ _=>False
def tTryL(j:Nat)(tx:TX)(th:TH):TS:=fun D σ H=>tx σ H (fun v H1=>D.nx (σ.set j (some v)) H1) (fun C dd H1=>∃ c,C= .ref c/\th c dd D σ H1)
section
variable{X:Cx}{S n:Str}{Sc:Addr}{i:Nat}{b0:Stmt}{body:List Stmt}{ts:TS}{th:TH}{hs:List ExceptHandler}{spos hpos:Pos}
theorem ph_nil:PH X [] tHnil:=fun _ _ _ _ _ _ _ _ _ _ _ _ _ h=>h.elim
theorem ph_not{Q:Flow->Shared->Prop}{pins:List (Addr×Obj)}{s s3:Shared}{σ:St}{H H':Hp}{a c:Addr}{dd:Option Addr}{nm:Option Str}(hg:Gl X S)(hm:X.mg S=some (.ref Sc))(I:Inv X pins σ H s)(l:Lnd X s H H' a (.ref c) dd s3)(tk:TakesNot X.K c Sc)(hd:(S==("__debug__" : Str))=false)(h:wpAny (model X.prog X.w) X.A (handleBy (.ref a) X.env hs) Q X.xe s3):wpAny (model X.prog X.w) X.A (handleBy (.ref a) X.env (.ExceptHandler (some (.Name S spos)) nm (b0::body) hpos::hs)) Q X.xe s3:=by
 obtain⟨bm,bm',⟨nm,q,N,bs,hdct,sn,sub,ab,col,dd,k0,k1,k2,k3,k5,nid,lc⟩,⟨nm',q',N',bs',hdct',sn',sub',ab',col',dd',k0',k1',k2',k3',k5',nid',lS⟩,hB,hM⟩:=tk;refine wpAny_handleBy_cons (codeAny_handlers_test ?_) (by intro q;cases q);have I3:=l.inv I;refine wb (X:=X.inH a) I3.inH hg hm ?_ hd;obtain⟨oe,vs,hoe,hcl,hda⟩:=l.obj;have kC:=I3.kIn _ _ lc;have kS:=I3.kIn _ _ lS;obtain⟨h3,g3,d3,t3,os3⟩:=s3;exact matches_b kC kS hoe hcl hB hM h
theorem ph_as(hg:Gl X S)(hm:X.mg S=some (.ref Sc))(hb:∀a,PSs (X.inH a).nox (b0::body) ts)(hN:X.N.Nodup)(hi:X.N[i]? =some n)(hk:X.env.scope.names.lookup n=some .local)(hr:PH X hs th)(hd:(S==("__debug__" : Str))=false:=by decide):PH X (.ExceptHandler (some (.Name S spos)) (some n) (b0::body) hpos::hs) (tHas X.K Sc i ts th):=by
 intro pins s s3 σ H H' a c dd0 D ok I1 l h;rcases h with⟨⟨bm,bm',⟨nm,q,N,bs,hdct,sn,sub,ab,col,dd,k0,k1,k2,k3,k5,nid,lc⟩,⟨nm',q',N',bs',hdct',sn',sub',ab',col',dd',k0',k1',k2',k3',k5',nid',lS⟩,hB,hM⟩,hts⟩|⟨tk,h⟩
 ·refine wpAny_handleBy_cons (codeAny_handlers_test ?_) (by intro q;cases q);have I3:=l.inv I1;refine wb (X:=X.inH a) I3.inH hg hm ?_ hd;obtain⟨oe,vs,hoe,hcl,hda⟩:=l.obj;have kC:=I3.kIn _ _ lc;have kS:=I3.kIn _ _ lS;obtain⟨h3,g3,d3,t3,os3⟩:=s3;refine pQ kC kS hoe hcl hB hM ?_;refine codeAny_handlers_suite_as ?_;refine l.again fun s4 l4=>?_;have I4:=l4.trackedD I1;refine jI (X:=X.inH a) (v:=.ref a) I4.inH hN hi (.inl hk) rfl (fun s5 I5=>?_) (.inr hk);refine wpAny_mono (hb a pins s5 _ _ _ (I5.wish _) (hts a l4.fe)) (fun f s6 q=>?_) (fun _ _ z=>False.elim z);cases f with
  |next=>obtain⟨σ',H2,J,q⟩:=q;exact goes (X:=X) (J.unwish.ofH ok) hN hi hk fun s7 J7=>⟨_,H2,J7,q⟩
  |brk=>obtain⟨σ',H2,J,q⟩:=q;exact goes (X:=X) (J.unwish.ofH ok) hN hi hk fun s7 J7=>⟨_,H2,J7,q⟩
  |cont=>obtain⟨σ',H2,J,q⟩:=q;exact goes (X:=X) (J.unwish.ofH ok) hN hi hk fun s7 J7=>⟨_,H2,J7,q⟩
  |ret u=>obtain⟨v,σ',H2,J,r,q⟩:=q;exact goes (X:=X) (J.unwish.ofH ok) hN hi hk fun s7 J7=>⟨v,_,H2,J7,r,q⟩
 ·exact ph_not hg hm I1 l tk hd (hr pins s s3 σ H H' a c dd0 D ok I1 l h)
theorem ph_no(hg:Gl X S)(hm:X.mg S=some (.ref Sc))(hb:∀a,PSs (X.inH a).nox (b0::body) ts)(hr:PH X hs th)(hd:(S==("__debug__" : Str))=false:=by decide):PH X (.ExceptHandler (some (.Name S spos)) none (b0::body) hpos::hs) (tHno X.K Sc ts th):=by
 intro pins s s3 σ H H' a c dd0 D ok I1 l h;rcases h with⟨⟨bm,bm',⟨nm,q,N,bs,hdct,sn,sub,ab,col,dd,k0,k1,k2,k3,k5,nid,lc⟩,⟨nm',q',N',bs',hdct',sn',sub',ab',col',dd',k0',k1',k2',k3',k5',nid',lS⟩,hB,hM⟩,hts⟩|⟨tk,h⟩
 ·refine wpAny_handleBy_cons (codeAny_handlers_test ?_) (by intro q;cases q);have I3:=l.inv I1;refine wb (X:=X.inH a) I3.inH hg hm ?_ hd;obtain⟨oe,vs,hoe,hcl,hda⟩:=l.obj;have kC:=I3.kIn _ _ lc;have kS:=I3.kIn _ _ lS;obtain⟨h3,g3,d3,t3,os3⟩:=s3;refine pQ kC kS hoe hcl hB hM ?_;refine codeAny_handlers_suite ?_;refine l.again fun s4 l4=>?_;have I4:=l4.inv I1;refine wpAny_mono (hb a pins s4 _ _ _ (I4.inH.wish _) hts) (fun f s6 q=>?_) (fun _ _ z=>False.elim z);cases f with
  |next=>obtain⟨σ',H2,J,q⟩:=q;exact⟨σ',H2,J.unwish.ofH ok,q⟩
  |brk=>obtain⟨σ',H2,J,q⟩:=q;exact⟨σ',H2,J.unwish.ofH ok,q⟩
  |cont=>obtain⟨σ',H2,J,q⟩:=q;exact⟨σ',H2,J.unwish.ofH ok,q⟩
  |ret u=>obtain⟨v,σ',H2,J,r,q⟩:=q;exact⟨v,σ',H2,J.unwish.ofH ok,r,q⟩
 ·exact ph_not hg hm I1 l tk hd (hr pins s s3 σ H H' a c dd0 D ok I1 l h)
theorem ps_tryL{e:Expr}{y:Str}{j:Nat}{h0:ExceptHandler}{tx:TX}{epos pos p':Pos}(top:X.stack=X.env::X.outer)(fr:X.env.frame=some X.env.locals)(hx:PX X e tx)(hh:PH X (h0::hs) th)(hN:X.N.Nodup)(hj:X.N[j]? =some y)(hyl:Loc X.env.scope y)(hsw:swapsWith e (some (.Name y p')) epos.line X.env=pure false:=by rfl)(hf:X.fn y=true\/X.env.scope.names.lookup y=some .local:=by first|exact .inl rfl|exact .inr rfl|assumption) :
  PS X (.Try [.Assign [.Name y p'] e epos] (h0::hs) [] [] pos) (tTryL j tx th):=by
 intro pins s σ H D I h;refine wpAny_Try_except ?_;have hb:=wpAny_Assign_Name (Q:=fun f s1=>f= .next/\ ∃v H1,Inv X pins (σ.set j (some v)) H1 s1/\D.nx (σ.set j (some v)) H1) (pos:=epos) (thn (hx pins s σ H _ _ I h) fun v s1 ⟨x,H1,I1,r,q⟩=>jI I1 hN hj hyl r (fun s2 I2=>⟨rfl,x,H1,I2,q⟩) hf) hsw;refine wpAny_execs_cons (wpAny_mono hb (fun f s1 ⟨hf,v,H1,I1,q⟩=>?_) fun ev s' ⟨H1,s1,I1,hc⟩=>?_)
 ·subst hf;exact wpAny_execs_nil (wpAny_execs_nil ⟨_,H1,I1,q⟩)
 ·refine CX1.lands (by rw[<-top];exact I1.ok.frames) top fr hc fun a C dd0 H' s3 ha hE l=>?_;subst ha;obtain⟨c,rfl,hE⟩:=hE;exact hh pins s1 s3 σ H1 H' a c dd0 D I.ok I1 l hE
end
end L2
namespace L2
open PySem PySem.Spec PyProof.Rows
noncomputable def sumX(rule:List (List Int))(c:List Int):Int:=(dN (yt rule c)).sum
noncomputable def firstU(one other:List (List Int)):Option (List Int):=(chG (upto one.length)).find? fun c=>decide (sumX one c≠sumX other c)
def m7(c:List Int)(a b:Int):Str:=((((Str.ofString "no "++Txt.join (Str.ofString " ") (c.map numS))++Str.ofString " : ")++numS a)++Str.ofString " ")++numS b
noncomputable def pP(one other:List (List Int)):Str:=match firstU one other with
 |none=>Str.ofString "yes"
 |some c=>m7 c (sumX one c) (sumX other c)
theorem yo.J{r:List (List Int)}(h:yo r):RuleJ r:=by
 refine⟨⟨r.flatten,?_,fun l hl x hx=>List.mem_flatten.mpr ⟨l,hl,hx⟩⟩,fun l hl=>le_trans (h.2 l hl).1 (by decide),fun l hl x hx=>((h.2 l hl).2.bd x hx).1⟩;have h1:r.flatten.length<=10*r.length:=pz fun l hl=>(h.2 l hl).1;have h2:=h.1;omega
theorem sumI_le{B:Int}(hB:0<=B):∀{l:List Int},(∀x∈l,0<=x/\x<=B)->0<=l.sum/\l.sum<=(l.length:Int)*B
 | [],_=>by simp
 |x::r,h=>by
  have h1:=h x mem_cons_self;have h2:=sumI_le hB (l:=r) fun y hy=>h y (mem_cons_of_mem _ hy);rw[List.sum_cons,length_cons,Int.natCast_succ,Int.add_mul,Int.one_mul];omega
theorem yo.sum{r:List (List Int)}(h:yo r){c:List Int}(hc:c.length<=6):0<=sumX r c/\sumX r c<10^63:=by
 have hb:∀l∈r,l.length<=64/\ ∀x∈l,1<=x:=fun l hl=>⟨le_trans (h.2 l hl).1 (by decide),fun x hx=>((h.2 l hl).2.bd x hx).1⟩;have h1:=joinX_len (rule:=r) hb hc;have h2:=sumI_le (B:=10^60) (by decide) (l:=dN (yt r c)) fun x hx=>by
  obtain⟨l,hl,hxl⟩:=join_mem hx;obtain⟨j,_,rfl⟩:=mem_map.mp hl;obtain⟨hh,h1,h2⟩:=getD_mem hxl;have:=(h.2 hh h1).2.bd x h2;exact⟨by omega,by omega⟩
 unfold sumX;refine⟨h2.1,Int.lt_of_le_of_lt h2.2 (Int.lt_of_le_of_lt (Int.mul_le_mul_of_nonneg_right (show((dN (yt r c)).length:Int)<=384 by omega) (by decide)) (by decide))⟩
theorem vd{n:Int}(h0:0<=n)(h:n<10^63):n.natAbs.log2<1920:=by
 by_cases hz:n.natAbs=0
 ·rw[hz];decide
 ·have h1:n.natAbs<10^63:=by omega
  exact(Nat.log2_lt hz).mpr (lt_of_lt_of_le h1 (le_trans (m:=2^210) (by decide) (Nat.pow_le_pow_right (by decide) (by decide))))
theorem nums_text{c:List Int}(hl:c.length<=6)(hb:∀z∈c,0<=z/\z<6):(Txt.join (Str.ofString " ") (c.map numS)).length<=100:=by
 refine le_trans (join_len _ (by decide+kernel) _) ?_;have:weight (c.map numS)<=2*c.length:=by
  induction c with
  |nil=>exact le_refl _
  |cons z c ih =>
   have h1:(numS z).length<=1:=by
    have:=hb z mem_cons_self;rw[zJ];exact ya this.1 (by decide) (by omega)
   have h2:=ih (by simp at hl;omega) fun y hy=>hb y (mem_cons_of_mem _ hy);simp only[map_cons,weight,List.sum_cons,length_cons]at h2 ⊢;omega
 omega
theorem qh{c:List Int}(hl:c.length<=6)(hb:∀z∈c,0<=z/\z<6):((c.map numS).map (·.length)).sum+c.length*1<=100:=by
 have h1:((c.map numS).map (·.length)).sum<=c.length*1:=by
  rw[map_map];refine qO fun x hx=>?_;show(numS x).length<=1;rw[zJ];exact ya (hb x hx).1 (by decide) (by have:=(hb x hx).2;omega)
 omega
theorem gR{c:List Int}{a b:Int}(hl:c.length<=6)(hb:∀z∈c,0<=z/\z<6)(ha:0<=a/\a<10^63)(hb2:0<=b/\b<10^63):(Txt.join (Str.ofString " ") (c.map numS)).length<=100/\(numS a).length<=63/\(numS b).length<=63/\(m7 c a b).length<=300:=by
 have h1:=nums_text hl hb;have h2:(numS a).length<=63:=by rw[zJ];exact ya ha.1 (by decide) ha.2
 have h3:(numS b).length<=63:=by rw[zJ];exact ya hb2.1 (by decide) hb2.2
 refine⟨h1,h2,h3,?_⟩;unfold m7;have l1:(Str.ofString "no ").length=3:=by decide+kernel
 have l2:(Str.ofString " : ").length=3:=by decide+kernel
 have l3:(Str.ofString " ").length=1:=by decide+kernel
 simp only[zO];omega
def MDue(S:Std)(n m:Str)(du:DueN):Prop:=(zG S n=none/\du= .name n)\/ ∃r1,zG S n=some r1/\((zG S m=none/\du= .name m)\/ ∃r2,zG S m=some r2/\((r1.length≠r2.length/\du= .bare (Str.ofString "many"))\/(r1.length=r2.length/\du= .told (pP r1 r2))))
def AskN(S:Std)(wd:Str)(as:List DArg)(t:Str):Prop :=
 (wd=Str.ofString "names"/\as=[]/\u0 S/\yi (S.map (·.1)) t)\/
 (wd=Str.ofString "show"/\ ∃n r,as=[.name n]/\zG S n=some r/\rQ r/\t=rtxt r)\/
 (wd=Str.ofString "keeps"/\ ∃(n:Str)(r:List (List Int))(h:List Int),as=[.name n,.heap h]/\zG S n=some r/\r.length<=60/\t=keepT r h)\/
 (wd=Str.ofString "match"/\ ∃(n m:Str)(r1 r2:List (List Int)),as=[.name n,.name m]/\zG S n=some r1/\zG S m=some r2/\yo r1/\yo r2/\r1.length=r2.length/\t=pP r1 r2)
def BareN(S:Std)(p u:List Std)(wd:Str)(as:List DArg)(w:Str):Prop :=
 (w=Str.ofString "rule"/\wd=Str.ofString "add"/\dc S as)\/(w=Str.ofString "place"/\wd=Str.ofString "take"/\wS S as)\/
 (w=Str.ofString "many"/\wd=Str.ofString "match"/\ ∃(n m:Str)(r1 r2:List (List Int)),as=[.name n,.name m]/\zG S n=some r1/\zG S m=some r2/\yo r1/\yo r2/\r1.length≠r2.length)\/
 (w=Str.ofString "nothing"/\((wd=Str.ofString "undo"/\as=[]/\p=[])\/(wd=Str.ofString "again"/\as=[]/\u=[])))
def wH(S:Std)(p u:List Std)(line:Str)(due:DueN)(S':Std)(p' u':List Std):Prop:=line.length<=100000/\S.length<=50/\p.length<=1000/\u.length<=1000/\ ∃wd as,vP line=some (wd,as)/\
 ((∃t,due= .told t/\S'=S/\p'=p/\u'=u/\AskN S wd as t)\/
  (∃n r,PutOf S wd as n r/\rQ r/\due= .told (rtxt r)/\S'=putS S n r/\p'=p++[S]/\u'=[])\/
  (∃t,cR S p u wd as S' p' u'/\u0 S'/\S'.length<64/\yi (S'.map (·.1)) t/\due= .told t)\/
  (∃form n,y0 wd=some form/\zw S form as=some n/\due= .name n/\S'=S/\p'=p/\u'=u)\/
  (∃w,due= .bare w/\S'=S/\p'=p/\u'=u/\BareN S p u wd as w))
theorem wH.bare{S S':Std}{p u p' u':List Std}{line w:Str}(h:wH S p u line (.bare w) S' p' u'):w=Str.ofString "rule"\/w=Str.ofString "place"\/w=Str.ofString "many"\/w=Str.ofString "nothing" :=by
 obtain⟨_,_,_,_,wd,as,_,h⟩:=h;rcases h with⟨t,e,_⟩|⟨n,r,_,_,e,_⟩|⟨t,_,_,_,_,e⟩|⟨form,n,_,_,e,_⟩|⟨w',e,_,_,_,h⟩
 ·cases e
 ·cases e
 ·cases e
 ·cases e
 ·cases e;rcases h with⟨h,_⟩|⟨h,_⟩|⟨h,_⟩|⟨h,_⟩
  ·exact .inl h
  ·exact .inr (.inl h)
  ·exact .inr (.inr (.inl h))
  ·exact .inr (.inr (.inr h))
theorem tL(a b:Str):(Txt.join (Str.ofString " ") [a,b]).cps.toList=a.cps.toList++32::b.cps.toList:=by
 rw[show Str.ofString " "=(⟨#[32]⟩:Str)from yJ,show Txt.join (⟨#[32]⟩:Str) [a,b]=Str.join ⟨#[32]⟩ [a,b]from StrLaws.glued_eq_join _ _,jf];rfl
theorem ua(a b c:Str):(Txt.join (Str.ofString " ") [a,b,c]).cps.toList=a.cps.toList++32::(b.cps.toList++32::c.cps.toList):=by
 rw[show Str.ofString " "=(⟨#[32]⟩:Str)from yJ,show Txt.join (⟨#[32]⟩:Str) [a,b,c]=Str.join ⟨#[32]⟩ [a,b,c]from StrLaws.glued_eq_join _ _,jf];rfl
structure FineS(S:Std)(n:Nat):Prop where
 hr:∀p∈S,yo p.2
 nm:u0 S
 ln:S.length<=n
theorem FineS.look{S:Std}{n:Nat}(h:FineS S n){x:Str}{r:List (List Int)}(e:zG S x=some r):yo r:=h.hr _ (kT e)
theorem FineS.put{S:Std}{k:Nat}(h:FineS S k){n:Str}{r:List (List Int)}(hn:n.length<=8)(hR:yo r):FineS (putS S n r) (k+1):=by
 refine⟨fun p hp=>?_,h.nm.put hn,?_⟩
 ·rcases bq hp with hp|⟨_,e⟩
  ·exact h.hr p hp
  ·rw[e];exact hR
 ·have:=putS_len S n r;have:=h.ln;omega
theorem FineS.drop{S:Std}{k:Nat}(h:FineS S k){n:Str}:FineS (pj S n) (k+1):=by
 refine⟨fun p hp=>h.hr p (pq hp),h.nm.drop,?_⟩;have:=pk S n;have:=h.ln;omega
def afterP(p:List Std)(S:Std):DueN->List Std
 | .told _=>p++[S]
 | _=>p
def afterU(u:List Std):DueN->List Std
 | .told _=>[]
 | _=>u
theorem mI{S:Std}{k:Nat}{names:List Str}{P:Plan}{S':Std}{du:DueN}(h:rR S P S' du)(hok:rS names P)(hn:∀n∈names,zF n=true)(F:FineS S k):FineS S' (k+1):=by
 have l8:∀n∈names,n.length<=8:=fun n m=>(zB (hn n m)).2;have up:FineS S (k+1):=⟨F.hr,F.nm,by have:=F.ln;omega⟩;cases P with
 |rule n r=>obtain⟨rfl,rfl⟩:=h;exact F.put (l8 n hok.1) hok.2
 |add n hp =>
  rcases h with⟨_,rfl,_⟩|⟨r,hl,h⟩
  ·exact up
  rcases h with⟨_,rfl,_⟩|⟨l6,rfl,_⟩
  ·exact up
  have hR:=F.look hl;refine F.put (l8 n hok.1) ⟨by rw[length_append];show r.length+1<=6;omega,fun x hx=>?_⟩;rcases mem_append.mp hx with hx|hx
  ·exact hR.2 x hx
  ·rw[List.mem_singleton.mp hx];exact hok.2
 |take n j =>
  rcases h with⟨_,rfl,_⟩|⟨r,hl,h⟩
  ·exact up
  rcases h with⟨_,rfl,_⟩|⟨hj,rfl,_⟩
  ·exact up
  have hR:=F.look hl;refine F.put (l8 n hok.1) ⟨?_,fun x hx=>hR.2 x (List.mem_of_mem_eraseIdx hx)⟩;have:=hR.1;rw[List.length_eraseIdx];split <;>omega
 |copy n m =>
  rcases h with⟨_,rfl,_⟩|⟨r,hl,rfl,_⟩
  ·exact up
  exact F.put (l8 m hok.2) (F.look hl)
 |drop n =>
  rcases h with⟨_,rfl,_⟩|⟨r,z,hl,rfl,_⟩
  ·exact up
  exact F.drop
 |move w=>exact h.elim
theorem step_plan{S:Std}{p u:List Std}{names:List Str}{P:Plan}{S':Std}{du:DueN}(h:rR S P S' du)(hok:rS names P)(hn:∀n∈names,zF n=true)(F:FineS S 50)(lp:p.length<=1000)(lu:u.length<=1000) :
  wH S p u (pN P) du S' (afterP p S du) (afterU u du):=by
 have lb:(Str.ofString " ").length=1:=by decide+kernel
 have nameless1:∀{n k:Str}{ks:List Str}{as:List DArg},zG S n=none->k=Str.ofString "NAME"->zw S (k::ks) (.name n::as)=some n:=fun e hk=>by rw[zw,if_pos ⟨hk,e⟩]
 cases P with
 |rule n r =>
  obtain⟨rfl,rfl⟩:=h;obtain⟨mn,hR⟩:=hok;have l1:=zB (hn n mn);have lt:=bu hR.1 hR.fine.2;have lw:(Str.ofString "rule ").length=5:=by decide+kernel
  refine⟨by unfold pN;simp only[zO];omega,F.ln,lp,lu,_,_,line2 tH (by decide+kernel) (jt (hn n mn)) (ub (by decide+kernel) n _) (yg (hn n mn)).2 hR.reads,.inr (.inl ⟨n,r,.inl ⟨rfl,rfl⟩,hR.fine,rfl,rfl,rfl,rfl⟩)⟩
 |add n hp =>
  obtain⟨mn,h10,hh⟩:=hok;have l1:=zB (hn n mn);have lt:=wz h10 hh.bd;have lw:(Str.ofString "add ").length=4:=by decide+kernel
  refine⟨by unfold pN;simp only[zO];omega,F.ln,lp,lu,_,_,line2 vZ (by decide+kernel) (jt (hn n mn)) (ub (by decide+kernel) n _) (yg (hn n mn)).1 (by rw[xb,wq hh];rfl),?_⟩;have fS:=fun e=>mI (P:=.add n hp) (S':=S') (du:=du) h ⟨mn,h10,hh⟩ hn (k:=50) e;rcases h with⟨e,rfl,rfl⟩|⟨r,hl,h⟩
  ·exact .inr (.inr (.inr (.inl ⟨_,n,vZ,nameless1 e rfl,rfl,rfl,rfl,rfl⟩)))
  rcases h with⟨e,rfl,rfl⟩|⟨l6,rfl,rfl⟩
  ·exact .inr (.inr (.inr (.inr ⟨_,rfl,rfl,rfl,rfl,.inl ⟨rfl,rfl,n,hp,r,rfl,hl,by omega⟩⟩)))
  ·have hR:=F.look hl;refine .inr (.inl ⟨n,r++[hp],.inr (.inl ⟨rfl,hp,r,rfl,hl,l6,rfl⟩),?_,rfl,rfl,rfl,rfl⟩);refine yo.fine ⟨by rw[length_append];show r.length+1<=6;omega,fun x hx=>?_⟩;rcases mem_append.mp hx with hx|hx
   ·exact hR.2 x hx
   ·rw[List.mem_singleton.mp hx];exact⟨h10,hh⟩
 |take n j =>
  obtain⟨mn,hj6⟩:=hok;have l1:=zB (hn n mn);have ln:(numS (j:Int)).length<=1:=by rw[zJ];exact ya (by omega) (by decide) (by omega)
  have lw:(Str.ofString "take").length=4:=by decide+kernel
  have ll:(pN (.take n j)).length<=100000:=by
   unfold pN;rw[zJ,ua];simp only[length_append,length_cons,<-zJ];omega
  refine⟨ll,F.ln,lp,lu,_,_,line2 u8 (by decide+kernel) (jt (hn n mn)) (ua _ n _) (yg (hn n mn)).1 (by rw[readP_num,cH (by omega) (by omega)];rfl),?_⟩;rcases h with⟨e,rfl,rfl⟩|⟨r,hl,h⟩
  ·exact .inr (.inr (.inr (.inl ⟨_,n,u8,nameless1 e rfl,rfl,rfl,rfl,rfl⟩)))
  have hR:=F.look hl;rcases h with⟨e,rfl,rfl⟩|⟨hj,rfl,rfl⟩
  ·exact .inr (.inr (.inr (.inr ⟨_,rfl,rfl,rfl,rfl,.inr (.inl ⟨rfl,rfl,n,j,r,rfl,hl,e⟩)⟩)))
  ·refine .inr (.inl ⟨n,r.eraseIdx j,.inr (.inr (.inl ⟨rfl,j,r,rfl,hl,hj,le_trans hR.1 (by decide),rfl⟩)),?_,rfl,rfl,rfl,rfl⟩);refine yo.fine ⟨?_,fun x hx=>hR.2 x (List.mem_of_mem_eraseIdx hx)⟩;have:=hR.1;rw[List.length_eraseIdx];split <;>omega
 |copy n m =>
  obtain⟨mn,mm⟩:=hok;have l1:=zB (hn n mn);have l2:=zB (hn m mm);have lw:(Str.ofString "copy").length=4:=by decide+kernel
  have ll:(pN (.copy n m)).length<=100000:=by
   unfold pN;rw[zJ,ua];simp only[length_append,length_cons,<-zJ];omega
  refine⟨ll,F.ln,lp,lu,_,_,line2 pA (by decide+kernel) (jt (hn n mn)) (ua _ n _) (yg (hn n mn)).1 (yg (hn m mm)).2,?_⟩;rcases h with⟨e,rfl,rfl⟩|⟨r,hl,rfl,rfl⟩
  ·exact .inr (.inr (.inr (.inl ⟨_,n,pA,nameless1 e rfl,rfl,rfl,rfl,rfl⟩)))
  ·exact .inr (.inl ⟨m,r,.inr (.inr (.inr ⟨rfl,n,rfl,hl⟩)),(F.look hl).fine,rfl,rfl,rfl,rfl⟩)
 |drop n =>
  have l1:=zB (hn n hok);have lw:(Str.ofString "drop").length=4:=by decide+kernel
  have ll:(pN (.drop n)).length<=100000:=by
   unfold pN;rw[zJ,tL];simp only[length_append,length_cons,<-zJ];omega
  refine⟨ll,F.ln,lp,lu,_,_,line1 pB (by decide+kernel) (tL _ n) (yg (hn n hok)).1,?_⟩;rcases h with⟨e,rfl,rfl⟩|⟨r,z,hl,rfl,hN,rfl⟩
  ·exact .inr (.inr (.inr (.inl ⟨_,n,pB,nameless1 e rfl,rfl,rfl,rfl,rfl⟩)))
  ·have:=pk S n;have:=F.ln;exact .inr (.inr (.inl ⟨z,.inl ⟨rfl,n,r,rfl,hl,rfl,rfl,rfl⟩,F.nm.drop,by omega,hN,rfl⟩))
 |move w=>exact h.elim
def bkAt(book:List Std)(i:Nat):Std:=book.getD i []
def bkP(book:List Std)(i:Nat):List Std:=book.take i
def bkU(book:List Std)(i:Nat):List Std:=(book.drop (i+1)).reverse
theorem dl{book:List Std}{i:Nat}(h:i<book.length):bkP book (i+1)=bkP book i++[bkAt book i]:=by
 unfold bkP bkAt;rw[take_succ_eq_append_getElem h,getD_eq_getElem?_getD,getElem?_eq_getElem h];rfl
theorem bk_drop{book:List Std}{i:Nat}(h:i+1<book.length):bkU book i=bkU book (i+1)++[bkAt book (i+1)]:=by
 unfold bkU bkAt;rw[drop_eq_getElem_cons h,List.reverse_cons,getD_eq_getElem?_getD,getElem?_eq_getElem h];rfl
theorem step_undo{book:List Std}{i:Nat}(h:i+1<book.length)(hl:book.length<=60)(F:∀j,FineS (bkAt book j) 50){z:Str}(hN:yi ((bkAt book i).map (·.1)) z) :
  wH (bkAt book (i+1)) (bkP book (i+1)) (bkU book (i+1)) (Str.ofString "undo") (.told z) (bkAt book i) (bkP book i) (bkU book i):=by
 refine⟨by decide+kernel,(F _).ln,by unfold bkP;rw[length_take];omega,by unfold bkU;rw[List.length_reverse,length_drop];omega,_,_,line0 u9 (by decide+kernel),.inr (.inr (.inl ⟨z,.inr (.inl ⟨rfl,rfl,dl (by omega),bk_drop h⟩),(F _).nm,by have:=(F i).ln;omega,hN,rfl⟩))⟩
theorem step_again{book:List Std}{i:Nat}(h:i+1<book.length)(hl:book.length<=60)(F:∀j,FineS (bkAt book j) 50){z:Str}(hN:yi ((bkAt book (i+1)).map (·.1)) z) :
  wH (bkAt book i) (bkP book i) (bkU book i) (Str.ofString "again") (.told z) (bkAt book (i+1)) (bkP book (i+1)) (bkU book (i+1)):=by
 refine⟨by decide+kernel,(F _).ln,by unfold bkP;rw[length_take];omega,by unfold bkU;rw[List.length_reverse,length_drop];omega,_,_,line0 wD (by decide+kernel),.inr (.inr (.inl ⟨z,.inr (.inr ⟨rfl,rfl,bk_drop h,dl (by omega)⟩),(F _).nm,by have:=(F (i+1)).ln;omega,hN,rfl⟩))⟩
theorem vI{book:List Std}{i:Nat}{w:Str}(hl:book.length<=60)(F:∀j,FineS (bkAt book j) 50)(h:(w=Str.ofString "undo"/\i=0)\/(w=Str.ofString "again"/\book.length<=i+1)) :
  wH (bkAt book i) (bkP book i) (bkU book i) w (.bare (Str.ofString "nothing")) (bkAt book i) (bkP book i) (bkU book i):=by
 have l1:(bkP book i).length<=1000:=by unfold bkP;rw[length_take];omega
 have l2:(bkU book i).length<=1000:=by unfold bkU;rw[List.length_reverse,length_drop];omega
 rcases h with⟨rfl,rfl⟩|⟨rfl,h⟩
 ·exact⟨by decide+kernel,(F _).ln,l1,l2,_,_,line0 u9 (by decide+kernel),.inr (.inr (.inr (.inr ⟨_,rfl,rfl,rfl,rfl,.inr (.inr (.inr ⟨rfl,.inl ⟨rfl,rfl,rfl⟩⟩))⟩)))⟩
 ·exact⟨by decide+kernel,(F _).ln,l1,l2,_,_,line0 wD (by decide+kernel),.inr (.inr (.inr (.inr ⟨_,rfl,rfl,rfl,rfl,.inr (.inr (.inr ⟨rfl,.inr ⟨rfl,rfl,by unfold bkU;rw[List.drop_eq_nil_of_le h];rfl⟩⟩))⟩)))⟩
theorem xo{S:Std}{p u:List Std}(F:FineS S 50)(lp:p.length<=1000)(lu:u.length<=1000){z:Str}(hN:yi (S.map (·.1)) z):wH S p u (Str.ofString "names") (.told z) S p u :=
 ⟨by decide+kernel,F.ln,lp,lu,_,_,line0 gK (by decide+kernel),.inl ⟨z,rfl,rfl,rfl,rfl,.inl ⟨rfl,rfl,F.nm,hN⟩⟩⟩
def jH(S:Std)(n:Str):DueN:=match zG S n with
 |none=>.name n
 |some r=>.told (rtxt r)
theorem d6{S:Std}{p u:List Std}(F:FineS S 50)(lp:p.length<=1000)(lu:u.length<=1000){n:Str}(hn:zF n=true):wH S p u (Str.ofString "show "++n) (jH S n) S p u:=by
 have l1:=zB hn;have lw:(Str.ofString "show ").length=5:=by decide+kernel
 refine⟨by rw[zO];omega,F.ln,lp,lu,_,_,line1 pC (by decide+kernel) (pre_cps (by decide+kernel) n) (yg hn).1,?_⟩;unfold jH;cases e:zG S n with
 |none=>exact .inr (.inr (.inr (.inl ⟨_,n,pC,by rw[zw,if_pos ⟨rfl,e⟩],rfl,rfl,rfl,rfl⟩)))
 |some r=>exact .inl ⟨_,rfl,rfl,rfl,rfl,.inr (.inl ⟨rfl,n,r,rfl,e,(F.look e).fine,rfl⟩)⟩
def dO(S:Std)(n:Str)(h:List Int):DueN:=match zG S n with
 |none=>.name n
 |some r=>.told (keepT r h)
theorem step_keep{S:Std}{p u:List Std}(F:FineS S 50)(lp:p.length<=1000)(lu:u.length<=1000){n:Str}(hn:zF n=true){h:List Int}(hh:IsHeap 60 (10^60) h)(h10:h.length<=10):wH S p u (lineK n h) (dO S n h) S p u:=by
 refine⟨le_trans (lineK_len hn hh h10) (by decide),F.ln,lp,lu,_,_,read_keeps hn hh,?_⟩;unfold dO;cases e:zG S n with
 |none=>exact .inr (.inr (.inr (.inl ⟨_,n,uG,by rw[zw,if_pos ⟨rfl,e⟩],rfl,rfl,rfl,rfl⟩)))
 |some r=>exact .inl ⟨_,rfl,rfl,rfl,rfl,.inr (.inr (.inl ⟨rfl,n,r,h,rfl,e,le_trans (F.look e).1 (by decide),rfl⟩))⟩
def lineX(n m:Str):Str:=((Str.ofString "match "++n)++Str.ofString " ")++m
theorem step_match{S:Std}{p u:List Std}(F:FineS S 50)(lp:p.length<=1000)(lu:u.length<=1000){n m:Str}(hn:zF n=true)(hm:zF m=true){du:DueN}(h:MDue S n m du):wH S p u (lineX n m) du S p u:=by
 have l1:=zB hn;have l2:=zB hm;have lb:(Str.ofString " ").length=1:=by decide+kernel
 have lw:(Str.ofString "match ").length=6:=by decide+kernel
 refine⟨by unfold lineX;simp only[zO];omega,F.ln,lp,lu,_,_,line2 wE (by decide+kernel) (jt hn) (ub (by decide+kernel) n _) (yg hn).1 (yg hm).1,?_⟩;rcases h with⟨e,rfl⟩|⟨r1,e1,h⟩
 ·exact .inr (.inr (.inr (.inl ⟨_,n,wE,by rw[zw,if_pos ⟨rfl,e⟩],rfl,rfl,rfl,rfl⟩)))
 rcases h with⟨e,rfl⟩|⟨r2,e2,h⟩
 ·exact .inr (.inr (.inr (.inl ⟨_,m,wE,by rw[kW _ _ _ e1,zw,if_pos ⟨rfl,e⟩],rfl,rfl,rfl,rfl⟩)))
 rcases h with⟨hl,rfl⟩|⟨hl,rfl⟩
 ·exact .inr (.inr (.inr (.inr ⟨_,rfl,rfl,rfl,rfl,.inr (.inr (.inl ⟨rfl,rfl,n,m,r1,r2,rfl,e1,e2,F.look e1,F.look e2,hl⟩))⟩)))
 ·exact .inl ⟨_,rfl,rfl,rfl,rfl,.inr (.inr (.inr ⟨rfl,n,m,r1,r2,rfl,e1,e2,F.look e1,F.look e2,hl,rfl⟩))⟩
def BkV(B:List (Addr×HO))(S:Std)(v:V)(H:Hp):Prop:=∃ d kvs,v= .ref d/\(d,HO.dK kvs)∈B/\StdV H S kvs
structure BW(C:Addr)(H:Hp)(st ga ca x nl bl:Addr)(B:List (Addr×HO))(O:List Addr)(N:Nat)(names:List Str)(book:List Std)(us:List V)(i:Nat):Prop where
 wl:WL C H st ga ca x B O N (bkAt book i) (bkP book i) (bkU book i)
 hn:(nl,HO.lst (names.map V.str))∈B
 hb:(bl,HO.lst us)∈B
 bk:All2 (BkV B) H book us
 lt:i<book.length
 ln:book.length<=50
 fn:∀j,FineS (bkAt book j) j
 nm:∀n∈names,zF n=true
 n4:names.length=4
 z0:bkAt book 0=[]
namespace BW
variable{C:Addr}{H H':Hp}{st ga ca x nl bl:Addr}{B:List (Addr×HO)}{O O':List Addr}{N N':Nat}{names:List Str}{book:List Std}{us:List V}{i j:Nat}
theorem fine(b:BW C H st ga ca x nl bl B O N names book us i)(j:Nat):FineS (bkAt book j) 50:=by
 by_cases h:j<book.length
 ·exact⟨(b.fn j).hr,(b.fn j).nm,by have:=(b.fn j).ln;have:=b.ln;omega⟩
 ·have e:bkAt book j=[]:=by unfold bkAt;rw[getD_eq_getElem?_getD,List.getElem?_eq_none (by omega)];rfl
  rw[e];exact⟨(fun _ z=>by cases z),(fun _ z=>by cases z),zero_le _⟩
theorem lp(b:BW C H st ga ca x nl bl B O N names book us i):(bkP book i).length<=1000/\(bkU book i).length<=1000:=by
 have:=b.ln;unfold bkP bkU;rw[length_take,List.length_reverse,length_drop];omega
theorem mvB{H H':Hp}(t:Tups H H')(a:All2 (BkV B) H book us):All2 (BkV B) H' book us:=a.imp fun _ _ ⟨d,kvs,e,m,s⟩=>⟨d,kvs,e,m,s.mv t⟩
theorem same(b:BW C H st ga ca x nl bl B O N names book us i)(s:Same H H'):BW C H' st ga ca x nl bl B O N names book us i:=⟨b.wl.same s,b.hn,b.hb,mvB s.tups b.bk,b.lt,b.ln,b.fn,b.nm,b.n4,b.z0⟩
theorem drawn(b:BW C H st ga ca x nl bl B O N names book us i)(S':StAt H' st ga ca N')(K:Keep [st,ga] H H'):BW C H' st ga ca x nl bl B O N' names book us i:=⟨b.wl.drawn S' K,b.hn,b.hb,mvB (K.tups b.wl.s) b.bk,b.lt,b.ln,b.fn,b.nm,b.n4,b.z0⟩
theorem desk(b:BW C H st ga ca x nl bl B O N names book us i)(hj:j<book.length)(A:After C H H' x O O' (bkAt book j) (bkP book j) (bkU book j)):BW C H' st ga ca x nl bl B O' N names book us j:=⟨b.wl.desk A,b.hn,b.hb,mvB A.tups b.bk,hj,b.ln,b.fn,b.nm,b.n4,b.z0⟩
theorem gn(b:BW C H st ga ca x nl bl B O N names book us i):H nl=some (.lst (names.map V.str)):=(b.wl.bx _ b.hn).1
theorem gb(b:BW C H st ga ca x nl bl B O N names book us i):H bl=some (.lst us):=(b.wl.bx _ b.hb).1
theorem dict(b:BW C H st ga ca x nl bl B O N names book us i)(hj:j<book.length):∃d kvs,us[j]? =some (.ref d)/\(d,HO.dK kvs)∈B/\H d=some (.dK kvs)/\StdV H (bkAt book j) kvs:=by
 obtain⟨v,hv,d,kvs,rfl,m,sv⟩:=b.bk.at (getElem?_eq_getElem hj);refine⟨d,kvs,hv,m,(b.wl.bx _ m).1,?_⟩;unfold bkAt;rw[getD_eq_getElem?_getD,getElem?_eq_getElem hj];exact sv
theorem ulen(b:BW C H st ga ca x nl bl B O N names book us i):us.length=book.length:=b.bk.length.symm
end BW
theorem WL.adopt{C:Addr}{H H':Hp}{st ga ca x:Addr}{B:List (Addr×HO)}{O:List Addr}{N:Nat}{S:Std}{past und:List Std}(W0:WL C H st ga ca x B O N S past und)(s:Same H H'){l:Addr}{o:HO}(h:H l=none)(h':H' l=some o):WL C H' st ga ca x ((l,o)::B) O N S past und:=by
 have W':=W0.same s;have nl0:l∉[st,ga,ca]++B.map (·.1):=fun m=>by obtain⟨u,e⟩:=W0.trk l m;rw[h]at e;cases e
 refine⟨W'.s,⟨W'.d.1,fun b hb m=>?_⟩,fun p hp=>?_,?_⟩
 ·have:b=l\/b∈[st,ga,ca]++B.map (·.1):=by
   simp only[map_cons,mem_append,mem_cons]at m ⊢;rcases m with m|m|m
   ·exact .inr (.inl m)
   ·exact .inl m
   ·exact .inr (.inr m)
  rcases this with rfl|h2
  ·exact W0.d.1.nin h hb
  ·exact W0.d.2 b hb h2
 ·rcases mem_cons.mp hp with rfl|hp
  ·exact⟨h',fun m=>nl0 (List.mem_append_left _ m)⟩
  ·exact W'.bx p hp
 ·rw[map_cons,nodup_cons];exact⟨fun m=>nl0 (mem_append_right _ m),W0.nd⟩
theorem SqL.mvS{K:W.Frag}{H H':Hp}{a:Addr}{xs:List V}(s:Same H H')(h:SqL K H a xs):SqL K H' a xs:=by
 rcases h with h|h
 ·rcases h with h|h
  ·exact .inl (.inl (s _ _ h))
  ·exact .inl (.inr (by first|exact s _ _ h|(obtain⟨o,h⟩:=h;exact⟨o,s _ _ h⟩)))
 ·exact .inr h
theorem Same.kept{H H1 H2:Hp}{st ga:Addr}(s:Same H H1)(K:Keep [st,ga] H1 H2)(n1:H st=none)(n2:H ga=none):Same H H2:=fun b o e=>K b o (s b o e) fun m=>by
 have:b=st\/b=ga:=by simpa using m
 rcases this with rfl|rfl
 ·rw[n1]at e;cases e
 ·rw[n2]at e;cases e
theorem BW.told{C:Addr}{H H':Hp}{st ga ca x nl bl bl' d:Addr}{B B':List (Addr×HO)}{O O':List Addr}{N:Nat}{names:List Str}{book:List Std}{us:List V}{i:Nat}{S':Std}{kvs:List (Key×V)}(b:BW C H st ga ca x nl bl B O N names book us i)(W0:WL C H' st ga ca x B' O' N S' (bkP book i++[bkAt book i]) [])(sub:∀p∈B,p∈B')(hd:(d,HO.dK kvs)∈B')(hb:(bl',HO.lst (us.take (i+1)++[.ref d]))∈B')(t:Tups H H')(sv:StdV H' S' kvs)(F:FineS S' (i+1))(ln:book.length<=49) :
  BW C H' st ga ca x nl bl' B' O' N names (book.take (i+1)++[S']) (us.take (i+1)++[.ref d]) (i+1):=by
 have hlt:=b.lt;have lt:(book.take (i+1)).length=i+1:=by rw[length_take];omega
 have lb:(book.take (i+1)++[S']).length=i+2:=by rw[length_append,lt];rfl
 have at1:bkAt (book.take (i+1)++[S']) (i+1)=S':=by
  unfold bkAt;rw[getD_eq_getElem?_getD,List.getElem?_append_right (by omega),lt,Nat.sub_self];rfl
 have atj:∀j,j<=i->bkAt (book.take (i+1)++[S']) j=bkAt book j:=fun j hj=>by
  unfold bkAt;rw[getD_eq_getElem?_getD,getD_eq_getElem?_getD,List.getElem?_append_left (by omega),List.getElem?_take,if_pos (by omega)]
 have eP:bkP (book.take (i+1)++[S']) (i+1)=bkP book i++[bkAt book i]:=by
  rw[<-dl b.lt];unfold bkP;rw[List.take_append_of_le_length (by omega),List.take_take,Nat.min_self]
 have eU:bkU (book.take (i+1)++[S']) (i+1)=[]:=by
  unfold bkU;rw[List.drop_eq_nil_of_le (by omega)];rfl
 refine⟨by rw[at1,eP,eU];exact W0,sub _ b.hn,hb,?_,by omega,by omega,fun j=>?_,b.nm,b.n4,by rw[atj 0 (zero_le _)];exact b.z0⟩
 ·exact((b.bk.take (i+1)).imp2 fun _ _ ⟨d,kvs,e,m,s⟩=>⟨d,kvs,e,sub _ m,s.mv t⟩).snoc ⟨d,kvs,rfl,hd,sv⟩
 ·by_cases hj:j<=i
  ·rw[atj j hj];exact b.fn j
  ·by_cases hj2:j=i+1
   ·subst hj2;rw[at1];exact F
   ·have e:bkAt (book.take (i+1)++[S']) j=[]:=by unfold bkAt;rw[getD_eq_getElem?_getD,List.getElem?_eq_none (by omega)];rfl
    rw[e];exact⟨(fun _ z=>by cases z),(fun _ z=>by cases z),zero_le _⟩
theorem rR.stays{S S':Std}{P:Plan}{du:DueN}(h:rR S P S' du)(hd:∀z,du≠ .told z):S'=S:=by
 cases P with
 |rule n r=>exact absurd h.2 (hd _)
 |add n hp =>
  rcases h with⟨_,e,_⟩|⟨r,_,h⟩
  ·exact e
  ·rcases h with⟨_,e,_⟩|⟨_,_,e⟩
   ·exact e
   ·exact absurd e (hd _)
 |take n k =>
  rcases h with⟨_,e,_⟩|⟨r,_,h⟩
  ·exact e
  ·rcases h with⟨_,e,_⟩|⟨_,_,e⟩
   ·exact e
   ·exact absurd e (hd _)
 |copy n m =>
  rcases h with⟨_,e,_⟩|⟨r,_,_,e⟩
  ·exact e
  ·exact absurd e (hd _)
 |drop n =>
  rcases h with⟨_,e,_⟩|⟨r,z,_,_,_,e⟩
  ·exact e
  ·exact absurd e (hd _)
 |move w=>exact h.elim
end L2
namespace My
open PySem PySem.Spec PyProof.Rows L2
local macro_rules | `(tactic| walk_at "n")=>`(tactic| (intro vs H Q E h; first | (cases h; subst_vars; rfl) | repeat first | (obtain ⟨e,_⟩:=h; cases e; rfl) | (cases h; rfl) | obtain ⟨_,h⟩:=h))
def top(i:Nat):Stmt:=PySem.Challenge.pw_shutpairs_k50_whole_desk.main.body.getD i (.Pass ⟨0,0,0,0⟩)
abbrev yk:Stmt:=top 104
abbrev xf:Stmt:=top 106
abbrev qD:Stmt:=top 105
abbrev qE:Stmt:=top 113
abbrev yY:Stmt:=top 107
abbrev zV:Stmt:=top 112
abbrev qG:Stmt:=top 119
abbrev yc:Stmt:=top 114
abbrev yf:Stmt:=top 115
abbrev ye:Stmt:=top 120
abbrev jw:Stmt:=top 116
abbrev qF:Stmt:=top 121
abbrev j3:Stmt:=top 61
abbrev j9:Stmt:=top 64
abbrev mO:Stmt:=top 19
abbrev yn:Stmt:=top 62
abbrev j5:Stmt:=top 63
abbrev j8:Stmt:=top 65
abbrev j7:Stmt:=top 82
abbrev ur:Stmt:=top 83
abbrev vB:Stmt:=top 84
abbrev yZ:Stmt:=top 85
abbrev jv:Stmt:=jY (top 15) 0
abbrev jx:Stmt:=top 86
abbrev vD:Stmt:=top 91
abbrev wK:Stmt:=jY (top 102) 1
abbrev uk:Stmt:=jY (top 102) 2
abbrev wL:Stmt:=jY (top 102) 3
abbrev wM:Stmt:=jY (top 102) 4
abbrev wv:Stmt:=jY (top 102) 5
abbrev qJ:Stmt:=top 92
abbrev s_often:Stmt:=top 21
abbrev mP:Stmt:=top 22
abbrev jF:Stmt:=top 39
abbrev xg:Stmt:=top 40
abbrev vC:Stmt:=top 93
abbrev bw:Stmt:=top 20
abbrev ym:Stmt:=top 28
abbrev vz:Stmt:=top 29
abbrev wO:Stmt:=top 23
abbrev wF:Stmt:=top 24
abbrev j4:Stmt:=top 30
abbrev km:Stmt:=top 32
abbrev wN:Stmt:=top 33
abbrev ko:Stmt:=top 96
abbrev mQ:Stmt:=top 87
abbrev vA:Stmt:=top 90
abbrev qH:Stmt:=top 88
abbrev qI:Stmt:=top 89
abbrev qB:Stmt:=jY (top 102) 6
abbrev um:Stmt:=top 122
abbrev vy:Stmt:=top 123
abbrev yC:Stmt:=top 108
abbrev vw:Stmt:=top 110
abbrev yv:Stmt:=top 111
abbrev uo:Stmt:=top 109
abbrev yb:Stmt:=top 117
abbrev uq:Stmt:=top 118
abbrev yd:Stmt:=top 124
abbrev qC:Stmt:=top 125
abbrev vx:Stmt:=top 126
abbrev xc:Stmt:=top 127
abbrev wu:Stmt:=jY (top 102) 0
abbrev s_law:Stmt:=top 128
def uV:List (Str×List Str):=[("rule",["FREE","RULE"]),("add",["NAME","HEAP"]),("take",["NAME","NUMBER"]),("copy",["NAME","FREE"]),("drop",["NAME"]),("undo",[]),("again",[]),("names",[]),("show",["NAME"]),("keeps",["NAME","HEAP"]),("count",["NAME","NUMBER"]),("list",["NAME","NUMBER"]),("match",["NAME","NAME"]),("send",["NAME","NAME","HEAP"]),("steps",["NAME","NAME","HEAP"])]
def xq:List Str:=["rule","add","take","copy"]
def xp:List Str:=["names","show","keeps","count","list","match","send","steps"]
set_option genInjectivity false in
structure Adr where
 (a0 a1 a2 a3 a4 a5 a6 a7 a8 a9 a10 a11 a12 a13 a14 a15 a16 a17 a18 a19 a20 a21 a22 a23 a24 a25 a26 a27 a28 a29 a30 a31 a32 a33 a34 a35 a36 a37 a38 a39 a40 a41 a42 a43 a44 a45 a46 a47 a48 a49 a50 a51 a52 a53 a54 a55 a56 a57 a58 a59 a60 a61 a62 a63 w0 w1 w2 w3 w4 w5 w6 w7 w8 w9 w10 w11:Addr)
 (f0 f1 f2 f3 f4 f5 f6 f7 f8 f9 f10 f11 f12 f13 f14 f15 f16 f17 f18 f19 f20 f21 f22 f23 f24 f25 f26 f27 f28 f29 f30 f31 f32 f33 f34 f35 f36 f37 f38 f39 f40 f41 f42 f43 f44 f45 f46 f47 f48 f49 f50 f51 f52 f53 f54 f55 f56 f57 f58 f59 f60 f61 f62 f63:FuncData)
set_option genInjectivity false in
structure Txt(P:Program)(w:World)(K:W.Frag)(mg:Str->Option Value)(A:Adr):Prop where
 x0:FB K mg "_law_start" yk A.a0 A.f0 ["_law_script"]
 x1:FB K mg "_law_mix" xf A.a1 A.f1 ["_law_state"]
 x2:FB K mg "_law_draw" qD A.a2 A.f2 ["_law_state","_law_many"]
 x3:FB K mg "_law_name" qE A.a3 A.f3 ["_law_state","_law_known"]
 x4:FB K mg "_law_heap" yY A.a4 A.f4 ["_law_state","_law_size","_law_top"]
 x5:FB K mg "_law_raw_rule" zV A.a5 A.f5 ["_law_state","_law_many","_law_size","_law_top"]
 x6:FB K mg "_law_plan" qG A.a6 A.f6 ["_law_state","_law_names"]
 x7:FB K mg "_law_heap_text" yc A.a7 A.f7 ["_law_heap_here"]
 x8:FB K mg "_law_rule_text" yf A.a8 A.f8 ["_law_rule"]
 x9:FB K mg "_law_plan_line" ye A.a9 A.f9 ["_law_plan_here"]
 x10:FB K mg "_law_names_text" jw A.a10 A.f10 ["_law_rules"]
 x11:FB K mg "_law_next" qF A.a11 A.f11 ["_law_rules","_law_plan_here"]
 x12:FB K mg "heap_text" j3 A.a12 A.f12 ["heap"]
 x13:FB K mg "rule_text" j9 A.a13 A.f13 ["rule"]
 x14:FB K mg "heap_of" mO A.a14 A.f14 ["parts"]
 x15:FB K mg "writes_number" yn A.a15 A.f15 ["word"]
 x16:FB K mg "read_heap" j5 A.a16 A.f16 ["text"]
 x17:FB K mg "read_rule" j8 A.a17 A.f17 ["text"]
 x18:FB K mg "read_name" j7 A.a18 A.f18 ["piece"]
 x19:FB K mg "read_number" ur A.a19 A.f19 ["piece"]
 x20:FB K mg "read_piece" vB A.a20 A.f20 ["kind","piece"]
 x21:FB K mg "read_line" yZ A.a21 A.f21 ["line"]
 x23:FB K mg "refuse_nameless" jx A.a23 A.f23 ["standing","word","given"]
 x24:FB K mg "tell_names" vD A.a24 A.f24 ["standing","given"]
 x30:FB K mg "tell_rule" qJ A.a30 A.f30 ["standing","given"]
 x31:FB K mg "often" s_often A.a31 A.f31 ["heap","part"]
 x32:FB K mg "lies_in" mP A.a32 A.f32 ["one","other"]
 x33:FB K mg "all_in" jF A.a33 A.f33 ["rule","heap"]
 x34:FB K mg "first_in" xg A.a34 A.f34 ["rule","heap"]
 x35:FB K mg "tell_keeps" vC A.a35 A.f35 ["standing","given"]
 x36:FB K mg "sum_of" bw A.a36 A.f36 ["heap"]
 x37:FB K mg "choices_among" ym A.a37 A.f37 ["numbers"]
 x38:FB K mg "choices_of" vz A.a38 A.f38 ["rule"]
 x39:FB K mg "unlike_parts" wO A.a39 A.f39 ["heaps"]
 x40:FB K mg "joined" wF A.a40 A.f40 ["heaps"]
 x41:FB K mg "joined_of" j4 A.a41 A.f41 ["rule","choice"]
 x42:FB K mg "sums_of" km A.a42 A.f42 ["rule"]
 x43:FB K mg "first_unlike" wN A.a43 A.f43 ["one","other"]
 x44:FB K mg "tell_match" ko A.a44 A.f44 ["standing","given"]
 x45:FB K mg "put_new" mQ A.a45 A.f45 ["standing","given"]
 x46:FB K mg "put_copied" vA A.a46 A.f46 ["standing","given"]
 x47:FB K mg "put_added" qH A.a47 A.f47 ["standing","given"]
 x48:FB K mg "put_taken" qI A.a48 A.f48 ["standing","given"]
 x50:FB K mg "_law_answer" um A.a50 A.f50 ["_law_desk","_law_line"]
 x51:FB K mg "_law_right" vy A.a51 A.f51 ["_law_desk","_law_line","_law_due"]
 x52:FB K mg "_law_lies" yC A.a52 A.f52 ["_law_one","_law_other"]
 x53:FB K mg "_law_first" vw A.a53 A.f53 ["_law_rule","_law_heap_here"]
 x54:FB K mg "_law_choices" yv A.a54 A.f54 ["_law_many"]
 x55:FB K mg "_law_joined" uo A.a55 A.f55 ["_law_heaps"]
 x56:FB K mg "_law_sums" yb A.a56 A.f56 ["_law_rule"]
 x57:FB K mg "_law_unlike" uq A.a57 A.f57 ["_law_one","_law_other"]
 x58:FB K mg "_law_match_due" yd A.a58 A.f58 ["_law_rules","_law_one","_law_two"]
 x59:FB K mg "_law_asks" qC A.a59 A.f59 ["_law_desk","_law_state","_law_rules","_law_names"]
 x60:FB K mg "_law_moved" vx A.a60 A.f60 ["_law_desk","_law_book","_law_here","_law_word"]
 x61:FB K mg "_law_end" xc A.a61 A.f61 ["_law_desk","_law_names","_law_book","_law_here"]
 x63:FB K mg "law" s_law A.a63 A.f63 ["_law_script"]
 w0:mg "all"=none
 w1:mg "dict"=none
 w2:mg "enumerate"=none
 w3:mg "int"=none
 w4:mg "isinstance"=none
 w5:mg "len"=none
 w6:mg "list"=none
 w7:mg "max"=none
 w8:mg "min"=none
 w9:mg "range"=none
 w10:mg "sorted"=none
 w11:mg "str"=none
 w12:mg "sum"=none
 w13:mg "tuple"=none
 w14:mg "zip"=none
 w15:∃t,mg "MOST_PARTS"=some (.int 60 t)
 w16:∃t,mg "MOST_HEAPS"=some (.int 6 t)
 w17:∃t,mg "FIGURES"=some (.str (Str.ofString "0123456789") t)
 w18:∃t,mg "MOST_FIGURES_texts"=some (.int 60 t)
 w19:∃t,mg "LETTERS"=some (.str (Str.ofString "abcdefghijklmnopqrstuvwxyz") t)
 w20:∃t,mg "MOST_LETTERS"=some (.int 8 t)
 w21:∃t,mg "MOST_FIGURES_desk"=some (.int 9 t)
 kin:∃h,K.In h
 w22:mg "NoHeap"=some (.ref A.w0)
 w23:mg "NoText"=some (.ref A.w1)
 w24:mg "NoRule"=some (.ref A.w2)
 w25:mg "NoPlace"=some (.ref A.w3)
 w26:mg "NotSoMany"=some (.ref A.w4)
 w27:mg "NoLine"=some (.ref A.w5)
 w28:mg "NoName"=some (.ref A.w6)
 w29:mg "NothingLeft"=some (.ref A.w7)
 w30:mg "Desk"=some (.ref A.w8)
 w31:ExcC K A.w3
 w32:ExcC K A.w2
 w33:ExcC K A.w1
 w34:ExcC K A.w4
 w35:ExcC K A.w7
 w36:ClsE K A.w1
 w37:ClsE K A.w2
 w38:ClsE K A.w3
 w39:ClsE K A.w4
 w40:ClsE K A.w6
 w41:ClsE K A.w7
 w42:W.mroIn K A.w1 (.ref A.w1)=some true
 w43:W.mroIn K A.w2 (.ref A.w2)=some true
 w44:W.mroIn K A.w2 (.ref A.w6)=some false
 w45:W.mroIn K A.w3 (.ref A.w3)=some true
 w46:W.mroIn K A.w3 (.ref A.w2)=some false
 w47:W.mroIn K A.w3 (.ref A.w6)=some false
 w48:W.mroIn K A.w4 (.ref A.w4)=some true
 w49:W.mroIn K A.w4 (.ref A.w2)=some false
 w50:W.mroIn K A.w4 (.ref A.w3)=some false
 w51:W.mroIn K A.w4 (.ref A.w6)=some false
 w52:W.mroIn K A.w6 (.ref A.w6)=some true
 w53:W.mroIn K A.w7 (.ref A.w7)=some true
 w54:W.mroIn K A.w7 (.ref A.w2)=some false
 w55:W.mroIn K A.w7 (.ref A.w3)=some false
 w56:W.mroIn K A.w7 (.ref A.w4)=some false
 w57:W.mroIn K A.w7 (.ref A.w6)=some false
 x22:MB K A.w6 "__init__" "NoName.__init__" jv A.a22 A.f22 ["self","name"]
 x25:MB K A.w8 "do_deed" "Desk.do_deed" wK A.a25 A.f25 ["self","standing"]
 x26:MB K A.w8 "do_put" "Desk.do_put" uk A.a26 A.f26 ["self","name","rule"]
 x27:MB K A.w8 "do_drop" "Desk.do_drop" wL A.a27 A.f27 ["self","name"]
 x28:MB K A.w8 "do_undo" "Desk.do_undo" wM A.a28 A.f28 ["self"]
 x29:MB K A.w8 "do_again" "Desk.do_again" wv A.a29 A.f29 ["self"]
 x49:MB K A.w8 "tell" "Desk.tell" qB A.a49 A.f49 ["self","line"]
 x62:MB K A.w8 "__init__" "Desk.__init__" wu A.a62 A.f62 ["self"]
 w58:Cls K A.w8
 w59:Mk K A.w8 A.a62
 w60:kz K A.w8 "past"
 w61:kz K A.w8 "standing"
 w62:kz K A.w8 "undone"
 w63:kz K A.w6 "name"
 w64:ExcI K A.w6 A.a22
 w65:ClsX K A.w6
 w66:mg "FORMS"=some (.ref A.w9)
 w67:mg "PUTS"=some (.ref A.w10)
 w68:mg "ASKS"=some (.ref A.w11)
 w69:KForms P w K A.w9 uV
 w70:KFns P w K A.w10 xq [("rule",A.a45),("add",A.a47),("take",A.a48),("copy",A.a46)]
 w71:KFns P w K A.w11 xp [("names",A.a24),("show",A.a30),("keeps",A.a35),("match",A.a44)]
section
variable{P:Program}{w:World}{K:W.Frag}{mg:Str->Option Value}{base:Heap}{A:Adr}
def wg:List Str:=["_law_script","_law_great"]
theorem ux:FnScope wg ["_law_script"] (z7 yk):=FS
inductive sp_start(K:W.Frag)(vs:List V)(H:Hp)(Q:VK)(E:XK):Prop
 |mk (a:Addr) (ns:List Int):vs=[.ref a]->SqL K H a (ns.map V.int)->ns.length<=63->(∀(st ga ca:Addr)(H':Hp),StAt H' st ga ca 0->H st=none->H ga=none->H ca=none->Same H H'->Q (.ref st) H')->sp_start K vs H Q E
theorem xU(T:Txt P w K mg A):FnOk P w K mg base CX0 1 A.a0 A.f0 ["_law_script"] (sp_start K):=by
 refine T.x0.F.ok ux (by walk_at "n") fun _ _ _ s H vs Q E hr h=>?_
 ·obtain⟨a,ns,rfl,hS,hl,k⟩:=h;refine⟨_,(z8 (ps_comp (i:=1) (ls:=["_law_cell"]) (fr:=[]) (csf (z7 yk) wg) rfl (yA (pv 0)) (fun _ _ _ _=>pgc 0 (by decide+kernel) rfl rfl) (fun _ _ _ _=>pf_one (zi op_ge (pvc (z7 yk) 0) (zL op_pow zc zc) (zu _))) (fun _ _ _ _=>(pvc (z7 yk) 0)) ux.nd rfl rfl rfl)
    (z9 (zo (jg (kx (pv 1) (pa3 zc (zX (ls:=["_law_cell"]) (fr:=[]) (csf (z7 yk) wg) rfl (yA (pv 0)) (fun _ _ _ _=>pgc 0 (by decide+kernel) rfl rfl) (fun _ _ _ _=>yj) (fun _ _ _ _=>(zL gU (pvc (z7 yk) 0) zc))) zc)))))),?_⟩
  refine⟨_,rfl,a,rfl,⟨_,hS⟩,kP (xs:=ns.map V.int) (fun i ys σ' H'=>H'=H/\(∃v,σ'=[v])/\ ∃gs:List Int,ys=gs.map V.int/\gs.length<=i/\ ∀x∈gs,0<x) ⟨rfl,⟨_,rfl⟩,[],rfl,zero_le _,fun _ hx=>nomatch hx⟩ ?_ ?_ ?_⟩
  ·rintro i ys σ' H' hi ⟨rfl,_,gs,rfl,hg,_⟩;refine⟨hS,?_⟩;rw[length_map]at hi ⊢;exact le_trans (le_trans hg (le_trans hi hl)) (by decide)
  ·rintro i x ys σ' H' hx ⟨rfl,⟨v,rfl⟩,gs,rfl,hg,hp⟩;rw[getElem?_map]at hx;cases hn:ns[i]? with
   |none=>rw[hn]at hx;cases hx
   |some z =>
    rw[hn]at hx;cases hx;refine⟨_,rfl,_,_,rfl,rfl,⟨by decide,by decide,by decide⟩,_,_,rfl,rfl,_,rfl,?_⟩;refine ite2 (fun hz=>⟨_,rfl,rfl,⟨_,rfl⟩,gs++[z],by simp,by simp;exact hg,fun y hy=>?_⟩) (fun hz=>⟨rfl,⟨_,rfl⟩,gs,rfl,Nat.le_succ_of_le hg,hp⟩);rcases mem_append.mp hy with hy|hy
    ·exact hp y hy
    ·have:y=z:=by simpa using hy
     subst this;exact Int.lt_of_lt_of_le (by decide) (of_decide_eq_true hz)
  ·rintro ys σ' H' ⟨rfl,_,gs,rfl,hg,hp⟩ g0 hg0;rw[length_map]at hg;have s1:Same H' (upd H' g0 (.lst (gs.map V.int))):=Same.new hg0;refine⟨_,rfl,_,rfl,a,rfl,⟨_,s1.seq hS⟩,kP (xs:=ns.map V.int) (fun i ys σ' H2=>H2=upd H' g0 (.lst (gs.map V.int))/\(∃v,σ'=[v])/\ ∃cs:List Int,ys=cs.map V.int/\cs.length=i) ⟨rfl,⟨_,rfl⟩,[],rfl,rfl⟩ ?_ ?_ ?_⟩
   ·rintro i ys σ' H2 hi ⟨rfl,_,cs,rfl,hc⟩;refine⟨s1.seq hS,?_⟩;rw[length_map]at hi ⊢;exact le_trans (le_trans (Nat.le_of_eq hc) (le_trans hi hl)) (by decide)
   ·rintro i x ys σ' H2 hx ⟨rfl,⟨v,rfl⟩,cs,rfl,hc⟩;rw[getElem?_map]at hx;cases hn:ns[i]? with
    |none=>rw[hn]at hx;cases hx
    |some z =>
     rw[hn]at hx;cases hx;refine⟨_,rfl,_,_,rfl,rfl,(by show(0:Int)<2147483629;decide),rfl,⟨_,rfl⟩,cs++[z%2147483629],by simp,by simp[hc]⟩
   ·rintro ys σ' H2 ⟨rfl,_,cs,rfl,hc⟩ c0 hc0;refine⟨by show 4<=sizeLine;decide,fun st hst=>?_⟩;have n1:g0≠c0:=fun z=>by rw[<-z,z6]at hc0;cases hc0
    have n2:st≠c0:=fun z=>by rw[z,z6]at hst;cases hst
    have hst1:upd H' g0 (.lst (gs.map V.int)) st=none:=by rw[zh n2]at hst;exact hst
    have n3:st≠g0:=fun z=>by rw[z,z6]at hst1;cases hst1
    refine k st g0 c0 _ ⟨⟨gs,cs,0,0,z6,?_,?_,le_trans hg hl,hp,Int.le_refl _,Int.le_refl _,Int.le_refl _⟩,n1,n3,n2⟩ ?_ hg0 ?_ (s1.trans ((Same.new hc0).trans (Same.new hst)))
    ·rw[zh n3.symm,zh n1,z6]
    ·rw[zh n2.symm,z6]
    ·rw[zh n3]at hst1;exact hst1
    ·rw[zh n1.symm]at hc0;exact hc0
def n__law_mix:List Str:=["_law_state","_law_count","_law_cell","_law_stirred"]
theorem ja:FnScope n__law_mix ["_law_state"] (z7 xf):=FS
inductive sp_mix(vs:List V)(H:Hp)(Q:VK)(E:XK):Prop
 |mk (st ga ca:Addr) (N:Nat):vs=[.ref st]->StAt H st ga ca N->N<=10^9->(∀(r:Int)(H':Hp),0<=r->StAt H' st ga ca (N+1)->Keep [st,ga] H H'->Q (.int r) H')->sp_mix vs H Q E
theorem cw(T:Txt P w K mg A):FnOk P w K mg base CX0 1 A.a1 A.f1 ["_law_state"] sp_mix:=by
 refine T.x1.F.ok ja (by walk_at "n") fun _ _ _ s H vs Q E hr h=>?_
 ·obtain⟨st,ga,ca,N,rfl,S,hN,k⟩:=h;refine⟨_,(z8 (ps_augS (pv 0) zc get_list zc ip_add rD)
    (z8 (pset 1 ja.nd (pix zy (pv 0) zc))
    (z8 (pset 2 ja.nd zc)
    (z8 (zC (zY (pix zy (pv 0) zc) (fun _=>rfl))
     (z9 (pset 2 ja.nd (pix zy (pix zy (pv 0) zc) (zL gU (pv 1) (zt zq rfl T.w5 PySem.boot_len (pa1 (pix zy (pv 0) zc))))))) zk)
    (z8 (pset 3 ja.nd (zL gU (zL vq (zL kA (zL kA (zL kA (pv 2) (zL vq (zL vq zc (pv 1)) (pv 1))) (zL vq zc (pv 1))) zc) zc) zc))
    (z9 (zo (zL gU (zL vq (zL kA (zL kA (pv 3) (zL vq zc (pv 1))) zc) zc) zc)))))))),?_⟩
  obtain⟨⟨gs,cs,q,n,h1,h2,h3,h4,h5,h6,h7,h8⟩,gc,sg,sc⟩:=S;have hn:-(2^64)<n+1/\n+1<2^64:=by omega
  refine⟨_,rfl,st,_,3,_,rfl,rfl,SqL.of h1,by decide,rfl,_,_,rfl,rfl,st,_,3,3,rfl,rfl,h1,rfl,?_⟩;have e1:upd H st (.lst ([V.ref ga,V.int q,V.ref ca,V.int n].set 3 (V.int (n+1)))) st=some (.lst [.ref ga,.int q,.ref ca,.int (n+1)]):=z6;refine⟨_,rfl,st,_,3,_,rfl,rfl,SqL.of e1,rfl,?_⟩;refine⟨_,rfl,st,_,2,_,rfl,rfl,SqL.of e1,rfl,?_⟩;have e3:upd H st (.lst ([V.ref ga,V.int q,V.ref ca,V.int n].set 3 (V.int (n+1)))) ca=some (.lst (cs.map V.int)):=by rw[zh sc.symm];exact h3
  have e2:upd H st (.lst ([V.ref ga,V.int q,V.ref ca,V.int n].set 3 (V.int (n+1)))) ga=some (.lst (gs.map V.int)):=by rw[zh sg.symm];exact h2
  refine⟨_,Or.inl ⟨_,SqL.of e3,rfl⟩,?_⟩;have fin:∀(c:Int),(tSeq (tAsg (tOp (rI (fun _ j=>0<j) fun i j=>V.int (i%j)) (tOp (rI CMul fun i j=>V.int (i*j)) (tOp (rI0 fun i j=>V.int (i+j)) (tOp (rI0 fun i j=>V.int (i+j)) (tOp (rI0 fun i j=>V.int (i+j)) (tVar 2) (tOp (rI CMul fun i j=>V.int (i*j)) (tOp (rI CMul fun i j=>V.int (i*j)) (tC (V.int 7)) (tVar 1)) (tVar 1))) (tOp (rI CMul fun i j=>V.int (i*j)) (tC (V.int 13)) (tVar 1))) (tC (V.int 5))) (tC (V.int 1220703125))) (tC (V.int 2147483647))) (jX 3))
    (tRet (tOp (rI (fun _ j=>0<j) fun i j=>V.int (i%j)) (tOp (rI CMul fun i j=>V.int (i*j)) (tOp (rI0 fun i j=>V.int (i+j)) (tOp (rI0 fun i j=>V.int (i+j)) (tVar 3) (tOp (rI CMul fun i j=>V.int (i*j)) (tC (V.int 17)) (tVar 1))) (tC (V.int 3))) (tC (V.int 39373))) (tC (V.int 1000000007)))))
    {nx:=fun _ H'=>Q .non H',rt:=Q} [some (.ref st),some (.int (n+1)),some (.int c),none] (upd H st (.lst ([V.ref ga,V.int q,V.ref ca,V.int n].set 3 (V.int (n+1))))):=fun c=>by
   refine⟨_,rfl,_,rfl,_,_,rfl,rfl,.inl (by decide),_,rfl,_,_,rfl,rfl,.inr hn,_,_,rfl,rfl,_,rfl,_,_,rfl,rfl,.inl (by decide),_,_,rfl,rfl,_,_,rfl,rfl,_,_,rfl,rfl,.inr (by decide),_,_,rfl,rfl,(by show(0:Int)<2147483647;decide),?_⟩;refine⟨_,rfl,_,rfl,_,_,rfl,rfl,.inl (by decide),_,_,rfl,rfl,_,_,rfl,rfl,_,_,rfl,rfl,.inr (by decide),_,_,rfl,rfl,(by show(0:Int)<1000000007;decide),?_⟩;exact k _ _ (Int.emod_nonneg _ (by decide)) ⟨⟨gs,cs,q,n+1,e1,e2,e3,h4,h5,h6,by omega,by omega⟩,gc,sg,sc⟩ (Keep.set (by simp))
  cases hc:cs with
  |nil =>
   refine iteF ?_;exact fin 5
  |cons c0 cr =>
   refine iteT ?_;rw[hc]at e3;refine⟨_,rfl,st,_,2,_,rfl,rfl,SqL.of e1,rfl,_,rfl,_,rfl,st,_,2,_,rfl,rfl,SqL.of e1,rfl,ca,_,rfl,.inl (SqL.of e3),_,_,rfl,rfl,?_,?_⟩
   ·rw[length_map];simp only[length_cons];omega
   ·have hpos:(0:Int)<((c0::cr).length:Int):=by simp only[length_cons];omega
    rw[length_map];have hm0:=Int.emod_nonneg (n+1) (Int.ne_of_gt hpos);have hm1:=Int.emod_lt_of_pos (n+1) hpos;obtain⟨j,hj⟩:∃j:Nat,(n+1)%((c0::cr).length:Int)=(j:Int):=⟨((n+1)%((c0::cr).length:Int)).toNat,by omega⟩;have hjl:j<(c0::cr).length:=by omega
    refine⟨ca,_,_,_,rfl,rfl,SqL.of e3,by rw[hj];exact zp (v:=V.int ((c0::cr)[j])) (by rw[getElem?_map,getElem?_eq_getElem hjl];rfl),?_⟩;exact fin _
def dZ:List Str:=["_law_state","_law_many","_law_told","_law_size"]
theorem yI:FnScope dZ ["_law_state","_law_many"] (z7 qD):=FS
inductive sp_draw(vs:List V)(H:Hp)(Q:VK)(E:XK):Prop
 |mk (st ga ca:Addr) (N:Nat) (m:Int):vs=[.ref st,.int m]->StAt H st ga ca N->N<=10^8->0<m->m<=10^60->(∀(r:Int)(H':Hp),0<=r->r<m->StAt H' st ga ca (N+7)->Keep [st,ga] H H'->Q (.int r) H')->sp_draw vs H Q E
theorem zA(T:Txt P w K mg A):FnOk P w K mg base CX0 2 A.a2 A.f2 ["_law_state","_law_many"] sp_draw:=by
 refine T.x2.F.ok yI (by walk_at "n") fun _ _ _ s H vs Q E hr h=>?_
 ·obtain⟨st,ga,ca,N,m,rfl,S,hN,hm0,hm1,k⟩:=h;refine⟨_,(z8 (zC (PW.pt (gZ (zi zZ (pix zy (pv 0) zc) zc (zu _)) (qt (zY (pix zy (pv 0) zc) (fun _=>rfl)))))
     (z9 (gY (kG PySem.F.plainAttrs_list PySem.F.slot_list_pop PySem.F.type_list_pop mt_popAt (pix zy (pv 0) zc) (pa1 zc)) (pg_sub (pv 0) zc rD))) zk)
    (z8 (zC (zi cy (pix zy (pv 0) zc) zc (zu _))
     (z8 (pset 2 yI.nd (zL gU (pix zy (pv 0) zc) (pv 1)))
    (z8 (gY (zL op_fdivB (pix zy (pv 0) zc) (pv 1)) (pg_sub (pv 0) zc rD))
    (z9 (zo (pv 2))))) zk)
    (z8 (pset 2 yI.nd zc)
    (z8 (pset 3 yI.nd zc)
    (z8 (bp PassesOwn.never (zi mG (pv 3) (pv 1) (zu _))
     (z8 (pset 2 yI.nd (zL kA (zL vq (pv 2) zc) (pcl (cw T) hr T.x1 (pa1 (pv 0)))))
    (z9 (pset 3 yI.nd (zL vq (pv 3) zc)))))
    (z9 (zo (zL gU (pv 2) (pv 1))))))))),?_⟩
  obtain⟨⟨gs,cs,q,n,h1,h2,h3,h4,h5,h6,h7,h8⟩,gc,sg,sc⟩:=S;have hb:∀(g:List Int)(x:Int)(H':Hp),H'=upd (upd H ga (.lst (g.map V.int))) st (.lst [.ref ga,.int x,.ref ca,.int n])->H' st=some (.lst [.ref ga,.int x,.ref ca,.int n])/\H' ga=some (.lst (g.map V.int))/\H' ca=some (.lst (cs.map V.int))/\Keep [st,ga] H H':=fun g x H' e=>by
   subst e;refine⟨z6,by rw[zh sg.symm,z6],by rw[zh sc.symm,zh gc.symm];exact h3,fun b o e hn=>?_⟩;have n1:b≠st:=fun z=>hn (by simp[z]);have n2:b≠ga:=fun z=>hn (by simp[z]);rw[zh n1,zh n2];exact e
  refine yD (fun σ' H'=>σ'=[some (.ref st),some (.int m),none,none]/\ ∃(g:List Int)(x:Int),H' st=some (.lst [.ref ga,.int x,.ref ca,.int n])/\H' ga=some (.lst (g.map V.int))/\H' ca=some (.lst (cs.map V.int))/\Keep [st,ga] H H'/\g.length<=63/\(∀x∈g,0<x)/\0<=x) (fun nx hnx=>?_) ?_
  ·have skip:nx [some (.ref st),some (.int m),none,none] H:=hnx _ _ ⟨rfl,gs,q,h1,h2,h3,Keep.refl _ _,h4,h5,h6⟩;refine⟨_,rfl,st,_,1,_,rfl,rfl,SqL.of h1,rfl,rfl,_,rfl,?_⟩;refine ite2 (fun hq=>?_) (fun hq=>iteF skip);have hq0:q=0:=by simpa using hq
   subst hq0;refine⟨_,rfl,st,_,0,_,rfl,rfl,SqL.of h1,rfl,_,.inl ⟨_,SqL.of h2,rfl⟩,?_⟩;cases gs with
   |nil=>exact iteF skip
   |cons g0 gr =>
    refine iteT ?_;have eg:upd H ga (.lst ((V.int g0::gr.map V.int).eraseIdx 0)) st=some (.lst [.ref ga,.int 0,.ref ca,.int n]):=by rw[zh sg];exact h1
    refine⟨_,rfl,st,_,0,_,rfl,rfl,SqL.of h1,rfl,.inl ⟨rfl,_,SqL.of h2⟩,ga,_,0,0,V.int g0,rfl,rfl,h2,by decide,by decide,(by simp[seqIndex?]),rfl,?_⟩;refine⟨_,rfl,st,_,1,1,rfl,rfl,eg,rfl,?_⟩;obtain⟨b1,b2,b3,b4⟩:=hb gr g0 _ rfl;exact hnx _ _ ⟨rfl,gr,g0,b1,b2,b3,b4,by simp only[length_cons]at h4;omega,fun y hy=>h5 y (mem_cons_of_mem _ hy),le_of_lt (h5 g0 mem_cons_self)⟩
  ·rintro σ1 H1 ⟨rfl,g,x,c1,c2,c3,c4,c5,c6,c7⟩;refine⟨_,rfl,st,_,1,_,rfl,rfl,SqL.of c1,rfl,_,_,rfl,rfl,_,rfl,?_⟩;refine ite2 (fun hx=>?_) (fun hx=>?_)
   ·refine⟨_,rfl,st,_,1,_,rfl,rfl,SqL.of c1,rfl,_,rfl,_,_,rfl,rfl,hm0,?_⟩;refine⟨_,rfl,st,_,1,_,rfl,rfl,SqL.of c1,rfl,_,rfl,_,_,rfl,rfl,⟨hm0,Int.le_trans hm1 (by decide)⟩,?_⟩;refine⟨_,rfl,st,_,1,1,rfl,rfl,c1,rfl,?_⟩;refine⟨_,rfl,k _ _ (Int.emod_nonneg _ (Int.ne_of_gt hm0)) (Int.emod_lt_of_pos _ hm0) ⟨⟨g,cs,x / m,n,z6,by rw[zh sg.symm];exact c2,by rw[zh sc.symm];exact c3,c5,c6,Int.ediv_nonneg c7 (le_of_lt hm0),h7,by omega⟩,gc,sg,sc⟩ (c4.trans (Keep.set (by simp)))⟩
   ·refine⟨fun mm σ2 H2=>∃(j:Nat)(told:Int),j<=7/\mm=7-j/\ σ2=[some (.ref st),some (.int m),some (.int told),some (.int (1000000007^j))]/\StAt H2 st ga ca (N+j)/\Keep [st,ga] H H2,
     ⟨7,0,0,by decide,rfl,rfl,⟨⟨g,cs,x,n,c1,c2,c3,c5,c6,c7,h7,by omega⟩,gc,sg,sc⟩,c4⟩,?_⟩
    rintro mm σ2 H2 ⟨j,told,hj,rfl,rfl,S2,k2⟩;refine⟨_,rfl,_,rfl,_,_,rfl,rfl,_,rfl,?_⟩;refine ite2 (fun hlt=>?_) (fun hlt=>?_)
    ·have hlt':(1000000007:Int)^j<m:=of_decide_eq_true hlt;have hj6:j<7:=by
      rcases Nat.lt_or_ge j 7 with z|z
      ·exact z
      ·have e7:j=7:=by omega
       subst e7;exact absurd (Int.lt_of_lt_of_le hlt' hm1) (by decide)
     refine⟨fun σ3 H3=>∃(told:Int),σ3=[some (.ref st),some (.int m),some (.int told),some (.int (1000000007^(j+1)))]/\StAt H3 st ga ca (N+(j+1))/\Keep [st,ga] H H3,fun σ3 H3 ⟨td,e3,S3,k3⟩=>⟨7-(j+1),by omega,j+1,td,hj6,rfl,e3,S3,k3⟩,?_⟩;refine⟨_,rfl,_,_,rfl,rfl,.inr (by decide),_,rfl,st,ga,ca,N+j,rfl,S2,by omega,fun r H3 hr0 S3 k3=>?_⟩;refine⟨_,_,rfl,rfl,?_⟩;refine⟨_,rfl,_,_,rfl,rfl,.inr (by decide),?_⟩;refine⟨told*1000000007+r,?_,S3,k2.trans k3⟩;show [some (V.ref st),some (V.int m),some (V.int _),some (V.int (1000000007^j*1000000007))]=_;rw[<-Int.pow_succ]
    ·refine⟨_,rfl,_,rfl,_,_,rfl,rfl,hm0,?_⟩;exact k _ _ (Int.emod_nonneg _ (Int.ne_of_gt hm0)) (Int.emod_lt_of_pos _ hm0) (S2.mono (by omega)) k2
def c8:List Str:=["_law_state","_law_known","_law_name_here","_law_k"]
theorem zM:FnScope c8 ["_law_state","_law_known"] (z7 qE):=FS
inductive sp_name(vs:List V)(H:Hp)(Q:VK)(E:XK):Prop
 |mk (st ga ca:Addr) (N:Nat) (kl:Addr) (known:List Str):vs=[.ref st,.ref kl]->StAt H st ga ca N->N<=10^6->H kl=some (.lst (known.map V.str))->kl∉[st,ga]->known.length<=20->(∀n∈known,zF n=true)->(∀(n:Str)(H':Hp),zF n=true->n∉known->StAt H' st ga ca (N+100)->Keep [st,ga] H H'->Q (.str n) H')->sp_name vs H Q E
theorem mj(T:Txt P w K mg A):FnOk P w K mg base CX0 4 A.a3 A.f3 ["_law_state","_law_known"] sp_name:=by
 refine T.x3.F.ok zM (by walk_at "n") fun _ _ _ s H vs Q E hr h=>?_
 ·obtain⟨st,ga,ca,N,kl,known,rfl,S,hN,hk,nk,lk,hb,k⟩:=h;refine⟨_,(z8 (pset 2 zM.nd zj)
    (z8 (zC (PW.pt (gZ (zY (pv 1) (fun _=>rfl)) (qt (zi zZ (pcl (zA T) hr T.x2 (pa2 (pv 0) zc)) zc (zu _)))))
     (z9 (pset 2 zM.nd (yM rE (pix zy (pv 1) (pe_un bF zc)) kZ (j0 zc)))) zk)
    (z8 (yu PassesOwn.never rfl (yN rfl T.w9 (pa1 (zL kA zc (pcl (zA T) hr T.x2 (pa2 (pv 0) zc))))) (pgn 3 zM.nd)
     (z9 (ps_aug (i:=2) zM.nd rfl (by first|exact Or.inl rfl|exact Or.inr rfl) (pix b9 zj (pcl (zA T) hr T.x2 (pa2 (pv 0) zc))) ip_addS)))
    (z8 (zC (zi zZ (pcl (zA T) hr T.x2 (pa2 (pv 0) zc)) zc (zu _))
     (z9 (pset 2 zM.nd (yM rE (zL yH (pv 2) zj) kZ (j0 zc)))) zk)
    (z8 (zC (PW.pt (gZ (zY (pv 1) (fun _=>rfl)) (gZ (zi zZ (zt yG rfl T.w5 PySem.boot_len (pa1 (pix zy (pv 1) (pe_un bF zc)))) zc (zu _)) (qt (zi zZ (pcl (zA T) hr T.x2 (pa2 (pv 0) zc)) zc (zu _))))))
     (z9 (pset 2 zM.nd (zL yH (yM rE (pix zy (pv 1) (pe_un bF zc)) kZ (j0 zc)) (pix b9 zj (pcl (zA T) hr T.x2 (pa2 (pv 0) zc)))))) zk)
    (z8 (yu PassesOwn.never rfl (yN rfl T.w9 (pa1 (zL kA (zt zq rfl T.w5 PySem.boot_len (pa1 (pv 1))) zc))) (pgn 3 zM.nd)
     (z9 (zC (zi qo (pv 2) (pv 1) rfl)
     (z9 (pset 2 zM.nd (yM rE (zL yH (pv 2) zj) (j0 (pe_un bF zc)) kZ))) zk)))
    (z8 (yu PassesOwn.never rfl (yN rfl T.w9 (pa1 (zL kA (zt zq rfl T.w5 PySem.boot_len (pa1 (pv 1))) zc))) (pgn 3 zM.nd)
     (z9 (zC (zi qo (pv 2) (pv 1) rfl)
     (z9 (pset 2 zM.nd (zL yH zj (pix b9 zj (pv 3))))) zk)))
    (z9 (zo (pv 2)))))))))),?_⟩
  have last:known≠[]-> ∃y,y∈known/\atI (known.map V.str) (-1)=some (.str y):=fun h=>by
   refine⟨known.getLast h,List.getLast_mem h,atI_end ?_⟩;rw[List.getLast?_map,List.getLast?_eq_some_getLast h];rfl
  have nolet:LetS (Str.ofString ""):=fun c hc=>by rw[show(Str.ofString "").cps.toList=[]by decide+kernel]at hc;cases hc
  have nem:known≠[]->true= !(known.map V.str).isEmpty:=fun h=>by cases known with|nil=>exact absurd rfl h|cons _ _=>rfl
  have l26:uK.length<=sizeLine:=le_trans (m:=26) (by decide+kernel) (by decide);have bnd:∀{x y:Str},x.length<=20->y.length<=20->x.length+y.length<=sizeLine:=fun h1 h2=>le_trans (m:=40) (by omega) (by decide);have bnd1:∀{x:Str},x.length<=40->x.length<=sizeLine:=fun h1=>le_trans h1 (by decide);refine yD (fun σ' H'=>σ'=[some (.ref st),some (.ref kl),some (.str (Str.ofString "")),none]/\H=H') (fun nx hnx=>hnx _ _ ⟨rfl,rfl⟩) ?_;rintro _ _ ⟨rfl,rfl⟩;refine yD (fun σ' H'=>∃ z:Str,σ'=[some (.ref st),some (.ref kl),some (.str z),none]/\LetS z/\z.length<=4/\StAt H' st ga ca (N+7)/\Keep [st,ga] H H') (fun nx hnx=>?_) ?_
  ·have skp:∀H' M,StAt H' st ga ca M->M<=N+7->Keep [st,ga] H H'->nx [some (.ref st),some (.ref kl),some (.str (Str.ofString "")),none] H':=fun H' M S' hM K'=>hnx _ _ ⟨Str.ofString "",rfl,nolet,by decide+kernel,S'.mono hM,K'⟩;by_cases h0:known=[]
   ·refine⟨_,rfl,false,.inl ⟨_,SqL.of hk,by subst h0;rfl⟩,iteF (skp _ _ S (by simp) (Keep.refl _ _))⟩
   refine⟨_,rfl,true,.inl ⟨_,SqL.of hk,nem h0⟩,iteT ?_⟩;refine⟨_,rfl,st,ga,ca,N,2,rfl,S,by omega,by decide,by decide,fun r H1 r0 r1 S1 K1=>?_⟩;refine⟨rfl,_,rfl,ite2 (fun _=>?_) (fun _=>skp _ _ S1 (by simp) K1)⟩;obtain⟨y,hy,ey⟩:=last h0;have yl:=zB (hb y hy);refine⟨_,rfl,_,rfl,kl,_,_,_,rfl,rfl,SqL.of (K1.at hk nk),ey,?_⟩;dsimp only[jp,tNil];refine⟨4,rfl,y,rfl,bnd1 (by omega),hnx _ _ ⟨_,rfl,(uJ (hb y hy)).to 4,?_,S1,K1⟩⟩;rw[show(some (4:Int))=some ((4:Nat):Int)from rfl,xz];omega
  rintro _ H1 ⟨z1,rfl,hz1,lz1,S1,K1⟩;refine yD (fun σ' H'=>∃(z:Str)(v:Option V),σ'=[some (.ref st),some (.ref kl),some (.str z),v]/\LetS z/\1<=z.length/\z.length<=7/\StAt H' st ga ca (N+35)/\Keep [st,ga] H H') (fun nx hnx=>?_) ?_
  ·refine⟨_,rfl,st,ga,ca,_,3,rfl,S1,by omega,by decide,by decide,fun r H2 r0 r1 S2 K2=>?_⟩;obtain⟨j,rfl⟩:∃j:Nat,r=(j:Int):=⟨r.toNat,by omega⟩;have ej:((1:Int)+(j:Int)).toNat=j+1:=by omega
   refine⟨_,_,rfl,rfl,_,rfl,by omega,by omega,?_⟩;rw[ej];refine kR (n:=j+1) (fun i σ' H'=>∃(z:Str)(v:Option V),σ'=[some (.ref st),some (.ref kl),some (.str z),v]/\LetS z/\z.length=z1.length+i/\StAt H' st ga ca (N+14+7*i)/\Keep [st,ga] H H') ⟨z1,_,rfl,hz1,rfl,S2.mono (by simp),K1.trans K2⟩ ?_ ?_
   ·rintro i σ' H' hi ⟨z,v,rfl,hz,ez,S',K'⟩;refine⟨_,rfl,_,rfl,st,ga,ca,_,26,rfl,S',by omega,by decide,by decide,fun r H3 r0 r1 S3 K3=>?_⟩;obtain⟨c,e1,c0,c1,_⟩:=pL r0 r1;refine⟨uK,r,c,rfl,rfl,l26,e1,?_⟩;have lc:(⟨#[c]⟩:Str).length=1:=rfl;refine⟨z,_,rfl,rfl,bnd (by omega) (by omega),z++⟨#[c]⟩,_,rfl,hz.app (LetS.one ⟨c0,c1⟩),by rw[zO,lc];omega,S3.mono (by omega),K'.trans K3⟩
   ·rintro σ' H' ⟨z,v,rfl,hz,ez,S',K'⟩;exact hnx _ _ ⟨z,v,rfl,hz,by omega,by omega,S'.mono (by omega),K'⟩
  rintro _ H2 ⟨z2,v2,rfl,hz2,l2,m2,S2,K2⟩;refine yD (fun σ' H'=>∃(z:Str),σ'=[some (.ref st),some (.ref kl),some (.str z),v2]/\zF z=true/\StAt H' st ga ca (N+42)/\Keep [st,ga] H H') (fun nx hnx=>?_) ?_
  ·refine⟨_,rfl,st,ga,ca,_,6,rfl,S2,by omega,by decide,by decide,fun r H3 r0 r1 S3 K3=>?_⟩;refine⟨rfl,_,rfl,ite2 (fun _=>?_) (fun _=>hnx _ _ ⟨z2,rfl,jZ hz2 l2 (by omega),S3.mono (by simp),K2.trans K3⟩)⟩;have l8:(Str.ofString "mnopqrst").length=8:=by decide+kernel
   have hm:LetS (Str.ofString "mnopqrst"):=((yU _).mp (by decide+kernel)).2;refine⟨_,rfl,_,_,rfl,rfl,bnd (by omega) (by omega),?_⟩;dsimp only[jp,tNil];refine⟨8,rfl,_,rfl,bnd1 (by rw[zO];omega),hnx _ _ ⟨_,rfl,jZ ((hz2.app hm).to 8) ?_ ?_,S3.mono (by simp),K2.trans K3⟩⟩
   ·rw[show(some (8:Int))=some ((8:Nat):Int)from rfl,xz,zO];omega
   ·rw[show(some (8:Int))=some ((8:Nat):Int)from rfl,xz,zO];omega
  rintro _ H3 ⟨z3,rfl,hz3,S3,K3⟩;refine yD (fun σ' H'=>∃(z:Str),σ'=[some (.ref st),some (.ref kl),some (.str z),v2]/\zF z=true/\StAt H' st ga ca (N+56)/\Keep [st,ga] H H') (fun nx hnx=>?_) ?_
  ·by_cases h0:known=[]
   ·refine⟨_,rfl,false,.inl ⟨_,SqL.of (K3.at hk nk),by subst h0;rfl⟩,iteF (hnx _ _ ⟨z3,rfl,hz3,S3.mono (by simp),K3⟩)⟩
   obtain⟨y,hy,ey⟩:=last h0;have yl:=zB (hb y hy);refine⟨_,rfl,true,.inl ⟨_,SqL.of (K3.at hk nk),nem h0⟩,iteT ?_⟩;refine⟨_,rfl,_,rfl,kl,_,_,_,rfl,rfl,SqL.of (K3.at hk nk),ey,y,rfl,bnd1 (by omega),rfl,_,rfl,?_⟩;refine ite2 (fun e8=>?_) (fun _=>iteF (hnx _ _ ⟨z3,rfl,hz3,S3.mono (by simp),K3⟩));refine⟨_,rfl,st,ga,ca,_,2,rfl,S3,by omega,by decide,by decide,fun r H4 r0 r1 S4 K4=>?_⟩;refine⟨rfl,_,rfl,ite2 (fun _=>?_) (fun _=>hnx _ _ ⟨z3,rfl,hz3,S4.mono (by simp),K3.trans K4⟩)⟩;refine⟨_,rfl,_,rfl,kl,_,_,_,rfl,rfl,SqL.of (K4.at (K3.at hk nk) nk),ey,?_⟩;dsimp only[jp,tNil];refine⟨7,rfl,y,rfl,bnd1 (by omega),?_⟩;refine⟨_,rfl,st,ga,ca,_,26,rfl,S4,by omega,by decide,by decide,fun r H5 r0 r1 S5 K5=>?_⟩;obtain⟨c,e1,c0,c1,_⟩:=pL r0 r1;have lc:(⟨#[c]⟩:Str).length=1:=rfl;have l7:(Txt.slice y none (some (7:Int))).length<=7:=by rw[show(some (7:Int))=some ((7:Nat):Int)from rfl,xz];omega
   refine⟨uK,r,c,rfl,rfl,l26,e1,_,_,rfl,rfl,bnd (by omega) (by omega),hnx _ _ ⟨_,rfl,jZ (((uJ (hb y hy)).to 7).app (LetS.one ⟨c0,c1⟩)) (by rw[zO,lc];omega) (by rw[zO,lc];exact Nat.succ_le_succ l7),S5.mono (by simp),(K3.trans K4).trans K5⟩⟩
  rintro _ H4 ⟨z4,rfl,hz4,S4,K4⟩;have hk4:=K4.at hk nk;have hkl:(known.map V.str).length=known.length:=length_map _;refine yD (fun σ' H'=>∃(z:Str)(v:Option V),σ'=[some (.ref st),some (.ref kl),some (.str z),v]/\zF z=true/\H4=H') (fun nx hnx=>?_) ?_
  ·refine⟨_,rfl,kl,_,rfl,.inl (SqL.of hk4),_,_,rfl,rfl,_,rfl,by omega,by omega,?_⟩;rw[show(((known.map V.str).length:Int)+1).toNat=known.length+1 by simp];refine kR (n:=known.length+1) (fun i σ' H'=>∃(z:Str)(v:Option V),σ'=[some (.ref st),some (.ref kl),some (.str z),v]/\zF z=true/\H4=H') ⟨z4,_,rfl,hz4,rfl⟩ ?_ ?_
   ·rintro i σ' H' hi ⟨z,v,rfl,hz,rfl⟩;refine⟨_,rfl,_,rfl,kl,_,rfl,.inl (SqL.of hk4),rfl,tF known,_,rfl,?_⟩;refine ite2 (fun _=>?_) (fun _=>⟨z,_,rfl,hz,rfl⟩);have l1:(Str.ofString "q").length=1:=by decide+kernel
    have hq:LetS (Str.ofString "q"):=((yU _).mp (by decide+kernel)).2;have zl:=zB hz;refine⟨_,rfl,_,_,rfl,rfl,bnd (by omega) (by omega),_,rfl,_,rfl,?_⟩;dsimp only[jp,tNil];refine⟨_,rfl,bnd1 (by rw[zO];omega),_,_,rfl,jZ (((uJ hz).app hq).last 8 (by decide)) ?_ ?_,rfl⟩
    ·rw[show(some (-8:Int))=some (-((8:Nat):Int))from rfl,tD _ 8 (by decide),zO];omega
    ·rw[show(some (-8:Int))=some (-((8:Nat):Int))from rfl,tD _ 8 (by decide),zO];omega
   ·rintro σ' H' ⟨z,v,rfl,hz,rfl⟩;exact hnx _ _ ⟨z,v,rfl,hz,rfl⟩
  rintro _ _ ⟨z5,v5,rfl,hz5,rfl⟩;refine yD (fun σ' H'=>∃(z:Str)(v:Option V),σ'=[some (.ref st),some (.ref kl),some (.str z),v]/\zF z=true/\z∉known/\H4=H') (fun nx hnx=>?_) ?_
  ·refine⟨_,rfl,kl,_,rfl,.inl (SqL.of hk4),_,_,rfl,rfl,_,rfl,by omega,by omega,?_⟩;rw[show(((known.map V.str).length:Int)+1).toNat=known.length+1 by simp];refine kR (n:=known.length+1) (fun i σ' H'=>∃(z:Str)(v:Option V),σ'=[some (.ref st),some (.ref kl),some (.str z),v]/\zF z=true/\(z∈known-> ∀j,j<i->(j+1<i->vX j∈known)/\(j+1=i->z=vX j))/\H4=H') ⟨z5,_,rfl,hz5,fun _ j hj=>by simp,rfl⟩ ?_ ?_
   ·rintro i σ' H' hi ⟨z,v,rfl,hz,inv,rfl⟩;refine⟨_,rfl,_,rfl,kl,_,rfl,.inl (SqL.of hk4),rfl,tF known,_,rfl,?_⟩;rw[if_neg (by decide),inV_str];refine ite2 (fun hin=>?_) (fun hin=>⟨z,_,rfl,hz,fun m=>absurd (decide_eq_true m) hin,rfl⟩);have hm:z∈known:=of_decide_eq_true hin;obtain⟨c,e1,c0,c1,ec⟩:=pL (r:=(i:Int)) (by simp) (by omega);refine⟨_,rfl,uK,_,c,rfl,rfl,l26,(by rw[show((0:Int)+(i:Int))=(i:Int)by simp];exact e1),?_⟩;have l7:(Str.ofString "zzzzzzz").length=7:=by decide+kernel
    refine⟨_,_,rfl,rfl,bnd (by omega) (show 1<=20 by decide),vX i,some (.int (0+(i:Int))),?_,zName_name (by omega),fun _ j hj=>⟨fun h1=>?_,fun h1=>?_⟩,rfl⟩
    ·rw[zName_eq ec];rfl
    ·by_cases e:j+1<i
     ·exact(inv hm j (by omega)).1 e
     ·rw[<-(inv hm j (by omega)).2 (by omega)];exact hm
    ·rw[show j=i by omega]
   ·rintro σ' H' ⟨z,v,rfl,hz,inv,rfl⟩;refine hnx _ _ ⟨z,v,rfl,hz,fun hm=>?_,rfl⟩;refine few_names (known:=known) fun i hi=>?_;by_cases e:i+1<known.length+1
    ·exact(inv hm i (by omega)).1 e
    ·rw[<-(inv hm i (by omega)).2 (by omega)];exact hm
  rintro _ _ ⟨z,v,rfl,hz,hn,rfl⟩;exact⟨_,rfl,k z H4 hz hn (S4.mono (by simp)) K4⟩
def pV:List Str:=["_law_state","_law_size","_law_top","_law_parts"]
theorem vE:FnScope pV ["_law_state","_law_size","_law_top"] (z7 yY):=FS
inductive sp_heap(vs:List V)(H:Hp)(Q:VK)(E:XK):Prop
 |mk (st ga ca:Addr) (N:Nat) (size topp:Int):vs=[.ref st,.int size,.int topp]->StAt H st ga ca N->N<=10^7->0<=size->size<=60->0<topp->topp<=10^60->(∀(p:Addr)(ns:List Int)(H':Hp),(ns.length:Int)<=size->(∀x∈ns,1<=x/\x<=topp)->ns.Pairwise (· >= ·)->H' p=some (.tup (ns.map V.int))->H p=none->StAt H' st ga ca (N+434)->Keep [st,ga] H H'->Q (.ref p) H')->sp_heap vs H Q E
theorem wo(T:Txt P w K mg A):FnOk P w K mg base CX0 3 A.a4 A.f4 ["_law_state","_law_size","_law_top"] sp_heap:=by
 refine T.x4.F.ok vE (by walk_at "n") fun _ _ _ s H vs Q E hr h=>?_
 ·obtain⟨st,ga,ca,N,size,topp,rfl,S,hN,h0,h1,t0,t1,k⟩:=h;refine⟨_,(z8 (ps_comp (i:=3) (ls:=["_law_k"]) (fr:=[("_law_state",0),("_law_top",2)]) (csf (z7 yY) pV) rfl (yN rfl T.w9 (pa1 (pcl (zA T) hr T.x2 (pa2 (pv 0 (hv:=Or.inr (Or.inl rfl))) (zL kA (pv 1) zc))))) (fun _ _ _ _=>pgc 0 (by decide+kernel) rfl rfl) (fun _ _ _ _=>yj) (fun _ _ _ _=>(zL kA zc (yh (zA T) (hr.mono (by decide)) (glc (z7 yY)) T.x2.g T.x2.F.kp T.x2.b .nil wX (pa2 (pvc (z7 yY) 1) (pvc (z7 yY) 2))))) vE.nd rfl rfl rfl)
    (z9 (zo (zH y9 rfl T.w13 boot_tuple (pa1 (rj rfl T.w10 (pv 3))))))),?_⟩
  refine⟨_,rfl,_,rfl,_,_,rfl,rfl,st,ga,ca,N,size+1,rfl,S,by omega,by omega,Int.le_trans (show size+1<=61 by omega) (by decide),fun many H2 m0 m1 S2 K2'=>?_⟩;refine⟨_,rfl,by omega,by omega,gG (fun i ys σ' H'=>(∃v,σ'=[v,some (.ref st),some (.int topp)])/\ ∃ns:List Int,ys=ns.map V.int/\ns.length=i/\(∀x∈ns,1<=x/\x<=topp)/\StAt H' st ga ca (N+7+7*i)/\Keep [st,ga] H H')
   ⟨⟨_,rfl⟩,[],rfl,rfl,(fun _ hx=>nomatch hx),S2,K2'⟩ ?_ ?_ ?_⟩
  ·rintro i ys σ' H' hi ⟨_,ns,rfl,hl,_⟩;rw[length_map,hl];exact yS (by omega)
  ·rintro i ys σ' H' hi ⟨⟨v,rfl⟩,ns,rfl,hl,hb,S',K'⟩;refine⟨_,rfl,_,rfl,st,ga,ca,N+7+7*i,topp,rfl,S',by omega,t0,t1,fun r H3 h0 h1 S3 K3=>?_⟩;refine⟨_,_,rfl,rfl,⟨_,rfl⟩,ns++[1+r],by simp,by simp[hl],fun x hx=>?_,S3.mono (by omega),K'.trans K3⟩;rcases mem_append.mp hx with hx|hx
   ·exact hb x hx
   ·have:x=1+r:=by simpa using hx
    omega
  ·rintro ys σ' H' ⟨_,ns,rfl,hl,hb,S',K'⟩ p3 hp3;refine⟨_,rfl,p3,ns,rfl,.inl (SqL.of z6),by omega,fun ns' p4 hperm hord hp4=>?_⟩;refine⟨p4,_,rfl,.inl ⟨SqL.of z6,fun p5 hp5=>?_⟩⟩;have s3:Same H' (upd (upd (upd H' p3 (.lst (ns.map V.int))) p4 (.lst (ns'.map V.int))) p5 (.tup (ns'.map V.int))):=(Same.new hp3).trans ((Same.new hp4).trans (Same.new hp5));have S5:=S'.same s3;have n5:H' p5=none:=((Same.new hp3).trans (Same.new hp4)).free hp5;refine k p5 ns' _ (by rw[hperm.length_eq];omega) (fun x hx=>hb x (hperm.mem_iff.mp hx)) hord z6 (K'.free n5 (S'.nin n5)) (S5.mono (by omega)) (K'.trans s3.keep)
def wf:List Str:=["_law_state","_law_many","_law_size","_law_top"]
theorem vT:FnScope wf ["_law_state","_law_many","_law_size","_law_top"] (z7 zV):=FS
def GH(size topp:Int)(h:List Int):Prop:=(h.length:Int)<=size/\(∀x∈h,1<=x/\x<=topp)/\h.Pairwise (· >= ·)
inductive sp_raw_rule(vs:List V)(H:Hp)(Q:VK)(E:XK):Prop
 |mk (st ga ca:Addr) (N:Nat) (many size topp:Int):vs=[.ref st,.int many,.int size,.int topp]->StAt H st ga ca N->N<=10^6->0<=many->many<=60->0<=size->size<=60->0<topp->topp<=10^60->(∀(p:Addr)(rs:List V)(rule:List (List Int))(H':Hp),H' p=some (.tup rs)->All2 Tup1 H' rule rs->(rule.length:Int)=many->(∀h∈rule,GH size topp h)->H p=none->StAt H' st ga ca (N+434*many.toNat)->Keep [st,ga] H H'->Q (.ref p) H')->sp_raw_rule vs H Q E
theorem vN(T:Txt P w K mg A):FnOk P w K mg base CX0 4 A.a5 A.f5 ["_law_state","_law_many","_law_size","_law_top"] sp_raw_rule:=by
 refine T.x5.F.ok vT (by walk_at "n") fun _ _ _ s H vs Q E hr h=>?_
 ·obtain⟨st,ga,ca,N,many,size,topp,rfl,S,hN,m0,m1,h0,h1,t0,t1,k⟩:=h;refine⟨_,(z9 (zo (zH y9 rfl T.w13 boot_tuple (pa1 (zX (ls:=["_law_k"]) (fr:=[("_law_state",0),("_law_size",2),("_law_top",3)]) (csf (z7 zV) wf) rfl (yN rfl T.w9 (pa1 (pv 1))) (fun _ _ _ _=>pgc 0 (by decide+kernel) rfl rfl) (fun _ _ _ _=>yj) (fun _ _ _ _=>(yh (wo T) (hr.mono (by decide)) (glc (z7 zV)) T.x4.g T.x4.F.kp T.x4.b .nil wX (pa3 (pvc (z7 zV) 1) (pvc (z7 zV) 2) (pvc (z7 zV) 3))))))))),?_⟩;refine⟨_,rfl,_,rfl,by omega,by omega,gG (fun i ys σ' H'=>(∃v,σ'=[v,some (.ref st),some (.int size),some (.int topp)])/\ ∃rule:List (List Int),All2 Tup1 H' rule ys/\rule.length=i/\(∀h∈rule,GH size topp h)/\StAt H' st ga ca (N+434*i)/\Keep [st,ga] H H') ⟨⟨_,rfl⟩,[],.nil,rfl,(fun _ hx=>by cases hx),S,Keep.refl _ _⟩ ?_ ?_ ?_⟩
  ·rintro i ys σ' H' hi ⟨_,rule,a2,hl,_⟩;rw[<-a2.length,hl];exact yS (by omega)
  ·rintro i ys σ' H' hi ⟨⟨v,rfl⟩,rule,a2,hl,hg,S',K'⟩;refine⟨_,rfl,_,rfl,_,rfl,st,ga,ca,N+434*i,size,topp,rfl,S',by omega,h0,h1,t0,t1,fun q hs H2 hln hb hp hq nq S2 K2=>?_⟩;refine⟨⟨_,rfl⟩,rule++[hs],(a2.mv (K2.tups S')).snoc ⟨q,rfl,hq⟩,by simp[hl],fun x hx=>?_,S2.mono (by omega),K'.trans K2⟩;rcases mem_append.mp hx with hx|hx
   ·exact hg x hx
   ·have:x=hs:=by simpa using hx
    subst this;exact⟨hln,hb,hp⟩
  ·rintro ys σ' H' ⟨_,rule,a2,hl,hg,S',K'⟩ l hl0;refine⟨l,_,rfl,.inl ⟨SqL.of z6,fun p hp=>?_⟩⟩;have s2:=(Same.new (o:=.lst ys) hl0).trans (Same.new (o:=.tup ys) hp);have np:H' p=none:=(Same.new (o:=.lst ys) hl0).free hp;exact k p ys rule _ z6 (a2.mv s2.tups) (by omega) hg (K'.free np (S'.nin np)) (S'.same s2) (K'.trans s2.keep)
def cf:List Str:=["_law_state","_law_names","_law_kind","_law_name_here","_law_most"]
theorem ji:FnScope cf ["_law_state","_law_names"] (z7 qG):=FS
inductive sp_plan(vs:List V)(H:Hp)(Q:VK)(E:XK):Prop
 |mk (st ga ca:Addr) (N:Nat) (nl:Addr) (names:List Str):vs=[.ref st,.ref nl]->StAt H st ga ca N->N<=900000->H nl=some (.lst (names.map V.str))->nl∉[st,ga]->names.length=4->(∀(q:Addr)(P:Plan)(H':Hp),PlanV P q H'->rS names P->StAt H' st ga ca (N+4000)->Keep [st,ga] H H'->Q (.ref q) H')->sp_plan vs H Q E
theorem mo(T:Txt P w K mg A):FnOk P w K mg base CX0 30 A.a6 A.f6 ["_law_state","_law_names"] sp_plan:=by
 refine T.x6.F.ok ji (by walk_at "n") fun _ _ _ s H vs Q E hr h=>?_
 ·obtain⟨st,ga,ca,N,nl,names,rfl,S,hN,gn,nn,h4,k⟩:=h;refine⟨_,(z8 (pset 2 ji.nd (pcl (zA T) hr T.x2 (pa2 (pv 0) zc)))
    (z8 (pset 3 ji.nd (pix zy (pv 1) (pcl (zA T) hr T.x2 (pa2 (pv 0) zc))))
    (z8 (pset 4 ji.nd (pix zy (jg (pa3 zc zc (zL op_pow zc zc))) (pcl (zA T) hr T.x2 (pa2 (pv 0) zc))))
    (z8 (zC (zi mG (pv 2) zc (zu _))
     (z9 (zo (zx (pa3 zj (pv 3) (pcl (vN T) hr T.x5 (kx (pv 0) (pa3 (pcl (zA T) hr T.x2 (pa2 (pv 0) zc)) zc (pv 4)))))))) zk)
    (z8 (zC (zi mG (pv 2) zc (zu _))
     (z9 (zo (zx (pa3 zj (pv 3) (pcl (wo T) hr T.x4 (pa3 (pv 0) zc (pv 4))))))) zk)
    (z8 (zC (zi mG (pv 2) zc (zu _))
     (z9 (zo (zx (pa3 zj (pv 3) (pcl (zA T) hr T.x2 (pa2 (pv 0) zc)))))) zk)
    (z8 (zC (zi zZ (pv 2) zc (zu _))
     (z9 (zo (zx (pa3 zj (pv 3) (pix zy (pv 1) (pcl (zA T) hr T.x2 (pa2 (pv 0) zc))))))) zk)
    (z8 (zC (zi zZ (pv 2) zc (zu _))
     (z9 (zo (zx (pa2 zj (pv 3))))) zk)
    (z9 (zo (pix zy (jg (pa3 (zx (pa1 zj)) (zx (pa1 zj)) (zx (pa1 zj)))) (zL op_sub (pv 2) zc)))))))))))),?_⟩
  refine⟨_,rfl,st,ga,ca,N,12,rfl,S,by omega,by decide,by decide,fun kd H1 k0 k1 S1 K1=>?_⟩;refine⟨_,rfl,_,rfl,st,ga,ca,_,4,rfl,S1,by omega,by decide,by decide,fun r2 H2 r20 r21 S2 K2=>?_⟩;obtain⟨n,hn,en⟩:=xL h4 r20 r21;refine⟨nl,_,_,_,rfl,rfl,SqL.of ((K1.trans K2).at gn nn),en,?_⟩;refine⟨_,_,rfl,rfl,⟨by decide,by decide,by decide⟩,by show 3<=sizeLine;decide,fun l hl=>?_⟩;have s3:=Same.new (o:=.lst [V.int 4,V.int 24,V.int (10^(30:Int).toNat)]) hl;refine⟨_,rfl,st,ga,ca,_,3,rfl,S2.same s3,by omega,by decide,by decide,fun r H3 r0 r1 S3 K3=>?_⟩;have gl:H3 l=some (.lst [V.int 4,V.int 24,V.int (10^(30:Int).toNat)]):=K3.at z6 (S2.nin hl);obtain⟨m,m0,m1,hm⟩:∃m:Int,0<m/\m<=10^30/\atI [V.int 4,V.int 24,V.int (10^(30:Int).toNat)] r=some (.int m):=by
   have:r=0\/r=1\/r=2:=by omega
   rcases this with rfl|rfl|rfl
   ·exact⟨4,by decide,by decide,rfl⟩
   ·exact⟨24,by decide,by decide,rfl⟩
   ·exact⟨10^30,by decide,by decide,rfl⟩
  refine⟨l,_,_,_,rfl,rfl,SqL.of gl,hm,?_⟩;have KA:Keep [st,ga] H H3:=K1.trans (K2.trans (s3.keep.trans K3));have gn3:=KA.at gn nn;have m60:m<=10^60:=Int.le_trans m1 (by decide);clear K1 K2 K3 S1 S2 s3 gl hl;refine⟨_,rfl,_,_,rfl,rfl,_,rfl,ite2 (fun _=>?_) (fun c2=>?_)⟩
  ·refine⟨_,rfl,_,rfl,_,rfl,st,ga,ca,_,7,rfl,S3,by omega,by decide,by decide,fun z H4 z0 z1 S4 K4=>?_⟩;refine⟨_,rfl,st,ga,ca,_,z,4,m,rfl,S4,by omega,z0,by omega,by decide,by decide,m0,m60,fun p rs rule H5 gp a5 ln hg _ S5 K5=>?_⟩;refine⟨by show 3<=sizeLine;decide,fun q hq=>?_⟩;have sq:=Same.new (o:=.tup [V.str (Str.ofString "rule"),V.str n,V.ref p]) hq;refine k q (.rule n rule) _ ⟨_,z6,p,rs,rfl,sq _ _ gp,a5.mv sq.tups⟩ ⟨hn,by omega,fun h hh=>?_⟩ ((S5.same sq).mono (by omega)) (KA.trans (K4.trans (K5.trans sq.keep)));obtain⟨x1,x2,x3⟩:=hg h hh;exact⟨by omega,by omega,fun y hy=>⟨(x2 y hy).1,Int.lt_of_le_of_lt (Int.le_trans (x2 y hy).2 m1) (by decide)⟩,x3⟩
  refine⟨_,rfl,_,_,rfl,rfl,_,rfl,ite2 (fun _=>?_) (fun c5=>?_)⟩
  ·refine⟨_,rfl,_,rfl,_,rfl,st,ga,ca,_,4,m,rfl,S3,by omega,by decide,by decide,m0,m60,fun p h H4 lh bh ph gp _ S4 K4=>?_⟩;refine⟨by show 3<=sizeLine;decide,fun q hq=>?_⟩;have sq:=Same.new (o:=.tup [V.str (Str.ofString "add"),V.str n,V.ref p]) hq;exact k q (.add n h) _ ⟨_,z6,sq _ _ gp⟩ ⟨hn,by omega,by omega,fun y hy=>⟨(bh y hy).1,Int.lt_of_le_of_lt (Int.le_trans (bh y hy).2 m1) (by decide)⟩,ph⟩ ((S4.same sq).mono (by omega)) (KA.trans (K4.trans sq.keep))
  refine⟨_,rfl,_,_,rfl,rfl,_,rfl,ite2 (fun _=>?_) (fun c7=>?_)⟩
  ·refine⟨_,rfl,_,rfl,st,ga,ca,_,7,rfl,S3,by omega,by decide,by decide,fun z H4 z0 z1 S4 K4=>?_⟩;obtain⟨j,rfl⟩:∃j:Nat,z=(j:Int):=⟨z.toNat,by omega⟩;refine⟨by show 3<=sizeLine;decide,fun q hq=>?_⟩;have sq:=Same.new (o:=.tup [V.str (Str.ofString "take"),V.str n,V.int (j:Int)]) hq;exact k q (.take n j) _ z6 ⟨hn,by omega⟩ ((S4.same sq).mono (by omega)) (KA.trans (K4.trans sq.keep))
  refine⟨_,rfl,rfl,_,rfl,ite2 (fun _=>?_) (fun e7=>?_)⟩
  ·refine⟨_,rfl,_,rfl,_,rfl,st,ga,ca,_,4,rfl,S3,by omega,by decide,by decide,fun z H4 z0 z1 S4 K4=>?_⟩;obtain⟨n',hn',en'⟩:=xL h4 z0 z1;refine⟨nl,_,_,_,rfl,rfl,SqL.of (K4.at gn3 nn),en',by show 3<=sizeLine;decide,fun q hq=>?_⟩;have sq:=Same.new (o:=.tup [V.str (Str.ofString "copy"),V.str n,V.str n']) hq;exact k q (.copy n n') _ z6 ⟨hn,hn'⟩ ((S4.same sq).mono (by omega)) (KA.trans (K4.trans sq.keep))
  refine⟨_,rfl,rfl,_,rfl,ite2 (fun _=>?_) (fun e8=>?_)⟩
  ·refine⟨_,rfl,by show 2<=sizeLine;decide,fun q hq=>?_⟩;have sq:=Same.new (o:=.tup [V.str (Str.ofString "drop"),V.str n]) hq;exact k q (.drop n) _ z6 hn ((S3.same sq).mono (by omega)) (KA.trans sq.keep)
  refine⟨by show 1<=sizeLine;decide,fun t1 ht1=>⟨by show 1<=sizeLine;decide,fun t2 ht2=>⟨by show 1<=sizeLine;decide,fun t3 ht3=>⟨by show 3<=sizeLine;decide,fun l2 hl2=>?_⟩⟩⟩⟩;have k9:9<=kd:=by
   have h7:¬kd<7:=fun z=>c7 (decide_eq_true z);have h7':¬kd=7:=fun z=>e7 (decide_eq_true (congrArg V.int z));have h8':¬kd=8:=fun z=>e8 (decide_eq_true (congrArg V.int z));omega
  have q1:=Same.new (o:=.tup [V.str (Str.ofString "undo")]) ht1;have q2:=Same.new (o:=.tup [V.str (Str.ofString "again")]) ht2;have q3:=Same.new (o:=.tup [V.str (Str.ofString "undo")]) ht3;have q4:=Same.new (o:=.lst [V.ref t1,V.ref t2,V.ref t3]) hl2;have sq:=q1.trans (q2.trans (q3.trans q4));refine⟨_,rfl,_,_,rfl,rfl,l2,[V.ref t1,V.ref t2,V.ref t3],kd-9,?_⟩;have:kd-9=0\/kd-9=1\/kd-9=2:=by omega
  rcases this with e|e|e
  ·exact⟨.ref t1,rfl,rfl,SqL.of z6,by rw[e];rfl,k t1 (.move _) _ ((q2.trans (q3.trans q4)) _ _ z6) (.inl rfl) ((S3.same sq).mono (by omega)) (KA.trans sq.keep)⟩
  ·exact⟨.ref t2,rfl,rfl,SqL.of z6,by rw[e];rfl,k t2 (.move _) _ ((q3.trans q4) _ _ z6) (.inr rfl) ((S3.same sq).mono (by omega)) (KA.trans sq.keep)⟩
  ·exact⟨.ref t3,rfl,rfl,SqL.of z6,by rw[e];rfl,k t3 (.move _) _ (q4 _ _ z6) (.inl rfl) ((S3.same sq).mono (by omega)) (KA.trans sq.keep)⟩
def jL:List Str:=["_law_heap_here"]
theorem uW:FnScope jL ["_law_heap_here"] (z7 yc):=FS
inductive sp_lht(vs:List V)(H:Hp)(Q:VK)(E:XK):Prop
 |mk (a:Addr) (ns:List Int):vs=[.ref a]->H a=some (.tup (ns.map V.int))->ns.length<=64->(∀x∈ns,1<=x/\x<=10^60)->(∀(H':Hp),Same H H'->Q (.str (txt ns)) H')->sp_lht vs H Q E
theorem yW(T:Txt P w K mg A):FnOk P w K mg base CX0 1 A.a7 A.f7 ["_law_heap_here"] sp_lht:=by
 refine T.x7.F.ok uW (by walk_at "n") fun _ _ _ s H vs Q E hr h=>?_
 ·obtain⟨a,ns,rfl,ha,hl,hb,k⟩:=h;refine⟨_,(z8 (zC (wJ (zY (pv 0) (fun _=>rfl)))
     (z9 (zo zj)) zk)
    (z9 (zo (kG PySem.F.plainAttrs_str PySem.F.slot_str_join PySem.F.type_str_join jC zj (pa1 (zX (ls:=["_law_part"]) (fr:=[]) (csf (z7 yc) jL) rfl (kD (pv 0)) (fun _ _ _ _=>pgc 0 (by decide+kernel) rfl rfl) (fun _ _ _ _=>yj) (fun _ _ _ _=>(zH jd (glc (z7 yc)) T.w11 boot_str (pa1 (pvc (z7 yc) 0)))))))))),?_⟩
  by_cases h0:ns=[]
  ·subst h0;exact⟨_,rfl,false,.inr (.inl ⟨_,SqT.of ha,rfl⟩),iteT (k H (Same.refl _))⟩
  ·have hne:ns≠[]:=h0;refine⟨_,rfl,true,.inr (.inl ⟨_,SqT.of ha,by cases ns with|nil=>exact absurd rfl hne|cons _ _=>rfl⟩),iteF ?_⟩;refine⟨rfl,_,rfl,a,rfl,⟨_,SqT.of ha⟩,je (xs:=ns.map V.int) (fun i ys σ' H'=>H'=H/\(∃v,σ'=[v])/\ys=((ns.take i).map numS).map V.str) ⟨rfl,⟨_,rfl⟩,rfl⟩ ?_ ?_ ?_⟩
   ·rintro i ys σ' H' hi ⟨rfl,_,rfl⟩;refine⟨SqT.of ha,?_⟩;rw[length_map,length_map,length_take];exact le_trans (Nat.min_le_right _ _) (le_trans hl (by decide))
   ·rintro i x ys σ' H' hx ⟨rfl,⟨v,rfl⟩,rfl⟩;obtain⟨z,hz,rfl⟩:=kU hx;have h1:=hb z (mem_of_getElem? hz);have hi:=(List.getElem?_eq_some_iff.mp hz).1;have ez:=(List.getElem?_eq_some_iff.mp hz).2;refine⟨_,rfl,z,rfl,ue (by omega) h1.2,rfl,⟨_,rfl⟩,?_⟩;rw[take_succ_eq_append_getElem hi,ez];simp[numS]
   ·rintro ys σ' H' ⟨rfl,_,rfl⟩ l hl0;rw[length_map,take_length];refine⟨_,l,ns.map numS,rfl,rfl,SqL.of z6,?_,?_⟩
    ·have h1:((ns.map numS).map (·.length)).sum<=ns.length*61:=by
      rw[map_map];refine qO fun x hx=>?_;show(numS x).length<=61;rw[zJ];exact ya (by have:=hb x hx;omega) (by decide) (Int.lt_of_le_of_lt (hb x hx).2 (by decide))
     have h2:(Str.ofString " ").length=1:=by rw[yJ];rfl
     rw[h2,length_map];omega
    ·have e:Txt.join (Str.ofString " ") (ns.map numS)=txt ns:=by unfold txt;rw[if_neg hne]
     rw[e];exact k _ (Same.new hl0)
def jO:List Str:=["_law_rule"]
theorem uY:FnScope jO ["_law_rule"] (z7 yf):=FS
inductive sp_law_rule_text(vs:List V)(H:Hp)(Q:VK)(E:XK):Prop
 |mk (p:Addr) (rs:List (List Int)) (xs:List V):vs=[.ref p]->H p=some (.tup xs)->All2 Tup1 H rs xs->rs.length<=6->(∀r∈rs,r.length<=10/\ ∀x∈r,1<=x/\x<10^60)->(∀(H':Hp),Same H H'->Q (.str (rtxt rs)) H')->sp_law_rule_text vs H Q E
theorem yp(T:Txt P w K mg A):FnOk P w K mg base CX0 2 A.a8 A.f8 ["_law_rule"] sp_law_rule_text:=by
 refine T.x8.F.ok uY (by walk_at "n") fun _ _ _ s H vs Q E hr h=>?_
 ·obtain⟨p,rs,xs,rfl,hp,h2,h6,hb,k⟩:=h;refine⟨_,(z8 (zC (wJ (zY (pv 0) (fun _=>rfl)))
     (z9 (zo zj)) zk)
    (z9 (zo (kG PySem.F.plainAttrs_str PySem.F.slot_str_join PySem.F.type_str_join jC zj (pa1 (zX (ls:=["_law_heap_here"]) (fr:=[]) (csf (z7 yf) jO) rfl (kD (pv 0)) (fun _ _ _ _=>pgc 0 (by decide+kernel) rfl rfl) (fun _ _ _ _=>yj) (fun _ _ _ _=>(yh (yW T) (hr.mono (by decide)) (glc (z7 yf)) T.x7.g T.x7.F.kp T.x7.b .nil wX (pa1 (pvc (z7 yf) 0)))))))))),?_⟩
  have hxl:=h2.length;by_cases hne:rs=[]
  ·subst hne;cases h2;exact⟨_,rfl,false,.inr (.inl ⟨_,SqT.of hp,rfl⟩),iteT (k H (Same.refl _))⟩
  refine⟨_,rfl,true,.inr (.inl ⟨_,SqT.of hp,by cases h2 with|nil=>exact absurd rfl hne|cons _ _=>rfl⟩),iteF ?_⟩;refine⟨rfl,uD (fun(b:Str) v _=>v=V.str b) (rs.map txt) [] (by rw[length_map];exact hxl) (le_trans (m:=6) (by omega) (by decide)) (fun _ _ _ _ _ h=>h) rfl rfl hp (fun j x b H' P hx hbj s' hP=>?_) (fun zs H1 l s1 a1 hl=>?_)⟩
  ·obtain⟨r,hr0,q,rfl,hq⟩:=h2.get hx;rw[getElem?_map,hr0]at hbj;have hm:=hb r (mem_of_getElem? hr0);exact⟨_,rfl,q,r,rfl,s' _ _ hq,by omega,fun x hx=>⟨(hm.2 x hx).1,le_of_lt (hm.2 x hx).2⟩,fun H'' s''=>hP _ _ s'' (by rw[<-Option.some.inj hbj])⟩
  have e1:=rK a1;subst e1;have hsum:((rs.map txt).map (·.length)).sum<=(rs.map txt).length*620:=vc fun y hy=>by
   obtain⟨r,hr0,rfl⟩:=mem_map.mp hy;exact wz (hb r hr0).1 (hb r hr0).2
  rw[length_map]at hsum;refine⟨_,l,rs.map txt,rfl,rfl,SqL.of z6,?_,?_⟩
  ·have hbl:(Str.ofString " | ").length=3:=by decide
   rw[hbl,length_map];omega
  ·have e:Txt.join (Str.ofString " | ") (rs.map txt)=rtxt rs:=by unfold rtxt;rw[if_neg hne];rfl
   rw[e];exact k _ (s1.trans (Same.new hl))
def jN:List Str:=["_law_plan_here"]
theorem uX:FnScope jN ["_law_plan_here"] (z7 ye):=FS
inductive sp_plan_line(vs:List V)(H:Hp)(Q:VK)(E:XK):Prop
 |mk (q:Addr) (P:Plan) (names:List Str):vs=[.ref q]->PlanV P q H->rS names P->(∀n∈names,zF n=true)->(∀w,P≠ .move w)->(∀H',Same H H'->Q (.str (pN P)) H')->sp_plan_line vs H Q E
theorem uR(T:Txt P w K mg A):FnOk P w K mg base CX0 30 A.a9 A.f9 ["_law_plan_here"] sp_plan_line:=by
 refine T.x9.F.ok uX (by walk_at "n") fun _ _ _ s H vs Q E hr h=>?_
 ·obtain⟨q,P',names,rfl,hP,hok,hnm,hmv,k⟩:=h;refine⟨_,(z8 (zC (zi zZ (pix zI (pv 0) zc) zj (zu _))
     (z9 (zo (zL yH (rg (kj (jh (pix zI (pv 0) zc) (kj uj)))) (pcl (yp T) hr T.x8 (pa1 (pix zI (pv 0) zc)))))) zk)
    (z8 (zC (zi zZ (pix zI (pv 0) zc) zj (zu _))
     (z9 (zo (zL yH (rg (kj (jh (pix zI (pv 0) zc) (kj uj)))) (pcl (yW T) hr T.x7 (pa1 (pix zI (pv 0) zc)))))) zk)
    (z9 (zo (kG PySem.F.plainAttrs_str PySem.F.slot_str_join PySem.F.type_str_join jC zj (pa1 (zX (ls:=["_law_part"]) (fr:=[]) (csf (z7 ye) jN) rfl (kD (pv 0)) (fun _ _ _ _=>pgc 0 (by decide+kernel) rfl rfl) (fun _ _ _ _=>yj) (fun _ _ _ _=>(zH tu (glc (z7 ye)) T.w11 boot_str (pa1 (pvc (z7 ye) 0))))))))))),?_⟩
  have lb:(Str.ofString " ").length=1:=by decide+kernel
  have lru:(Str.ofString "rule ").length=5:=by decide+kernel
  have lad:(Str.ofString "add ").length=4:=by decide+kernel
  have lw3:(Str.ofString "take").length=4/\(Str.ofString "copy").length=4/\(Str.ofString "drop").length=4:=by decide+kernel
  have big:∀k:Nat,k<=20000->k<=sizeLine:=fun k h=>le_trans h (by decide);have ee:∀a b c:Str,((Str.empty++a)++b)++c=(a++b)++c:=fun a b c=>by rw[zD]
  have ix0:∀{x:V}{r:List V},atI (x::r) 0=some x:=zp (j:=0) rfl;have ix1:∀{x y:V}{r:List V},atI (x::y::r) 1=some y:=zp (j:=1) rfl;have ix2:∀{x y z:V}{r:List V},atI (x::y::z::r) 2=some z:=zp (j:=2) rfl;have joinL:∀(us:List V)(zs:List Str),H q=some (.tup us)->us.length=zs.length->us.length<=3->(∀(j:Nat)(u:V)(z:Str),us[j]? =some u->zs[j]? =some z->qR u z)->(zs.map (·.length)).sum<=100->pN P'=Txt.join (Str.ofString " ") zs->tRet (tBM K "str" (fun x vs H_1 Q=>∃ sep a ys,x=V.str sep/\vs=[V.ref a]/\SqL K H_1 a (List.map V.str ys)/\(List.map (fun x=>x.length) ys).sum+ys.length*sep.length<=16777216/\Q (V.str (Txt.join sep ys)) H_1) (tC (V.str (Str.ofString " "))) (yT (tComp (iTup K (tVar 0)) [Str.ofString "_law_part"] [] (jX 0) tYes (tCB (fun xs H Q=>∃ v z,xs=[v]/\qR v z/\Q (V.str z) H) (yT (tVar 0) tNil))) tNil)) {nx:=fun x H'=>Q V.non H',rt:=Q} [some (V.ref q)] H:=by
   intro us zs hq hl h3 hs hsum hline;refine⟨rfl,uD (fun(b:Str) v _=>v=V.str b) zs [] hl.symm (le_trans h3 (by decide)) (fun _ _ _ _ _ h=>h) rfl rfl hq (fun j x b H' P hx hb s' hP=>?_) (fun vs H1 l s1 a1 hl1=>?_)⟩
   ·exact⟨_,rfl,x,b,rfl,hs j x b hx hb,hP _ _ (Same.refl _) rfl⟩
   ·have e:=rK a1;subst e;refine⟨_,l,zs,rfl,rfl,SqL.of z6,by rw[lb];omega,?_⟩;rw[<-hline];exact k _ (s1.trans (Same.new hl1))
  have so2:∀{u1 u2:V}{z1 z2:Str},qR u1 z1->qR u2 z2-> ∀(j:Nat)(u:V)(z:Str),[u1,u2][j]? =some u->[z1,z2][j]? =some z->qR u z:=fun h1 h2 j u z e1 e2=>by
   match j,e1,e2 with
   | 0,e1,e2=>cases e1;cases e2;exact h1
   | 1,e1,e2=>cases e1;cases e2;exact h2
  have so3:∀{u1 u2 u3:V}{z1 z2 z3:Str},qR u1 z1->qR u2 z2->qR u3 z3-> ∀(j:Nat)(u:V)(z:Str),[u1,u2,u3][j]? =some u->[z1,z2,z3][j]? =some z->qR u z:=fun h1 h2 h3 j u z e1 e2=>by
   match j,e1,e2 with
   | 0,e1,e2=>cases e1;cases e2;exact h1
   | 1,e1,e2=>cases e1;cases e2;exact h2
   | 2,e1,e2=>cases e1;cases e2;exact h3
  cases P' with
  |move w=>exact absurd rfl (hmv w)
  |rule n r =>
   obtain⟨v,g,p,rs,rfl,gp,a2⟩:=hP;obtain⟨hn,hR⟩:=hok;have ln:=zB (hnm n hn);have lt:=bu hR.1 hR.fine.2;refine⟨_,rfl,q,_,_,_,rfl,rfl,SqT.of g,ix0,rfl,_,rfl,iteT ?_⟩;refine⟨big _ (by simp only[zO,zD];omega),_,rfl,q,_,_,_,rfl,rfl,SqT.of g,ix1,n,.inr rfl,big _ (by omega),big _ (by simp only[zO,zD];omega),big _ (by simp only[zO,zD];omega),big _ (by simp only[zO,zD];omega),?_⟩;rw[ee];exact⟨_,rfl,q,_,_,_,rfl,rfl,SqT.of g,ix2,p,r,rs,rfl,gp,a2,hR.1,hR.fine.2,fun H1 s1=>⟨_,_,rfl,rfl,big _ (by simp only[zO,zD];omega),k H1 s1⟩⟩
  |add n h =>
   obtain⟨p,g,gp⟩:=hP;obtain⟨hn,hl,hh⟩:=hok;have ln:=zB (hnm n hn);have lt:(txt h).length<=10000:=txt_len (by omega) fun x hx=>⟨(hh.bd x hx).1,le_of_lt (hh.bd x hx).2⟩;refine⟨_,rfl,q,_,_,_,rfl,rfl,SqT.of g,ix0,rfl,_,rfl,iteF ?_⟩;refine⟨_,rfl,q,_,_,_,rfl,rfl,SqT.of g,ix0,rfl,_,rfl,iteT ?_⟩;refine⟨big _ (by simp only[zO,zD];omega),_,rfl,q,_,_,_,rfl,rfl,SqT.of g,ix1,n,.inr rfl,big _ (by omega),big _ (by simp only[zO,zD];omega),big _ (by simp only[zO,zD];omega),big _ (by simp only[zO,zD];omega),?_⟩;rw[ee];exact⟨_,rfl,q,_,_,_,rfl,rfl,SqT.of g,ix2,p,h,rfl,gp,by omega,(fun x hx=>⟨(hh.bd x hx).1,le_of_lt (hh.bd x hx).2⟩),fun H1 s1=>⟨_,_,rfl,rfl,big _ (by simp only[zO,zD];omega),k H1 s1⟩⟩
  |take n j =>
   have g:=hP;have ln:=zB (hnm n hok.1);have j6:j<=6:=hok.2;refine⟨_,rfl,q,_,_,_,rfl,rfl,SqT.of g,ix0,rfl,_,rfl,iteF ?_⟩;refine⟨_,rfl,q,_,_,_,rfl,rfl,SqT.of g,ix0,rfl,_,rfl,iteF ?_⟩;refine joinL _ [Str.ofString "take",n,numS (j:Int)] g rfl (by show 3<=3;decide) ?_ ?_ rfl
   ·exact so3 (.inr rfl) (.inr rfl) (.inl ⟨_,rfl,ue (by omega) (Int.le_trans (show(j:Int)<=6 by omega) (by decide)),rfl⟩)
   ·have l2:(numS (j:Int)).length<=1:=by rw[zJ];exact ya (by omega) (by decide) (by omega)
    show(Str.ofString "take").length+(n.length+((numS (j:Int)).length+0))<=100;omega
  |copy n m =>
   have g:=hP;have ln:=zB (hnm n hok.1);have lm:=zB (hnm m hok.2);refine⟨_,rfl,q,_,_,_,rfl,rfl,SqT.of g,ix0,rfl,_,rfl,iteF ?_⟩;refine⟨_,rfl,q,_,_,_,rfl,rfl,SqT.of g,ix0,rfl,_,rfl,iteF ?_⟩;refine joinL _ [Str.ofString "copy",n,m] g rfl (by show 3<=3;decide) (so3 (.inr rfl) (.inr rfl) (.inr rfl)) ?_ rfl;show(Str.ofString "copy").length+(n.length+(m.length+0))<=100;omega
  |drop n =>
   have g:=hP;have ln:=zB (hnm n hok);refine⟨_,rfl,q,_,_,_,rfl,rfl,SqT.of g,ix0,rfl,_,rfl,iteF ?_⟩;refine⟨_,rfl,q,_,_,_,rfl,rfl,SqT.of g,ix0,rfl,_,rfl,iteF ?_⟩;refine joinL _ [Str.ofString "drop",n] g rfl (by show 2<=3;decide) (so2 (.inr rfl) (.inr rfl)) ?_ rfl;show(Str.ofString "drop").length+(n.length+0)<=100;omega
def uN:List Str:=["_law_rules"]
theorem uw:FnScope uN ["_law_rules"] (z7 jw):=FS
inductive sp_lnames(vs:List V)(H:Hp)(Q:VK)(E:XK):Prop
 |mk (a:Addr) (kvs:List (Key×V)) (ss:List Str):vs=[.ref a]->H a=some (.dK kvs)->kvs.map (·.1)=ss.map Sum.inr->ss.length<64->(∀s∈ss,s.length<=8)->(∀(z:Str)(H':Hp),yi ss z->Same H H'->Q (.str z) H')->sp_lnames vs H Q E
theorem yK(T:Txt P w K mg A):FnOk P w K mg base CX0 2 A.a10 A.f10 ["_law_rules"] sp_lnames:=by
 refine T.x10.F.ok uw (by walk_at "n") fun _ _ _ s H vs Q E hr h=>?_
 ·obtain⟨a,kvs,ss,rfl,ha,hk,hl,hb,k⟩:=h;refine⟨_,(z8 (zC (wJ (zY (pv 0) (fun _=>rfl)))
     (z9 (zo zj)) zk)
    (z9 (zo (kG PySem.F.plainAttrs_str PySem.F.slot_str_join PySem.F.type_str_join jC zj (pa1 (zt dy rfl T.w10 boot_sorted (pa1 (zH (dq rfl) rfl T.w6 boot_list (pa1 (pv 0)))))))))),?_⟩
  have hlk:kvs.length=ss.length:=by
   have:=congrArg length hk;simpa using this
  by_cases h0:ss=[]
  ·subst h0;have e:kvs=[]:=List.eq_nil_of_length_eq_zero (by simpa using hlk);subst e;exact⟨_,rfl,false,.inr (.inr ⟨_,ha,rfl⟩),iteT (k cn H (.inl ⟨rfl,rfl⟩) (Same.refl _))⟩
  have e:true= !kvs.isEmpty:=by
   cases kvs with
   |nil=>exact absurd (List.eq_nil_of_length_eq_zero (by simpa using hlk.symm)) h0
   |cons _ _=>rfl
  refine⟨_,rfl,true,.inr (.inr ⟨_,ha,e⟩),iteF ?_⟩;refine⟨rfl,_,rfl,a,kvs,ss,rfl,ha,hk,fun p hp=>?_⟩;refine⟨p,ss,rfl,SqL.of z6,hl,fun ss' q pm so hq=>?_⟩;have hb':∀s∈ss',s.length<=8:=fun s hs=>hb s (pm.mem_iff.mp hs);have h1:(ss'.map (·.length)).sum<=ss'.length*8:=qO hb';have h2:(Str.ofString " ").length=1:=by rw[yJ];rfl
  have h3:=pm.length_eq;exact⟨_,q,ss',rfl,rfl,SqL.of z6,by rw[h2];omega,k _ _ (.inr ⟨h0,ss',pm,so,rfl⟩) ((Same.new hp).trans (Same.new hq))⟩
def c9:List Str:=["_law_rules","_law_plan_here","_law_word","_law_name_here","_law_new","_law_rule"]
theorem y8:FnScope c9 ["_law_rules","_law_plan_here"] (z7 qF):=FS
inductive sp_next(vs:List V)(H:Hp)(Q:VK)(E:XK):Prop
 |mk (rd q:Addr) (kvs:List (Key×V)) (S:Std) (P:Plan) (names:List Str):vs=[.ref rd,.ref q]->H rd=some (.dK kvs)->StdV H S kvs->PlanV P q H->rS names P->(∀n∈names,zF n=true)->(∀p∈S,yo p.2)->S.length<60->u0 S->(∀w,P≠ .move w)->(∀(a d t:Addr)(kvs':List (Key×V))(S':Std)(du:DueN)(H':Hp),H' a=some (.tup [.ref d,.ref t])->H' t=some (.tup du.vals)->H' d=some (.dK kvs')->StdV H' S' kvs'->rR S P S' du->Same H H'->(∀z,du= .told z->H d=none)->Q (.ref a) H')->sp_next vs H Q E
theorem ml(T:Txt P w K mg A):FnOk P w K mg base CX0 30 A.a11 A.f11 ["_law_rules","_law_plan_here"] sp_next:=by
 refine T.x11.F.ok y8 (by walk_at "n") fun _ _ _ s H vs Q E hr h=>?_
 ·obtain⟨rd,q,kvs,S,P',names,rfl,hrd,sv,hP,hok,hnm,hfine,hlen,hnS,hmv,k⟩:=h;refine⟨_,(z8 (ps_par (i:=2) (j:=3) rfl y8.nd rfl rfl (by decide) rfl rfl (pa2 (pix zI (pv 1) zc) (pix zI (pv 1) zc)) rfl)
    (z8 (pset 4 y8.nd (zH jn rfl T.w1 boot_dict (pa1 (pv 0))))
    (z8 (zC (PW.pt (gZ (zi op_ne (pv 2) zj (zu _)) (qt (zi (qp (huR hr)) (pv 3) (pv 0) rfl))))
     (z9 (zo (zx (pa2 (pv 0) (zx (pa2 zj (pv 3))))))) zk)
    (z8 (zC (zi zZ (pv 2) zj (zu _))
     (z8 (yB (bn (pv 4) (pv 3) ⟨rfl,rfl,rfl,rfl⟩))
    (z9 (zo (zx (pa2 (pv 4) (zx (pa2 zj (pcl (yK T) hr T.x10 (pa1 (pv 4)))))))))) zk)
    (z8 (pset 5 y8.nd (pe_dget2 (huR hr) (pv 0) (pv 3) (zx kY) ⟨rfl,rfl,rfl,rfl⟩))
    (z8 (zC (zi zZ (pv 2) zj (zu _))
     (z9 (pset 5 y8.nd (pix zI (pv 1) zc))) zk)
    (z8 (zC (zi zZ (pv 2) zj (zu _))
     (z8 (zC (zi zZ (zt zq rfl T.w5 PySem.boot_len (pa1 (pv 5))) zc (zu _))
     (z9 (zo (zx (pa2 (pv 0) (zx (pa2 zj zc)))))) zk)
    (z9 (pset 5 y8.nd (zL qm (pv 5) (zx (pa1 (pix zI (pv 1) zc))))))) zk)
    (z8 (zC (zi zZ (pv 2) zj (zu _))
     (z8 (zC (zi op_ge (pix zI (pv 1) zc) (zt zq rfl T.w5 PySem.boot_len (pa1 (pv 5))) (zu _))
     (z9 (zo (zx (pa2 (pv 0) (zx (pa2 zj zc)))))) zk)
    (z9 (pset 5 y8.nd (zL qm (yM rF (pv 5) kZ (j0 (pix zI (pv 1) zc))) (yM rF (pv 5) (j0 (zL kA (pix zI (pv 1) zc) zc)) kZ))))) zk)
    (z8 (zC (zi zZ (pv 2) zj (zu _))
     (z9 (pset 3 y8.nd (pix zI (pv 1) zc))) zk)
    (z8 (cD (huR hr) (pv 4) (pv 3) (pv 5) rfl)
    (z9 (zo (zx (pa2 (pv 4) (zx (pa2 zj (pcl (yp T) hr T.x8 (pa1 (pv 5))))))))))))))))))),?_⟩
  have ix0:∀{x:V}{r:List V},atI (x::r) 0=some x:=zp (j:=0) rfl;have ix1:∀{x y:V}{r:List V},atI (x::y::r) 1=some y:=zp (j:=1) rfl;have ix2:∀{x y z:V}{r:List V},atI (x::y::z::r) 2=some z:=zp (j:=2) rfl;have two:2<=sizeLine:=by decide
  have fin:∀(w nm:Str)(nd pr:Addr)(rr:List (List Int))(rs:List V)(H2:Hp),Same H H2->H2 nd=some (.dK kvs)->H nd=none->H2 pr=some (.tup rs)->All2 Tup1 H2 rr rs->yo rr->rR S P' (putS S nm rr) (.told (rtxt rr))->tSeq (sDPut (tVar 4) (tVar 3) (tVar 5)) (tRet (tTup (yT (tVar 4) (yT (tTup (yT (tC (V.str (Str.ofString "told"))) (yT (tCall sp_law_rule_text [] E0 (yT (tVar 5) tNil)) tNil))) tNil)))) {nx:=fun x H'=>Q V.non H',rt:=Q} [some (.ref rd),some (.ref q),some (.str w),some (.str nm),some (.ref nd),some (.ref pr)] H2:=by
   intro w nm nd pr rr rs H2 s2 gnd fnd gpr ar hR hnx;have kl:kvs.length<sizeLine:=by rw[sv.length];exact lt_of_lt_of_le hlen (by decide)
   refine⟨_,rfl,_,rfl,_,rfl,nd,_,rfl,DPut.k (k:=Sum.inr nm) gnd kl,?_⟩;have t3:=tups_upd (H:=H2) (a:=nd) (o:=.dK (putK kvs (Sum.inr nm) (.ref pr))) gnd (fun _ z=>by cases z);have s3:=s2.updN (o:=.dK (putK kvs (Sum.inr nm) (.ref pr))) fnd;have rv:wT rr (.ref pr) (upd H2 nd (.dK (putK kvs (Sum.inr nm) (.ref pr)))):=⟨pr,rs,rfl,t3 _ _ gpr,ar.mv t3⟩;have sv3:=StdV.put (n:=nm) rv (sv.mv s3.tups);refine⟨_,rfl,_,rfl,pr,rr,rs,rfl,t3 _ _ gpr,ar.mv t3,hR.1,hR.fine.2,fun H4 s4=>⟨two,fun t ht=>⟨two,fun a ha=>?_⟩⟩⟩;have k1:=Same.new (o:=.tup [V.str (Str.ofString "told"),V.str (rtxt rr)]) ht;have k2:=Same.new (o:=.tup [V.ref nd,V.ref t]) ha;have s5:=s4.trans (k1.trans k2);exact k a nd t _ _ (.told (rtxt rr)) _ z6 (k2 _ _ z6) (s5 _ _ z6) (sv3.mv s5.tups) hnx (s3.trans s5) (fun _ _=>fnd)
  have k':=k;cases P' with
  |move w=>exact absurd rfl (hmv w)
  |rule n r =>
   obtain⟨v,g,p,rs,rfl,gp,a2⟩:=hP;obtain⟨hn,hR⟩:=hok;refine⟨_,rfl,q,_,_,_,rfl,rfl,SqT.of g,ix0,_,rfl,q,_,_,_,rfl,rfl,SqT.of g,ix1,_,_,rfl,?_⟩;refine⟨_,rfl,rd,kvs,rfl,hrd,fun nd hnd=>?_⟩;have s1:=Same.new (o:=.dK kvs) hnd;refine⟨_,rfl,rfl,_,rfl,iteF (iteF ?_)⟩;refine⟨_,rfl,rfl,_,rfl,iteF ?_⟩;refine⟨_,rfl,rd,rfl,.inl ⟨_,.inl (s1 _ _ hrd)⟩,_,rfl,by show 0<=sizeLine;decide,fun e0 he0=>?_⟩;have s2:=s1.trans (Same.new (o:=.tup []) he0);refine⟨_,DGet.k (k:=Sum.inr n) (s2 _ _ hrd),?_⟩;refine⟨_,rfl,rfl,_,rfl,iteT ?_⟩;refine⟨_,rfl,q,_,_,_,rfl,rfl,SqT.of (s2 _ _ g),ix2,?_⟩;refine⟨_,rfl,rfl,_,rfl,iteF ?_⟩;refine⟨_,rfl,rfl,_,rfl,iteF ?_⟩;refine⟨_,rfl,rfl,_,rfl,iteF ?_⟩;exact fin _ n nd p r rs _ s2 (Same.new he0 _ _ z6) hnd (s2 _ _ gp) (a2.mv s2.tups) hR ⟨rfl,rfl⟩
  |add n h =>
   obtain⟨p,g,gp⟩:=hP;obtain⟨hn,hl10,hh⟩:=hok;refine⟨_,rfl,q,_,_,_,rfl,rfl,SqT.of g,ix0,_,rfl,q,_,_,_,rfl,rfl,SqT.of g,ix1,_,_,rfl,?_⟩;refine⟨_,rfl,rd,kvs,rfl,hrd,fun nd hnd=>?_⟩;have s1:=Same.new (o:=.dK kvs) hnd;refine⟨_,rfl,rfl,_,rfl,iteT ?_⟩;have dg:=DGet.k (k:=Sum.inr n) (s1 _ _ hrd);rcases sv.val n with⟨e1,e2⟩|⟨r0,v0,e1,e2,p0,xs0,rfl,gp0,a0⟩
   ·rw[e2]at dg;refine⟨_,rfl,_,rfl,rd,none,rfl,dg,_,rfl,iteT ?_⟩;refine⟨_,rfl,_,rfl,two,fun t ht=>⟨two,fun a ha=>?_⟩⟩;have k1:=Same.new (o:=.tup [V.str (Str.ofString "name"),V.str n]) ht;have k2:=Same.new (o:=.tup [V.ref rd,V.ref t]) ha;have s5:=s1.trans (k1.trans k2);exact k' a rd t kvs S (.name n) _ z6 (k2 _ _ z6) (s5 _ _ hrd) (sv.mv s5.tups) (.inl ⟨e1,rfl,rfl⟩) s5 (fun _ e=>by cases e)
   rw[e2]at dg;refine⟨_,rfl,_,rfl,rd,_,rfl,dg,_,rfl,iteF ?_⟩;have hR0:yo r0:=hfine _ (kT e1);refine⟨_,rfl,rfl,_,rfl,iteF ?_⟩;refine⟨_,rfl,rd,rfl,.inl ⟨_,.inl (s1 _ _ hrd)⟩,_,rfl,by show 0<=sizeLine;decide,fun e0 he0=>?_⟩;have s2:=s1.trans (Same.new (o:=.tup []) he0);have dg2:=DGet.k (k:=Sum.inr n) (s2 _ _ hrd);rw[e2]at dg2;refine⟨_,dg2,?_⟩;have gp2:=s2 _ _ gp0;have a02:=a0.mv s2.tups;have gnd:=Same.new (o:=.tup []) he0 _ _ (z6 (H:=H) (a:=nd) (o:=.dK kvs));refine⟨_,rfl,rfl,_,rfl,iteF ?_⟩;refine⟨_,rfl,rfl,_,rfl,iteT ?_⟩;have l0:=a0.length;have l6:=hR0.1;refine⟨_,rfl,p0,_,rfl,.inr (SqT.of gp2),rfl,_,rfl,ite2 (fun e6=>?_) (fun e6=>?_)⟩
   ·have l6':(xs0.length:Int)=6:=by simpa using e6
    refine⟨_,rfl,two,fun t ht=>⟨two,fun a ha=>?_⟩⟩;have k1:=Same.new (o:=.tup [V.str (Str.ofString "rule"),V.int 0]) ht;have k2:=Same.new (o:=.tup [V.ref rd,V.ref t]) ha;have s5:=s2.trans (k1.trans k2);exact k' a rd t kvs S (.bare _) _ z6 (k2 _ _ z6) (s5 _ _ hrd) (sv.mv s5.tups) (.inr ⟨r0,e1,.inl ⟨by omega,rfl,rfl⟩⟩) s5 (fun _ e=>by cases e)
   have l6':¬(xs0.length:Int)=6:=fun z=>e6 (decide_eq_true (congrArg V.int z));refine⟨_,rfl,_,rfl,q,_,_,_,rfl,rfl,SqT.of (s2 _ _ g),ix2,by show 1<=sizeLine;decide,fun t1 ht1=>?_⟩;have s3:=Same.new (o:=.tup [V.ref p]) ht1;refine dcatG (s3 _ _ gp2) z6 (le_trans (m:=7) (by show xs0.length+1<=7;omega) (by decide)) fun np HM gnp sM=>?_;have s4:=s2.trans (s3.trans sM);refine⟨_,rfl,rfl,_,rfl,iteF ?_⟩;refine⟨_,rfl,rfl,_,rfl,iteF ?_⟩;refine fin _ n nd np (r0++[h]) _ _ s4 ((s3.trans sM) _ _ gnd) hnd gnp ((a0.mv s4.tups).snoc ⟨p,rfl,s4 _ _ gp⟩) ⟨by rw[length_append];show r0.length+1<=6;omega,fun z hz=>?_⟩ (.inr ⟨r0,e1,.inr ⟨by omega,rfl,rfl⟩⟩);rcases mem_append.mp hz with hz|hz
   ·exact hR0.2 z hz
   ·rw[List.mem_singleton.mp hz];exact⟨hl10,hh⟩
  |take n j =>
   have g:=hP;refine⟨_,rfl,q,_,_,_,rfl,rfl,SqT.of g,ix0,_,rfl,q,_,_,_,rfl,rfl,SqT.of g,ix1,_,_,rfl,?_⟩;refine⟨_,rfl,rd,kvs,rfl,hrd,fun nd hnd=>?_⟩;have s1:=Same.new (o:=.dK kvs) hnd;refine⟨_,rfl,rfl,_,rfl,iteT ?_⟩;have dg:=DGet.k (k:=Sum.inr n) (s1 _ _ hrd);rcases sv.val n with⟨e1,e2⟩|⟨r0,v0,e1,e2,p0,xs0,rfl,gp0,a0⟩
   ·rw[e2]at dg;refine⟨_,rfl,_,rfl,rd,none,rfl,dg,_,rfl,iteT ?_⟩;refine⟨_,rfl,_,rfl,two,fun t ht=>⟨two,fun a ha=>?_⟩⟩;have k1:=Same.new (o:=.tup [V.str (Str.ofString "name"),V.str n]) ht;have k2:=Same.new (o:=.tup [V.ref rd,V.ref t]) ha;have s5:=s1.trans (k1.trans k2);exact k' a rd t kvs S (.name n) _ z6 (k2 _ _ z6) (s5 _ _ hrd) (sv.mv s5.tups) (.inl ⟨e1,rfl,rfl⟩) s5 (fun _ e=>by cases e)
   rw[e2]at dg;refine⟨_,rfl,_,rfl,rd,_,rfl,dg,_,rfl,iteF ?_⟩;have hR0:yo r0:=hfine _ (kT e1);refine⟨_,rfl,rfl,_,rfl,iteF ?_⟩;refine⟨_,rfl,rd,rfl,.inl ⟨_,.inl (s1 _ _ hrd)⟩,_,rfl,by show 0<=sizeLine;decide,fun e0 he0=>?_⟩;have s2:=s1.trans (Same.new (o:=.tup []) he0);have dg2:=DGet.k (k:=Sum.inr n) (s2 _ _ hrd);rw[e2]at dg2;refine⟨_,dg2,?_⟩;have gp2:=s2 _ _ gp0;have a02:=a0.mv s2.tups;have gnd:=Same.new (o:=.tup []) he0 _ _ (z6 (H:=H) (a:=nd) (o:=.dK kvs));refine⟨_,rfl,rfl,_,rfl,iteF ?_⟩;refine⟨_,rfl,rfl,_,rfl,iteF ?_⟩;refine⟨_,rfl,rfl,_,rfl,iteT ?_⟩;have l0:=a0.length;refine⟨_,rfl,q,_,_,_,rfl,rfl,SqT.of (s2 _ _ g),ix2,_,rfl,p0,_,rfl,.inr (SqT.of gp2),_,_,rfl,rfl,_,rfl,ite2 (fun e6=>?_) (fun e6=>?_)⟩
   ·have l6':(xs0.length:Int)<=(j:Int):=of_decide_eq_true e6;refine⟨_,rfl,two,fun t ht=>⟨two,fun a ha=>?_⟩⟩;have k1:=Same.new (o:=.tup [V.str (Str.ofString "place"),V.int 0]) ht;have k2:=Same.new (o:=.tup [V.ref rd,V.ref t]) ha;have s5:=s2.trans (k1.trans k2);exact k' a rd t kvs S (.bare _) _ z6 (k2 _ _ z6) (s5 _ _ hrd) (sv.mv s5.tups) (.inr ⟨r0,e1,.inl ⟨by omega,rfl,rfl⟩⟩) s5 (fun _ e=>by cases e)
   have l6':¬(xs0.length:Int)<=(j:Int):=fun z=>e6 (decide_eq_true z);have l6:=hR0.1;refine⟨_,rfl,?_⟩;dsimp only[jp,tNil];refine⟨_,rfl,q,_,_,_,rfl,rfl,SqT.of (s2 _ _ g),ix2,_,rfl,xA gp2 fun p1 HK g1 sK=>?_⟩;refine⟨_,rfl,_,rfl,q,_,_,_,rfl,rfl,SqT.of (sK _ _ (s2 _ _ g)),ix2,_,_,rfl,rfl,_,rfl,?_⟩;dsimp only[jp,tNil];refine xA (sK _ _ gp2) fun p2 HL g2 sL=>?_;refine dcatG (sL _ _ g1) g2 ?_ fun np HM gnp sM=>?_
   ·rw[<-length_append,wB xs0 j (by omega),List.length_eraseIdx];split <;>exact le_trans (m:=1000) (by omega) (by decide)
   rw[wB xs0 j (by omega)]at gnp;have s3:=sK.trans (sL.trans sM);have s4:=s2.trans s3;refine⟨_,rfl,rfl,_,rfl,iteF ?_⟩;refine fin _ n nd np (r0.eraseIdx j) _ _ s4 (s3 _ _ gnd) hnd gnp ((a0.mv s4.tups).erase j) ⟨?_,fun z hz=>hR0.2 z (List.mem_of_mem_eraseIdx hz)⟩ (.inr ⟨r0,e1,.inr ⟨by omega,rfl,rfl⟩⟩);rw[List.length_eraseIdx];split <;>omega
  |copy n m =>
   have g:=hP;refine⟨_,rfl,q,_,_,_,rfl,rfl,SqT.of g,ix0,_,rfl,q,_,_,_,rfl,rfl,SqT.of g,ix1,_,_,rfl,?_⟩;refine⟨_,rfl,rd,kvs,rfl,hrd,fun nd hnd=>?_⟩;have s1:=Same.new (o:=.dK kvs) hnd;refine⟨_,rfl,rfl,_,rfl,iteT ?_⟩;have dg:=DGet.k (k:=Sum.inr n) (s1 _ _ hrd);rcases sv.val n with⟨e1,e2⟩|⟨r0,v0,e1,e2,p0,xs0,rfl,gp0,a0⟩
   ·rw[e2]at dg;refine⟨_,rfl,_,rfl,rd,none,rfl,dg,_,rfl,iteT ?_⟩;refine⟨_,rfl,_,rfl,two,fun t ht=>⟨two,fun a ha=>?_⟩⟩;have k1:=Same.new (o:=.tup [V.str (Str.ofString "name"),V.str n]) ht;have k2:=Same.new (o:=.tup [V.ref rd,V.ref t]) ha;have s5:=s1.trans (k1.trans k2);exact k' a rd t kvs S (.name n) _ z6 (k2 _ _ z6) (s5 _ _ hrd) (sv.mv s5.tups) (.inl ⟨e1,rfl,rfl⟩) s5 (fun _ e=>by cases e)
   rw[e2]at dg;refine⟨_,rfl,_,rfl,rd,_,rfl,dg,_,rfl,iteF ?_⟩;have hR0:yo r0:=hfine _ (kT e1);refine⟨_,rfl,rfl,_,rfl,iteF ?_⟩;refine⟨_,rfl,rd,rfl,.inl ⟨_,.inl (s1 _ _ hrd)⟩,_,rfl,by show 0<=sizeLine;decide,fun e0 he0=>?_⟩;have s2:=s1.trans (Same.new (o:=.tup []) he0);have dg2:=DGet.k (k:=Sum.inr n) (s2 _ _ hrd);rw[e2]at dg2;refine⟨_,dg2,?_⟩;have gp2:=s2 _ _ gp0;have a02:=a0.mv s2.tups;have gnd:=Same.new (o:=.tup []) he0 _ _ (z6 (H:=H) (a:=nd) (o:=.dK kvs));refine⟨_,rfl,rfl,_,rfl,iteF ?_⟩;refine⟨_,rfl,rfl,_,rfl,iteF ?_⟩;refine⟨_,rfl,rfl,_,rfl,iteF ?_⟩;refine⟨_,rfl,rfl,_,rfl,iteT ?_⟩;refine⟨_,rfl,q,_,_,_,rfl,rfl,SqT.of (s2 _ _ g),ix2,?_⟩;exact fin _ m nd p0 r0 _ _ s2 gnd hnd gp2 a02 hR0 (.inr ⟨r0,e1,rfl,rfl⟩)
  |drop n =>
   have g:=hP;refine⟨_,rfl,q,_,_,_,rfl,rfl,SqT.of g,ix0,_,rfl,q,_,_,_,rfl,rfl,SqT.of g,ix1,_,_,rfl,?_⟩;refine⟨_,rfl,rd,kvs,rfl,hrd,fun nd hnd=>?_⟩;have s1:=Same.new (o:=.dK kvs) hnd;refine⟨_,rfl,rfl,_,rfl,iteT ?_⟩;have dg:=DGet.k (k:=Sum.inr n) (s1 _ _ hrd);rcases sv.val n with⟨e1,e2⟩|⟨r0,v0,e1,e2,p0,xs0,rfl,gp0,a0⟩
   ·rw[e2]at dg;refine⟨_,rfl,_,rfl,rd,none,rfl,dg,_,rfl,iteT ?_⟩;refine⟨_,rfl,_,rfl,two,fun t ht=>⟨two,fun a ha=>?_⟩⟩;have k1:=Same.new (o:=.tup [V.str (Str.ofString "name"),V.str n]) ht;have k2:=Same.new (o:=.tup [V.ref rd,V.ref t]) ha;have s5:=s1.trans (k1.trans k2);exact k' a rd t kvs S (.name n) _ z6 (k2 _ _ z6) (s5 _ _ hrd) (sv.mv s5.tups) (.inl ⟨e1,rfl,rfl⟩) s5 (fun _ e=>by cases e)
   rw[e2]at dg;refine⟨_,rfl,_,rfl,rd,_,rfl,dg,_,rfl,iteF ?_⟩;have hR0:yo r0:=hfine _ (kT e1);refine⟨_,rfl,rfl,_,rfl,iteT ?_⟩;refine⟨_,rfl,nd,rfl,.inl ⟨_,.inl z6⟩,_,rfl,kvs,Sum.inr n,_,z6,rfl,e2,?_⟩;have s2:=s1.updN (o:=.dK (qT kvs (Sum.inr n))) hnd;have gnd:=z6 (H:=upd H nd (.dK kvs)) (a:=nd) (o:=.dK (qT kvs (Sum.inr n)));have sv2:=(sv.mv s2.tups).drop n;refine⟨_,rfl,_,rfl,nd,_,(pj S n).map (·.1),rfl,gnd,sv2.keys,by rw[length_map];exact lt_of_le_of_lt (pk S n) (by omega),(fun z hz=>?_),fun z H4 hz s4=>⟨two,fun t ht=>⟨two,fun a ha=>?_⟩⟩⟩
   ·obtain⟨pp,hp,rfl⟩:=mem_map.mp hz;exact hnS pp (pq hp)
   have k1:=Same.new (o:=.tup [V.str (Str.ofString "told"),V.str z]) ht;have k2:=Same.new (o:=.tup [V.ref nd,V.ref t]) ha;have s5:=s4.trans (k1.trans k2);exact k' a nd t _ _ (.told z) _ z6 (k2 _ _ z6) (s5 _ _ gnd) (sv2.mv s5.tups) (.inr ⟨r0,z,e1,rfl,hz,rfl⟩) (s2.trans s5) (fun _ _=>hnd)
def pY:List Str:=["heap"]
theorem mU:FnScope pY ["heap"] (z7 j3):=FS
inductive sp_heap_text(vs:List V)(H:Hp)(Q:VK)(E:XK):Prop
 |mk (a:Addr) (ns:List Int):vs=[.ref a]->H a=some (.tup (ns.map V.int))->ns.length<=64->(∀x∈ns,1<=x/\x<=10^60)->(∀(H':Hp),Same H H'->Q (.str (txt ns)) H')->sp_heap_text vs H Q E
theorem mq(T:Txt P w K mg A):FnOk P w K mg base CX0 1 A.a12 A.f12 ["heap"] sp_heap_text:=by
 refine T.x12.F.ok mU (by walk_at "n") fun _ _ _ s H vs Q E hr h=>?_
 ·obtain⟨a,ns,rfl,ha,hl,hb,k⟩:=h;refine⟨_,(z8 (zC (zi zZ (zt zq rfl T.w5 PySem.boot_len (pa1 (pv 0))) zc (zu _))
     (z9 (zo zj)) zk)
    (z9 (zo (kG PySem.F.plainAttrs_str PySem.F.slot_str_join PySem.F.type_str_join jC zj (pa1 (zX (ls:=["part"]) (fr:=[]) (csf (z7 j3) pY) rfl (kD (pv 0)) (fun _ _ _ _=>pgc 0 (by decide+kernel) rfl rfl) (fun _ _ _ _=>yj) (fun _ _ _ _=>(zH jd (glc (z7 j3)) T.w11 boot_str (pa1 (pvc (z7 j3) 0)))))))))),?_⟩
  refine⟨_,rfl,a,_,rfl,.inr (SqT.of ha),rfl,_,rfl,?_⟩;refine ite2 (fun h0=>?_) (fun h0=>?_)
  ·have e:ns=[]:=by
    cases ns with
    |nil=>rfl
    |cons y r=>simp at h0;omega
   subst e;exact k H (Same.refl _)
  ·have hne:ns≠[]:=fun z=>h0 (by subst z;rfl);refine⟨rfl,_,rfl,a,rfl,⟨_,SqT.of ha⟩,je (xs:=ns.map V.int) (fun i ys σ' H'=>H'=H/\(∃v,σ'=[v])/\ys=((ns.take i).map numS).map V.str) ⟨rfl,⟨_,rfl⟩,rfl⟩ ?_ ?_ ?_⟩
   ·rintro i ys σ' H' hi ⟨rfl,_,rfl⟩;refine⟨SqT.of ha,?_⟩;rw[length_map,length_map,length_take];exact le_trans (Nat.min_le_right _ _) (le_trans hl (by decide))
   ·rintro i x ys σ' H' hx ⟨rfl,⟨v,rfl⟩,rfl⟩;obtain⟨z,hz,rfl⟩:=kU hx;have h1:=hb z (mem_of_getElem? hz);have hi:=(List.getElem?_eq_some_iff.mp hz).1;have ez:=(List.getElem?_eq_some_iff.mp hz).2;refine⟨_,rfl,z,rfl,ue (by omega) h1.2,rfl,⟨_,rfl⟩,?_⟩;rw[take_succ_eq_append_getElem hi,ez];simp[numS]
   ·rintro ys σ' H' ⟨rfl,_,rfl⟩ l hl0;rw[length_map,take_length];refine⟨_,l,ns.map numS,rfl,rfl,SqL.of z6,?_,?_⟩
    ·have h1:((ns.map numS).map (·.length)).sum<=ns.length*61:=by
      rw[map_map];refine qO fun x hx=>?_;show(numS x).length<=61;rw[zJ];exact ya (by have:=hb x hx;omega) (by decide) (Int.lt_of_le_of_lt (hb x hx).2 (by decide))
     have h2:(Str.ofString " ").length=1:=by rw[yJ];rfl
     rw[h2,length_map];omega
    ·have e:Txt.join (Str.ofString " ") (ns.map numS)=txt ns:=by unfold txt;rw[if_neg hne]
     rw[e];exact k _ (Same.new hl0)
def qf:List Str:=["rule"]
theorem mX:FnScope qf ["rule"] (z7 j9):=FS
inductive sp_rule_text(vs:List V)(H:Hp)(Q:VK)(E:XK):Prop
 |mk (p:Addr) (rs:List (List Int)) (xs:List V):vs=[.ref p]->H p=some (.tup xs)->All2 Tup1 H rs xs->rs.length<=6->(∀r∈rs,r.length<=10/\ ∀x∈r,1<=x/\x<10^60)->(∀(H':Hp),Same H H'->Q (.str (rtxt rs)) H')->sp_rule_text vs H Q E
theorem vp(T:Txt P w K mg A):FnOk P w K mg base CX0 2 A.a13 A.f13 ["rule"] sp_rule_text:=by
 refine T.x13.F.ok mX (by walk_at "n") fun _ _ _ s H vs Q E hr h=>?_
 ·obtain⟨p,rs,xs,rfl,hp,h2,h6,hb,k⟩:=h;refine⟨_,(z8 (zC (zi zZ (zt zq rfl T.w5 PySem.boot_len (pa1 (pv 0))) zc (zu _))
     (z9 (zo zj)) zk)
    (z9 (zo (kG PySem.F.plainAttrs_str PySem.F.slot_str_join PySem.F.type_str_join jC zj (pa1 (zX (ls:=["heap"]) (fr:=[]) (csf (z7 j9) qf) rfl (kD (pv 0)) (fun _ _ _ _=>pgc 0 (by decide+kernel) rfl rfl) (fun _ _ _ _=>yj) (fun _ _ _ _=>(yh (mq T) (hr.mono (by decide)) (glc (z7 j9)) T.x12.g T.x12.F.kp T.x12.b .nil wX (pa1 (pvc (z7 j9) 0)))))))))),?_⟩
  have hxl:=h2.length;refine⟨_,rfl,p,_,rfl,.inr (SqT.of hp),rfl,_,rfl,?_⟩;refine ite2 (fun h0=>?_) (fun h0=>?_)
  ·have e:rs=[]:=by
    have:xs.length=0:=by simpa using h0
    exact List.eq_nil_of_length_eq_zero (by omega)
   subst e;exact k H (Same.refl _)
  have hne:rs≠[]:=fun z=>h0 (by subst z;cases h2;rfl);refine⟨rfl,uD (fun(b:Str) v _=>v=V.str b) (rs.map txt) [] (by rw[length_map];exact hxl) (le_trans (m:=6) (by omega) (by decide)) (fun _ _ _ _ _ h=>h) rfl rfl hp (fun j x b H' P hx hbj s' hP=>?_) (fun zs H1 l s1 a1 hl=>?_)⟩
  ·obtain⟨r,hr0,q,rfl,hq⟩:=h2.get hx;rw[getElem?_map,hr0]at hbj;have hm:=hb r (mem_of_getElem? hr0);exact⟨_,rfl,q,r,rfl,s' _ _ hq,by omega,fun x hx=>⟨(hm.2 x hx).1,le_of_lt (hm.2 x hx).2⟩,fun H'' s''=>hP _ _ s'' (by rw[<-Option.some.inj hbj])⟩
  have e1:=rK a1;subst e1;have hsum:((rs.map txt).map (·.length)).sum<=(rs.map txt).length*620:=vc fun y hy=>by
   obtain⟨r,hr0,rfl⟩:=mem_map.mp hy;exact wz (hb r hr0).1 (hb r hr0).2
  rw[length_map]at hsum;refine⟨_,l,rs.map txt,rfl,rfl,SqL.of z6,?_,?_⟩
  ·have hbl:(Str.ofString " | ").length=3:=by decide
   rw[hbl,length_map];omega
  ·have e:Txt.join (Str.ofString " | ") (rs.map txt)=rtxt rs:=by unfold rtxt;rw[if_neg hne];rfl
   rw[e];exact k _ (s1.trans (Same.new hl))
def n_heap_of:List Str:=["parts","part"]
theorem xh:FnScope n_heap_of ["parts"] (z7 mO):=FS
inductive sp_heap_of(vs:List V)(H:Hp)(Q:VK)(E:XK):Prop
 |mk (a:Addr) (ns:List Int):vs=[.ref a]->H a=some (.tup (ns.map V.int))->ns.length<64->(∀x∈ns,1<=x)->(∀(p:Addr)(H':Hp),H' p=some (.tup ((d4 ns).map V.int))->Same H H'->Q (.ref p) H')->sp_heap_of vs H Q E
theorem ok_heap_of(T:Txt P w K mg A):FnOk P w K mg base CX0 1 A.a14 A.f14 ["parts"] sp_heap_of:=by
 refine T.x14.F.ok xh (by walk_at "n") fun _ _ _ s H vs Q E hr h=>?_
 ·obtain⟨a,ns,rfl,ha,hl,hp,k⟩:=h;refine⟨_,(z8 (yu PassesOwn.never rfl (kD (pv 0)) (pgn 1 xh.nd)
     (z9 (zC (zi mG (pv 1) zc (zu _))
     (z9 rm) zk)))
    (z9 (zo (zH y9 rfl T.w13 boot_tuple (pa1 (rj rfl T.w10 (pv 0))))))),?_⟩
  refine⟨_,rfl,a,rfl,⟨_,SqT.of ha⟩,uE (xs:=ns.map V.int) (fun i σ' H'=>H'=H/\ ∃v,σ'=[some (.ref a),v]) ⟨rfl,_,rfl⟩ ?_ ?_ ?_⟩
  ·rintro i σ' H' _ ⟨rfl,_⟩;exact SqT.of ha
  ·rintro i x σ' H' hx ⟨rfl,v,rfl⟩;obtain⟨z,hz,rfl⟩:=kU hx;have h1:=hp z (mem_of_getElem? hz);refine⟨_,rfl,_,_,rfl,rfl,_,rfl,?_⟩;refine ite2 (fun hlt=>absurd (of_decide_eq_true hlt) (by omega)) (fun _=>⟨rfl,_,rfl⟩)
  ·rintro σ' H' ⟨rfl,v,rfl⟩;refine⟨_,rfl,a,ns,rfl,.inr (SqT.of ha),hl,fun ns' p4 hperm hord hp4=>?_⟩;refine⟨p4,_,rfl,.inl ⟨SqL.of z6,fun p5 hp5=>?_⟩⟩;have e:ns'=d4 ns:=bz hperm hord;subst e;exact k p5 _ z6 ((Same.new hp4).trans (Same.new hp5))
def wk:List Str:=["word"]
theorem vU:FnScope wk ["word"] (z7 yn):=FS
inductive sp_writes(vs:List V)(H:Hp)(Q:VK)(E:XK):Prop
 |mk (z:Str):vs=[.str z]->z.length<=10000000->(∀(H':Hp),Same H H'->Q (.bl (kr z)) H')->sp_writes vs H Q E
theorem jP(T:Txt P w K mg A):FnOk P w K mg base CX0 1 A.a15 A.f15 ["word"] sp_writes:=by
 refine T.x15.F.ok vU (by walk_at "n") fun _ _ _ s H vs Q E hr h=>?_
 ·obtain⟨z,rfl,hz,k⟩:=h;refine⟨_,(z8 (zC (PW.pt (cE (zi zZ (zt yG rfl T.w5 PySem.boot_len (pa1 (pv 0))) zc (zu _)) (cE (zi cy (zt yG rfl T.w5 PySem.boot_len (pa1 (pv 0))) (yz (v:=.int 60) rfl T.w18.choose_spec ⟨_,rfl⟩) (zu _)) (xa (zi zZ (pix b9 (pv 0) zc) zj (zu _))))))
     (z9 (zo cA)) zk)
    (z9 (zo (zt (jm rfl) rfl T.w0 boot_all (pa1 (zX (ls:=["sign"]) (fr:=[]) (csf (z7 yn) wk) rfl (pi_str (pv 0)) (fun _ _ _ _=>pgc 0 (by decide+kernel) rfl rfl) (fun _ _ _ _=>yj) (fun _ _ _ _=>(rc mF (pvc (z7 yn) 0) (yz (v:=.str (Str.ofString "0123456789")) (glc (z7 yn)) T.w17.choose_spec ⟨_,rfl⟩) rfl)))))))),?_⟩
  have hz':z.length<=sizeLine:=le_trans hz (by decide);refine yD (fun σ' H'=>H'=H/\ σ'=[some (.str z)]/\ ∃c r,z.cps.toList=c::r/\(c::r).length<=60/\c≠48) (fun nx hnx=>?_) ?_
  ·refine⟨_,rfl,z,rfl,hz',rfl,_,rfl,?_⟩;refine ite2 (fun h0=>?_) (fun h0=>?_)
   ·refine iteT ?_;have e:z.cps.toList=[]:=by
     have:z.length=0:=by simpa using h0
     rw[zJ]at this;exact List.eq_nil_of_length_eq_zero this
    have e2:kr z=false:=by unfold kr;rw[e]
    have:=k H (Same.refl _);rw[e2]at this;exact this
   obtain⟨c,r,e⟩:∃c r,z.cps.toList=c::r:=by
    cases h:z.cps.toList with
    |nil =>
     have:z.length=0:=by rw[zJ,h];rfl
     exact absurd (by simp[this]) h0
    |cons c r=>exact⟨c,r,rfl⟩
   have el:z.length=(c::r).length:=by rw[zJ,e]
   refine⟨_,rfl,z,rfl,hz',_,_,rfl,rfl,_,rfl,?_⟩;refine ite2 (fun h1=>?_) (fun h1=>?_)
   ·refine iteT ?_;have h1':=of_decide_eq_true h1;have e2:kr z=false:=by
     unfold kr;rw[e];simp only[Bool.and_eq_false_iff,decide_eq_false_iff_not];exact .inl (.inl (by rw[<-el];omega))
    have:=k H (Same.refl _);rw[e2]at this;exact this
   refine⟨_,rfl,z,0,c,rfl,rfl,hz',by rw[e];exact atI0 c r,rfl,_,rfl,?_⟩;rw[L2.one_sign];refine ite2 (fun h2=>?_) (fun h2=>?_)
   ·have e2:kr z=false:=by
     unfold kr;rw[e];simp only[Bool.and_eq_false_iff,decide_eq_false_iff_not];exact .inl (.inr (by simpa using h2))
    have:=k H (Same.refl _);rw[e2]at this;exact this
   ·have h1':¬(60:Int)<(z.length:Int):=fun q=>h1 (decide_eq_true q);exact hnx _ _ ⟨rfl,rfl,c,r,e,by rw[<-el];omega,by simpa using h2⟩
  ·rintro σ' H' ⟨rfl,rfl,c,r,e,hl,hc⟩;refine⟨_,rfl,z,rfl,cU (fun i ys σ' H2=>H2=H'/\(∃v,σ'=[v])/\ys=((z.cps.toList.take i).map fun d=>decide (48<=d/\d<=57)).map V.bl) ⟨rfl,⟨_,rfl⟩,rfl⟩ ?_ ?_ ?_⟩
   ·rintro i ys σ' H2 hi ⟨rfl,_,rfl⟩;rw[length_map,length_map,length_take];have:z.cps.toList.length<=60:=by rw[e];exact hl
    exact yS (by omega)
   ·rintro i d ys σ' H2 hd ⟨rfl,⟨v,rfl⟩,rfl⟩;have hd':z.cps.toList[i]? =some d:=by simpa using hd
    have hi:=(List.getElem?_eq_some_iff.mp hd').1;have ez:=(List.getElem?_eq_some_iff.mp hd').2;refine⟨_,rfl,_,_,rfl,rfl,rfl,⟨_,rfl⟩,?_⟩;rw[in_figs,take_succ_eq_append_getElem hi,ez];simp
   ·rintro ys σ' H2 ⟨rfl,_,rfl⟩ l hl0;refine⟨l,_,rfl,SqL.of z6,?_⟩;have e2:(((z.cps.toList.take z.cps.size).map fun d=>decide (48<=d/\d<=57))).all id=kr z:=by
     rw[take_of_length_le (by simp)];unfold kr;rw[e,all_map];have a1:decide ((c::r).length<=60)=true:=decide_eq_true hl;have a2:decide (c≠48)=true:=decide_eq_true hc;simp only[a1,a2,Bool.true_and];rfl
    rw[e2];exact k _ (Same.new hl0)
def qa:List Str:=["text","words","word","heap"]
theorem jj:FnScope qa ["text"] (z7 j5):=FS
inductive sp_read_heap(A:Adr)(vs:List V)(H:Hp)(Q:VK)(E:XK):Prop
 |mk (z:Str):vs=[.str z]->z.length<=100000->(((∃ps,ky z=some ps/\ ∀(p:Addr)(H':Hp),H' p=some (.tup (ps.map V.int))->Same H H'->H p=none->Q (.ref p) H')\/(ky z=none/\ ∀H',Same H H'->E (.ref A.w1) none H')))->sp_read_heap A vs H Q E
theorem vo(T:Txt P w K mg A):FnOk P w K mg base (CX1 P w) 2 A.a16 A.f16 ["text"] (sp_read_heap A):=by
 refine T.x16.F.okE jj (by walk_at "n") fun _ _ _ s H vs Q E hr h=>?_
 ·obtain⟨z,rfl,hz,h⟩:=h;refine⟨_,(z8 (zC (zi zZ (pv 0) zj (zu _))
     (z9 (zo (zx kY))) zk)
    (z8 (pset 1 jj.nd (kG PySem.F.plainAttrs_str PySem.F.slot_str_split PySem.F.type_str_split xF (pv 0) (pa1 zj)))
    (z8 (zC (zi cy (zt zq rfl T.w5 PySem.boot_len (pa1 (pv 1))) (yz (v:=.int 60) rfl T.w15.choose_spec ⟨_,rfl⟩) (zu _))
     (z9 (yx rfl T.w33 rfl T.w23 (pa1 zj))) zk)
    (z8 (ps_ok fun ok=>yu (ownE ok) rfl (yA (pv 1)) (pgn 2 jj.nd)
     (z9 (zC (wJ (zY (pcl (jP T) hr T.x15 (pa1 (pv 2))) (fun _=>rfl)))
     (z9 (yx rfl T.w33 rfl T.w23 (pa1 zj))) zk)))
    (z8 (pset 3 jj.nd (zH y9 rfl T.w13 boot_tuple (pa1 (zX (ls:=["word"]) (fr:=[]) (csf (z7 j5) qa) rfl (yA (pv 1)) (fun _ _ _ _=>pgc 0 (by decide+kernel) rfl rfl) (fun _ _ _ _=>yj) (fun _ _ _ _=>(zH u4 (glc (z7 j5)) T.w3 boot_int (pa1 (pvc (z7 j5) 0))))))))
    (z8 (zC (zi (op_neT' eqk_int (huR hr)) (pv 3) (pcl (ok_heap_of T) hr T.x14 (pa1 (pv 3))) (zu _))
     (z9 (yx rfl T.w33 rfl T.w23 (pa1 zj))) zk)
    (z9 (zo (pv 3))))))))),?_⟩
  refine⟨_,rfl,rfl,_,rfl,?_⟩;refine ite2 (fun h0=>?_) (fun h0=>?_)
  ·have e:z=gi:=by unfold gi;simpa using h0
   subst e;rw[qv]at h;rcases h with⟨ps,e,k⟩|⟨e,_⟩
   ·cases e;exact⟨by show 0<=sizeLine;decide,fun p hp=>k p _ z6 (Same.new hp) hp⟩
   ·cases e
  have hne:z≠gi:=fun e=>h0 (decide_eq_true (by rw[e];rfl));have fail:¬((zE z).length<=60/\(∀w∈zE z,kr w=true)/\((zE z).map numV).Pairwise (· >= ·))-> ∀H',Same H H'->E (.ref A.w1) none H':=fun hn H' s'=>by
   rcases h with⟨ps,e,_⟩|⟨_,k⟩
   ·rw[readN_no hne hn]at e;cases e
   ·exact k H' s'
  refine⟨_,rfl,rfl,_,_,rfl,rfl,rfl,by omega,fun l hl0=>?_⟩;have sl:=Same.new (o:=.lst ((zE z).map V.str)) hl0;have gl:=z6 (H:=H) (a:=l) (o:=.lst ((zE z).map V.str));have eW:Txt.split z (Str.ofString " ")=zE z:=rfl;rw[eW];generalize upd H l (.lst ((zE z).map V.str))=H1 at sl gl;refine⟨_,rfl,l,_,rfl,.inl (SqL.of gl),_,_,rfl,rfl,_,rfl,?_⟩;refine ite2 (fun h1=>?_) (fun h1=>?_)
  ·have h1':=of_decide_eq_true h1;rw[length_map]at h1';exact⟨by show 1<=sizeLine;decide,fail (fun z=>by omega) _ sl⟩
  have h60:(zE z).length<=60:=Nat.le_of_not_lt fun z=>h1 (decide_eq_true (by rw[length_map];omega));have wat:∀{i:Nat}{x:V},((zE z).map V.str)[i]? =some x-> ∃w,(zE z)[i]? =some w/\x= .str w:=fun{i x} hx=>by
   rw[getElem?_map]at hx;cases e:(zE z)[i]? with
   |none=>rw[e]at hx;cases hx
   |some w=>rw[e]at hx;exact⟨w,rfl,(Option.some.inj hx).symm⟩
  refine⟨_,rfl,l,rfl,⟨_,SqL.of gl⟩,wC (xs:=(zE z).map V.str) (fun i σ' H'=>Same H1 H'/\(∃v,σ'=[some (.str z),some (.ref l),v,none])/\ ∀w∈(zE z).take i,kr w=true) ⟨Same.refl _,⟨_,rfl⟩,(fun _ h=>by cases h)⟩ ?_ ?_ ?_⟩
  ·rintro i σ' H' _ ⟨s,_⟩;exact SqL.of (s _ _ gl)
  ·rintro i x σ' H' hx ⟨s,⟨v,rfl⟩,hall⟩;obtain⟨w,hw,rfl⟩:=wat hx;have hm:=mem_of_getElem? hw;refine⟨_,rfl,w,rfl,le_trans (word_len hm) (le_trans hz (by decide)),fun H2 s2=>⟨_,rfl,?_⟩⟩;refine ite2 (fun hc=>?_) (fun hc=>?_)
   ·exact⟨by show 1<=sizeLine;decide,fail (fun y=>by rw[y.2.1 w hm]at hc;cases hc) _ (sl.trans (s.trans s2))⟩
   ·refine⟨s.trans s2,⟨_,rfl⟩,fun y hy=>?_⟩;rw[take_succ,hw]at hy;rcases mem_append.mp hy with hy|hy
    ·exact hall y hy
    ·have:y=w:=by simpa using hy
     subst this;cases hn:kr y with
     |true=>rfl
     |false=>rw[hn]at hc;exact absurd rfl hc
  rintro σ' H' ⟨s,⟨v,rfl⟩,hall⟩;rw[length_map,take_length]at hall;have s0:=sl.trans s;have gl':=s _ _ gl;refine gF (fun(b:Int) v _=>v=V.int b) ((zE z).map numV) [] (by rw[length_map,length_map]) (by rw[length_map];exact le_trans h60 (by decide)) (fun _ _ _ _ _ h=>h) rfl rfl gl' (fun j x b H2 P hx hb s2 hP=>?_) (fun zs H2 l2 s2 a2 hl2=>?_)
  ·obtain⟨w,hw,rfl⟩:=wat hx;rw[getElem?_map,hw]at hb;have hn:=hall w (mem_of_getElem? hw);have hl60:w.length<=640:=by
    obtain⟨c,r,e,h1,_⟩:=(pF w).mp hn;rw[zJ,e];omega
   exact⟨_,rfl,w,numV w,rfl,qg hn,hl60,hP _ _ (Same.refl _) (by rw[<-Option.some.inj hb])⟩
  have e2:=dJ a2;subst e2;refine⟨l2,_,rfl,.inl ⟨SqL.of z6,fun p hp=>?_⟩⟩;have s3:=s2.trans ((Same.new (o:=.lst (((zE z).map numV).map V.int)) hl2).trans (Same.new (o:=.tup (((zE z).map numV).map V.int)) hp));have g3:=z6 (H:=upd H2 l2 (.lst (((zE z).map numV).map V.int))) (a:=p) (o:=.tup (((zE z).map numV).map V.int));have np:H p=none:=s0.free (s2.free ((Same.new hl2).free hp));generalize upd (upd H2 l2 (.lst (((zE z).map numV).map V.int))) p (.tup (((zE z).map numV).map V.int))=H3 at s3 g3;refine⟨_,rfl,_,rfl,p,(zE z).map numV,rfl,g3,by rw[length_map];omega,fun x hx=>?_,fun p2 H4 hp2 s4=>?_⟩
  ·obtain⟨w,hw,rfl⟩:=mem_map.mp hx;exact numV_pos (hall w hw)
  refine⟨_,_,RTup.ints (SqT.of (s4 _ _ g3)),RTup.ints (SqT.of hp2),_,rfl,?_⟩;have sEnd:=s0.trans (s3.trans s4);by_cases hpw:((zE z).map numV).Pairwise (· >= ·)
  ·refine iteNS (by rw[sortD_id hpw]) ?_;rcases h with⟨ps,e,k⟩|⟨e,_⟩
   ·rw[qw hne ⟨h60,hall,hpw⟩]at e;cases e;exact⟨_,rfl,k p H4 (s4 _ _ g3) sEnd np⟩
   ·rw[qw hne ⟨h60,hall,hpw⟩]at e;cases e
  ·refine ite2 (fun _=>⟨by show 1<=sizeLine;decide,fail (fun y=>hpw y.2.2) _ sEnd⟩) (fun hc=>?_);exact absurd (by
    have e:(zE z).map numV≠d4 ((zE z).map numV):=fun e=>hpw (by rw[e];exact rH _);rw[decide_eq_false e];rfl) hc
def qe:List Str:=["text","rows"]
theorem vG:FnScope qe ["text"] (z7 j8):=FS
inductive sp_read_rule(A:Adr)(vs:List V)(H:Hp)(Q:VK)(E:XK):Prop
 |mk (z:Str):vs=[.str z]->z.length<=100000->(((∃rs,vQ z=some rs/\ ∀(p:Addr)(xs:List V)(H':Hp),H' p=some (.tup xs)->All2 Tup1 H' rs xs->Same H H'->Q (.ref p) H')\/(vQ z=none/\ ∀H',Same H H'->E (.ref A.w1) none H')))->sp_read_rule A vs H Q E
theorem mD(T:Txt P w K mg A):FnOk P w K mg base (CX1 P w) 3 A.a17 A.f17 ["text"] (sp_read_rule A):=by
 refine T.x17.F.okE vG (by walk_at "n") fun _ _ _ s H vs Q E hr h=>?_
 ·obtain⟨z,rfl,hz,h⟩:=h;refine⟨_,(z8 (zC (zi zZ (pv 0) zj (zu _))
     (z9 (zo (zx kY))) zk)
    (z8 (pset 1 vG.nd (kG PySem.F.plainAttrs_str PySem.F.slot_str_split PySem.F.type_str_split xF (pv 0) (pa1 zj)))
    (z8 (zC (zi cy (zt zq rfl T.w5 PySem.boot_len (pa1 (pv 1))) (yz (v:=.int 6) rfl T.w16.choose_spec ⟨_,rfl⟩) (zu _))
     (z9 (yx rfl T.w33 rfl T.w23 (pa1 zj))) zk)
    (z9 (zo (zH y9 rfl T.w13 boot_tuple (pa1 (pe_compE (ls:=["row"]) (fr:=[]) (csf (z7 j8) qe) rfl (yA (pv 1)) (fun _ _ _ _ hC=>pgcE 0 (by decide+kernel) rfl rfl) (fun _ _ _ _ hC=>yj) (fun _ _ _ _ hC=>(yh (vo T) (hr.mono (by decide)) (glcE (z7 j8)) T.x16.g T.x16.F.kp T.x16.b .nil (passC hC) (pa1 (pvcE (z7 j8) 0)))))))))))),?_⟩
  refine⟨_,rfl,rfl,_,rfl,?_⟩;refine ite2 (fun h0=>?_) (fun h0=>?_)
  ·have e:z=ku:=by unfold ku;simpa using h0
   subst e;rw[qy]at h;rcases h with⟨ps,e,k⟩|⟨e,_⟩
   ·cases e;exact⟨by show 0<=sizeLine;decide,fun p hp=>k p _ _ z6 .nil (Same.new hp)⟩
   ·cases e
  have hne:z≠ku:=fun e=>h0 (decide_eq_true (by rw[e];rfl));have fail:¬((kH z).length<=6/\(∀w∈kH z,(ky w).isSome=true))-> ∀H',Same H H'->E (.ref A.w1) none H':=fun hn H' s'=>by
   rcases h with⟨ps,e,_⟩|⟨_,k⟩
   ·rw[readR_no hne hn]at e;cases e
   ·exact k H' s'
  refine⟨_,rfl,rfl,_,_,rfl,rfl,rfl,by omega,fun l hl0=>?_⟩;have sl:=Same.new (o:=.lst ((kH z).map V.str)) hl0;have gl:=z6 (H:=H) (a:=l) (o:=.lst ((kH z).map V.str));have eW:Txt.split z (Str.ofString " | ")=kH z:=rfl;rw[eW];generalize upd H l (.lst ((kH z).map V.str))=H1 at sl gl;refine⟨_,rfl,l,_,rfl,.inl (SqL.of gl),_,_,rfl,rfl,_,rfl,?_⟩;refine ite2 (fun h1=>?_) (fun h1=>?_)
  ·have h1':=of_decide_eq_true h1;rw[length_map]at h1';exact⟨by show 1<=sizeLine;decide,fail (fun z=>by omega) _ sl⟩
  have h60:(kH z).length<=6:=Nat.le_of_not_lt fun z=>h1 (decide_eq_true (by rw[length_map];omega));refine gF (fun(b:List Int×Prop) v H'=>Tup1 b.1 v H'/\b.2) ((kH z).map fun w=>((ky w).getD [],(ky w).isSome=true)) [] (by rw[length_map,length_map]) (by rw[length_map];exact le_trans h60 (by decide)) (fun _ _ _ _ s h=>⟨h.1.mv s.tups,h.2⟩) rfl rfl gl (fun j x b H2 P hx hb s2 hP=>?_) (fun zs H2 l2 s2 a2 hl2=>?_)
  ·obtain⟨w,hw,rfl⟩:∃w,(kH z)[j]? =some w/\x= .str w:=by
    rw[getElem?_map]at hx;cases e:(kH z)[j]? with
    |none=>rw[e]at hx;cases hx
    |some w=>rw[e]at hx;exact⟨w,rfl,(Option.some.inj hx).symm⟩
   rw[getElem?_map,hw]at hb;have eb:=Option.some.inj hb;have hm:=mem_of_getElem? hw;refine⟨_,rfl,w,rfl,le_trans (row_len hm) hz,?_⟩;cases hr0:ky w with
   |none=>exact .inr ⟨rfl,fun H' s'=>fail (fun y=>by have:=y.2 w hm;rw[hr0]at this;cases this) _ (sl.trans (s2.trans s'))⟩
   |some ps =>
    refine .inl ⟨ps,rfl,fun p H' gp s' _=>hP _ _ s' ?_⟩;rw[<-eb];show Tup1 ((ky w).getD []) _ _/\(ky w).isSome=true;rw[hr0];exact⟨⟨p,rfl,gp⟩,rfl⟩
  obtain⟨a2,hall⟩:=rT _ _ a2;refine⟨l2,_,rfl,.inl ⟨SqL.of z6,fun p hp=>?_⟩⟩;have sn:=(Same.new (o:=.lst zs) hl2).trans (Same.new (o:=.tup zs) hp);rcases h with⟨rs,e,k⟩|⟨e,_⟩
  ·rw[qz hne ⟨h60,hall⟩]at e;cases e;exact k p zs _ z6 (a2.mv sn.tups) (sl.trans (s2.trans sn))
  ·rw[qz hne ⟨h60,hall⟩]at e;cases e
def qd:List Str:=["piece"]
theorem mW:FnScope qd ["piece"] (z7 j7):=FS
inductive sp_read_name(A:Adr)(vs:List V)(H:Hp)(Q:VK)(E:XK):Prop
 |mk (z:Str):vs=[.str z]->z.length<=100000->(((zF z=true/\ ∀H',Same H H'->Q (.str z) H')\/(zF z=false/\ ∀H',Same H H'->E (.ref A.w1) none H')))->sp_read_name A vs H Q E
theorem mC(T:Txt P w K mg A):FnOk P w K mg base (CX1 P w) 1 A.a18 A.f18 ["piece"] (sp_read_name A):=by
 refine T.x18.F.okE mW (by walk_at "n") fun _ _ _ s H vs Q E hr h=>?_
 ·obtain⟨z,rfl,hz,h⟩:=h;refine⟨_,(z8 (zC (PW.pt (cE (zi zZ (zt yG rfl T.w5 PySem.boot_len (pa1 (pv 0))) zc (zu _)) (xa (zi cy (zt yG rfl T.w5 PySem.boot_len (pa1 (pv 0))) (yz (v:=.int 8) rfl T.w20.choose_spec ⟨_,rfl⟩) (zu _)))))
     (z9 (yx rfl T.w33 rfl T.w23 (pa1 zj))) zk)
    (z8 (zC (wJ (zY (zt (jm rfl) rfl T.w0 boot_all (pa1 (zX (ls:=["sign"]) (fr:=[]) (csf (z7 j7) qd) rfl (pi_str (pv 0)) (fun _ _ _ _=>pgc 0 (by decide+kernel) rfl rfl) (fun _ _ _ _=>yj) (fun _ _ _ _=>(rc mF (pvc (z7 j7) 0) (yz (v:=.str (Str.ofString "abcdefghijklmnopqrstuvwxyz")) (glc (z7 j7)) T.w19.choose_spec ⟨_,rfl⟩) rfl))))) (fun _=>rfl)))
     (z9 (yx rfl T.w33 rfl T.w23 (pa1 zj))) zk)
    (z9 (zo (pv 0))))),?_⟩
  have hz':z.length<=sizeLine:=le_trans hz (by decide);have fail:zF z=false-> ∀H',Same H H'->E (.ref A.w1) none H':=fun e H' s'=>by
   rcases h with⟨e',_⟩|⟨_,k⟩
   ·rw[e]at e';cases e'
   ·exact k H' s'
  have no:¬(1<=z.length/\z.length<=8)->zF z=false:=fun n=>by
   cases e:zF z with
   |false=>rfl
   |true=>exact absurd ((yU z).mp e).1 n
  refine yD (fun σ' H'=>H'=H/\ σ'=[some (.str z)]/\1<=z.length/\z.length<=8) (fun nx hnx=>?_) ?_
  ·refine⟨_,rfl,z,rfl,hz',rfl,_,rfl,?_⟩;refine ite2 (fun h0=>iteT ?_) (fun h0=>?_)
   ·have e:z.length=0:=by simpa using h0
    exact⟨by show 1<=sizeLine;decide,fail (no (by omega)) _ (Same.refl _)⟩
   have h0':z.length≠0:=fun e=>h0 (by simp[e]);refine⟨_,rfl,z,rfl,hz',_,_,rfl,rfl,_,rfl,?_⟩;refine ite2 (fun h1=>?_) (fun h1=>?_)
   ·have h1':=of_decide_eq_true h1;exact⟨by show 1<=sizeLine;decide,fail (no (by omega)) _ (Same.refl _)⟩
   ·have h1':¬(8:Int)<(z.length:Int):=fun q=>h1 (decide_eq_true q);exact hnx _ _ ⟨rfl,rfl,by omega,by omega⟩
  ·rintro σ' H' ⟨rfl,rfl,l1,l8⟩;refine⟨_,rfl,z,rfl,cU (fun i ys σ' H2=>H2=H'/\(∃v,σ'=[v])/\ys=((z.cps.toList.take i).map fun d=>decide (97<=d/\d<=122)).map V.bl) ⟨rfl,⟨_,rfl⟩,rfl⟩ ?_ ?_ ?_⟩
   ·rintro i ys σ' H2 hi ⟨rfl,_,rfl⟩;rw[length_map,length_map,length_take];have:z.cps.toList.length<=8:=by rw[<-zJ];exact l8
    exact yS (by omega)
   ·rintro i d ys σ' H2 hd ⟨rfl,⟨v,rfl⟩,rfl⟩;have hd':z.cps.toList[i]? =some d:=by simpa using hd
    have hi:=(List.getElem?_eq_some_iff.mp hd').1;have ez:=(List.getElem?_eq_some_iff.mp hd').2;refine⟨_,rfl,_,_,rfl,rfl,rfl,⟨_,rfl⟩,?_⟩;rw[in_letters,take_succ_eq_append_getElem hi,ez];simp
   ·rintro ys σ' H2 ⟨rfl,_,rfl⟩ l hl0;have e2:((z.cps.toList.take z.cps.size).map fun d=>decide (97<=d/\d<=122)).all id=zF z:=by
     rw[take_of_length_le (by simp)];unfold zF;rw[all_map,decide_eq_true ⟨l1,l8⟩,Bool.true_and];rfl
    refine⟨l,_,rfl,SqL.of z6,_,rfl,?_⟩;rw[e2];cases e:zF z with
    |false=>exact iteT ⟨by show 1<=sizeLine;decide,fail e _ (Same.new hl0)⟩
    |true =>
     rcases h with⟨_,k⟩|⟨e',_⟩
     ·exact iteF ⟨_,rfl,k _ (Same.new hl0)⟩
     ·rw[e]at e';cases e'
def xK:List Str:=["piece"]
theorem gy:FnScope xK ["piece"] (z7 ur):=FS
inductive sp_read_number(A:Adr)(vs:List V)(H:Hp)(Q:VK)(E:XK):Prop
 |mk (z:Str):vs=[.str z]->z.length<=100000->(((∃n,yX z=some n/\ ∀H',Same H H'->Q (.int n) H')\/(yX z=none/\ ∀H',Same H H'->E (.ref A.w1) none H')))->sp_read_number A vs H Q E
theorem gv(T:Txt P w K mg A):FnOk P w K mg base (CX1 P w) 2 A.a19 A.f19 ["piece"] (sp_read_number A):=by
 refine T.x19.F.okE gy (by walk_at "n") fun _ _ _ s H vs Q E hr h=>?_
 ·obtain⟨z,rfl,hz,h⟩:=h;refine⟨_,(z8 (zC (zi zZ (pv 0) zj (zu _))
     (z9 (zo zc)) zk)
    (z8 (zC (PW.pt (cE (zi cy (zt yG rfl T.w5 PySem.boot_len (pa1 (pv 0))) (yz (v:=.int 9) rfl T.w21.choose_spec ⟨_,rfl⟩) (zu _)) (xa (wJ (zY (pcl (jP T) hr T.x15 (pa1 (pv 0))) (fun _=>rfl))))))
     (z9 (yx rfl T.w33 rfl T.w23 (pa1 zj))) zk)
    (z9 (zo (zH u4 rfl T.w3 boot_int (pa1 (pv 0))))))),?_⟩
  have hz':z.length<=sizeLine:=le_trans hz (by decide);refine⟨_,rfl,rfl,_,rfl,?_⟩;refine ite2 (fun h0=>?_) (fun h0=>?_)
  ·have e:z=Str.ofString "0" :=by simpa using h0
   have e2:yX z=some 0:=by unfold yX;rw[if_pos e]
   rcases h with⟨n,e',k⟩|⟨e',_⟩
   ·rw[e2]at e';cases e';exact k H (Same.refl _)
   ·rw[e2]at e';cases e'
  have hne:z≠Str.ofString "0" :=fun e=>h0 (decide_eq_true (by rw[e]));have fail:¬(z.length<=9/\kr z=true)-> ∀H',Same H H'->E (.ref A.w1) none H':=fun n H' s'=>by
   have e2:yX z=none:=by unfold yX;rw[if_neg hne,if_neg n]
   rcases h with⟨n,e',_⟩|⟨_,k⟩
   ·rw[e2]at e';cases e'
   ·exact k H' s'
  dsimp only[d8,jX];refine yD (fun σ' H'=>Same H H'/\ σ'=[some (.str z)]/\z.length<=9/\kr z=true) (fun nx hnx=>?_) ?_
  ·refine⟨_,rfl,z,rfl,hz',_,_,rfl,rfl,_,rfl,?_⟩;refine ite2 (fun h1=>iteT ?_) (fun h1=>?_)
   ·have h1':=of_decide_eq_true h1;exact⟨by show 1<=sizeLine;decide,fail (fun q=>by omega) _ (Same.refl _)⟩
   have h1':¬(9:Int)<(z.length:Int):=fun q=>h1 (decide_eq_true q);refine⟨_,rfl,z,rfl,le_trans hz (by decide),fun H' s'=>⟨_,rfl,?_⟩⟩;cases e:kr z with
   |false=>exact iteT ⟨by show 1<=sizeLine;decide,fail (fun q=>by rw[e]at q;cases q.2) _ s'⟩
   |true=>exact iteF (hnx _ _ ⟨s',rfl,by omega,e⟩)
  ·rintro σ' H' ⟨s',rfl,l9,hn⟩;have e2:yX z=some (numV z):=by unfold yX;rw[if_neg hne,if_pos ⟨l9,hn⟩]
   rcases h with⟨n,e',k⟩|⟨e',_⟩
   ·rw[e2]at e';cases e';exact⟨_,rfl,z,_,rfl,qg hn,by omega,k H' s'⟩
   ·rw[e2]at e';cases e'
def tY:List Str:=["kind","piece"]
theorem rB:FnScope tY ["kind","piece"] (z7 vB):=FS
inductive sp_read_piece(A:Adr)(vs:List V)(H:Hp)(Q:VK)(E:XK):Prop
 |mk (kd z:Str):vs=[.str kd,.str z]->z.length<=100000->(((∃a,jE kd z=some a/\ ∀v H',ArgV a v H'->Same H H'->Q v H')\/(jE kd z=none/\ ∀H',Same H H'->E (.ref A.w1) none H')))->sp_read_piece A vs H Q E
theorem xY(T:Txt P w K mg A):FnOk P w K mg base (CX1 P w) 6 A.a20 A.f20 ["kind","piece"] (sp_read_piece A):=by
 refine T.x20.F.okE rB (by walk_at "n") fun _ _ _ s H vs Q E hr h=>?_
 ·obtain⟨kd,z,rfl,hz,h⟩:=h;refine⟨_,(z8 (zC (zi zZ (pv 0) zj (zu _))
     (z9 (zo (yh (mD T) (hr.mono (by decide)) rfl T.x17.g T.x17.F.kp T.x17.b .nil uT (pa1 (pv 1))))) zk)
    (z8 (zC (zi zZ (pv 0) zj (zu _))
     (z9 (zo (yh (vo T) (hr.mono (by decide)) rfl T.x16.g T.x16.F.kp T.x16.b .nil uT (pa1 (pv 1))))) zk)
    (z8 (zC (zi zZ (pv 0) zj (zu _))
     (z9 (zo (yh (gv T) (hr.mono (by decide)) rfl T.x19.g T.x19.F.kp T.x19.b .nil uT (pa1 (pv 1))))) zk)
    (z9 (zo (yh (mC T) (hr.mono (by decide)) rfl T.x18.g T.x18.F.kp T.x18.b .nil uT (pa1 (pv 1)))))))),?_⟩
  unfold jE at h;refine⟨_,rfl,rfl,_,rfl,?_⟩;refine ite2 (fun h0=>?_) (fun h0=>?_)
  ·have e:kd=Str.ofString "RULE" :=by simpa using h0
   rw[if_pos e]at h;refine⟨_,rfl,z,rfl,hz,?_⟩;cases hr0:vQ z with
   |none =>
    rw[hr0]at h;rcases h with⟨a,e',_⟩|⟨_,k⟩
    ·cases e'
    ·exact .inr ⟨rfl,k⟩
   |some rs =>
    rw[hr0]at h;rcases h with⟨a,e',k⟩|⟨e',_⟩
    ·cases e';exact .inl ⟨rs,rfl,fun p xs H' gp a2 s'=>k _ _ ⟨p,xs,rfl,gp,a2⟩ s'⟩
    ·cases e'
  have n0:kd≠Str.ofString "RULE" :=fun e=>h0 (decide_eq_true (by rw[e]));rw[if_neg n0]at h;refine⟨_,rfl,rfl,_,rfl,?_⟩;refine ite2 (fun h1=>?_) (fun h1=>?_)
  ·have e:kd=Str.ofString "HEAP" :=by simpa using h1
   rw[if_pos e]at h;refine⟨_,rfl,z,rfl,hz,?_⟩;cases hr0:ky z with
   |none =>
    rw[hr0]at h;rcases h with⟨a,e',_⟩|⟨_,k⟩
    ·cases e'
    ·exact .inr ⟨rfl,k⟩
   |some rs =>
    rw[hr0]at h;rcases h with⟨a,e',k⟩|⟨e',_⟩
    ·cases e';exact .inl ⟨rs,rfl,fun p H' gp s' _=>k _ _ ⟨p,rfl,gp⟩ s'⟩
    ·cases e'
  have n1:kd≠Str.ofString "HEAP" :=fun e=>h1 (decide_eq_true (by rw[e]));rw[if_neg n1]at h;refine⟨_,rfl,rfl,_,rfl,?_⟩;refine ite2 (fun h2=>?_) (fun h2=>?_)
  ·have e:kd=Str.ofString "NUMBER" :=by simpa using h2
   rw[if_pos e]at h;refine⟨_,rfl,z,rfl,hz,?_⟩;cases hr0:yX z with
   |none =>
    rw[hr0]at h;rcases h with⟨a,e',_⟩|⟨_,k⟩
    ·cases e'
    ·exact .inr ⟨rfl,k⟩
   |some rs =>
    rw[hr0]at h;rcases h with⟨a,e',k⟩|⟨e',_⟩
    ·cases e';exact .inl ⟨rs,rfl,fun H' s'=>k _ _ rfl s'⟩
    ·cases e'
  have n2:kd≠Str.ofString "NUMBER" :=fun e=>h2 (decide_eq_true (by rw[e]));rw[if_neg n2]at h;refine⟨_,rfl,z,rfl,hz,?_⟩;cases hn:zF z with
  |false =>
   rw[hn]at h;rcases h with⟨a,e',_⟩|⟨_,k⟩
   ·cases e'
   ·exact .inr ⟨rfl,k⟩
  |true =>
   rw[hn]at h;rcases h with⟨a,e',k⟩|⟨e',_⟩
   ·cases e';exact .inl ⟨rfl,fun H' s'=>k _ _ rfl s'⟩
   ·cases e'
def qc:List Str:=["line","word","form","pieces"]
theorem jk:FnScope qc ["line"] (z7 yZ):=FS
inductive sp_read_line(A:Adr)(vs:List V)(H:Hp)(Q:VK)(E:XK):Prop
 |mk (z wd:Str) (as:List DArg):vs=[.str z]->z.length<=100000->vP z=some (wd,as)->(∀(p g:Addr)(gs:List V)(H':Hp),H' p=some (.tup [.str wd,.ref g])->H' g=some (.lst gs)->All2 ArgV H' as gs->Same H H'->Q (.ref p) H')->sp_read_line A vs H Q E
theorem mB(T:Txt P w K mg A):FnOk P w K mg base CX0 8 A.a21 A.f21 ["line"] (sp_read_line A):=by
 refine T.x21.F.ok jk (by walk_at "n") fun _ _ _ s H vs Q E hr h=>?_
 ·obtain⟨z,wd,as,rfl,hz,hR,k⟩:=h;refine⟨_,(z8 (pset 1 jk.nd (pix zy (kG PySem.F.plainAttrs_str PySem.F.slot_str_split PySem.F.type_str_split xF (pv 0) (pa1 zj)) zc))
    (z8 (zC (zi op_notInKD (pv 1) (yz (v:=.ref A.w9) rfl T.w66 rfl) rfl)
     (z9 rm) zk)
    (z8 (pset 2 jk.nd (p7 (yz (v:=.ref A.w9) rfl T.w66 rfl) (pv 1) (fun _ _=>rfl)))
    (z8 (pset 3 jk.nd (kG PySem.F.plainAttrs_str PySem.F.slot_str_split PySem.F.type_str_split mt_splitM (pv 0) (pa2 zj (zt zq rfl T.w5 PySem.boot_len (pa1 (pv 2))))))
    (z8 (zC (PW.pt (cE (zi op_ne (pix zy (pv 3) zc) (pv 1) (zu _)) (xa (zi op_le (zt zq rfl T.w5 PySem.boot_len (pa1 (pv 3))) (zt zq rfl T.w5 PySem.boot_len (pa1 (pv 2))) (zu _)))))
     (z9 rm) zk)
    (z9 (ps_try0 (z9 (zo (zx (pa2 (pv 1) (zX (ls:=["kind","piece"]) (fr:=[]) (csf (z7 yZ) qc) rfl (pi_zip true false rfl T.w14 (pa2 (pv 2) (yM cM (pv 3) (j0 zc) kZ))) (fun _ _ _ _=>pg_tupC 2 rfl (zR (pgc (ls:=["kind","piece"]) (fr:=[]) 0 (by decide+kernel) rfl rfl) (zR (pgc (ls:=["kind","piece"]) (fr:=[]) 1 (by decide+kernel) rfl rfl) jD)) rfl rfl) (fun _ _ _ _=>yj) (fun _ _ _ _=>(yh (xY T) (hr.mono (by decide)) (glc (z7 yZ)) T.x20.g T.x20.F.kp T.x20.b .nil pass01 (pa2 (pvc (z7 yZ) 0) (pvc (z7 yZ) 1)))))))))))))))),?_⟩
  obtain⟨form,hw,hf,rest,hp,hl,hps⟩:=qu hR;obtain⟨ws,kd,keys,tups⟩:=T.w69;obtain⟨b,hb,kt⟩:=tups _ (show(wd,form)∈uV from uF hf);dsimp only at hb kt;have f3:=b7 hf;have eb:Str.ofString " "=jr:=yJ;refine⟨_,rfl,rfl,_,_,rfl,rfl,rfl,by omega,fun l hl0=>?_⟩;rw[eb];refine⟨l,_,0,_,rfl,rfl,SqL.of z6,zp (j:=0) (by rw[getElem?_map,split_ne0,hw];rfl),?_⟩;have s1:=Same.new (o:=.lst ((Txt.split z jr).map V.str)) hl0;generalize upd H l (.lst ((Txt.split z jr).map V.str))=H1 at s1 ⊢;refine⟨_,rfl,_,ws,wd,rfl,rfl,kd,_,rfl,?_⟩;rw[hb];refine iteF ?_;refine⟨_,rfl,_,b,ws,wd,rfl,rfl,kd,hb,?_⟩;refine⟨_,rfl,rfl,_,rfl,b,_,rfl,.inr kt.sq,_,_,_,rfl,rfl,rfl,⟨by omega,by rw[length_map];omega⟩,by omega,fun l2 hl2=>?_⟩;have ep:Txt.splitMax z jr ((form.map V.str).length:Int)=wd::rest:=by rw[length_map];exact hp
  rw[ep];have s2:=s1.trans (Same.new (o:=.lst ((wd::rest).map V.str)) hl2);have g2:=z6 (H:=H1) (a:=l2) (o:=.lst ((wd::rest).map V.str));generalize upd H1 l2 (.lst ((wd::rest).map V.str))=H2 at s2 g2 ⊢;refine⟨_,rfl,l2,_,0,_,rfl,rfl,SqL.of g2,zp (j:=0) rfl,_,rfl,rfl,_,rfl,?_⟩;refine iteNS rfl ?_;refine⟨_,rfl,l2,_,rfl,.inl (SqL.of g2),_,rfl,b,_,rfl,.inr kt.sq,_,_,rfl,rfl,_,rfl,?_⟩;refine ite2 (fun z=>absurd (of_decide_eq_true z) (by simp only[length_map,length_cons];omega)) (fun _=>?_);refine⟨_,rfl,_,rfl,_,rfl,?_⟩;dsimp only[jp,tNil];refine⟨1,rfl,l2,_,rfl,SqL.of g2,fun l3 hl3=>?_⟩;have e3:cutV ((wd::rest).map V.str) (some 1) none=rest.map V.str:=by rw[show(some (1:Int))=some ((1:Nat):Int)from rfl,cV];rfl
  rw[e3];have s3:=s2.trans (Same.new (o:=.lst (rest.map V.str)) hl3);have g3:=z6 (H:=H2) (a:=l3) (o:=.lst (rest.map V.str));generalize upd H2 l3 (.lst (rest.map V.str))=H3 at s3 g3 ⊢;have hn:min (form.map V.str).length (rest.map V.str).length=form.length:=by rw[length_map,length_map];omega
  have hal:=uU hl hps;refine⟨b,l3,rfl,⟨_,kt.sq⟩,⟨_,SqL.of g3⟩,comp_zip (xs:=form.map V.str) (ys:=rest.map V.str) (fun i zs σ' H'=>Same H3 H'/\(∃v w,σ'=[v,w])/\All2 ArgV H' (as.take i) zs) ⟨Same.refl _,⟨_,_,rfl⟩,.nil⟩ ?_ ?_ ?_⟩
  ·rintro i zs σ' H' hi ⟨s',_,a2⟩;refine⟨kt.sq,SqL.of (s' _ _ g3),?_⟩;rw[<-a2.length,length_take];exact le_trans (m:=3) (by omega) (by decide)
  ·rintro i x y zs σ' H' T' hx hy ⟨s',⟨v,w',rfl⟩,a2⟩ hT;rw[getElem?_map]at hx hy;obtain⟨kk,hk0,rfl⟩:=map_eq_some_iff.mp hx;obtain⟨pp,hp0,rfl⟩:=map_eq_some_iff.mp hy;obtain⟨aa,ha0,hra⟩:=qx i hps hk0 hp0;have hi2:=(List.getElem?_eq_some_iff.mp ha0).1;have ea:=(List.getElem?_eq_some_iff.mp ha0).2;refine⟨T',_,rfl,SqT.of z6,rfl,_,_,rfl,_,_,rfl,rfl,?_⟩;have pl:pp.length<=100000:=le_trans (word_le (z:=z) (form:=form) (by rw[hp];exact mem_cons_of_mem _ (mem_of_getElem? hp0))) hz;refine⟨_,rfl,_,rfl,kk,pp,rfl,pl,.inl ⟨aa,hra,fun v H'' hv s''=>?_⟩⟩;have sn:=(Same.new (o:=.tup [V.str kk,V.str pp]) hT).trans s'';refine⟨s'.trans sn,⟨_,_,rfl⟩,?_⟩;rw[take_succ_eq_append_getElem hi2,ea];exact(a2.imp fun _ _ z=>z.mv sn.tups).snoc hv
  ·rintro zs σ' H' ⟨s',_,a2⟩ g hg;rw[hn,<-hal,take_length]at a2;refine⟨by show 2<=sizeLine;decide,fun t ht=>?_⟩;have sg:=Same.new (o:=.lst zs) hg;have st:=Same.new (o:=.tup [V.str wd,V.ref g]) ht;exact k t g zs _ z6 (st _ _ z6) (a2.imp fun _ _ z=>z.mv (sg.trans st).tups) (s3.trans (s'.trans (sg.trans st)))
def uM:List Str:=["self","name"]
theorem ut:FnScope uM ["self","name"] (z7 jv):=FS
inductive sp_NoName(A:Adr)(vs:List V)(H:Hp)(Q:VK)(E:XK):Prop
 |mk (e:Addr) (v:V):vs=[.ref e,v]->H e=some (.ext (ExcM e A.w6 none))->(∀(dx:Addr)(H':Hp),H dx=none->H'=upd (upd H e (.ext (ExcM e A.w6 (some dx)))) dx (.xd [("name",v)])->Q .non H')->sp_NoName A vs H Q E
theorem uf(T:Txt P w K mg A):FnOk P w K mg base CX0 1 A.a22 A.f22 ["self","name"] (sp_NoName A):=by
 refine T.x22.F.ok ut (by walk_at "n") fun _ _ _ s H vs Q E hr h=>?_
 ·obtain⟨e,v,rfl,he,k⟩:=h;refine⟨_,(z9 (ps_fldX (pv 0) (pv 1) rfl)),?_⟩;exact⟨_,rfl,_,rfl,e,A.w6,rfl,he,T.w65,T.w63,fun dx hdx=>k dx _ hdx rfl⟩
def uO:List Str:=["standing","word","given","kind","value"]
theorem yP:FnScope uO ["standing","word","given"] (z7 jx):=FS
inductive sp_nameless(A:Adr)(vs:List V)(H:Hp)(Q:VK)(E:XK):Prop
 |mk (d g:Addr) (kvs:List (Key×V)) (gs:List V) (S:Std) (wd:Str) (form:List Str) (as:List DArg):vs=[.ref d,.str wd,.ref g]->H d=some (.dK kvs)->StdV H S kvs->y0 wd=some form->H g=some (.lst gs)->All2 ArgV H as gs->as.length=form.length->((∀(i:Nat),form[i]? =some (Str.ofString "NAME")-> ∀a,as[i]? =some a-> ∃n,a=DArg.name n))->(((zw S form as=none/\ ∀H',Same H H'->Q .non H')\/(∃n,zw S form as=some n/\ ∀(dx:Addr)(H':Hp),H' dx=some (.xd [("name",.str n)])->Same H H'->E (.ref A.w6) (some dx) H')))->sp_nameless A vs H Q E
theorem uh(T:Txt P w K mg A):FnOk P w K mg base (CX1 P w) 3 A.a23 A.f23 ["standing","word","given"] (sp_nameless A):=by
 refine T.x23.F.okE yP (by walk_at "n") fun _ _ _ s H vs Q E hr h=>?_
 ·obtain⟨d,g,kvs,gs,S,wd,form,as,rfl,hd,hS,hf,hg,ha,hl,hN,h⟩:=h;refine⟨_,(z9 (ps_ok fun ok=>yu (ownE ok) rfl (pi_zip true false rfl T.w14 (pa2 (p7 (yz (v:=.ref A.w9) rfl T.w66 rfl) (pv 1) (fun _ _=>rfl)) (pv 2))) (vv rfl (zR (pgn 3 yP.nd) (zR (pgn 4 yP.nd) jD)))
     (z9 (zC (PW.pt (gZ (zi zZ (pv 3) zj (zu _)) (qt (zi (qp (huR hr)) (pv 4) (pv 0) rfl))))
     (z9 (ps_raiseI rfl T.w64 (uf T) (hr.mono (by decide)) T.x22.b rfl T.w28 (pa1 (pv 4)))) zk)))),?_⟩
  obtain⟨ws,kd,keys,tups⟩:=T.w69;obtain⟨b,hb,kt⟩:=tups _ (show(wd,form)∈uV from uF hf);dsimp only at hb kt;have f3:=b7 hf;have hgl:=ha.length;refine⟨_,rfl,_,b,ws,wd,rfl,rfl,kd,hb,?_⟩;refine⟨_,rfl,b,g,rfl,⟨_,kt.sq⟩,⟨_,SqL.of hg⟩,for_zip (xs:=form.map V.str) (ys:=gs) (fun i σ' H'=>Same H H'/\(∃v w,σ'=[some (.ref d),some (.str wd),some (.ref g),v,w])/\zw S form as=zw S (form.drop i) (as.drop i)) ⟨Same.refl _,⟨_,_,rfl⟩,rfl⟩ ?_ ?_ ?_⟩
  ·rintro i σ' H' _ ⟨s',_⟩;exact⟨kt.sq,SqL.of (s' _ _ hg)⟩
  ·rintro i x y σ' H' T' hx hy ⟨s',⟨v,w',rfl⟩,en⟩ hT;rw[getElem?_map]at hx;obtain⟨kk,hk0,rfl⟩:=map_eq_some_iff.mp hx;obtain⟨aa,ha0,hav⟩:=ha.get hy;have st:=nl_step S form as i hk0 ha0;have sT:=s'.trans (Same.new (o:=.tup [V.str kk,y]) hT);refine⟨T',_,rfl,SqT.of z6,rfl,_,_,rfl,_,_,rfl,rfl,?_⟩;refine⟨_,rfl,rfl,_,rfl,?_⟩;refine ite2 (fun h0=>?_) (fun h0=>?_)
   ·have ek:kk=Str.ofString "NAME" :=by simpa using h0
    obtain⟨n,rfl⟩:=hN i (by rw[hk0,ek]) aa ha0;have ey:y= .str n:=hav;subst ey;rcases hS.val n with⟨e1,e2⟩|⟨r,v,e1,e2,_⟩
    ·refine⟨_,rfl,_,rfl,d,_,rfl,DGet.k (k:=Sum.inr n) (sT _ _ hd),_,rfl,?_⟩;rw[e2];have en2:zw S form as=some n:=by rw[en,st];exact if_pos ⟨ek,e1⟩
     rcases h with⟨h0,_⟩|⟨m,h0,k⟩
     ·rw[en2]at h0;cases h0
     ·rw[en2]at h0;cases h0;refine iteT ⟨_,rfl,by show 1<=sizeLine;decide,fun e he=>⟨e,_,rfl,z6,fun dx H' hdx eH=>?_⟩⟩;obtain⟨d1,d2,d3⟩:=del_made he hdx eH;exact⟨rfl,some dx,d1,k dx _ d2 (sT.trans d3)⟩
    ·refine⟨_,rfl,_,rfl,d,_,rfl,DGet.k (k:=Sum.inr n) (sT _ _ hd),_,rfl,?_⟩;rw[e2];refine iteF ⟨sT,⟨_,_,rfl⟩,?_⟩;rw[en,st];exact if_neg (fun z=>by rw[e1]at z;cases z.2)
   ·have ek:kk≠Str.ofString "NAME" :=fun e=>h0 (decide_eq_true (by rw[e]));refine⟨sT,⟨_,_,rfl⟩,?_⟩;rw[en,st];cases aa with
    |name n=>exact if_neg (fun z=>ek z.1)
    |rule _=>rfl
    |heap _=>rfl
    |num _=>rfl
  ·rintro σ' H' ⟨s',_,en⟩;have e0:min (form.map V.str).length gs.length=form.length:=by rw[length_map];omega
   rw[e0,List.drop_length,m5]at en;rcases h with⟨_,k⟩|⟨n,h0,_⟩
   ·exact k H' s'
   ·rw[en]at h0;cases h0
def m4:List Str:=["standing","given"]
theorem rC:FnScope m4 ["standing","given"] (z7 vD):=FS
inductive sp_tell_names(vs:List V)(H:Hp)(Q:VK)(E:XK):Prop
 |mk (d:Addr) (v:V) (kvs:List (Key×V)) (S:Std):vs=[.ref d,v]->H d=some (.dK kvs)->StdV H S kvs->S.length<64->u0 S->(∀(z:Str)(H':Hp),yi (S.map (·.1)) z->Same H H'->Q (.str z) H')->sp_tell_names vs H Q E
theorem ui(T:Txt P w K mg A):FnOk P w K mg base CX0 2 A.a24 A.f24 ["standing","given"] sp_tell_names:=by
 refine T.x24.F.ok rC (by walk_at "n") fun _ _ _ s H vs Q E hr h=>?_
 ·obtain⟨d,v,kvs,S,rfl,hd,sd,hl,hb,k⟩:=h;refine⟨_,(z8 (zC (zi zZ (zt call_len_D rfl T.w5 PySem.boot_len (pa1 (pv 0))) zc (zu _))
     (z9 (zo zj)) zk)
    (z9 (zo (kG PySem.F.plainAttrs_str PySem.F.slot_str_join PySem.F.type_str_join jC zj (pa1 (zt (dw rfl) rfl T.w10 boot_sorted (pa1 (pv 0)))))))),?_⟩
  have hk:=sd.keys;have hlk:=sd.length;refine⟨_,rfl,d,kvs,rfl,hd,rfl,_,rfl,?_⟩;refine ite2 (fun h0=>?_) (fun h0=>?_)
  ·have e:kvs.length=0:=by simpa using h0
   have e2:S=[]:=List.eq_nil_of_length_eq_zero (by omega);subst e2;exact k cn H (.inl ⟨rfl,rfl⟩) (Same.refl _)
  have hne:S.map (·.1)≠[]:=fun z=>h0 (by
   have:S.length=0:=by rw[<-length_map (f:=(·.1)),z];rfl
   rw[hlk,this];rfl)
  refine⟨rfl,_,rfl,d,kvs,S.map (·.1),rfl,hd,hk,by rw[length_map];exact hl,fun ss' q pm so hq=>?_⟩;have hb':∀s∈ss',s.length<=8:=fun s hs=>by
   obtain⟨p,hp,rfl⟩:=mem_map.mp (pm.mem_iff.mp hs);exact hb p hp
  have h1:(ss'.map (·.length)).sum<=ss'.length*8:=qO hb';have h2:(Str.ofString " ").length=1:=by rw[yJ];rfl
  have h3:=pm.length_eq;rw[length_map]at h3;exact⟨_,q,ss',rfl,rfl,SqL.of z6,by rw[h2];omega,k _ _ (.inr ⟨hne,ss',pm,so,rfl⟩) (Same.new hq)⟩
def qW:List Str:=["self","standing"]
theorem qK:FnScope qW ["self","standing"] (z7 wK):=FS
inductive sp_do_deed(A:Adr)(vs:List V)(H:Hp)(Q:VK)(E:XK):Prop
 |mk (x d':Addr) (kvs:List (Key×V)) (O:List Addr) (S S':Std) (past und:List Std):vs=[.ref x,.ref d']->DeskAt A.w8 H x O S past und->H d'=some (.dK kvs)->StdV H S' kvs->d'∉O->past.length<=1000->(∀(H':Hp)(O':List Addr),DeskAt A.w8 H' x O' S' (past++[S]) []->Keep O H H'->Tups H H'->(∀b∈O',b∈O\/b=d'\/H b=none)->Q .non H')->sp_do_deed A vs H Q E
theorem wm(T:Txt P w K mg A):FnOk P w K mg base CX0 1 A.a25 A.f25 ["self","standing"] (sp_do_deed A):=by
 refine T.x25.F.ok qK (by walk_at "n") fun _ _ _ s H vs Q E hr h=>?_
 ·obtain⟨x,d',kvs,O,S,S',past,und,rfl,D,hd',hS',no,hl,k⟩:=h;refine⟨_,(z8 (yB (kG PySem.F.plainAttrs_list PySem.F.slot_list_append PySem.F.type_list_append wc (kB (pv 0) rfl) (pa1 (kB (pv 0) rfl))))
    (z8 (qr (pv 0) (pv 1) rfl)
    (z9 (qr (pv 0) (jg kY) rfl)))),?_⟩
  obtain⟨mx,al,dx,d,pl,ul,xs,ys,hx,hd,hp,ap,hu,au,mp,mu,npu⟩:=D;have apl:=ap.length;have nxp:x≠pl:=jc hx hp (by intro z;cases z);refine⟨_,rfl,x,A.w8,dx,_,_,rfl,hx,T.w58,T.w60,rfl,.inl ⟨rfl,_,SqL.of hp⟩,_,rfl,x,A.w8,dx,_,_,rfl,hx,T.w58,T.w61,rfl,pl,_,_,rfl,rfl,hp,lt_of_le_of_lt (m:=1000) (by omega) (by decide),?_⟩;refine⟨_,rfl,_,rfl,x,A.w8,dx,_,rfl,by rw[zh nxp];exact hx,T.w58,T.w61,(by show 3<1000;decide),?_⟩;refine⟨by show 0<=sizeLine;decide,fun ul' hul=>⟨_,rfl,x,A.w8,dx,dkF d' pl ul,rfl,?_,T.w58,T.w62,(by show 3<1000;decide),?_⟩⟩
  ·have:x≠ul':=fun e=>by rw[<-e,z6]at hul;cases hul
   rw[zh this,z6];rfl
  have nux:ul'≠x:=fun e=>by rw[e,z6]at hul;cases hul
  rw[zh nux]at hul;have nup:ul'≠pl:=fun e=>by rw[e,z6]at hul;cases hul
  rw[zh nup]at hul;have kp:∀b o,H b=some o->b≠x->b≠pl->upd (upd (upd (upd H pl (.lst (xs++[V.ref d]))) x (.ins A.w8 dx (dkF d' pl ul))) ul' (.lst [])) x (.ins A.w8 dx (dkF d' pl ul')) b=some o:=fun b o e n1 n2=>by
   rw[zh n1,zh (zr e hul),zh n1,zh n2];exact e
  have tp:Tups H (upd (upd (upd (upd H pl (.lst (xs++[V.ref d]))) x (.ins A.w8 dx (dkF d' pl ul))) ul' (.lst [])) x (.ins A.w8 dx (dkF d' pl ul'))):=fun b zs e=>kp b _ e (jc e hx (by intro z;cases z)) (jc e hp (by intro z;cases z));have kd:∀b kvs,b∈O->H b=some (.dK kvs)->upd (upd (upd (upd H pl (.lst (xs++[V.ref d]))) x (.ins A.w8 dx (dkF d' pl ul))) ul' (.lst [])) x (.ins A.w8 dx (dkF d' pl ul')) b=some (.dK kvs):=fun b kvs _ e=>kp b _ e (jc e hx (by intro z;cases z)) (jc e hp (by intro z;cases z));have ho:∀b∈O,b∈ul'::d'::O:=fun b hb=>by simp[hb]
  refine k _ (ul'::d'::O) ⟨ho _ mx,fun b hb=>?_,dx,d',pl,ul',xs++[V.ref d],[],z6,⟨d',kvs,rfl,by simp,?_,hS'.mv tp⟩,?_,(ap.to fun _ _ z=>z.mv tp kd ho).snoc (hd.mv tp kd ho),?_,.nil,ho _ mp,by simp,nup.symm⟩ (fun b o e n=>?_) tp (fun b hb=>?_)
  ·by_cases e1:b=x
   ·exact⟨_,by rw[e1,z6]⟩
   rw[zh e1];by_cases e2:b=ul'
   ·exact⟨_,by rw[e2,z6]⟩
   rw[zh e2,zh e1];have:b=ul'\/b=d'\/b∈O:=by simpa using hb
   rcases this with rfl|rfl|h
   ·exact absurd rfl e2
   ·exact jl hd'
   ·obtain⟨o,e⟩:=al b h;exact jl e
  ·exact kp _ _ hd' (fun e=>no (e▸mx)) (fun e=>no (e▸mp))
  ·rw[zh nxp.symm,zh nup.symm,zh nxp.symm,z6]
  ·rw[zh nux,z6]
  ·exact kp b o e (fun z=>n (z▸mx)) (fun z=>n (z▸mp))
  ·have:b=ul'\/b=d'\/b∈O:=by simpa using hb
   rcases this with rfl|rfl|h
   ·exact .inr (.inr hul)
   ·exact .inr (.inl rfl)
   ·exact .inl h
def xG:List Str:=["self","name","rule","standing"]
theorem wP:FnScope xG ["self","name","rule"] (z7 uk):=FS
inductive sp_do_put(A:Adr)(vs:List V)(H:Hp)(Q:VK)(E:XK):Prop
 |mk (x:Addr) (n:Str) (v:V) (r:List (List Int)) (O:List Addr) (S:Std) (past und:List Std):vs=[.ref x,.str n,v]->DeskAt A.w8 H x O S past und->wT r v H->S.length<=1000->past.length<=1000->(∀(H':Hp)(O':List Addr),After A.w8 H H' x O O' (putS S n r) (past++[S]) []->Q .non H')->sp_do_put A vs H Q E
theorem gj(T:Txt P w K mg A):FnOk P w K mg base CX0 3 A.a26 A.f26 ["self","name","rule"] (sp_do_put A):=by
 refine T.x26.F.ok wP (by walk_at "n") fun _ _ _ s H vs Q E hr h=>?_
 ·obtain⟨x,n,v,r,O,S,past,und,rfl,D,hv,hs,hl,k⟩:=h;refine⟨_,(z8 (pset 3 wP.nd (zH jn rfl T.w1 boot_dict (pa1 (kB (pv 0) rfl))))
    (z8 (cD (huR hr) (pv 3) (pv 1) (pv 2) rfl)
    (z9 (yB (rh (pv 0) T.w58 T.x25.mt (wm T) (hr.mono (by decide)) T.x25.b .nil wX (pa1 (pv 3))))))),?_⟩
  have D0:=D;obtain⟨mx,al,dx,d,pl,ul,xs,ys,hx,⟨_,kvs,e,md,hd,sd⟩,hp,ap,hu,au,mp,mu,npu⟩:=D;cases e;refine⟨_,rfl,x,A.w8,dx,_,_,rfl,hx,T.w58,T.w61,rfl,d,kvs,rfl,hd,fun d' hd'=>?_⟩;have s1:=Same.new (o:=.dK kvs) hd';refine⟨_,rfl,_,rfl,_,rfl,d',_,rfl,DPut.k (k:=Sum.inr n) z6 (lt_of_le_of_lt (m:=1000) (by rw[sd.length];exact hs) (by decide)),?_⟩;rw[upd_upd];have s2:=Same.new (o:=.dK (putK kvs (Sum.inr n) v)) hd';refine⟨_,rfl,x,dx,_,rfl,s2 _ _ hx,rfl,_,rfl,x,d',_,O,S,putS S n r,past,und,rfl,D0.same s2,z6,?_,?_,hl,fun H' O' D' K' T' ho=>?_⟩
  ·exact(sd.mv s2.tups).put (hv.mv s2.tups)
  ·exact D0.nin hd'
  ·refine k H' O' ⟨D',fun b o e n=>K' b o (s2 _ _ e) n,s2.tups.trans T',fun b hb=>?_⟩;rcases ho b hb with h|rfl|h
   ·exact .inl h
   ·exact .inr hd'
   ·exact .inr (s2.free h)
def qX:List Str:=["self","name","standing"]
theorem ww:FnScope qX ["self","name"] (z7 wL):=FS
inductive sp_do_drop(A:Adr)(vs:List V)(H:Hp)(Q:VK)(E:XK):Prop
 |mk (x:Addr) (n:Str) (r:List (List Int)) (O:List Addr) (S:Std) (past und:List Std):vs=[.ref x,.str n]->DeskAt A.w8 H x O S past und->zG S n=some r->past.length<=1000->(∀(H':Hp)(O':List Addr),After A.w8 H H' x O O' (pj S n) (past++[S]) []->Q .non H')->sp_do_drop A vs H Q E
theorem qi(T:Txt P w K mg A):FnOk P w K mg base CX0 3 A.a27 A.f27 ["self","name"] (sp_do_drop A):=by
 refine T.x27.F.ok ww (by walk_at "n") fun _ _ _ s H vs Q E hr h=>?_
 ·obtain⟨x,n,r,O,S,past,und,rfl,D,hn,hl,k⟩:=h;refine⟨_,(z8 (pset 2 ww.nd (zH jn rfl T.w1 boot_dict (pa1 (kB (pv 0) rfl))))
    (z8 (yB (bn (pv 2) (pv 1) ⟨rfl,rfl,rfl,rfl⟩))
    (z9 (yB (rh (pv 0) T.w58 T.x25.mt (wm T) (hr.mono (by decide)) T.x25.b .nil wX (pa1 (pv 2))))))),?_⟩
  have D0:=D;obtain⟨mx,al,dx,d,pl,ul,xs,ys,hx,⟨_,kvs,e,md,hd,sd⟩,hp,ap,hu,au,mp,mu,npu⟩:=D;cases e;refine⟨_,rfl,x,A.w8,dx,_,_,rfl,hx,T.w58,T.w61,rfl,d,kvs,rfl,hd,fun d' hd'=>?_⟩;rcases sd.val n with⟨e1,_⟩|⟨r',v,e1,e2,hr0⟩
  ·rw[hn]at e1;cases e1
  refine⟨_,rfl,d',rfl,.inl ⟨_,.inl z6⟩,_,rfl,kvs,Sum.inr n,v,z6,rfl,e2,?_⟩;rw[upd_upd];have s2:=Same.new (o:=.dK (qT kvs (Sum.inr n))) hd';refine⟨_,rfl,x,dx,_,rfl,s2 _ _ hx,rfl,_,rfl,x,d',_,O,S,pj S n,past,und,rfl,D0.same s2,z6,?_,?_,hl,fun H' O' D' K' T' ho=>?_⟩
  ·exact(sd.mv s2.tups).drop n
  ·exact D0.nin hd'
  ·refine k H' O' ⟨D',fun b o e n=>K' b o (s2 _ _ e) n,s2.tups.trans T',fun b hb=>?_⟩;rcases ho b hb with h|rfl|h
   ·exact .inl h
   ·exact .inr hd'
   ·exact .inr (s2.free h)
def qY:List Str:=["self"]
theorem qL:FnScope qY ["self"] (z7 wM):=FS
inductive sp_do_undo(A:Adr)(vs:List V)(H:Hp)(Q:VK)(E:XK):Prop
 |mk (x:Addr) (O:List Addr) (S:Std) (past und:List Std):vs=[.ref x]->DeskAt A.w8 H x O S past und->past.length<=1000->und.length<=1000->(((∃S' rest,past=rest++[S']/\ ∀(H':Hp),After A.w8 H H' x O O S' rest (und++[S])->Q .non H')\/(past=[]/\E (.ref A.w7) none H)))->sp_do_undo A vs H Q E
theorem qj(T:Txt P w K mg A):FnOk P w K mg base (CX1 P w) 2 A.a28 A.f28 ["self"] (sp_do_undo A):=by
 refine T.x28.F.okE qL (by walk_at "n") fun _ _ _ s H vs Q E hr h=>?_
 ·obtain⟨x,O,S,past,und,rfl,D,lp,lu,h⟩:=h;refine⟨_,(z8 (zC (zi zZ (zt zq rfl T.w5 PySem.boot_len (pa1 (kB (pv 0) rfl))) zc (zu _))
     (z9 (yx rfl T.w35 rfl T.w29 (pa1 zj))) zk)
    (z8 (yB (kG PySem.F.plainAttrs_list PySem.F.slot_list_append PySem.F.type_list_append wc (kB (pv 0) rfl) (pa1 (kB (pv 0) rfl))))
    (z9 (qr (pv 0) (pe_bm0 PySem.F.plainAttrs_list PySem.F.slot_list_pop PySem.F.type_list_pop mt_pop (kB (pv 0) rfl)) rfl)))),?_⟩
  obtain⟨mx,al,dx,d,pl,ul,xs,ys,hx,hd,hp,ap,hu,au,mp,mu,npu⟩:=D;have apl:=ap.length;have aul:=au.length;have nxp:x≠pl:=jc hx hp (by intro z;cases z);have nxu:x≠ul:=jc hx hu (by intro z;cases z);refine⟨_,rfl,x,A.w8,dx,_,_,rfl,hx,T.w58,T.w60,rfl,pl,_,rfl,.inl (SqL.of hp),rfl,_,rfl,?_⟩;rcases h with⟨S',rest,e,k⟩|⟨e,k⟩
  case inr =>
   subst e;cases ap;exact ite2 (fun _=>⟨by show 1<=sizeLine;decide,k⟩) (fun z=>absurd rfl z)
  subst e;obtain⟨zs,v,rfl,az,hv⟩:=ap.unsnoc;refine ite2 (fun z=>by simp at z;omega) (fun _=>?_);refine⟨_,rfl,x,A.w8,dx,_,_,rfl,hx,T.w58,T.w62,rfl,.inl ⟨rfl,_,SqL.of hu⟩,_,rfl,x,A.w8,dx,_,_,rfl,hx,T.w58,T.w61,rfl,ul,_,_,rfl,rfl,hu,lt_of_le_of_lt (m:=1000) (by omega) (by decide),?_⟩;have hx1:upd H ul (.lst (ys++[V.ref d])) x=some (.ins A.w8 dx (dkF d pl ul)):=by rw[zh nxu];exact hx
  have hp1:upd H ul (.lst (ys++[V.ref d])) pl=some (.lst (zs++[v])):=by rw[zh npu];exact hp
  refine⟨_,rfl,x,A.w8,dx,_,_,rfl,hx1,T.w58,T.w60,rfl,.inl ⟨rfl,_,SqL.of hp1⟩,pl,_,v,rfl,rfl,hp1,by simp,?_⟩;rw[List.dropLast_concat];refine⟨_,rfl,x,A.w8,dx,_,rfl,by rw[zh nxp];exact hx1,T.w58,T.w61,(by show 3<1000;decide),?_⟩;obtain⟨d',kvs,rfl,md',hd',sd'⟩:=hv;have kp:∀b o,H b=some o->b≠x->b≠pl->b≠ul->upd (upd (upd H ul (.lst (ys++[V.ref d]))) pl (.lst zs)) x (.ins A.w8 dx (dkF d' pl ul)) b=some o:=fun b o e n1 n2 n3=>by
   rw[zh n1,zh n2,zh n3];exact e
  have tp:Tups H (upd (upd (upd H ul (.lst (ys++[V.ref d]))) pl (.lst zs)) x (.ins A.w8 dx (dkF d' pl ul))):=fun b zs e=>kp b _ e (jc e hx (by intro z;cases z)) (jc e hp (by intro z;cases z)) (jc e hu (by intro z;cases z));have kd:∀b kvs,b∈O->H b=some (.dK kvs)->upd (upd (upd H ul (.lst (ys++[V.ref d]))) pl (.lst zs)) x (.ins A.w8 dx (dkF d' pl ul)) b=some (.dK kvs):=fun b kvs _ e=>kp b _ e (jc e hx (by intro z;cases z)) (jc e hp (by intro z;cases z)) (jc e hu (by intro z;cases z));have ho:∀b∈O,b∈O:=fun _ z=>z;refine k _ ⟨⟨mx,fun b hb=>?_,dx,d',pl,ul,zs,ys++[V.ref d],z6,⟨d',kvs,rfl,md',kd _ _ md' hd',sd'.mv tp⟩,?_,(az.imp fun _ _ z=>z.mv tp kd ho),?_,((au.imp fun _ _ z=>z.mv tp kd ho).snoc (hd.mv tp kd ho)),mp,mu,npu⟩,fun b o e n=>kp b o e (fun z=>n (z▸mx)) (fun z=>n (z▸mp)) (fun z=>n (z▸mu)),tp,fun b hb=>.inl hb⟩
  ·obtain⟨o,e⟩:=al b hb;obtain⟨o1,e1⟩:=jl (a:=ul) (o:=.lst (ys++[V.ref d])) e;obtain⟨o2,e2⟩:=jl (a:=pl) (o:=.lst zs) e1;exact jl e2
  ·rw[zh nxp.symm,z6]
  ·rw[zh nxu.symm,zh npu.symm,z6]
def pU:List Str:=["self"]
theorem vS:FnScope pU ["self"] (z7 wv):=FS
inductive sp_do_again(A:Adr)(vs:List V)(H:Hp)(Q:VK)(E:XK):Prop
 |mk (x:Addr) (O:List Addr) (S:Std) (past und:List Std):vs=[.ref x]->DeskAt A.w8 H x O S past und->past.length<=1000->und.length<=1000->(((∃S' rest,und=rest++[S']/\ ∀(H':Hp),After A.w8 H H' x O O S' (past++[S]) rest->Q .non H')\/(und=[]/\E (.ref A.w7) none H)))->sp_do_again A vs H Q E
theorem vM(T:Txt P w K mg A):FnOk P w K mg base (CX1 P w) 2 A.a29 A.f29 ["self"] (sp_do_again A):=by
 refine T.x29.F.okE vS (by walk_at "n") fun _ _ _ s H vs Q E hr h=>?_
 ·obtain⟨x,O,S,past,und,rfl,D,lp,lu,h⟩:=h;refine⟨_,(z8 (zC (zi zZ (zt zq rfl T.w5 PySem.boot_len (pa1 (kB (pv 0) rfl))) zc (zu _))
     (z9 (yx rfl T.w35 rfl T.w29 (pa1 zj))) zk)
    (z8 (yB (kG PySem.F.plainAttrs_list PySem.F.slot_list_append PySem.F.type_list_append wc (kB (pv 0) rfl) (pa1 (kB (pv 0) rfl))))
    (z9 (qr (pv 0) (pe_bm0 PySem.F.plainAttrs_list PySem.F.slot_list_pop PySem.F.type_list_pop mt_pop (kB (pv 0) rfl)) rfl)))),?_⟩
  obtain⟨mx,al,dx,d,pl,ul,xs,ys,hx,hd,hp,ap,hu,au,mp,mu,npu⟩:=D;have apl:=ap.length;have aul:=au.length;have nxp:x≠pl:=jc hx hp (by intro z;cases z);have nxu:x≠ul:=jc hx hu (by intro z;cases z);refine⟨_,rfl,x,A.w8,dx,_,_,rfl,hx,T.w58,T.w62,rfl,ul,_,rfl,.inl (SqL.of hu),rfl,_,rfl,?_⟩;rcases h with⟨S',rest,e,k⟩|⟨e,k⟩
  case inr =>
   subst e;cases au;exact ite2 (fun _=>⟨by show 1<=sizeLine;decide,k⟩) (fun z=>absurd rfl z)
  subst e;obtain⟨zs,v,rfl,az,hv⟩:=au.unsnoc;refine ite2 (fun z=>by simp at z;omega) (fun _=>?_);refine⟨_,rfl,x,A.w8,dx,_,_,rfl,hx,T.w58,T.w60,rfl,.inl ⟨rfl,_,SqL.of hp⟩,_,rfl,x,A.w8,dx,_,_,rfl,hx,T.w58,T.w61,rfl,pl,_,_,rfl,rfl,hp,lt_of_le_of_lt (m:=1000) (by omega) (by decide),?_⟩;have hx1:upd H pl (.lst (xs++[V.ref d])) x=some (.ins A.w8 dx (dkF d pl ul)):=by rw[zh nxp];exact hx
  have hp1:upd H pl (.lst (xs++[V.ref d])) ul=some (.lst (zs++[v])):=by rw[zh npu.symm];exact hu
  refine⟨_,rfl,x,A.w8,dx,_,_,rfl,hx1,T.w58,T.w62,rfl,.inl ⟨rfl,_,SqL.of hp1⟩,ul,_,v,rfl,rfl,hp1,by simp,?_⟩;rw[List.dropLast_concat];refine⟨_,rfl,x,A.w8,dx,_,rfl,by rw[zh nxu];exact hx1,T.w58,T.w61,(by show 3<1000;decide),?_⟩;obtain⟨d',kvs,rfl,md',hd',sd'⟩:=hv;have kp:∀b o,H b=some o->b≠x->b≠pl->b≠ul->upd (upd (upd H pl (.lst (xs++[V.ref d]))) ul (.lst zs)) x (.ins A.w8 dx (dkF d' pl ul)) b=some o:=fun b o e n1 n2 n3=>by
   rw[zh n1,zh n3,zh n2];exact e
  have tp:Tups H (upd (upd (upd H pl (.lst (xs++[V.ref d]))) ul (.lst zs)) x (.ins A.w8 dx (dkF d' pl ul))):=fun b zs e=>kp b _ e (jc e hx (by intro z;cases z)) (jc e hp (by intro z;cases z)) (jc e hu (by intro z;cases z));have kd:∀b kvs,b∈O->H b=some (.dK kvs)->upd (upd (upd H pl (.lst (xs++[V.ref d]))) ul (.lst zs)) x (.ins A.w8 dx (dkF d' pl ul)) b=some (.dK kvs):=fun b kvs _ e=>kp b _ e (jc e hx (by intro z;cases z)) (jc e hp (by intro z;cases z)) (jc e hu (by intro z;cases z));have ho:∀b∈O,b∈O:=fun _ z=>z;refine k _ ⟨⟨mx,fun b hb=>?_,dx,d',pl,ul,xs++[V.ref d],zs,z6,⟨d',kvs,rfl,md',kd _ _ md' hd',sd'.mv tp⟩,?_,((ap.imp fun _ _ z=>z.mv tp kd ho).snoc (hd.mv tp kd ho)),?_,(az.imp fun _ _ z=>z.mv tp kd ho),mp,mu,npu⟩,fun b o e n=>kp b o e (fun z=>n (z▸mx)) (fun z=>n (z▸mp)) (fun z=>n (z▸mu)),tp,fun b hb=>.inl hb⟩
  ·obtain⟨o,e⟩:=al b hb;obtain⟨o1,e1⟩:=jl (a:=pl) (o:=.lst (xs++[V.ref d])) e;obtain⟨o2,e2⟩:=jl (a:=ul) (o:=.lst zs) e1;exact jl e2
  ·rw[zh nxp.symm,zh npu,z6]
  ·rw[zh nxu.symm,z6]
def cj:List Str:=["standing","given"]
theorem mY:FnScope cj ["standing","given"] (z7 qJ):=FS
inductive sp_tell_rule(vs:List V)(H:Hp)(Q:VK)(E:XK):Prop
 |mk (d g:Addr) (kvs:List (Key×V)) (gs:List V) (S:Std) (n:Str) (r:List (List Int)):vs=[.ref d,.ref g]->H d=some (.dK kvs)->StdV H S kvs->H g=some (.lst gs)->All2 ArgV H [.name n] gs->zG S n=some r->rQ r->(∀(H':Hp),Same H H'->Q (.str (rtxt r)) H')->sp_tell_rule vs H Q E
theorem mE(T:Txt P w K mg A):FnOk P w K mg base CX0 4 A.a30 A.f30 ["standing","given"] sp_tell_rule:=by
 refine T.x30.F.ok mY (by walk_at "n") fun _ _ _ s H vs Q E hr h=>?_
 ·obtain⟨d,g,kvs,gs,S,n,r,rfl,hd,sd,hg,ha,hl,hb,k⟩:=h;refine⟨_,(z9 (zo (pcl (vp T) hr T.x13 (pa1 (yL (huR hr) (pv 0) (pix zy (pv 1) zc) (fun _ _=>rfl)))))),?_⟩;cases ha with
  |cons h1 ha =>
   cases ha;cases h1;rcases sd.val n with⟨e1,_⟩|⟨r',v,e1,e2,p,xs,rfl,gp,a2⟩
   ·rw[hl]at e1;cases e1
   rw[hl]at e1;cases e1;have dg:=DGet.k (k:=Sum.inr n) hd;rw[e2]at dg;exact⟨_,rfl,_,rfl,g,_,0,_,rfl,rfl,SqL.of hg,zp (j:=0) rfl,d,_,rfl,dg,p,r,xs,rfl,gp,a2,hb.1,hb.2,k⟩
def n_often:List Str:=["heap","part"]
theorem sc_often:FnScope n_often ["heap","part"] (z7 s_often):=FS
inductive sp_often(K:W.Frag)(vs:List V)(H:Hp)(Q:VK)(E:XK):Prop
 |mk (a:Addr) (ns:List Int) (y:Int):vs=[.ref a,.int y]->H a=some (.tup (ns.map V.int))->Q (.int (ns.count y:Nat)) H->sp_often K vs H Q E
theorem xW(T:Txt P w K mg A):FnOk P w K mg base CX0 1 A.a31 A.f31 ["heap","part"] (sp_often K):=by
 refine T.x31.F.ok sc_often (by walk_at "n") fun _ _ _ s H vs Q E hr h=>?_
 ·obtain⟨a,ns,y,rfl,hS,k⟩:=h;refine⟨_,(z9 (zo (kG PySem.F.plainAttrs_tuple PySem.F.slot_tuple_count PySem.F.type_tuple_count pS (pv 0) (pa1 (pv 1))))),?_⟩;exact⟨_,rfl,.inr (.inl ⟨rfl,.inr ⟨_,hS⟩⟩),_,rfl,a,_,_,rfl,rfl,SqT.of hS,rfl,jW _,by rw[jT];exact k⟩
def n_lies_in:List Str:=["one","other","part"]
theorem xi:FnScope n_lies_in ["one","other"] (z7 mP):=FS
inductive sp_lies_in(vs:List V)(H:Hp)(Q:VK)(E:XK):Prop
 |mk (a b:Addr) (ns ms:List Int):vs=[.ref a,.ref b]->H a=some (.tup (ns.map V.int))->H b=some (.tup (ms.map V.int))->Q (.bl (lies ns ms)) H->sp_lies_in vs H Q E
theorem ok_lies_in(T:Txt P w K mg A):FnOk P w K mg base CX0 2 A.a32 A.f32 ["one","other"] sp_lies_in:=by
 refine T.x32.F.ok xi (by walk_at "n") fun _ _ _ s H vs Q E hr h=>?_
 ·obtain⟨a,b,ns,ms,rfl,ha,hb,k⟩:=h;refine⟨_,(z8 (yu PassesOwn.never rfl (kD (pv 0)) (pgn 2 xi.nd)
     (z9 (zC (zi mG (pcl (xW T) hr T.x31 (pa2 (pv 1) (pv 2))) (pcl (xW T) hr T.x31 (pa2 (pv 0) (pv 2))) (zu _))
     (z9 (zo cA)) zk)))
    (z9 (zo cA))),?_⟩
  refine⟨_,rfl,a,rfl,⟨_,SqT.of ha⟩,uE (xs:=ns.map V.int) (fun i σ' H'=>H'=H/\(∃v,σ'=[some (.ref a),some (.ref b),v])/\(ns.take i).all (fun x=>decide (ns.count x<=ms.count x))=true) ⟨rfl,⟨_,rfl⟩,rfl⟩ ?_ ?_ ?_⟩
  ·rintro i σ' H' _ ⟨rfl,_⟩;exact SqT.of ha
  ·rintro i x σ' H' hx ⟨rfl,⟨v,rfl⟩,hall⟩;obtain⟨z,hz,rfl⟩:=kU hx;refine⟨_,rfl,_,rfl,b,ms,z,rfl,hb,?_⟩;refine⟨_,rfl,_,rfl,a,ns,z,rfl,ha,?_⟩;refine⟨_,_,rfl,rfl,_,rfl,?_⟩;refine ite2 (fun hlt=>?_) (fun hlt=>⟨rfl,⟨_,rfl⟩,?_⟩)
   ·have h1:lies ns ms=false:=all_false (mem_of_getElem? hz) (by
     have:=of_decide_eq_true hlt;exact decide_eq_false (by omega))
    rw[h1]at k;exact k
   ·rw[all_take hz,hall,Bool.true_and];refine decide_eq_true ?_;have:¬((ms.count z:Nat):Int)<((ns.count z:Nat):Int):=fun q=>hlt (decide_eq_true q);omega
  ·rintro σ' H' ⟨rfl,_,hall⟩;rw[length_map,take_length]at hall;have h1:lies ns ms=true:=hall;rw[h1]at k;exact k
def bb:List Str:=["rule","heap"]
theorem sc_all_in:FnScope bb ["rule","heap"] (z7 jF):=FS
inductive sp_all_in(vs:List V)(H:Hp)(Q:VK)(E:XK):Prop
 |mk (p q:Addr) (rs:List V) (rule:List (List Int)) (hs:List Int):vs=[.ref p,.ref q]->H p=some (.tup rs)->All2 Tup1 H rule rs->H q=some (.tup (hs.map V.int))->rule.length<=60->(∀(l:Addr)(H':Hp),H' l=some (.lst ((idxG rule hs).map V.int))->Same H H'->H l=none->Q (.ref l) H')->sp_all_in vs H Q E
theorem ok_all_in(T:Txt P w K mg A):FnOk P w K mg base CX0 3 A.a33 A.f33 ["rule","heap"] sp_all_in:=by
 refine T.x33.F.ok sc_all_in (by walk_at "n") fun _ _ _ s H vs Q E hr h=>?_
 ·obtain⟨p,q,rs,rule,hs,rfl,hp,h2,hq,hln,k⟩:=h;refine⟨_,(z9 (zo (zX (ls:=["number","shut"]) (fr:=[("heap",1)]) (csf (z7 jF) bb) rfl (pi_enum true rfl T.w2 (pa1 (pv 0))) (fun _ _ _ _=>pg_tupC 2 rfl (zR (pgc (ls:=["number","shut"]) (fr:=[("heap",1)]) 0 (by decide+kernel) rfl rfl) (zR (pgc (ls:=["number","shut"]) (fr:=[("heap",1)]) 1 (by decide+kernel) rfl rfl) jD)) rfl rfl) (fun _ _ _ _=>pf_one (pt_truthK K rfl (yh (ok_lies_in T) (hr.mono (by decide)) (glc (z7 jF)) T.x32.g T.x32.F.kp T.x32.b .nil wX (pa2 (pvc (z7 jF) 1) (pvc (z7 jF) 2))) (fun _=>rfl))) (fun _ _ _ _=>(pvc (z7 jF) 0))))),?_⟩;refine⟨_,rfl,p,rfl,⟨_,SqT.of hp⟩,comp_enum (k:=true) (xs:=rs) (fun i zs σ' H'=>Same H H'/\(∃v w,σ'=[v,w,some (.ref q)])/\zs=(idxP rule hs i).map V.int) ⟨fun _ _ h=>h,⟨_,_,rfl⟩,rfl⟩ ?_ ?_ ?_⟩
  ·rintro i zs σ' H' hi ⟨s,_,rfl⟩;refine⟨SqT.of (s _ _ hp),?_⟩;rw[length_map];have h1:=idxP_len rule hs i;have h2:=h2.length;exact yS (by omega)
  ·rintro i x zs σ' H' T' hx ⟨s,⟨v,w',rfl⟩,rfl⟩ hT;obtain⟨hs1,hh1,q1,rfl,hq1⟩:=h2.get hx;have hi:=(List.getElem?_eq_some_iff.mp hh1).1;have e1:rule.getD i []=hs1:=by simp[hh1]
   refine⟨T',_,rfl,SqT.of z6,rfl,_,_,rfl,_,_,rfl,rfl,?_⟩;have sn:=s.trans (Same.new (o:=.tup [.int i,.ref q1]) hT);refine⟨_,rfl,_,rfl,q1,q,hs1,hs,rfl,sn _ _ hq1,sn _ _ hq,?_⟩;refine⟨_,rfl,?_⟩;refine ite2 (fun hc=>⟨_,rfl,sn,⟨_,_,rfl⟩,?_⟩) (fun hc=>⟨sn,⟨_,_,rfl⟩,?_⟩)
   ·rw[js,e1,if_pos hc,map_append];rfl
   ·rw[js,e1,if_neg hc,append_nil]
  ·rintro zs σ' H' ⟨s,_,rfl⟩ l hl;rw[<-h2.length];exact k l _ z6 (s.trans (Same.new hl)) (s.free hl)
def n_first_in:List Str:=["rule","heap"]
theorem cK:FnScope n_first_in ["rule","heap"] (z7 xg):=FS
inductive sp_first_in(vs:List V)(H:Hp)(Q:VK)(E:XK):Prop
 |mk (p q:Addr) (rs:List V) (rule:List (List Int)) (hs:List Int):vs=[.ref p,.ref q]->H p=some (.tup rs)->All2 Tup1 H rule rs->H q=some (.tup (hs.map V.int))->rule.length<=60->(∀(H':Hp),Same H H'->Q (optV (jV rule hs)) H')->sp_first_in vs H Q E
theorem cx(T:Txt P w K mg A):FnOk P w K mg base CX0 4 A.a34 A.f34 ["rule","heap"] sp_first_in:=by
 refine T.x34.F.ok cK (by walk_at "n") fun _ _ _ s H vs Q E hr h=>?_
 ·obtain⟨p,q,rs,rule,hs,rfl,hp,h2,hq,hln,k⟩:=h;refine⟨_,(z9 (zo (pe_minD false rfl rfl T.w8 (pcl (ok_all_in T) hr T.x33 (pa2 (pv 0) (pv 1))) vt))),?_⟩;refine⟨_,rfl,_,rfl,p,q,rs,rule,hs,rfl,hp,h2,hq,hln,fun l H' hl s nl=>?_⟩;refine⟨l,idxG rule hs,rfl,SqL.of hl,fun v hv=>?_⟩;rcases hv with⟨e,rfl⟩|⟨m,rfl,hm⟩
  ·have:=k H' s;rw[gJ e]at this;exact this
  ·have e:jV rule hs=some m:=tJ rule hs rule.length m hm;have:=k H' s;rw[e]at this;exact this
def m3:List Str:=["standing","given","number"]
theorem uy:FnScope m3 ["standing","given"] (z7 vC):=FS
inductive sp_tell_keeps(vs:List V)(H:Hp)(Q:VK)(E:XK):Prop
 |mk (d g:Addr) (kvs:List (Key×V)) (gs:List V) (S:Std) (n:Str) (r:List (List Int)) (h0:List Int):vs=[.ref d,.ref g]->H d=some (.dK kvs)->StdV H S kvs->H g=some (.lst gs)->All2 ArgV H [.name n,.heap h0] gs->zG S n=some r->r.length<=60->(∀(H':Hp),Same H H'->Q (.str (keepT r h0)) H')->sp_tell_keeps vs H Q E
theorem xZ(T:Txt P w K mg A):FnOk P w K mg base CX0 5 A.a35 A.f35 ["standing","given"] sp_tell_keeps:=by
 refine T.x35.F.ok uy (by walk_at "n") fun _ _ _ s H vs Q E hr h=>?_
 ·obtain⟨d,g,kvs,gs,S,n,r,h0,rfl,hd,sd,hg,ha,hl,hb,k⟩:=h;refine⟨_,(z8 (pset 2 uy.nd (pcl (cx T) hr T.x34 (pa2 (yL (huR hr) (pv 0) (pix zy (pv 1) zc) (fun _ _=>rfl)) (pix zy (pv 1) zc))))
    (z9 (zo (rf (zi bi (pv 2) vt (zu _)) zj (rg (kj (jh (pv 2) uj))))))),?_⟩
  cases ha with
  |cons h1 ha =>
   cases ha with
   |cons h2 ha =>
    cases ha;cases h1;obtain⟨q,rfl,gq⟩:=h2;rcases sd.val n with⟨e1,_⟩|⟨r',v,e1,e2,p,xs,rfl,gp,a2⟩
    ·rw[hl]at e1;cases e1
    rw[hl]at e1;cases e1;have dg:=DGet.k (k:=Sum.inr n) hd;rw[e2]at dg;refine⟨_,rfl,_,rfl,g,_,0,_,rfl,rfl,SqL.of hg,zp (j:=0) rfl,d,_,rfl,dg,_,rfl,g,_,1,_,rfl,rfl,SqL.of hg,zp (j:=1) rfl,p,q,xs,r,h0,rfl,gp,a2,gq,hb,fun H1 s1=>?_⟩;have hk:=k H1 s1;unfold keepT at hk;cases hf:jV r h0 with
    |none =>
     rw[hf]at hk;exact⟨_,rfl,rfl,_,rfl,iteT hk⟩
    |some z =>
     rw[hf]at hk;have zb:0<=z/\z<60:=cZ hb hf;refine⟨_,rfl,rfl,_,rfl,iteF ?_⟩;have l3:(Str.ofString "no ").length=3:=by decide+kernel
     have ln:(numS z).length<=2:=by rw[zJ];exact ya zb.1 (by decide) (by omega)
     refine⟨by rw[zD,l3];decide,_,rfl,numS z,.inl ⟨z,rfl,ue zb.1 (Int.le_trans (show z<=60 by omega) (by decide)),rfl⟩,le_trans ln (by decide),?_,?_⟩
     ·rw[zD,zO];exact le_trans (m:=10) (by omega) (by decide)
     ·refine⟨?_,?_⟩
      ·rw[zD,zO];exact le_trans (m:=10) (by omega) (by decide)
      ·rw[zD];exact hk
def n_sum_of:List Str:=["heap"]
theorem sc_sum_of:FnScope n_sum_of ["heap"] (z7 bw):=FS
inductive sp_sum_of(K:W.Frag)(vs:List V)(H:Hp)(Q:VK)(E:XK):Prop
 |mk (a:Addr) (ns:List Int):vs=[.ref a]->SqT K H a (ns.map V.int)->Q (.int ns.sum) H->sp_sum_of K vs H Q E
theorem ok_sum_of(T:Txt P w K mg A):FnOk P w K mg base CX0 1 A.a36 A.f36 ["heap"] (sp_sum_of K):=by
 refine T.x36.F.ok sc_sum_of (by walk_at "n") fun _ _ _ s H vs Q E hr h=>?_
 ·obtain⟨a,ns,rfl,hS,k⟩:=h;refine⟨_,(z9 (zo (zt (u5 rfl) rfl T.w12 boot_sum (pa1 (pv 0))))),?_⟩;exact⟨_,rfl,a,ns,rfl,.inr hS,k⟩
def wj:List Str:=["numbers","choices","number"]
theorem yy:FnScope wj ["numbers"] (z7 ym):=FS
inductive sp_choices(vs:List V)(H:Hp)(Q:VK)(E:XK):Prop
 |mk (a:Addr) (ns:List Int):vs=[.ref a]->H a=some (.lst (ns.map V.int))->ns.length<=6->(∀(l:Addr)(xs:List V)(H':Hp),H' l=some (.lst xs)->All2 Tup1 H' (chG ns) xs->Same H H'->H l=none->Q (.ref l) H')->sp_choices vs H Q E
theorem vO(T:Txt P w K mg A):FnOk P w K mg base CX0 1 A.a37 A.f37 ["numbers"] sp_choices:=by
 refine T.x37.F.ok yy (by walk_at "n") fun _ _ _ s H vs Q E hr h=>?_
 ·obtain⟨a,ns,rfl,ha,hln,k⟩:=h;refine⟨_,(z8 (pset 1 yy.nd (jg (pa1 (zx kY))))
    (z8 (yu PassesOwn.never rfl (yA (pv 0)) (pgn 2 yy.nd)
     (z9 (pset 1 yy.nd (zL op_cat (pv 1) (zX (ls:=["choice"]) (fr:=[("number",2)]) (csf (z7 ym) wj) rfl (yA (pv 1)) (fun _ _ _ _=>pgc 0 (by decide+kernel) rfl rfl) (fun _ _ _ _=>yj) (fun _ _ _ _=>(zL (bg K rfl) (pvc (z7 ym) 0) (zx (pa1 (pvc (z7 ym) 1))))))))))
    (z9 (zo (pv 1))))),?_⟩
  refine⟨by show 0<=sizeLine;decide,fun e he=>⟨by show 1<=sizeLine;decide,fun l0 hl0=>?_⟩⟩;have ne0:H l0=none:=(Same.new he).free hl0;refine⟨_,rfl,a,rfl,⟨_,SqL.of ((Same.new he).trans (Same.new hl0) _ _ ha)⟩,wC (xs:=ns.map V.int) (fun i σ' H'=>Same H H'/\i<=6/\ ∃l xs v,σ'=[some (.ref a),some (.ref l),v]/\H' l=some (.lst xs)/\H l=none/\All2 Tup1 H' (chG (ns.take i)) xs) ?_ ?_ ?_ ?_⟩
  ·refine⟨(Same.new he).trans (Same.new hl0),zero_le _,l0,[.ref e],_,rfl,z6,ne0,.cons ⟨e,rfl,?_⟩ .nil⟩;exact Same.new hl0 _ _ z6
  ·rintro i σ' H' _ ⟨s,_⟩;exact SqL.of (s _ _ ha)
  ·rintro i x σ' H' hx ⟨s,hi6,l,xs,v,rfl,gl,nl,h2⟩;obtain⟨z,hz,rfl⟩:=kU hx;have hi:=(List.getElem?_eq_some_iff.mp hz).1;have ez:=(List.getElem?_eq_some_iff.mp hz).2;have hlen:=pc i (ns.take i) (by rw[length_take];omega);have hmem:=wU i (ns.take i) (by rw[length_take];omega);have hlx:xs.length<=64:=by
    rw[<-h2.length,hlen];exact le_trans (Nat.pow_le_pow_right (by decide) hi6) (by decide)
   refine⟨_,rfl,_,rfl,l,rfl,⟨_,SqL.of gl⟩,kP (xs:=xs) (fun j ys σ' H2=>Same H' H2/\(∃v,σ'=[v,some (.int z)])/\All2 Tup1 H2 (((chG (ns.take i)).take j).map (· ++[z])) ys) ⟨fun _ _ h=>h,⟨_,rfl⟩,.nil⟩ ?_ ?_ ?_⟩
   ·rintro j ys σ' H2 hj ⟨s2,_,h3⟩;refine⟨SqL.of (s2 _ _ gl),?_⟩;rw[<-h3.length,length_map,length_take];refine le_trans (m:=64) (by omega) (by decide)
   ·rintro j x ys σ' H2 hx ⟨s2,⟨v,rfl⟩,h3⟩;obtain⟨hs,hhs,q,rfl,hq⟩:=h2.get hx;have hj:=(List.getElem?_eq_some_iff.mp hhs).1;have eh:=(List.getElem?_eq_some_iff.mp hhs).2;refine⟨_,rfl,_,rfl,by show 1<=sizeLine;decide,fun t ht=>?_⟩;have hl1:hs.length<=60:=by
     have:=(hmem hs (mem_of_getElem? hhs)).1;omega
    refine cat_one (Same.new ht _ _ (s2 _ _ hq)) z6 hl1 fun v H3 hv s3=>?_;have sn:=(Same.new (o:=.tup [V.int z]) ht).trans s3;refine⟨s2.trans sn,⟨_,rfl⟩,?_⟩;rw[take_succ_eq_append_getElem hj,map_append,eh];exact(h3.mv sn.tups).snoc hv
   ·rintro ys σ' H2 ⟨s2,⟨v,rfl⟩,h3⟩ l2 hl2;have et:(chG (ns.take i)).take xs.length=chG (ns.take i):=by rw[<-h2.length,take_length]
    rw[et]at h3;have hly:ys.length<=64:=by
     rw[<-h3.length,length_map,h2.length];exact hlx
    refine⟨l,l2,xs,ys,rfl,rfl,Same.new hl2 _ _ (s2 _ _ gl),z6,le_trans (m:=128) (by omega) (by decide),fun l3 hl3=>?_⟩;have sn:=s2.trans ((Same.new (o:=.lst ys) hl2).trans (Same.new (o:=.lst (xs++ys)) hl3));refine⟨s.trans sn,by omega,l3,xs++ys,_,rfl,z6,(s.trans (s2.trans (Same.new hl2))).free hl3,?_⟩;rw[take_succ_eq_append_getElem hi,ez,vY];exact(h2.mv sn.tups).append (h3.mv ((Same.new hl2).trans (Same.new hl3)).tups)
  ·rintro σ' H' ⟨s,_,l,xs,v,rfl,gl,nl,h2⟩;rw[length_map,take_length]at h2;exact⟨_,rfl,k l xs H' gl h2 s nl⟩
def tW:List Str:=["rule"]
theorem rq:FnScope tW ["rule"] (z7 vz):=FS
inductive sp_choices_of(vs:List V)(H:Hp)(Q:VK)(E:XK):Prop
 |mk (a:Addr) (rs:List V):vs=[.ref a]->H a=some (.tup rs)->rs.length<=6->(∀(l:Addr)(xs:List V)(H':Hp),H' l=some (.lst xs)->All2 Tup1 H' (chG (upto rs.length)) xs->Same H H'->H l=none->Q (.ref l) H')->sp_choices_of vs H Q E
theorem xV(T:Txt P w K mg A):FnOk P w K mg base CX0 2 A.a38 A.f38 ["rule"] sp_choices_of:=by
 refine T.x38.F.ok rq (by walk_at "n") fun _ _ _ s H vs Q E hr h=>?_
 ·obtain⟨a,rs,rfl,ha,hln,k⟩:=h;refine⟨_,(z9 (zo (pcl (vO T) hr T.x37 (pa1 (zH (xt rfl) rfl T.w6 boot_list (pa1 (pe_rng1 rfl T.w9 (pa1 (zt zq rfl T.w5 PySem.boot_len (pa1 (pv 0))))))))))),?_⟩;refine⟨_,rfl,a,_,rfl,.inr (SqT.of ha),_,rfl,fun r hr'=>⟨r,_,rfl,z6,by omega,by omega,fun l hl=>?_⟩⟩;rw[toNat_natCast];refine⟨l,upto rs.length,rfl,z6,by rw[kI];exact hln,fun l2 xs H' gl h2 s nl=>?_⟩;exact k l2 xs H' gl h2 (((Same.new hr').trans (Same.new hl)).trans s) (((Same.new hr').trans (Same.new hl)).free nl)
def gh:List Str:=["heaps","seen","heap","part"]
theorem yR:FnScope gh ["heaps"] (z7 wO):=FS
inductive sp_unlike(vs:List V)(H:Hp)(Q:VK)(E:XK):Prop
 |mk (a:Addr) (o:HO) (xs:List V) (ls:List (List Int)):vs=[.ref a]->((o= .lst xs\/o= .tup xs))->H a=some o->All2 Tup1 H ls xs->((∃D:List Int,D.length<64/\ ∀x∈ls.flatten,x∈D)/\ls.flatten.length<1000)->(∀(l:Addr)(us:List Int)(H':Hp),H' l=some (.lst (us.map V.int))->us.Nodup->us.Pairwise (· >= ·)->(∀x,x∈us↔x∈ls.flatten)->us.length<64->Same H H'->H l=none->Q (.ref l) H')->sp_unlike vs H Q E
theorem ql(T:Txt P w K mg A):FnOk P w K mg base CX0 1 A.a39 A.f39 ["heaps"] sp_unlike:=by
 refine T.x39.F.ok yR (by walk_at "n") fun _ _ _ s H vs Q E hr h=>?_
 ·obtain⟨a,o,xs,ls,rfl,ho,ha,h2,⟨⟨D,hD,hDm⟩,hln⟩,k⟩:=h;refine⟨_,(z8 (pset 1 yR.nd re)
    (z8 (yu PassesOwn.never rfl (pi_or (yA (pv 0)) (kD (pv 0))) (pgn 2 yR.nd)
     (z9 (yu PassesOwn.never rfl (kD (pv 2)) (pgn 3 yR.nd)
     (z9 (cD (huR hr) (pv 1) (pv 3) cA rfl)))))
    (z9 (zo (pe_sortD rfl rfl T.w10 (pv 1)))))),?_⟩
  refine fun d hd=>?_;have hlc:∀i j (x:List Int),ls[i]? =some x->((ls.take i).flatten++x.take j).length<1000:=fun i j x hx=>by
   have hi:=(List.getElem?_eq_some_iff.mp hx).1;have ex:=(List.getElem?_eq_some_iff.mp hx).2;have e1:ls.flatten=(ls.take i).flatten++(x++(ls.drop (i+1)).flatten):=by
    conv=>lhs;rw[<-List.take_append_drop i ls]
    rw[List.flatten_append,drop_eq_getElem_cons hi,ex,flatten_cons]
   rw[e1]at hln;simp only[length_append,length_take]at hln ⊢;omega
  have hlen:=h2.length;refine for_seq (xs:=xs) ho rfl (Same.new hd _ _ ha) (fun i σ' H'=>SeenU H H' d (ls.take i).flatten/\ ∃v w,σ'=[some (.ref a),some (.ref d),v,w]) ⟨⟨⟨[],[],z6,rfl,.nil,le_refl _,fun x=>Iff.rfl⟩,Same.new hd,hd⟩,_,_,rfl⟩ ?_ ?_ ?_
  ·rintro i σ' H' _ ⟨S,_⟩;exact S.sm _ _ ha
  ·rintro i x σ' H' hx ⟨S,v,w',rfl⟩;obtain⟨hs,hhs,q,rfl,hq⟩:=h2.get hx;refine⟨_,rfl,q,rfl,⟨_,SqT.of (S.sm _ _ hq)⟩,uE (xs:=hs.map V.int) (fun j σ' H'=>SeenU H H' d ((ls.take i).flatten++hs.take j)/\ ∃w,σ'=[some (.ref a),some (.ref d),some (.ref q),w]) ⟨by rw[List.take_zero,append_nil];exact S,_,rfl⟩ ?_ ?_ ?_⟩
   ·rintro j σ' H2 _ ⟨S2,_⟩;exact SqT.of (S2.sm _ _ hq)
   ·rintro j x σ' H2 hx2 ⟨S2,w2,rfl⟩;obtain⟨z,hz,rfl⟩:=kU hx2;have hj:=(List.getElem?_eq_some_iff.mp hz).1;have ez:=(List.getElem?_eq_some_iff.mp hz).2;obtain⟨H3,hp,S3⟩:=S2.put (z:=z) (by have:=hlc i j hs hhs;omega);refine⟨_,rfl,_,rfl,d,H3,rfl,hp,?_,_,rfl⟩;rw[take_succ_eq_append_getElem hj,ez,<-append_assoc];exact S3
   ·rintro σ' H2 ⟨S2,w2,rfl⟩;rw[length_map,take_length]at S2;have hi:=(List.getElem?_eq_some_iff.mp hhs).1;have ez:=(List.getElem?_eq_some_iff.mp hhs).2;refine⟨?_,_,_,rfl⟩;rw[take_succ_eq_append_getElem hi,List.flatten_append,ez];simpa using S2
  ·rintro σ' H2 ⟨S2,v,w2,rfl⟩;rw[<-hlen,take_length]at S2;obtain⟨⟨kvs,ns,hd2,hk,hnd,hn,hm⟩,sm,nw⟩:=S2;have hlD:ns.length<=D.length:=m9 hnd fun x hx=>hDm x ((hm x).mp hx);refine⟨_,rfl,d,kvs,ns,rfl,hd2,hk,by omega,fun us l nd hperm hord hl=>?_⟩;exact k l us _ z6 (hperm.nodup_iff.mpr nd) hord (fun x=>by rw[hperm.mem_iff,hm]) (by rw[hperm.length_eq];omega) (Same.trans sm (Same.new hl)) (Same.free sm hl)
def bc:List Str:=["heaps","parts","part"]
theorem qM:FnScope bc ["heaps"] (z7 wF):=FS
inductive sp_joined(vs:List V)(H:Hp)(Q:VK)(E:XK):Prop
 |mk (a:Addr) (xs:List V) (ls:List (List Int)):vs=[.ref a]->H a=some (.lst xs)->All2 Tup1 H ls xs->((∃D:List Int,D.length<64/\ ∀x∈ls.flatten,x∈D)/\ls.flatten.length<1000)->ls.length<=60->(∀(p:Addr)(ms:List Int)(H':Hp),H' p=some (.tup (ms.map V.int))->jJ ls ms->ms.length<=100000->Same H H'->H p=none->Q (.ref p) H')->sp_joined vs H Q E
theorem ok_joined(T:Txt P w K mg A):FnOk P w K mg base CX0 2 A.a40 A.f40 ["heaps"] sp_joined:=by
 refine T.x40.F.ok qM (by walk_at "n") fun _ _ _ s H vs Q E hr h=>?_
 ·obtain⟨a,xs,ls,rfl,ha,h2,hln,hls,k⟩:=h;refine⟨_,(z8 (pset 1 qM.nd (jg kY))
    (z8 (yu PassesOwn.never rfl (yA (pcl (ql T) hr T.x39 (pa1 (pv 0)))) (pgn 2 qM.nd)
     (z9 (yB (kG PySem.F.plainAttrs_list PySem.F.slot_list_extend PySem.F.type_list_extend mt_extend (pv 1) (pa1 (zL op_rep (jg (pa1 (pv 2 (hv:=Or.inr (Or.inl rfl))))) (zt (xu rfl) rfl T.w7 boot_max (pa1 (zX (ls:=["heap"]) (fr:=[("part",2)]) (csf (z7 wF) bc) rfl (yA (pv 0)) (fun _ _ _ _=>pgc 0 (by decide+kernel) rfl rfl) (fun _ _ _ _=>yj) (fun _ _ _ _=>(yh (xW T) (hr.mono (by decide)) (glc (z7 wF)) T.x31.g T.x31.F.kp T.x31.b .nil wX (pa2 (pvc (z7 wF) 0) (pvc (z7 wF) 1)))))))))))))
    (z9 (zo (zH y9 rfl T.w13 boot_tuple (pa1 (pv 1))))))),?_⟩
  refine⟨by show 0<=sizeLine;decide,fun pa hpa=>?_⟩;have h2a:=h2.mv (Same.new (o:=.lst []) hpa).tups;refine⟨_,rfl,a,_,xs,ls,rfl,.inl rfl,Same.new hpa _ _ ha,h2a,hln,fun l us H1 hl nd pw hm hul s1 nl=>?_⟩;have s01:Same H H1:=(Same.new hpa).trans s1;have npl:pa≠l:=zr (z6 (H:=H) (a:=pa) (o:=.lst [])) nl;refine⟨l,rfl,⟨_,SqL.of hl⟩,wC (xs:=us.map V.int) (fun i σ' H'=>(∀b o,H1 b=some o->b≠pa->H' b=some o)/\H' pa=some (.lst ((blow (maxC ls) (us.take i)).map V.int))/\(blow (maxC ls) (us.take i)).length<=1000*i/\i<=64/\ ∃v,σ'=[some (.ref a),some (.ref pa),v]) ⟨fun _ _ h _=>h,s1 _ _ z6,le_refl _,zero_le _,_,rfl⟩ ?_ ?_ ?_⟩
  ·rintro i σ' H' _ ⟨kp,_⟩;exact SqL.of (kp _ _ hl npl.symm)
  ·rintro i x σ' H' hx ⟨kp,gp,hle,hi64,v,rfl⟩;obtain⟨z,hz,rfl⟩:=kU hx;have hi:=(List.getElem?_eq_some_iff.mp hz).1;have ez:=(List.getElem?_eq_some_iff.mp hz).2;have ha':H' a=some (.lst xs):=kp _ _ (s01 _ _ ha) (zr ha hpa);have t1:Tups H H':=fun b ys e=>kp _ _ (s01 _ _ e) (zr e hpa);have h2':=h2.mv t1;have zm:z∈ls.flatten:=(hm z).mp (mem_of_getElem? hz);refine⟨_,rfl,.inl ⟨rfl,_,SqL.of gp⟩,_,rfl,by show 1<=sizeLine;decide,fun l1 hl1=>?_⟩;have h2b:=h2'.mv (Same.new (o:=.lst [V.int z]) hl1).tups;have hab:=(Same.new (o:=.lst [V.int z]) hl1) _ _ ha';have gpb:=(Same.new (o:=.lst [V.int z]) hl1) _ _ gp;generalize hHb:upd H' l1 (.lst [V.int z])=Hb at h2b hab gpb;have gl1:Hb l1=some (.lst [V.int z]):=by rw[<-hHb];exact z6
   have sb:Same H' Hb:=by rw[<-hHb];exact Same.new hl1
   refine⟨_,rfl,a,rfl,⟨_,SqL.of hab⟩,kP (xs:=xs) (fun j ys σ' H'=>H'=Hb/\(∃v,σ'=[v,some (.int z)])/\ys=((ls.take j).map fun h=>((h.count z:Nat):Int)).map V.int) ⟨rfl,⟨_,rfl⟩,rfl⟩ ?_ ?_ ?_⟩
   ·rintro j ys σ' H'' hj ⟨rfl,_,rfl⟩;refine⟨SqL.of hab,?_⟩;rw[length_map,length_map,length_take];exact yS (by omega)
   ·rintro j x ys σ' H'' hx ⟨rfl,⟨v,rfl⟩,rfl⟩;obtain⟨hs,hhs,q,rfl,hq⟩:=h2b.get hx;have hj:=(List.getElem?_eq_some_iff.mp hhs).1;have eh:=(List.getElem?_eq_some_iff.mp hhs).2;refine⟨_,rfl,_,rfl,q,hs,z,rfl,hq,rfl,⟨_,rfl⟩,?_⟩;rw[take_succ_eq_append_getElem hj,map_append,map_append,eh];rfl
   ·rintro ys σ' Hb ⟨rfl,_,rfl⟩ l2 hl2;have elen:ls.take xs.length=ls:=by rw[<-h2.length,take_length]
    rw[elen];have hne:(ls.map fun h=>((h.count z:Nat):Int))≠[]:=fun e=>by
     have:ls=[]:=List.map_eq_nil_iff.mp e;rw[this]at zm;cases zm
    refine⟨l2,_,rfl,SqL.of z6,hne,fun m hmx=>?_⟩;have em:=xE hmx;have hM:maxC ls z<=1000:=by
     have h1:=pR ls z;have h2:=List.count_le_length (a:=z) (l:=ls.flatten);omega
    refine⟨l1,m,[V.int z],rfl,rfl,Same.new hl2 _ _ gl1,by omega,by omega,?_,fun l3 hl3=>?_⟩
    ·show 1*m.toNat<=sizeLine;refine le_trans (m:=1000) (by omega) (by decide)
    have er:(replicate m.toNat [V.int z]).flatten=(replicate (maxC ls z) z).map V.int:=by
     have:m.toNat=maxC ls z:=by omega
     rw[this];simp
    rw[er];have gp3:=(Same.new (o:=.lst ((replicate (maxC ls z) z).map V.int)) hl3) _ _ ((Same.new (o:=.lst ((ls.map fun h=>((h.count z:Nat):Int)).map V.int)) hl2) _ _ gpb);have sn:Same H' (upd (upd Hb l2 (.lst ((ls.map fun h=>((h.count z:Nat):Int)).map V.int))) l3 (.lst ((replicate (maxC ls z) z).map V.int))):=sb.trans ((Same.new hl2).trans (Same.new hl3));refine⟨pa,l3,_,_,rfl,rfl,gp3,z6,?_,?_⟩
    ·rw[length_map,length_map,List.length_replicate];refine le_trans (m:=1000*64+1000) ?_ (by decide);have:1000*i<=1000*64:=Nat.mul_le_mul_left _ hi64;omega
    ·have eb:blow (maxC ls) (us.take (i+1))=blow (maxC ls) (us.take i)++replicate (maxC ls z) z:=by
      rw[take_succ_eq_append_getElem hi,dm,ez];simp[blow]
     refine⟨fun b o e ne=>?_,?_,?_,by omega,_,rfl⟩
     ·rw[zh ne];exact sn _ _ (kp _ _ e ne)
     ·rw[z6,eb,map_append]
     ·rw[eb,length_append,List.length_replicate];omega
  ·rintro σ' H' ⟨kp,gp,hle,_,v,rfl⟩;rw[length_map,take_length]at gp hle;refine⟨_,rfl,pa,_,rfl,.inl ⟨SqL.of gp,fun p hp=>?_⟩⟩;have sH:Same H H':=fun b o e=>kp _ _ (s01 _ _ e) (zr e hpa);refine k p _ _ z6 (tm nd pw hm) (by omega) (sH.trans (Same.new hp)) (sH.free hp)
def pZ:List Str:=["rule","choice"]
theorem mV:FnScope pZ ["rule","choice"] (z7 j4):=FS
inductive sp_joined_of(vs:List V)(H:Hp)(Q:VK)(E:XK):Prop
 |mk (p c:Addr) (rs:List V) (rule:List (List Int)) (ch:List Int):vs=[.ref p,.ref c]->H p=some (.tup rs)->All2 Tup1 H rule rs->H c=some (.tup (ch.map V.int))->(((∃D:List Int,D.length<64/\ ∀x∈(yt rule ch).flatten,x∈D)/\(yt rule ch).flatten.length<1000)/\ch.length<=60)->(∀j∈ch,0<=j/\j<rule.length)->(∀(q:Addr)(ms:List Int)(H':Hp),H' q=some (.tup (ms.map V.int))->jJ (yt rule ch) ms->ms.length<=100000->Same H H'->H q=none->Q (.ref q) H')->sp_joined_of vs H Q E
theorem mr(T:Txt P w K mg A):FnOk P w K mg base CX0 3 A.a41 A.f41 ["rule","choice"] sp_joined_of:=by
 refine T.x41.F.ok mV (by walk_at "n") fun _ _ _ s H vs Q E hr h=>?_
 ·obtain⟨p,c,rs,rule,ch,rfl,hp,h2,hc,hln,hch,k⟩:=h;refine⟨_,(z9 (zo (pcl (ok_joined T) hr T.x40 (pa1 (zX (ls:=["number"]) (fr:=[("rule",0)]) (csf (z7 j4) pZ) rfl (kD (pv 1)) (fun _ _ _ _=>pgc 0 (by decide+kernel) rfl rfl) (fun _ _ _ _=>yj) (fun _ _ _ _=>(pix (ix_tupK K rfl) (pvc (z7 j4) 1) (pvc (z7 j4) 0)))))))),?_⟩;refine⟨_,rfl,c,rfl,⟨_,SqT.of hc⟩,je (xs:=ch.map V.int) (fun i ys σ' H'=>H'=H/\(∃v,σ'=[v,some (.ref p)])/\All2 Tup1 H (yt rule (ch.take i)) ys) ⟨rfl,⟨_,rfl⟩,.nil⟩ ?_ ?_ ?_⟩
  ·rintro i ys σ' H' hi ⟨rfl,_,h3⟩;refine⟨SqT.of hc,?_⟩;rw[<-h3.length];unfold yt;rw[length_map,length_take];exact yS (by omega)
  ·rintro i x ys σ' H' hx ⟨rfl,⟨v,rfl⟩,h3⟩;obtain⟨z,hz,rfl⟩:=kU hx;have hi:=(List.getElem?_eq_some_iff.mp hz).1;have ez:=(List.getElem?_eq_some_iff.mp hz).2;have hb:=hch z (mem_of_getElem? hz);obtain⟨w',hw,r⟩:=pick_at h2 hb.1 hb.2;refine⟨_,rfl,_,rfl,p,_,z,_,rfl,rfl,SqT.of hp,hw,rfl,⟨_,rfl⟩,?_⟩;rw[take_succ_eq_append_getElem hi,ez];unfold yt;rw[map_append];exact h3.snoc r
  ·rintro ys σ' H' ⟨rfl,_,h3⟩ l hl;rw[length_map,take_length]at h3;have hll:(yt rule ch).length<=60:=by unfold yt;rw[length_map];exact hln.2
   exact⟨l,ys,_,rfl,z6,h3.mv (Same.new hl).tups,hln.1,hll,fun q ms H2 gq hj hl4 s nq=>k q ms H2 gq hj hl4 ((Same.new hl).trans s) ((Same.new hl).free nq)⟩
def tZ:List Str:=["rule"]
theorem sc_sums_of:FnScope tZ ["rule"] (z7 km):=FS
def CS(z:List Int×Int)(v:V)(H:Hp):Prop:=∃ q c,v= .ref q/\H q=some (.tup [.ref c,.int z.2])/\H c=some (.tup (z.1.map V.int))
theorem CS.mv{H H':Hp}{z:List Int×Int}{v:V}(t:Tups H H'):CS z v H->CS z v H'
 |⟨q,c,e,h1,h2⟩=>⟨q,c,e,t _ _ h1,t _ _ h2⟩
inductive sp_sums_of(vs:List V)(H:Hp)(Q:VK)(E:XK):Prop
 |mk (p:Addr) (rs:List V) (rule:List (List Int)):vs=[.ref p]->H p=some (.tup rs)->All2 Tup1 H rule rs->rule.length<=6->RuleJ rule->(∀(l:Addr)(xs:List V)(H':Hp),H' l=some (.lst xs)->All2 CS H' ((chG (upto rule.length)).map fun c=>(c,sumX rule c)) xs->Same H H'->H l=none->Q (.ref l) H')->sp_sums_of vs H Q E
theorem gS(T:Txt P w K mg A):FnOk P w K mg base CX0 4 A.a42 A.f42 ["rule"] sp_sums_of:=by
 refine T.x42.F.ok sc_sums_of (by walk_at "n") fun _ _ _ s H vs Q E hr h=>?_
 ·obtain⟨p,rs,rule,rfl,hp,h2,h6,hJ,k⟩:=h;refine⟨_,(z9 (zo (zX (ls:=["choice"]) (fr:=[("rule",0)]) (csf (z7 km) tZ) rfl (yA (pcl (xV T) hr T.x38 (pa1 (pv 0 (hv:=Or.inr (Or.inl rfl)))))) (fun _ _ _ _=>pgc 0 (by decide+kernel) rfl rfl) (fun _ _ _ _=>yj) (fun _ _ _ _=>(zx (pa2 (pvc (z7 km) 0) (yh (ok_sum_of T) (hr.mono (by decide)) (glc (z7 km)) T.x36.g T.x36.F.kp T.x36.b .nil wX (pa1 (yh (mr T) (hr.mono (by decide)) (glc (z7 km)) T.x41.g T.x41.F.kp T.x41.b .nil wX (pa2 (pvc (z7 km) 1) (pvc (z7 km) 0))))))))))),?_⟩;have hrl:=h2.length;refine⟨_,rfl,p,rs,rfl,hp,by omega,fun cl cs H1 gc h4 s1 ncl=>?_⟩;rw[<-hrl]at h4;have hcl:=h4.length;have h64:(chG (upto rule.length)).length<=64:=by
   rw[pc _ _ (kI _)];exact le_trans (Nat.pow_le_pow_right (by decide) h6) (by decide)
  refine⟨cl,rfl,⟨_,SqL.of gc⟩,gC CS ((chG (upto rule.length)).map fun c=>(c,sumX rule c)) [some (.ref p)] (by rw[length_map];exact hcl) (le_trans (m:=64) (by omega) (by decide)) (fun _ _ _ _ s h=>h.mv s.tups) rfl gc (fun j x b H' P hx hb s' hP=>?_) (fun zs H2 l s2 a2 hl=>?_)⟩
  ·obtain⟨ch,hch,c,rfl,gcc⟩:=h4.get hx;rw[getElem?_map,hch]at hb;have s02:=s1.trans s';obtain⟨cm1,cm2⟩:=wU rule.length (upto rule.length) (kI _) ch (mem_of_getElem? hch);have chb:∀j∈ch,0<=j/\j<rule.length:=fun j hj=>by
    have:=p8 (cm2 j hj);omega
   refine⟨_,rfl,_,rfl,_,rfl,p,c,rs,rule,ch,rfl,s02 _ _ hp,h2.mv s02.tups,s' _ _ gcc,⟨hJ.pick (by omega),by omega⟩,chb,fun q ms H4 gq hj hl4 s4 nq=>?_⟩;have ej:=ba hj;refine⟨q,ms,rfl,SqT.of gq,by show 2<=sizeLine;decide,fun T1 hT1=>?_⟩;have s5:=Same.new (o:=.tup [V.ref c,V.int ms.sum]) hT1;refine hP _ _ (s4.trans s5) ?_;rw[<-Option.some.inj hb];refine⟨T1,c,rfl,?_,s5 _ _ (s4 _ _ (s' _ _ gcc))⟩;rw[z6];show _=some (HO.tup [V.ref c,V.int (sumX rule ch)]);unfold sumX;rw[ej]
  ·exact k l zs _ z6 (a2.imp fun _ _ h=>h.mv (Same.new hl).tups) (s1.trans (s2.trans (Same.new hl))) ((s1.trans s2).free hl)
def qZ:List Str:=["one","other","row","fellow"]
theorem jb:FnScope qZ ["one","other"] (z7 wN):=FS
def FU(one other:List (List Int))(v:V)(H:Hp):Prop:=(firstU one other=none/\v= .non)\/ ∃c t cc,firstU one other=some c/\v= .ref t/\H t=some (.tup [.ref cc,.int (sumX one c),.int (sumX other c)])/\H cc=some (.tup (c.map V.int))
theorem FU.mv{one other:List (List Int)}{H H':Hp}{v:V}(s:Tups H H'):FU one other v H->FU one other v H'
 | .inl h=>.inl h
 | .inr ⟨c,t,cc,e,ev,g1,g2⟩=>.inr ⟨c,t,cc,e,ev,s _ _ g1,s _ _ g2⟩
inductive sp_first_unlike(A:Adr)(vs:List V)(H:Hp)(Q:VK)(E:XK):Prop
 |mk (p q:Addr) (rs qs:List V) (one other:List (List Int)):vs=[.ref p,.ref q]->H p=some (.tup rs)->All2 Tup1 H one rs->H q=some (.tup qs)->All2 Tup1 H other qs->RuleJ one->RuleJ other->((one.length≠other.length->E (.ref A.w4) none H))->((one.length=other.length->one.length<=6/\ ∀v H',FU one other v H'->Same H H'->Q v H'))->sp_first_unlike A vs H Q E
theorem qk(T:Txt P w K mg A):FnOk P w K mg base (CX1 P w) 5 A.a43 A.f43 ["one","other"] (sp_first_unlike A):=by
 refine T.x43.F.okE jb (by walk_at "n") fun _ _ _ s H vs Q E hr h=>?_
 ·obtain⟨p,q,rs,qs,one,other,rfl,hp,h2,hq,g2,hJ,hJ2,kE,k⟩:=h;refine⟨_,(z8 (zC (zi op_ne (zt zq rfl T.w5 PySem.boot_len (pa1 (pv 0))) (zt zq rfl T.w5 PySem.boot_len (pa1 (pv 1))) (zu _))
     (z9 (yx rfl T.w34 rfl T.w26 (pa1 zj))) zk)
    (z8 (ps_ok fun ok=>yu (ownE ok) rfl (pi_zip false false rfl T.w14 (pa2 (pcl (gS T) hr T.x42 (pa1 (pv 0))) (pcl (gS T) hr T.x42 (pa1 (pv 1))))) (vv rfl (zR (pgn 2 jb.nd) (zR (pgn 3 jb.nd) jD)))
     (z9 (zC (zi op_ne (pix zI (pv 2) zc) (pix zI (pv 3) zc) (zu _))
     (z9 (zo (zx (pa3 (pix zI (pv 2) zc) (pix zI (pv 2) zc) (pix zI (pv 3) zc))))) zk)))
    (z9 (zo vt)))),?_⟩
  have hrl:=h2.length;have hql:=g2.length;refine⟨_,rfl,p,_,rfl,.inr (SqT.of hp),_,rfl,q,_,rfl,.inr (SqT.of hq),rfl,_,rfl,?_⟩;by_cases hl:one.length=other.length
  case neg =>
   refine iteT' (by rw[<-hrl,<-hql];simp;omega) ⟨by show 1<=sizeLine;decide,kE hl⟩
  obtain⟨h6,k⟩:=k hl;refine iteNS (by rw[<-hrl,<-hql,hl]) ?_;refine⟨_,rfl,p,rs,one,rfl,hp,h2,h6,hJ,fun l1 xs H1 gl1 a1 s1 _=>?_⟩;refine⟨_,rfl,q,qs,other,rfl,s1 _ _ hq,g2.mv s1.tups,by omega,hJ2,fun l2 ys H2 gl2 a2 s2 _=>?_⟩;rw[<-hl]at a2;have a1:=a1.imp (H':=H2) fun _ _ h=>h.mv s2.tups;have gl1:=s2 _ _ gl1;refine⟨l1,l2,rfl,⟨_,SqL.of gl1⟩,⟨_,SqL.of gl2⟩,for_zip (xs:=xs) (ys:=ys) (fun i σ' H'=>Same H2 H'/\(∃v w,σ'=[some (.ref p),some (.ref q),v,w])/\ ∀j c,j<i->(chG (upto one.length))[j]? =some c->sumX one c=sumX other c) ⟨Same.refl _,⟨_,_,rfl⟩,(fun j c h=>by omega)⟩ ?_ ?_ ?_⟩
  ·rintro i σ' H' _ ⟨s',_⟩;exact⟨SqL.of (s' _ _ gl1),SqL.of (s' _ _ gl2)⟩
  ·rintro i x y σ' H' T' hx hy ⟨s',⟨v,w',rfl⟩,hlt⟩ hT;obtain⟨z1,hz1,q1,c1,rfl,e1,f1⟩:=a1.get hx;obtain⟨z2,hz2,q2,c2,rfl,e2,f2⟩:=a2.get hy;rw[getElem?_map]at hz1 hz2;obtain⟨c,hc,ec1,ec2⟩:∃c,(chG (upto one.length))[i]? =some c/\z1=(c,sumX one c)/\z2=(c,sumX other c):=by
    cases hc:(chG (upto one.length))[i]? with
    |none=>rw[hc]at hz1;cases hz1
    |some c =>
     rw[hc]at hz1 hz2;exact⟨c,rfl,(Option.some.inj hz1).symm,(Option.some.inj hz2).symm⟩
   subst ec1;subst ec2;have sT:=Same.new (o:=.tup [V.ref q1,V.ref q2]) hT;have gT:=z6 (H:=H') (a:=T') (o:=.tup [V.ref q1,V.ref q2]);generalize upd H' T' (.tup [V.ref q1,V.ref q2])=H3 at sT gT;have e1':=sT _ _ (s' _ _ e1);have e2':=sT _ _ (s' _ _ e2);refine⟨T',_,rfl,SqT.of gT,rfl,_,_,rfl,_,_,rfl,rfl,?_⟩;refine⟨_,rfl,q1,_,_,_,rfl,rfl,SqT.of e1',zp (j:=1) rfl,_,rfl,q2,_,_,_,rfl,rfl,SqT.of e2',zp (j:=1) rfl,rfl,_,rfl,?_⟩;by_cases he:sumX one c=sumX other c
   ·refine iteNS (by rw[he]) ⟨s'.trans sT,⟨_,_,rfl⟩,fun j c' hj hc'=>?_⟩;by_cases hji:j<i
    ·exact hlt j c' hji hc'
    ·have:j=i:=by omega
     subst this;rw[hc]at hc';cases hc';exact he
   ·refine iteT' (by simpa using he) ?_;refine⟨_,rfl,q1,_,_,_,rfl,rfl,SqT.of e1',zp (j:=0) rfl,_,rfl,q1,_,_,_,rfl,rfl,SqT.of e1',zp (j:=1) rfl,_,rfl,q2,_,_,_,rfl,rfl,SqT.of e2',zp (j:=1) rfl,by show 3<=sizeLine;decide,fun t ht=>?_⟩;have s4:=sT.trans (Same.new (o:=.tup [V.ref c1,V.int (sumX one c),V.int (sumX other c)]) ht);refine k _ _ (.inr ⟨c,t,c1,?_,rfl,z6,s4 _ _ (s' _ _ f1)⟩) (s1.trans (s2.trans (s'.trans s4)));exact dI hc (decide_eq_true he) fun j b hj hb=>decide_eq_false (fun z=>z (hlt j b hj hb))
  ·rintro σ' H' ⟨s',⟨v,w',rfl⟩,hlt⟩;refine k _ H' (.inl ⟨find_no fun j b hb=>decide_eq_false (fun z=>z (hlt j b ?_ hb)),rfl⟩) (s1.trans (s2.trans s'));have:=(List.getElem?_eq_some_iff.mp hb).1;rw[<-a1.length,<-a2.length,length_map,length_map,Nat.min_self];exact this
def vm:List Str:=["standing","given","unlike","numbers","one","other"]
theorem yQ:FnScope vm ["standing","given"] (z7 ko):=FS
inductive sp_tell_match(A:Adr)(vs:List V)(H:Hp)(Q:VK)(E:XK):Prop
 |mk (d g:Addr) (kvs:List (Key×V)) (gs:List V) (S:Std) (n m:Str) (r1 r2:List (List Int)):vs=[.ref d,.ref g]->H d=some (.dK kvs)->StdV H S kvs->H g=some (.lst gs)->All2 ArgV H [.name n,.name m] gs->zG S n=some r1->zG S m=some r2->yo r1->yo r2->((r1.length≠r2.length-> ∀H',Same H H'->E (.ref A.w4) none H'))->((r1.length=r2.length-> ∀(H':Hp),Same H H'->Q (.str (pP r1 r2)) H'))->sp_tell_match A vs H Q E
theorem r6(T:Txt P w K mg A):FnOk P w K mg base (CX1 P w) 7 A.a44 A.f44 ["standing","given"] (sp_tell_match A):=by
 refine T.x44.F.okE yQ (by walk_at "n") fun _ _ _ s H vs Q E hr h=>?_
 ·obtain⟨d,g,kvs,gs,S,n,m,r1,r2,rfl,hd,sd,hg,ha,hl,hl2,hR,hR2,kE,k⟩:=h;refine⟨_,(z8 (pset 2 yQ.nd (yh (qk T) (hr.mono (by decide)) rfl T.x43.g T.x43.F.kp T.x43.b .nil uT (pa2 (yL (huR hr) (pv 0) (pix zy (pv 1) zc) (fun _ _=>rfl)) (yL (huR hr) (pv 0) (pix zy (pv 1) zc) (fun _ _=>rfl)))))
    (z8 (zC (zi bi (pv 2) vt (zu _))
     (z9 (zo zj)) zk)
    (z8 (pset 3 yQ.nd (kG PySem.F.plainAttrs_str PySem.F.slot_str_join PySem.F.type_str_join jC zj (pa1 (zX (ls:=["number"]) (fr:=[]) (csf (z7 ko) vm) rfl (kD (pix zI (pv 2) zc)) (fun _ _ _ _=>pgc 0 (by decide+kernel) rfl rfl) (fun _ _ _ _=>yj) (fun _ _ _ _=>(zH jd (glc (z7 ko)) T.w11 boot_str (pa1 (pvc (z7 ko) 0))))))))
    (z8 (pset 4 yQ.nd (pix zI (pv 2) zc))
    (z8 (pset 5 yQ.nd (pix zI (pv 2) zc))
    (z9 (zo (rg (kj (jh (pv 3) (kj (jh (pv 4) (kj (jh (pv 5) uj)))))))))))))),?_⟩
  cases ha with
  |cons h1 ha =>
   cases ha with
   |cons h2 ha =>
    cases ha;cases h1;cases h2;rcases sd.val n with⟨e1,_⟩|⟨r',v,e1,e2,p,xs,rfl,gp,a2⟩
    ·rw[hl]at e1;cases e1
    rw[hl]at e1;cases e1;rcases sd.val m with⟨e1,_⟩|⟨r',v,e1,e2',p2,xs2,rfl,gp2,a22⟩
    ·rw[hl2]at e1;cases e1
    rw[hl2]at e1;cases e1;have dg:=DGet.k (k:=Sum.inr n) hd;rw[e2]at dg;have dg2:=DGet.k (k:=Sum.inr m) hd;rw[e2']at dg2;refine⟨_,rfl,_,rfl,g,_,0,_,rfl,rfl,SqL.of hg,zp (j:=0) rfl,d,_,rfl,dg,_,rfl,_,rfl,g,_,1,_,rfl,rfl,SqL.of hg,zp (j:=1) rfl,d,_,rfl,dg2,p,p2,xs,xs2,r1,r2,rfl,gp,a2,gp2,a22,hR.J,hR2.J,fun z=>kE z _ (Same.refl _),fun z=>⟨hR.1,fun v H1 hv s1=>?_⟩⟩;have hk:=k z;unfold pP at hk;rcases hv with⟨e,rfl⟩|⟨c,t,cc,e,rfl,g1,g2⟩
    ·rw[e]at hk;exact⟨_,rfl,rfl,_,rfl,iteT (hk H1 s1)⟩
    rw[e]at hk;obtain⟨cl,cm⟩:=wU r1.length (upto r1.length) (kI _) c (List.mem_of_find?_eq_some e);have cl6:c.length<=6:=le_trans cl hR.1;have cb:∀z∈c,0<=z/\z<6:=fun z hz=>by have:=p8 (cm z hz);have:=hR.1;omega
    have s1b:=hR.sum cl6;have s2b:=hR2.sum cl6;refine⟨_,rfl,rfl,_,rfl,iteF ?_⟩;refine⟨rfl,_,rfl,t,_,0,_,rfl,rfl,SqT.of g1,zp (j:=0) rfl,cc,rfl,⟨_,SqT.of g2⟩,je (xs:=c.map V.int) (fun i ys σ' H'=>H'=H1/\(∃v,σ'=[v])/\ys=((c.take i).map numS).map V.str) ⟨rfl,⟨_,rfl⟩,rfl⟩ ?_ ?_ ?_⟩
    ·rintro i ys σ' H' hi ⟨rfl,_,rfl⟩;refine⟨SqT.of g2,?_⟩;rw[length_map,length_map,length_take];exact le_trans (Nat.min_le_right _ _) (le_trans cl6 (by decide))
    ·rintro i x ys σ' H' hx ⟨rfl,⟨v,rfl⟩,rfl⟩;obtain⟨z,hz,rfl⟩:=kU hx;have h1:=cb z (mem_of_getElem? hz);have hi:=(List.getElem?_eq_some_iff.mp hz).1;have ez:=(List.getElem?_eq_some_iff.mp hz).2;refine⟨_,rfl,z,rfl,vd h1.1 (by omega),rfl,⟨_,rfl⟩,?_⟩;rw[take_succ_eq_append_getElem hi,ez];simp[numS]
    ·rintro ys σ' H' ⟨rfl,_,rfl⟩ l hl0;rw[length_map,take_length];have hw:=qh cl6 cb;refine⟨_,l,c.map numS,rfl,rfl,SqL.of z6,?_,?_⟩
     ·rw[show(Str.ofString " ").length=1 by decide+kernel,length_map];exact le_trans hw (by decide)
     have s2:=s1.trans (Same.new (o:=.lst ((c.map numS).map V.str)) hl0);have g1':=Same.new (o:=.lst ((c.map numS).map V.str)) hl0 _ _ g1;refine⟨_,rfl,t,_,1,_,rfl,rfl,SqT.of g1',zp (j:=1) rfl,_,rfl,t,_,2,_,rfl,rfl,SqT.of g1',zp (j:=2) rfl,?_⟩;obtain⟨q1,q2,q3,q4⟩:=gR cl6 cb s1b s2b;unfold m7 at q4;simp only[zO]at q4;have big:∀n:Nat,n<=300->n<=sizeLine:=fun n h=>le_trans h (by decide);refine⟨?_,_,rfl,_,.inr rfl,big _ (by omega),?_,?_,_,rfl,numS (sumX r1 c),.inl ⟨_,rfl,vd s1b.1 s1b.2,rfl⟩,big _ (by omega),?_,?_,_,rfl,numS (sumX r2 c),.inl ⟨_,rfl,vd s2b.1 s2b.2,rfl⟩,big _ (by omega),?_,?_,?_⟩
     all_goals (try rw[zD])
     all_goals first|exact hk _ s2|exact big _ (by omega)|(simp only[zO];exact big _ (by omega))
def n_put_new:List Str:=["standing","given"]
theorem sc_put_new:FnScope n_put_new ["standing","given"] (z7 mQ):=FS
def uz(A:Adr)(R:Std->List DArg->Str->List (List Int)->Prop)(F B:Std->List DArg->Prop):Sp:=fun vs H Q E=>∃(d g:Addr)(kvs:List (Key×V))(gs:List V)(S:Std)(as:List DArg),vs=[.ref d,.ref g]/\H d=some (.dK kvs)/\StdV H S kvs/\H g=some (.lst gs)/\All2 ArgV H as gs/\
 ((∃n r,R S as n r/\ ∀(t:Addr)(v:V)(H':Hp),H' t=some (.tup [.str n,v])->wT r v H'->Same H H'->Q (.ref t) H')\/(F S as/\ ∀H',Same H H'->E (.ref A.w2) none H')\/(B S as/\ ∀H',Same H H'->E (.ref A.w3) none H'))
theorem ok_put_new(T:Txt P w K mg A):FnOk P w K mg base (CX1 P w) 3 A.a45 A.f45 ["standing","given"] (uz A PNew PNo PNo):=by
 refine T.x45.F.okE sc_put_new (by walk_at "n") fun _ _ _ s H vs Q E hr h=>?_
 ·obtain⟨d,g,kvs,gs,S,as,rfl,hd,hS,hg,ha,h⟩:=h;refine⟨_,(z9 (zo (zx (pa2 (pix zy (pv 1) zc) (pix zy (pv 1) zc))))),?_⟩;rcases h with⟨n,r,e,k⟩|⟨e,_⟩|⟨e,_⟩
  case inr.inl=>exact False.elim e
  case inr.inr=>exact False.elim e
  unfold PNew at e;subst e;cases ha with
  |cons h1 ha =>
   cases ha with
   |cons h2 ha =>
    cases ha;cases h1;refine⟨_,rfl,g,_,0,_,rfl,rfl,SqL.of hg,zp (j:=0) rfl,_,rfl,g,_,1,_,rfl,rfl,SqL.of hg,zp (j:=1) rfl,by show 2<=sizeLine;decide,fun t ht=>?_⟩;exact k t _ _ z6 (wT.mv (Same.new ht).tups h2) (Same.new ht)
def tX:List Str:=["standing","given"]
theorem rA:FnScope tX ["standing","given"] (z7 vA):=FS
theorem xX(T:Txt P w K mg A):FnOk P w K mg base (CX1 P w) 3 A.a46 A.f46 ["standing","given"] (uz A PCopy PNo PNo):=by
 refine T.x46.F.okE rA (by walk_at "n") fun _ _ _ s H vs Q E hr h=>?_
 ·obtain⟨d,g,kvs,gs,S,as,rfl,hd,hS,hg,ha,h⟩:=h;refine⟨_,(z9 (zo (zx (pa2 (pix zy (pv 1) zc) (yL (huR hr) (pv 0) (pix zy (pv 1) zc) (fun _ _=>rfl)))))),?_⟩;rcases h with⟨n,r,⟨a,rfl,hl⟩,k⟩|⟨e,_⟩|⟨e,_⟩
  case inr.inl=>exact False.elim e
  case inr.inr=>exact False.elim e
  cases ha with
  |cons h1 ha =>
   cases ha with
   |cons h2 ha =>
    cases ha;cases h1;cases h2;rcases hS.val a with⟨e1,_⟩|⟨r',v,e1,e2,hr0⟩
    ·rw[hl]at e1;cases e1
    rw[hl]at e1;cases e1;refine⟨_,rfl,g,_,1,_,rfl,rfl,SqL.of hg,zp (j:=1) rfl,_,rfl,_,rfl,g,_,0,_,rfl,rfl,SqL.of hg,zp (j:=0) rfl,d,v,rfl,(by have:=DGet.k (k:=Sum.inr a) hd;rw[e2]at this;exact this),by show 2<=sizeLine;decide,fun t ht=>?_⟩;have s:=Same.new (o:=.tup [V.str n,v]) ht;exact k t _ _ z6 (hr0.mv s.tups) s
def cg:List Str:=["standing","given","rule"]
theorem vF:FnScope cg ["standing","given"] (z7 qH):=FS
theorem mw(T:Txt P w K mg A):FnOk P w K mg base (CX1 P w) 3 A.a47 A.f47 ["standing","given"] (uz A PAdd dc PNo):=by
 refine T.x47.F.okE vF (by walk_at "n") fun _ _ _ s H vs Q E hr h=>?_
 ·obtain⟨d,g,kvs,gs,S,as,rfl,hd,hS,hg,ha,h⟩:=h;refine⟨_,(z8 (pset 2 vF.nd (yL (huR hr) (pv 0) (pix zy (pv 1) zc) (fun _ _=>rfl)))
    (z8 (zC (zi op_ge (zt zq rfl T.w5 PySem.boot_len (pa1 (pv 2))) (yz (v:=.int 6) rfl T.w16.choose_spec ⟨_,rfl⟩) (zu _))
     (z9 (yx rfl T.w32 rfl T.w24 (pa1 zj))) zk)
    (z9 (zo (zx (pa2 (pix zy (pv 1) zc) (zL qm (pv 2) (zx (pa1 (pix zy (pv 1) zc)))))))))),?_⟩
  have look:∀n r,zG S n=some r-> ∃p xs,DGet H d (.str n) (some (.ref p))/\H p=some (.tup xs)/\All2 Tup1 H r xs:=fun n r hl=>by
   rcases hS.val n with⟨e1,_⟩|⟨r',v,e1,e2,p,xs,rfl,h1,h2⟩
   ·rw[hl]at e1;cases e1
   ·rw[hl]at e1;cases e1;have:=DGet.k (k:=Sum.inr n) hd;rw[e2]at this;exact⟨p,xs,this,h1,h2⟩
  have open2:∀n h0,as=[.name n,.heap h0]-> ∃q,gs=[.str n,.ref q]/\H q=some (.tup (h0.map V.int)):=fun n h0 e=>by
   subst e;cases ha with
   |cons h1 ha =>
    cases ha with
    |cons h2 ha =>
     cases ha;cases h1;obtain⟨q,rfl,gq⟩:=h2;exact⟨q,rfl,gq⟩
  rcases h with⟨n,r,⟨h0,r0,e0,hl,l6,rfl⟩,k⟩|⟨⟨n,h0,r0,e0,hl,l6⟩,k⟩|⟨e,_⟩
  case inr.inr=>exact False.elim e
  ·obtain⟨q,rfl,gq⟩:=open2 n h0 e0;obtain⟨p,xs,dg,gp,a2⟩:=look n r0 hl;have xl:=a2.length;refine⟨_,rfl,_,rfl,g,_,0,_,rfl,rfl,SqL.of hg,zp (j:=0) rfl,d,_,rfl,dg,?_⟩;refine⟨_,rfl,p,_,rfl,.inr (SqT.of gp),_,_,rfl,rfl,_,rfl,?_⟩;refine ite2 (fun z=>absurd (of_decide_eq_true z) (by omega)) (fun _=>?_);refine⟨_,rfl,g,_,0,_,rfl,rfl,SqL.of hg,zp (j:=0) rfl,_,rfl,_,rfl,g,_,1,_,rfl,rfl,SqL.of hg,zp (j:=1) rfl,by show 1<=sizeLine;decide,fun t1 ht1=>?_⟩;have s1:=Same.new (o:=.tup [V.ref q]) ht1;refine dcatG (s1 _ _ gp) z6 (le_trans (m:=7) (by simp;omega) (by decide)) fun p2 H2 gp2 s2=>⟨by show 2<=sizeLine;decide,fun t ht=>?_⟩;have s3:=Same.new (o:=.tup [V.str n,V.ref p2]) ht;have s:=s1.trans (s2.trans s3);exact k t _ _ z6 ⟨p2,_,rfl,s3 _ _ gp2,(a2.mv s.tups).snoc ⟨q,rfl,s _ _ gq⟩⟩ s
  ·obtain⟨q,rfl,gq⟩:=open2 n h0 e0;obtain⟨p,xs,dg,gp,a2⟩:=look n r0 hl;have xl:=a2.length;refine⟨_,rfl,_,rfl,g,_,0,_,rfl,rfl,SqL.of hg,zp (j:=0) rfl,d,_,rfl,dg,?_⟩;refine⟨_,rfl,p,_,rfl,.inr (SqT.of gp),_,_,rfl,rfl,_,rfl,?_⟩;exact ite2 (fun _=>⟨by show 1<=sizeLine;decide,k _ (Same.refl _)⟩) (fun z=>absurd (decide_eq_true (by omega)) z)
def ci:List Str:=["standing","given","rule","number"]
theorem wx:FnScope ci ["standing","given"] (z7 qI):=FS
theorem mz(T:Txt P w K mg A):FnOk P w K mg base (CX1 P w) 3 A.a48 A.f48 ["standing","given"] (uz A PTake PNo wS):=by
 refine T.x48.F.okE wx (by walk_at "n") fun _ _ _ s H vs Q E hr h=>?_
 ·obtain⟨d,g,kvs,gs,S,as,rfl,hd,hS,hg,ha,h⟩:=h;refine⟨_,(z8 (pset 2 wx.nd (yL (huR hr) (pv 0) (pix zy (pv 1) zc) (fun _ _=>rfl)))
    (z8 (pset 3 wx.nd (pix zy (pv 1) zc))
    (z8 (zC (zi op_ge (pv 3) (zt zq rfl T.w5 PySem.boot_len (pa1 (pv 2))) (zu _))
     (z9 (yx rfl T.w31 rfl T.w25 (pa1 zj))) zk)
    (z9 (zo (zx (pa2 (pix zy (pv 1) zc) (zL qm (yM rF (pv 2) kZ (j0 (pv 3))) (yM rF (pv 2) (j0 (zL kA (pv 3) zc)) kZ))))))))),?_⟩
  have look:∀n r,zG S n=some r-> ∃p xs,DGet H d (.str n) (some (.ref p))/\H p=some (.tup xs)/\All2 Tup1 H r xs:=fun n r hl=>by
   rcases hS.val n with⟨e1,_⟩|⟨r',v,e1,e2,p,xs,rfl,h1,h2⟩
   ·rw[hl]at e1;cases e1
   ·rw[hl]at e1;cases e1;have:=DGet.k (k:=Sum.inr n) hd;rw[e2]at this;exact⟨p,xs,this,h1,h2⟩
  have open2:∀n (m:Nat),as=[.name n,.num (m:Int)]->gs=[.str n,.int m]:=fun n h0 e=>by
   subst e;cases ha with
   |cons h1 ha =>
    cases ha with
    |cons h2 ha =>
     cases ha;cases h1;cases h2;rfl
  rcases h with⟨n,r,⟨m,r0,e0,hl,l6,l1000,rfl⟩,k⟩|⟨e,_⟩|⟨⟨n,m,r0,e0,hl,l6⟩,k⟩
  case inr.inl=>exact False.elim e
  ·obtain rfl:=open2 n m e0;obtain⟨p,xs,dg,gp,a2⟩:=look n r0 hl;have xl:=a2.length;refine⟨_,rfl,_,rfl,g,_,0,_,rfl,rfl,SqL.of hg,zp (j:=0) rfl,d,_,rfl,dg,?_⟩;refine⟨_,rfl,g,_,1,_,rfl,rfl,SqL.of hg,zp (j:=1) rfl,?_⟩;refine⟨_,rfl,_,rfl,p,_,rfl,.inr (SqT.of gp),_,_,rfl,rfl,_,rfl,?_⟩;refine ite2 (fun z=>absurd (of_decide_eq_true z) (by omega)) (fun _=>?_);refine⟨_,rfl,g,_,0,_,rfl,rfl,SqL.of hg,zp (j:=0) rfl,_,rfl,?_⟩;dsimp only[jp,tNil];refine⟨_,rfl,_,rfl,xA gp fun p1 H1 g1 s1=>?_⟩;refine⟨_,rfl,_,rfl,_,_,rfl,rfl,_,rfl,?_⟩;dsimp only[jp,tNil];refine xA (s1 _ _ gp) fun p2 H2 g2 s2=>?_;refine dcatG (s2 _ _ g1) g2 ?_ fun p3 H3 g3 s3=>⟨by show 2<=sizeLine;decide,fun t ht=>?_⟩
   ·rw[<-length_append,wB xs m (by omega)];rw[List.length_eraseIdx];split <;>exact le_trans (m:=1000) (by omega) (by decide)
   rw[wB xs m (by omega)]at g3;have s4:=Same.new (o:=.tup [V.str n,V.ref p3]) ht;have s:=s1.trans (s2.trans (s3.trans s4));exact k t _ _ z6 ⟨p3,_,rfl,s4 _ _ g3,(a2.mv s.tups).erase m⟩ s
  ·obtain rfl:=open2 n m e0;obtain⟨p,xs,dg,gp,a2⟩:=look n r0 hl;have xl:=a2.length;refine⟨_,rfl,_,rfl,g,_,0,_,rfl,rfl,SqL.of hg,zp (j:=0) rfl,d,_,rfl,dg,?_⟩;refine⟨_,rfl,g,_,1,_,rfl,rfl,SqL.of hg,zp (j:=1) rfl,?_⟩;refine⟨_,rfl,_,rfl,p,_,rfl,.inr (SqT.of gp),_,_,rfl,rfl,_,rfl,?_⟩;exact ite2 (fun _=>⟨by show 1<=sizeLine;decide,k _ (Same.refl _)⟩) (fun z=>absurd (decide_eq_true (by omega)) z)
def dX:List Str:=["self","line","said","word","given","named"]
theorem kq:FnScope dX ["self","line"] (z7 qB):=FS
def G_ASKS(A:Adr)(f:Addr)(sp:Sp):Prop:=(f=A.a24/\sp=sp_tell_names)\/(f=A.a30/\sp=sp_tell_rule)\/(f=A.a35/\sp=sp_tell_keeps)\/(f=A.a44/\sp=sp_tell_match A)
def G_PUTS(A:Adr)(f:Addr)(sp:Sp):Prop:=(f=A.a45/\sp=uz A PNew PNo PNo)\/(f=A.a47/\sp=uz A PAdd dc PNo)\/(f=A.a48/\sp=uz A PTake PNo wS)\/(f=A.a46/\sp=uz A PCopy PNo PNo)
def TAsk(A:Adr)(S:Std)(wd:Str)(as:List DArg)(H:Hp)(Q:VK)(E:XK):Prop :=
 (wd=Str.ofString "names"/\as=[]/\u0 S/\ ∀t H',yi (S.map (·.1)) t->Same H H'->Q (.str t) H')\/
 (wd=Str.ofString "show"/\ ∃n r,as=[.name n]/\zG S n=some r/\rQ r/\ ∀H',Same H H'->Q (.str (rtxt r)) H')\/
 (wd=Str.ofString "keeps"/\ ∃(n:Str)(r:List (List Int))(h:List Int),as=[.name n,.heap h]/\zG S n=some r/\r.length<=60/\ ∀H',Same H H'->Q (.str (keepT r h)) H')\/
 (wd=Str.ofString "match"/\ ∃(n m:Str)(r r2:List (List Int)),as=[.name n,.name m]/\zG S n=some r/\zG S m=some r2/\yo r/\yo r2/\(r.length≠r2.length-> ∀H',Same H H'->E (.ref A.w4) none H')/\(r.length=r2.length-> ∀H',Same H H'->Q (.str (pP r r2)) H'))
inductive sp_tell(A:Adr)(vs:List V)(H:Hp)(Q:VK)(E:XK):Prop
 |mk (x:Addr) (z:Str) (O:List Addr) (S:Std) (past und:List Std) (wd:Str) (as:List DArg):vs=[.ref x,.str z]->z.length<=100000->DeskAt A.w8 H x O S past und->vP z=some (wd,as)->S.length<=50->past.length<=1000->und.length<=1000->((TAsk A S wd as H Q E\/
  (∃n r,PutOf S wd as n r/\rQ r/\ ∀(H':Hp)(O':List Addr),After A.w8 H H' x O O' (putS S n r) (past++[S]) []->Q (.str (rtxt r)) H')\/
  (∃S' past' und',cR S past und wd as S' past' und'/\u0 S'/\S'.length<64/\ ∀t (H':Hp) (O':List Addr),yi (S'.map (·.1)) t->After A.w8 H H' x O O' S' past' und'->Q (.str t) H')\/
  (∃form n,y0 wd=some form/\zw S form as=some n/\ ∀(dx:Addr)(H':Hp),H' dx=some (.xd [("name",.str n)])->Same H H'->E (.ref A.w6) (some dx) H')\/
  (wd=Str.ofString "add"/\dc S as/\ ∀H',Same H H'->E (.ref A.w2) none H')\/
  (wd=Str.ofString "take"/\wS S as/\ ∀H',Same H H'->E (.ref A.w3) none H')\/
  (wd=Str.ofString "undo"/\as=[]/\past=[]/\ ∀H',Same H H'->E (.ref A.w7) none H')\/
  (wd=Str.ofString "again"/\as=[]/\und=[]/\ ∀H',Same H H'->E (.ref A.w7) none H')))->sp_tell A vs H Q E
theorem mf(T:Txt P w K mg A):FnOk P w K mg base (CX1 P w) 30 A.a49 A.f49 ["self","line"] (sp_tell A):=by
 refine T.x49.F.okE kq (by walk_at "n") fun _ _ _ s H vs Q E hr h=>?_
 ·obtain⟨x,z,O,S,past,und,wd,as,rfl,hz,D,hR,l50,lp,lu,h⟩:=h;refine⟨_,(z8 (pset 2 kq.nd (pcl (mB T) hr T.x21 (pa1 (pv 1))))
    (z8 (pset 3 kq.nd (pix zI (pv 2) zc))
    (z8 (pset 4 kq.nd (pix zI (pv 2) zc))
    (z8 (yB (yh (uh T) (hr.mono (by decide)) rfl T.x23.g T.x23.F.kp T.x23.b .nil uT (pa3 (kB (pv 0) rfl) (pv 3) (pv 4))))
    (z8 (zC (zi op_inKD (pv 3) (yz (v:=.ref A.w11) rfl T.w68 rfl) rfl)
     (z9 (zo (bj (G:=G_ASKS A) (E:=E) (fun f sp g=>by rcases g with⟨rfl,rfl⟩|⟨rfl,rfl⟩|⟨rfl,rfl⟩|⟨rfl,rfl⟩ <;>first|exact CallsOk.of (ui T) (hr.mono (by decide)) T.x24.F.kp T.x24.b pass0A|exact CallsOk.of (mE T) (hr.mono (by decide)) T.x30.F.kp T.x30.b pass0A|exact CallsOk.of (xZ T) (hr.mono (by decide)) T.x35.F.kp T.x35.b pass0A|exact CallsOk.of (r6 T) (hr.mono (by decide)) T.x44.F.kp T.x44.b uT) (p7 (yz (v:=.ref A.w11) rfl T.w68 rfl) (pv 3) (fun _ _=>rfl)) (pa2 (kB (pv 0) rfl) (pv 4)) (fun h=>Call_ h)))) zk)
    (z8 (zC (zi op_inKD (pv 3) (yz (v:=.ref A.w10) rfl T.w67 rfl) rfl)
     (z8 (pset 5 kq.nd (bj (G:=G_PUTS A) (E:=E) (fun f sp g=>by rcases g with⟨rfl,rfl⟩|⟨rfl,rfl⟩|⟨rfl,rfl⟩|⟨rfl,rfl⟩ <;>first|exact CallsOk.of (ok_put_new T) (hr.mono (by decide)) T.x45.F.kp T.x45.b uT|exact CallsOk.of (mw T) (hr.mono (by decide)) T.x47.F.kp T.x47.b uT|exact CallsOk.of (mz T) (hr.mono (by decide)) T.x48.F.kp T.x48.b uT|exact CallsOk.of (xX T) (hr.mono (by decide)) T.x46.F.kp T.x46.b uT) (p7 (yz (v:=.ref A.w10) rfl T.w67 rfl) (pv 3) (fun _ _=>rfl)) (pa2 (kB (pv 0) rfl) (pv 4)) (fun h=>Call_ h)))
    (z8 (yB (rh (pv 0) T.w58 T.x26.mt (gj T) (hr.mono (by decide)) T.x26.b .nil wX (pa2 (pix zI (pv 5) zc) (pix zI (pv 5) zc))))
    (z9 (zo (pcl (vp T) hr T.x13 (pa1 (pix zI (pv 5) zc))))))) zk)
    (z8 (zC (zi zZ (pv 3) zj (zu _))
     (z9 (yB (rh (pv 0) T.w58 T.x27.mt (qi T) (hr.mono (by decide)) T.x27.b .nil wX (pa1 (pix zy (pv 4) zc))))) (z9 (zC (zi zZ (pv 3) zj (zu _))
     (z9 (yB (bo (pv 0) T.w58 T.x28.mt (qj T) (hr.mono (by decide)) T.x28.b .nil uT))) (z9 (yB (bo (pv 0) T.w58 T.x29.mt (vM T) (hr.mono (by decide)) T.x29.b .nil uT))))))
    (z9 (zo (pcl (ui T) hr T.x24 (pa2 (kB (pv 0) rfl) (pv 4)))))))))))),?_⟩
  obtain⟨form,_,hf,_⟩:=qu hR;obtain⟨ln,nms⟩:=cG hR hf;refine cut4 fun nxt hnt=>?_;refine⟨_,rfl,z,wd,as,rfl,hz,hR,fun t g gs H1 gt gg ga s1=>?_⟩;refine⟨_,rfl,t,_,0,_,rfl,rfl,SqT.of gt,zp (j:=0) rfl,?_⟩;refine⟨_,rfl,t,_,1,_,rfl,rfl,SqT.of gt,zp (j:=1) rfl,?_⟩;obtain⟨mx,al,dx,d,pl,ul,xs,ys,hx,⟨_,kvs,ed,md,hd,sd⟩,hp,ap,hu,au,mp,mu,npu⟩:=D.same s1;cases ed;refine⟨_,rfl,x,A.w8,dx,_,_,rfl,hx,T.w58,T.w61,rfl,_,rfl,_,rfl,d,g,kvs,gs,S,wd,form,as,rfl,hd,sd,hf,gg,ga,ln,nms,?_⟩;have nl:(∃n,zw S form as=some n/\ ∀(dx:Addr)(H':Hp),H' dx=some (.xd [("name",.str n)])->Same H H'->E (.ref A.w6) (some dx) H')\/zw S form as=none:=by
   rcases h with(⟨rfl,rfl,_⟩|⟨rfl,n,r,rfl,hl,_⟩|⟨rfl,n,r,h1,rfl,hl,hb,k⟩|⟨rfl,n,m,r,r2,rfl,hl,hl2,hR,hR2,kE,k⟩)|⟨n,r,hp,_⟩|⟨S',p',u',hm,_⟩|⟨form',n,hf',hn,k⟩|⟨rfl,⟨n,h0,r0,rfl,hl,_⟩,_⟩|⟨rfl,⟨n,h0,r0,rfl,hl,_⟩,_⟩|⟨rfl,rfl,_⟩|⟨rfl,rfl,_⟩
   ·rw[gK]at hf;cases hf;exact .inr rfl
   ·rw[pC]at hf;cases hf;exact .inr (by rw[kW _ _ _ hl,m5])
   ·rw[uG]at hf;cases hf;exact .inr (by rw[kW _ _ _ hl];simp[zw])
   ·rw[wE]at hf;cases hf;exact .inr (by rw[kW _ _ _ hl,kW _ _ _ hl2,m5])
   ·exact .inr (nl_put hp hf)
   ·exact .inr (nl_move hm hf)
   ·rw[hf]at hf';cases hf';exact .inl ⟨n,hn,k⟩
   ·rw[vZ]at hf;cases hf;exact .inr (by rw[kW _ _ _ hl];simp[zw])
   ·rw[u8]at hf;cases hf;exact .inr (by rw[kW _ _ _ hl];simp[zw])
   ·rw[u9]at hf;cases hf;exact .inr rfl
   ·rw[wD]at hf;cases hf;exact .inr rfl
  rcases nl with⟨n,hn,kn⟩|hn
  ·exact .inr ⟨n,hn,fun dx H' hx' s'=>kn dx H' hx' (s1.trans s')⟩
  refine .inl ⟨hn,fun H2 s2=>?_⟩;dsimp only;subst hnt;refine cut1 fun nxt hnt=>?_;have s12:=s1.trans s2;have D2:=D.same s12;obtain⟨wsA,kdA,keysA,fsA⟩:=T.w71;obtain⟨wsP,kdP,keysP,fsP⟩:=T.w70;have hx2:=s2 _ _ hx;have hd2:=s2 _ _ hd;have sd2:=sd.mv s2.tups;have gg2:=s2 _ _ gg;have ga2:All2 ArgV H2 as gs:=ga.imp fun _ _ z=>z.mv s2.tups;refine⟨_,rfl,_,wsA,wd,rfl,rfl,kdA,_,rfl,?_⟩;rw[vJ keysA];by_cases hA:wd∈xp
  ·rw[decide_eq_true hA];refine iteT ?_;have hT:TAsk A S wd as H Q E:=by
    rcases h with hT|⟨n,r,hp,_⟩|⟨S',p',u',hm,_⟩|⟨form',n,hf',hn',k⟩|⟨rfl,_⟩|⟨rfl,_⟩|⟨rfl,_⟩|⟨rfl,_⟩
    ·exact hT
    ·rcases hp with⟨rfl,_⟩|⟨rfl,_⟩|⟨rfl,_⟩|⟨rfl,_⟩ <;>exact absurd hA (by decide+kernel)
    ·rcases hm with⟨rfl,_⟩|⟨rfl,_⟩|⟨rfl,_⟩ <;>exact absurd hA (by decide+kernel)
    ·rw[hf]at hf';cases hf';rw[hn]at hn';cases hn'
    ·exact absurd hA (by decide+kernel)
    ·exact absurd hA (by decide+kernel)
    ·exact absurd hA (by decide+kernel)
    ·exact absurd hA (by decide+kernel)
   rcases hT with⟨rfl,rfl,hb,k⟩|⟨rfl,n,r,rfl,hl,hb,k⟩|⟨rfl,n,r,h1,rfl,hl,hb,k⟩|⟨rfl,n,m,r,r2,rfl,hl,hl2,hR,hR2,kE,k⟩
   ·exact⟨_,rfl,_,_,wsA,_,rfl,rfl,kdA,fsA ("names",A.a24) (by simp),_,_,rfl,.inl ⟨rfl,rfl⟩,_,rfl,x,A.w8,dx,_,_,rfl,hx2,T.w58,T.w61,rfl,_,rfl,d,_,kvs,S,rfl,hd2,sd2,by omega,hb,fun t' H' hn s'=>k t' H' hn (s12.trans s')⟩
   ·exact⟨_,rfl,_,_,wsA,_,rfl,rfl,kdA,fsA ("show",A.a30) (by simp),_,_,rfl,.inr (.inl ⟨rfl,rfl⟩),_,rfl,x,A.w8,dx,_,_,rfl,hx2,T.w58,T.w61,rfl,_,rfl,d,g,kvs,gs,S,n,r,rfl,hd2,sd2,gg2,ga2,hl,hb,fun H' s'=>k H' (s12.trans s')⟩
   ·exact⟨_,rfl,_,_,wsA,_,rfl,rfl,kdA,fsA ("keeps",A.a35) (by simp),_,_,rfl,.inr (.inr (.inl ⟨rfl,rfl⟩)),_,rfl,x,A.w8,dx,_,_,rfl,hx2,T.w58,T.w61,rfl,_,rfl,d,g,kvs,gs,S,n,r,h1,rfl,hd2,sd2,gg2,ga2,hl,hb,fun H' s'=>k H' (s12.trans s')⟩
   ·exact⟨_,rfl,_,_,wsA,_,rfl,rfl,kdA,fsA ("match",A.a44) (by simp),_,_,rfl,.inr (.inr (.inr ⟨rfl,rfl⟩)),_,rfl,x,A.w8,dx,_,_,rfl,hx2,T.w58,T.w61,rfl,_,rfl,d,g,kvs,gs,S,n,m,r,r2,rfl,hd2,sd2,gg2,ga2,hl,hl2,hR,hR2,fun z H' s'=>kE z H' (s12.trans s'),fun z H' s'=>k z H' (s12.trans s')⟩
  rw[decide_eq_false hA];refine iteF ?_;dsimp only[d8];subst hnt;refine cut1 fun nxt hnt=>?_;refine⟨_,rfl,_,wsP,wd,rfl,rfl,kdP,_,rfl,?_⟩;rw[vJ keysP];by_cases hP:wd∈xq
  ·rw[decide_eq_true hP];refine iteT ?_;have hT:(∃n r,PutOf S wd as n r/\rQ r/\ ∀(H':Hp)(O':List Addr),After A.w8 H H' x O O' (putS S n r) (past++[S]) []->Q (.str (rtxt r)) H')\/(wd=Str.ofString "add"/\dc S as/\ ∀H',Same H H'->E (.ref A.w2) none H')\/(wd=Str.ofString "take"/\wS S as/\ ∀H',Same H H'->E (.ref A.w3) none H'):=by
    rcases h with hT|hT|⟨S',p',u',hm,_⟩|⟨form',n,hf',hn',k⟩|hT|hT|⟨rfl,_⟩|⟨rfl,_⟩
    ·rcases hT with⟨rfl,_⟩|⟨rfl,_⟩|⟨rfl,_⟩|⟨rfl,_⟩ <;>exact absurd hP (by decide+kernel)
    ·exact .inl hT
    ·rcases hm with⟨rfl,_⟩|⟨rfl,_⟩|⟨rfl,_⟩ <;>exact absurd hP (by decide+kernel)
    ·rw[hf]at hf';cases hf';rw[hn]at hn';cases hn'
    ·exact .inr (.inl hT)
    ·exact .inr (.inr hT)
    ·exact absurd hP (by decide+kernel)
    ·exact absurd hP (by decide+kernel)
   obtain⟨f,R,F,B,hv,hG,hc⟩:∃f R F B,valueAt wsP (.inr wd)=some (.ref f)/\G_PUTS A f (uz A R F B)/\((∃n r,R S as n r/\rQ r/\ ∀(H':Hp)(O':List Addr),After A.w8 H H' x O O' (putS S n r) (past++[S]) []->Q (.str (rtxt r)) H')\/(F S as/\ ∀H',Same H H'->E (.ref A.w2) none H')\/(B S as/\ ∀H',Same H H'->E (.ref A.w3) none H')):=by
    rcases hT with⟨n,r,hp,k⟩|⟨rfl,k⟩|⟨rfl,k⟩
    ·rcases hp with⟨rfl,e⟩|⟨rfl,e⟩|⟨rfl,e⟩|⟨rfl,e⟩
     ·exact⟨_,PNew,PNo,PNo,fsP ("rule",A.a45) (by simp),.inl ⟨rfl,rfl⟩,.inl ⟨n,r,e,k⟩⟩
     ·exact⟨_,PAdd,dc,PNo,fsP ("add",A.a47) (by simp),.inr (.inl ⟨rfl,rfl⟩),.inl ⟨n,r,e,k⟩⟩
     ·exact⟨_,PTake,PNo,wS,fsP ("take",A.a48) (by simp),.inr (.inr (.inl ⟨rfl,rfl⟩)),.inl ⟨n,r,e,k⟩⟩
     ·exact⟨_,PCopy,PNo,PNo,fsP ("copy",A.a46) (by simp),.inr (.inr (.inr ⟨rfl,rfl⟩)),.inl ⟨n,r,e,k⟩⟩
    ·exact⟨_,PAdd,dc,PNo,fsP ("add",A.a47) (by simp),.inr (.inl ⟨rfl,rfl⟩),.inr (.inl k)⟩
    ·exact⟨_,PTake,PNo,wS,fsP ("take",A.a48) (by simp),.inr (.inr (.inl ⟨rfl,rfl⟩)),.inr (.inr k)⟩
   refine⟨_,rfl,_,_,wsP,_,rfl,rfl,kdP,hv,_,_,rfl,hG,_,rfl,x,A.w8,dx,_,_,rfl,hx2,T.w58,T.w61,rfl,_,rfl,d,g,kvs,gs,S,as,rfl,hd2,sd2,gg2,ga2,?_⟩;rcases hc with⟨n,r,e,hb,k⟩|⟨e,k⟩|⟨e,k⟩
   case inr.inl=>exact .inr (.inl ⟨e,fun H' s'=>k H' (s12.trans s')⟩)
   case inr.inr=>exact .inr (.inr ⟨e,fun H' s'=>k H' (s12.trans s')⟩)
   refine .inl ⟨n,r,e,fun tt v H3 gt3 hv3 s3=>?_⟩;refine⟨_,rfl,x,dx,_,rfl,s3 _ _ hx2,rfl,_,rfl,tt,_,0,_,rfl,rfl,SqT.of gt3,zp (j:=0) rfl,_,rfl,tt,_,1,_,rfl,rfl,SqT.of gt3,zp (j:=1) rfl,x,n,v,r,O,S,past,und,rfl,D2.same s3,hv3,by omega,lp,fun H4 O4 A4=>?_⟩;obtain⟨p,rs,rfl,gp,a2⟩:=hv3.mv A4.tups;refine⟨_,rfl,tt,_,1,_,rfl,rfl,SqT.of (A4.tups _ _ gt3),zp (j:=1) rfl,p,r,rs,rfl,gp,a2,hb.1,hb.2,fun H5 s5=>?_⟩;exact k H5 O4 ((A4.post s5).pre (s12.trans s3))
  rw[decide_eq_false hP];refine iteF ?_;dsimp only[d8];subst hnt;have hT:(∃S' past' und',cR S past und wd as S' past' und'/\u0 S'/\S'.length<64/\ ∀t (H':Hp) (O':List Addr),yi (S'.map (·.1)) t->After A.w8 H H' x O O' S' past' und'->Q (.str t) H')\/(wd=Str.ofString "undo"/\as=[]/\past=[]/\ ∀H',Same H H'->E (.ref A.w7) none H')\/(wd=Str.ofString "again"/\as=[]/\und=[]/\ ∀H',Same H H'->E (.ref A.w7) none H'):=by
   rcases h with hT|⟨n,r,hp,_⟩|hT|⟨form',n,hf',hn',k⟩|⟨rfl,_⟩|⟨rfl,_⟩|hT|hT
   ·rcases hT with⟨rfl,_⟩|⟨rfl,_⟩|⟨rfl,_⟩|⟨rfl,_⟩ <;>exact absurd (by decide+kernel) hA
   ·rcases hp with⟨rfl,_⟩|⟨rfl,_⟩|⟨rfl,_⟩|⟨rfl,_⟩ <;>exact absurd (by decide+kernel) hP
   ·exact .inl hT
   ·rw[hf]at hf';cases hf';rw[hn]at hn';cases hn'
   ·exact absurd (by decide+kernel) hP
   ·exact absurd (by decide+kernel) hP
   ·exact .inr (.inl hT)
   ·exact .inr (.inr hT)
  dsimp only[d8,jX];rcases hT with⟨S',past',und',hm,hb,l64,k⟩|⟨rfl,rfl,rfl,k⟩|⟨rfl,rfl,rfl,k⟩
  case inr.inl =>
   refine⟨_,rfl,rfl,_,rfl,ite2 (fun z=>absurd z (by decide+kernel)) (fun _=>⟨_,rfl,rfl,_,rfl,iteT ?_⟩)⟩;exact⟨_,rfl,x,dx,_,rfl,hx2,rfl,x,O,S,[],und,rfl,D2,lp,lu,.inr ⟨rfl,k _ s12⟩⟩
  case inr.inr =>
   refine⟨_,rfl,rfl,_,rfl,ite2 (fun z=>absurd z (by decide+kernel)) (fun _=>⟨_,rfl,rfl,_,rfl,iteF ?_⟩)⟩;exact⟨_,rfl,x,dx,_,rfl,hx2,rfl,x,O,S,past,[],rfl,D2,lp,lu,.inr ⟨rfl,k _ s12⟩⟩
  refine yD (fun σ' H'=>∃ O',σ'=[some (.ref x),some (.str z),some (.ref t),some (.str wd),some (.ref g),none]/\After A.w8 H H' x O O' S' past' und') (fun nx hnx=>?_) ?_
  ·rcases hm with⟨rfl,n,r,rfl,hl,rfl,rfl,rfl⟩|⟨rfl,rfl,rfl,rfl⟩|⟨rfl,rfl,rfl,rfl⟩
   ·cases ga2 with
    |cons h1 ga2 =>
     cases ga2;cases h1;refine⟨_,rfl,rfl,_,rfl,iteT ?_⟩;exact⟨_,rfl,x,dx,_,rfl,hx2,rfl,_,rfl,g,_,0,_,rfl,rfl,SqL.of gg2,zp (j:=0) rfl,x,n,r,O,S,past,und,rfl,D2,hl,lp,fun H3 O3 A3=>hnx _ _ ⟨O3,rfl,A3.pre s12⟩⟩
   ·refine⟨_,rfl,rfl,_,rfl,ite2 (fun z=>absurd z (by decide+kernel)) (fun _=>⟨_,rfl,rfl,_,rfl,iteT ?_⟩)⟩;exact⟨_,rfl,x,dx,_,rfl,hx2,rfl,x,O,S,_,und,rfl,D2,lp,lu,.inl ⟨S',past',rfl,fun H3 A3=>hnx _ _ ⟨O,rfl,A3.pre s12⟩⟩⟩
   ·refine⟨_,rfl,rfl,_,rfl,ite2 (fun z=>absurd z (by decide+kernel)) (fun _=>⟨_,rfl,rfl,_,rfl,iteF ?_⟩)⟩;exact⟨_,rfl,x,dx,_,rfl,hx2,rfl,x,O,S,past,_,rfl,D2,lp,lu,.inl ⟨S',und',rfl,fun H3 A3=>hnx _ _ ⟨O,rfl,A3.pre s12⟩⟩⟩
  ·rintro σ' H' ⟨O',rfl,A'⟩;obtain⟨mx',al',dx',d',pl',ul',xs',ys',hx',⟨_,kvs',ed',md',hd',sd'⟩,_⟩:=A'.desk;cases ed';exact⟨_,rfl,x,A.w8,dx',_,_,rfl,hx',T.w58,T.w61,rfl,_,rfl,d',_,kvs',S',rfl,hd',sd',l64,hb,fun t' H'' hn' s'=>k t' H'' O' hn' (A'.post s')⟩
def xH:List Str:=["_law_desk","_law_line","_law_found","e"]
theorem zK:FnScope xH ["_law_desk","_law_line"] (z7 um):=FS
inductive sp_answer(A:Adr)(vs:List V)(H:Hp)(Q:VK)(E:XK):Prop
 |mk (x:Addr) (line:Str) (O:List Addr) (S:Std) (past und:List Std) (due:DueN) (S':Std) (past' und':List Std):vs=[.ref x,.str line]->DeskAt A.w8 H x O S past und->wH S past und line due S' past' und'->(∀(t:Addr)(H':Hp)(O':List Addr),H' t=some (.tup due.vals)->After A.w8 H H' x O O' S' past' und'->Q (.ref t) H')->sp_answer A vs H Q E
theorem gk(T:Txt P w K mg A):FnOk P w K mg base CX0 32 A.a50 A.f50 ["_law_desk","_law_line"] (sp_answer A):=by
 refine T.x50.F.ok zK (by walk_at "n") fun _ _ _ s H vs Q E hr h=>?_
 ·obtain⟨x,line,O,S,past,und,due,S',past',und',rfl,D,hs,k⟩:=h;refine⟨_,(z8 (pset 2 zK.nd (zx (pa2 zj zc)))
    (z8 (ps_tryL (j:=2) rfl rfl (px_tup2 (px_meth (pv 0) T.w58 T.x49.mt (mf T) (hr.mono (by decide)) T.x49.b .nil (pa1 (pv 1)))) (ph_as (i:=3) rfl T.w28 (fun _=>(z9 (pset 2 zK.nd (zx (pa2 zj (pe_fldX (K:=K) rfl (pv 3) rfl)))))) zK.nd rfl rfl (ph_no rfl T.w24 (fun _=>(z9 (pset 2 zK.nd (zx (pa2 zj zc))))) (ph_no rfl T.w25 (fun _=>(z9 (pset 2 zK.nd (zx (pa2 zj zc))))) (ph_no rfl T.w26 (fun _=>(z9 (pset 2 zK.nd (zx (pa2 zj zc))))) (ph_no rfl T.w29 (fun _=>(z9 (pset 2 zK.nd (zx (pa2 zj zc))))) ph_nil))))) zK.nd rfl (by first|exact Or.inl rfl|exact Or.inr rfl))
    (z9 (zo (pv 2))))),?_⟩
  obtain⟨hh,hk⟩:=T.kin;obtain⟨lz,l50,lp,lu,wd,as,hrd,hc⟩:=hs;have two:2<=sizeLine:=by decide
  refine⟨two,fun t0 ht0=>?_⟩;have s0:=Same.new (o:=.tup [V.str (Str.ofString "none"),V.int 0]) ht0;have D0:=D.same s0;generalize upd H t0 (.tup [V.str (Str.ofString "none"),V.int 0])=H0 at s0 D0 ⊢;obtain⟨mx,al,dx,d,pl,ul,xs,ys,hx,_⟩:=id D0;refine⟨_,rfl,x,dx,_,rfl,hx,rfl,_,rfl,x,line,O,S,past,und,wd,as,rfl,lz,D0,hrd,l50,lp,lu,?_⟩;rcases hc with⟨t,rfl,rfl,rfl,rfl,ha⟩|⟨n,r,hp,hb,rfl,rfl,rfl,rfl⟩|⟨t,hm,nm,l64,hN,rfl⟩|⟨form,n,hf,hn,rfl,rfl,rfl,rfl⟩|⟨w,rfl,rfl,rfl,rfl,hw⟩
  ·have fin:∀H1,Same H0 H1-> ∀p,H1 p=none-> ∃v,([some (V.ref x),some (V.str line),some (V.ref p),none]:L2.St)[2]? =some (some v)/\Q v (upd H1 p (.tup [V.str (Str.ofString "told"),V.str t])):=fun H1 s1 p hp=>⟨_,rfl,k p _ O z6 (After.refl D ((s0.trans s1).trans (Same.new hp)))⟩;refine .inl ?_;rcases ha with⟨rfl,rfl,nm,hN⟩|⟨rfl,n,r,rfl,hl,hb,rfl⟩|⟨rfl,n,r,h,rfl,hl,hb,rfl⟩|⟨rfl,n,m,r1,r2,rfl,hl,hl2,hR,hR2,he,rfl⟩
   ·refine .inl ⟨rfl,rfl,nm,fun t' H1 hN' s1 p hp=>?_⟩;rw[yi.eq (List.Perm.refl _) hN' hN];exact fin H1 s1 p hp
   ·exact .inr (.inl ⟨rfl,n,r,rfl,hl,hb,fun H1 s1 p hp=>fin H1 s1 p hp⟩)
   ·exact .inr (.inr (.inl ⟨rfl,n,r,h,rfl,hl,hb,fun H1 s1 p hp=>fin H1 s1 p hp⟩))
   ·exact .inr (.inr (.inr ⟨rfl,n,m,r1,r2,rfl,hl,hl2,hR,hR2,fun z=>absurd he z,fun _ H1 s1 p hp=>fin H1 s1 p hp⟩))
  ·exact .inr (.inl ⟨n,r,hp,hb,fun H1 O1 A1 p hp=>⟨_,rfl,k p _ O1 z6 ((A1.pre s0).post (Same.new hp))⟩⟩)
  ·refine .inr (.inr (.inl ⟨S',past',und',hm,nm,l64,fun t' H1 O1 hN' A1 p hp=>⟨_,rfl,k p _ O1 ?_ ((A1.pre s0).post (Same.new hp))⟩⟩));rw[yi.eq (List.Perm.refl _) hN hN'];exact z6
  ·refine .inr (.inr (.inr (.inl ⟨form,n,hf,hn,fun dx1 H1 gdx s1=>?_⟩)));refine⟨_,rfl,.inl ⟨Takes.mkI hk T.w64 (T.w64.isX hk) T.w52,fun e hen=>?_⟩⟩;have sE:=Same.new (o:=.ext (vh e (.ref A.w6) (some dx1))) hen;have he:=z6 (H:=H1) (a:=e) (o:=.ext (vh e (.ref A.w6) (some dx1)));have gE:=sE _ _ gdx;generalize upd H1 e (.ext (vh e (.ref A.w6) (some dx1)))=HE at sE he gE ⊢;have hlk:List.lookup ("name" : Str) [(("name" : Str),V.str n)]=some (V.str n):=by simp[List.lookup]
   refine⟨_,rfl,e,A.w6,dx1,_,_,rfl,he,gE,T.w65,T.w63,hlk,two,fun p hp=>?_⟩;exact⟨_,rfl,k p _ O z6 (After.refl D (((s0.trans s1).trans sE).trans (Same.new hp)))⟩
  ·have fin:∀H1,Same H0 H1->2<=sizeLine/\ ∀p,H1 p=none-> ∃v,([some (V.ref x),some (V.str line),some (V.ref p),none]:L2.St)[2]? =some (some v)/\Q v (upd H1 p (.tup [V.str w,V.int 0])):=fun H1 s1=>⟨two,fun p hp=>⟨_,rfl,k p _ O z6 (After.refl D ((s0.trans s1).trans (Same.new hp)))⟩⟩;have xN:=T.w64.isX hk;have xR:=T.w32.isX hk;have xP:=T.w31.isX hk;have xM:=T.w34.isX hk;have xT:=T.w35.isX hk;rcases hw with⟨rfl,rfl,hw⟩|⟨rfl,rfl,hw⟩|⟨rfl,rfl,n,m,r1,r2,rfl,hl,hl2,hR,hR2,he⟩|⟨rfl,hw⟩
   ·exact .inr (.inr (.inr (.inr (.inl ⟨rfl,hw,fun H1 s1=>⟨_,rfl,.inr ⟨.mkG xR xN T.w44,.inl ⟨.mkG xR xR T.w43,fin H1 s1⟩⟩⟩⟩))))
   ·exact .inr (.inr (.inr (.inr (.inr (.inl ⟨rfl,hw,fun H1 s1=>⟨_,rfl,.inr ⟨.mkG xP xN T.w47,.inr ⟨.mkG xP xR T.w46,.inl ⟨.mkG xP xP T.w45,fin H1 s1⟩⟩⟩⟩⟩)))))
   ·exact .inl (.inr (.inr (.inr ⟨rfl,n,m,r1,r2,rfl,hl,hl2,hR,hR2,fun _ H1 s1=>⟨_,rfl,.inr ⟨.mkG xM xN T.w51,.inr ⟨.mkG xM xR T.w49,.inr ⟨.mkG xM xP T.w50,.inl ⟨.mkG xM xM T.w48,fin H1 s1⟩⟩⟩⟩⟩,fun z=>absurd z he⟩)))
   ·rcases hw with⟨rfl,rfl,rfl⟩|⟨rfl,rfl,rfl⟩
    ·exact .inr (.inr (.inr (.inr (.inr (.inr (.inl ⟨rfl,rfl,rfl,fun H1 s1=>⟨_,rfl,.inr ⟨.mkG xT xN T.w57,.inr ⟨.mkG xT xR T.w54,.inr ⟨.mkG xT xP T.w55,.inr ⟨.mkG xT xM T.w56,.inl ⟨.mkG xT xT T.w53,fin H1 s1⟩⟩⟩⟩⟩⟩⟩))))))
    ·exact .inr (.inr (.inr (.inr (.inr (.inr (.inr ⟨rfl,rfl,rfl,fun H1 s1=>⟨_,rfl,.inr ⟨.mkG xT xN T.w57,.inr ⟨.mkG xT xR T.w54,.inr ⟨.mkG xT xP T.w55,.inr ⟨.mkG xT xM T.w56,.inl ⟨.mkG xT xT T.w53,fin H1 s1⟩⟩⟩⟩⟩⟩⟩))))))
def tV:List Str:=["_law_desk","_law_line","_law_due","_law_word","_law_value"]
theorem jG:FnScope tV ["_law_desk","_law_line","_law_due"] (z7 vy):=FS
inductive sp_right(A:Adr)(vs:List V)(H:Hp)(Q:VK)(E:XK):Prop
 |mk (x:Addr) (line:Str) (O:List Addr) (S:Std) (past und:List Std) (du:DueN) (dd:Addr) (S':Std) (past' und':List Std):vs=[.ref x,.str line,.ref dd]->DeskAt A.w8 H x O S past und->wH S past und line du S' past' und'->H dd=some (.tup du.vals)->(∀(H':Hp)(O':List Addr),After A.w8 H H' x O O' S' past' und'->Q (.bl true) H')->sp_right A vs H Q E
theorem zQ(T:Txt P w K mg A):FnOk P w K mg base CX0 33 A.a51 A.f51 ["_law_desk","_law_line","_law_due"] (sp_right A):=by
 refine T.x51.F.ok jG (by walk_at "n") fun _ _ _ s H vs Q E hr h=>?_
 ·obtain⟨x,line,O,S,past,und,du,dd,S',past',und',rfl,D,hs,gd,k⟩:=h;refine⟨_,(z8 (gY (pcl (gk T) hr T.x50 (pa2 (pv 0) (pv 1))) (vv rfl (zR (pgn 3 jG.nd) (zR (pgn 4 jG.nd) jD))))
    (z9 (zo (pe_and (pcm zZ (pv 3) (pix zI (pv 2) zc)) (pe_and (pcm zZ (pv 4) (pix zI (pv 2) zc)) (pe_one (pcm zZ (zt call_isi rfl T.w4 boot_isinstance (pa2 (pv 4) (pe_bltn (v:=.ty "str") rfl T.w11 boot_str rfl))) (rc qo (pv 3) (zx (pa2 zj zj)) rfl)))))))),?_⟩
  refine⟨_,rfl,_,rfl,x,line,O,S,past,und,du,S',past',und',rfl,D,hs,fun t H1 O1 gt A1=>?_⟩;have gd1:=A1.tups _ _ gd;cases du with
  |told z =>
   refine⟨t,_,rfl,SqT.of gt,rfl,_,_,rfl,_,_,rfl,rfl,?_⟩;refine⟨_,rfl,_,rfl,dd,_,0,_,rfl,rfl,SqT.of gd1,zp (j:=0) rfl,rfl,_,by rw[decide_eq_true rfl],iteT ?_⟩;refine⟨_,rfl,_,rfl,dd,_,1,_,rfl,rfl,SqT.of gd1,zp (j:=1) rfl,rfl,_,by rw[decide_eq_true rfl],iteT ?_⟩;refine⟨_,rfl,_,_,_,true,rfl,TyOf.str _,pI,_,rfl,by show 2<=sizeLine;decide,fun tq htq=>⟨tq,_,rfl,.inr (SqT.of z6),rfl,rfl,rfl,?_⟩⟩;have e:decide (V.bl true=V.bl (inV (V.str (Str.ofString "told")) [V.str (Str.ofString "told"),V.str (Str.ofString "name")]))=true:=by decide+kernel
   rw[if_neg Bool.false_ne_true,e];exact k _ O1 (A1.post (Same.new htq))
  |name n =>
   refine⟨t,_,rfl,SqT.of gt,rfl,_,_,rfl,_,_,rfl,rfl,?_⟩;refine⟨_,rfl,_,rfl,dd,_,0,_,rfl,rfl,SqT.of gd1,zp (j:=0) rfl,rfl,_,by rw[decide_eq_true rfl],iteT ?_⟩;refine⟨_,rfl,_,rfl,dd,_,1,_,rfl,rfl,SqT.of gd1,zp (j:=1) rfl,rfl,_,by rw[decide_eq_true rfl],iteT ?_⟩;refine⟨_,rfl,_,_,_,true,rfl,TyOf.str _,pI,_,rfl,by show 2<=sizeLine;decide,fun tq htq=>⟨tq,_,rfl,.inr (SqT.of z6),rfl,rfl,rfl,?_⟩⟩;have e:decide (V.bl true=V.bl (inV (V.str (Str.ofString "name")) [V.str (Str.ofString "told"),V.str (Str.ofString "name")]))=true:=by decide+kernel
   rw[if_neg Bool.false_ne_true,e];exact k _ O1 (A1.post (Same.new htq))
  |bare w =>
   have hw:w=Str.ofString "rule"\/w=Str.ofString "place"\/w=Str.ofString "many"\/w=Str.ofString "nothing" :=wH.bare hs;refine⟨t,_,rfl,SqT.of gt,rfl,_,_,rfl,_,_,rfl,rfl,?_⟩;refine⟨_,rfl,_,rfl,dd,_,0,_,rfl,rfl,SqT.of gd1,zp (j:=0) rfl,rfl,_,by rw[decide_eq_true rfl],iteT ?_⟩;refine⟨_,rfl,_,rfl,dd,_,1,_,rfl,rfl,SqT.of gd1,zp (j:=1) rfl,rfl,_,by rw[decide_eq_true rfl],iteT ?_⟩;refine⟨_,rfl,_,_,_,false,rfl,TyOf.int _,dP,_,rfl,by show 2<=sizeLine;decide,fun tq htq=>⟨tq,_,rfl,.inr (SqT.of z6),rfl,rfl,rfl,?_⟩⟩;have e:decide (V.bl false=V.bl (inV (V.str w) [V.str (Str.ofString "told"),V.str (Str.ofString "name")]))=true:=by
    rcases hw with rfl|rfl|rfl|rfl <;>decide+kernel
   rw[if_neg Bool.false_ne_true,e];exact k _ O1 (A1.post (Same.new htq))
def pW:List Str:=["_law_one","_law_other"]
theorem mS:FnScope pW ["_law_one","_law_other"] (z7 yC):=FS
inductive sp_llies(vs:List V)(H:Hp)(Q:VK)(E:XK):Prop
 |mk (a b:Addr) (ns ms:List Int):vs=[.ref a,.ref b]->H a=some (.tup (ns.map V.int))->H b=some (.tup (ms.map V.int))->ns.length<=10000->(∀H',Same H H'->Q (.bl (lies ns ms)) H')->sp_llies vs H Q E
theorem mi(T:Txt P w K mg A):FnOk P w K mg base CX0 1 A.a52 A.f52 ["_law_one","_law_other"] sp_llies:=by
 refine T.x52.F.ok mS (by walk_at "n") fun _ _ _ s H vs Q E hr h=>?_
 ·obtain⟨a,b,ns,ms,rfl,ha,hb,hln,k⟩:=h;refine⟨_,(z9 (zo (zt (jm rfl) rfl T.w0 boot_all (pa1 (zX (ls:=["_law_part"]) (fr:=[("_law_one",0),("_law_other",1)]) (csf (z7 yC) pW) rfl (kD (pv 0 (hv:=Or.inr (Or.inl rfl)))) (fun _ _ _ _=>pgc 0 (by decide+kernel) rfl rfl) (fun _ _ _ _=>yj) (fun _ _ _ _=>(pcm op_le (pe_bmK K rfl PySem.F.plainAttrs_tuple PySem.F.slot_tuple_count PySem.F.type_tuple_count (gP K rfl) (pvc (z7 yC) 1) (pa1 (pvc (z7 yC) 0))) (pe_bmK K rfl PySem.F.plainAttrs_tuple PySem.F.slot_tuple_count PySem.F.type_tuple_count (gP K rfl) (pvc (z7 yC) 2) (pa1 (pvc (z7 yC) 0)))))))))),?_⟩;refine⟨_,rfl,a,rfl,⟨_,SqT.of ha⟩,je (xs:=ns.map V.int) (fun i ys σ' H'=>H'=H/\(∃v,σ'=[v,some (.ref a),some (.ref b)])/\ys=((ns.take i).map fun x=>decide (ns.count x<=ms.count x)).map V.bl) ⟨rfl,⟨_,rfl⟩,rfl⟩ ?_ ?_ ?_⟩
  ·rintro i ys σ' H' hi ⟨rfl,_,rfl⟩;refine⟨SqT.of ha,?_⟩;rw[length_map,length_map,length_take];exact le_trans (m:=10000) (by omega) (by decide)
  ·rintro i x ys σ' H' hx ⟨rfl,⟨v,rfl⟩,rfl⟩;obtain⟨z,hz,rfl⟩:=kU hx;have hi:=(List.getElem?_eq_some_iff.mp hz).1;have ez:=(List.getElem?_eq_some_iff.mp hz).2;refine⟨_,rfl,.inr (.inl ⟨rfl,.inr ⟨_,ha⟩⟩),_,rfl,a,_,_,rfl,rfl,SqT.of ha,rfl,jW _,?_⟩;refine⟨_,rfl,.inr (.inl ⟨rfl,.inr ⟨_,hb⟩⟩),_,rfl,b,_,_,rfl,rfl,SqT.of hb,rfl,jW _,?_⟩;refine⟨_,_,rfl,rfl,rfl,⟨_,rfl⟩,?_⟩;rw[take_succ_eq_append_getElem hi,map_append,map_append,ez];show _++[V.bl (decide (((cntV (V.int z) (ns.map V.int):Nat):Int)<=((cntV (V.int z) (ms.map V.int):Nat):Int)))]=_;rw[jT,jT];have e:decide (((ns.count z:Nat):Int)<=((ms.count z:Nat):Int))=decide (ns.count z<=ms.count z):=by
    rw[decide_eq_decide];omega
   rw[e];rfl
  ·rintro ys σ' H' ⟨rfl,_,rfl⟩ l hl;rw[length_map,take_length];refine⟨l,_,rfl,SqL.of z6,?_⟩;have e:(ns.map fun x=>decide (ns.count x<=ms.count x)).all id=lies ns ms:=by
    unfold lies;rw[all_map];rfl
   rw[e];exact k _ (Same.new hl)
def tT:List Str:=["_law_rule","_law_heap_here","_law_number"]
theorem uu:FnScope tT ["_law_rule","_law_heap_here"] (z7 vw):=FS
inductive sp_lfirst(vs:List V)(H:Hp)(Q:VK)(E:XK):Prop
 |mk (p q:Addr) (rs:List V) (rule:List (List Int)) (hs:List Int):vs=[.ref p,.ref q]->H p=some (.tup rs)->All2 Tup1 H rule rs->H q=some (.tup (hs.map V.int))->rule.length<=60->(∀h∈rule,h.length<=1000)->(∀(H':Hp),Same H H'->Q (optV (jV rule hs)) H')->sp_lfirst vs H Q E
theorem xS(T:Txt P w K mg A):FnOk P w K mg base CX0 2 A.a53 A.f53 ["_law_rule","_law_heap_here"] sp_lfirst:=by
 refine T.x53.F.ok uu (by walk_at "n") fun _ _ _ s H vs Q E hr h=>?_
 ·obtain⟨p,q,rs,rule,hs,rfl,hp,h2,hq,hln,hlr,k⟩:=h;refine⟨_,(z8 (yu PassesOwn.never rfl (yN rfl T.w9 (pa1 (zt zq rfl T.w5 PySem.boot_len (pa1 (pv 0))))) (pgn 2 uu.nd)
     (z9 (zC (zY (pcl (mi T) hr T.x52 (pa2 (pix zI (pv 0) (pv 2)) (pv 1))) (fun _=>rfl))
     (z9 (zo (pv 2))) zk)))
    (z9 (zo vt))),?_⟩
  have hrl:=h2.length;refine⟨_,rfl,p,_,rfl,.inr (SqT.of hp),_,rfl,by omega,by omega,kR (n:=rs.length) (fun i σ' H'=>Same H H'/\(∃v,σ'=[some (.ref p),some (.ref q),v])/\idxP rule hs i=[]) ⟨fun _ _ h=>h,⟨_,rfl⟩,rfl⟩ ?_ ?_⟩
  ·rintro i σ' H' hi ⟨s,⟨v,rfl⟩,h0⟩;have hir:i<rule.length:=by omega
   obtain⟨x,hx,q1,rfl,hq1⟩:=h2.at (getElem?_eq_getElem hir);have e1:rule.getD i []=rule[i]:=by simp[hir]
   refine⟨_,rfl,_,rfl,p,_,_,_,rfl,rfl,SqT.of (s _ _ hp),by rw[Int.zero_add];exact zp hx,?_⟩;refine⟨_,rfl,q1,q,rule[i],hs,rfl,s _ _ hq1,s _ _ hq,le_trans (hlr _ (getElem_mem hir)) (by decide),fun H2 s2=>⟨_,rfl,?_⟩⟩;have s3:=s.trans s2;refine ite2 (fun hc=>?_) (fun hc=>⟨s3,⟨_,rfl⟩,?_⟩)
   ·refine⟨_,rfl,?_⟩;have:=k H2 s3;rw[first_some h0 hir (by rw[e1];exact hc)]at this;rw[Int.zero_add];exact this
   ·rw[js,e1,if_neg hc,h0];rfl
  ·rintro σ' H' ⟨s,_,h0⟩;rw[<-hrl]at h0;have:=k H' s;rw[gJ h0]at this;exact this
def wI:List Str:=["_law_many","_law_found","_law_number"]
theorem yO:FnScope wI ["_law_many"] (z7 yv):=FS
inductive sp_law_choices(vs:List V)(H:Hp)(Q:VK)(E:XK):Prop
 |mk (n:Nat):vs=[.int n]->n<=6->(∀(l:Addr)(xs:List V)(H':Hp),H' l=some (.lst xs)->All2 Tup1 H' (chG (upto n)) xs->Same H H'->H l=none->Q (.ref l) H')->sp_law_choices vs H Q E
theorem wn(T:Txt P w K mg A):FnOk P w K mg base CX0 1 A.a54 A.f54 ["_law_many"] sp_law_choices:=by
 refine T.x54.F.ok yO (by walk_at "n") fun _ _ _ s H vs Q E hr h=>?_
 ·obtain⟨n,rfl,hln,k⟩:=h;refine⟨_,(z8 (pset 1 yO.nd (jg (pa1 (zx kY))))
    (z8 (yu PassesOwn.never rfl (yN rfl T.w9 (pa1 (pv 0))) (pgn 2 yO.nd)
     (z9 (pset 1 yO.nd (zL op_cat (pv 1) (zX (ls:=["_law_choice"]) (fr:=[("_law_number",2)]) (csf (z7 yv) wI) rfl (yA (pv 1)) (fun _ _ _ _=>pgc 0 (by decide+kernel) rfl rfl) (fun _ _ _ _=>yj) (fun _ _ _ _=>(zL (bg K rfl) (pvc (z7 yv) 0) (zx (pa1 (pvc (z7 yv) 1))))))))))
    (z9 (zo (pv 1))))),?_⟩
  refine⟨by show 0<=sizeLine;decide,fun e he=>⟨by show 1<=sizeLine;decide,fun l0 hl0=>?_⟩⟩;have ne0:H l0=none:=(Same.new he).free hl0;refine⟨_,rfl,_,rfl,by omega,by omega,kR (n:=n) (fun i σ' H'=>Same H H'/\i<=n/\ ∃l xs v,σ'=[some (.int n),some (.ref l),v]/\H' l=some (.lst xs)/\H l=none/\All2 Tup1 H' (chG (upto i)) xs) ?_ ?_ ?_⟩
  ·refine⟨(Same.new he).trans (Same.new hl0),zero_le _,l0,[.ref e],_,rfl,z6,ne0,.cons ⟨e,rfl,?_⟩ .nil⟩;exact Same.new hl0 _ _ z6
  ·rintro i σ' H' hi ⟨s,hi6,l,xs,v,rfl,gl,nl,h2⟩;have hlen:=pc i (upto i) (kI i);have hmem:=wU i (upto i) (kI i);have hlx:xs.length<=64:=by
    rw[<-h2.length,hlen];exact le_trans (Nat.pow_le_pow_right (by decide) (show i<=6 by omega)) (by decide)
   refine⟨_,rfl,_,rfl,l,rfl,⟨_,SqL.of gl⟩,kP (xs:=xs) (fun j ys σ' H2=>Same H' H2/\(∃v,σ'=[v,some (.int (0+(i:Int)))])/\All2 Tup1 H2 (((chG (upto i)).take j).map (· ++[(i:Int)])) ys) ⟨fun _ _ h=>h,⟨_,rfl⟩,.nil⟩ ?_ ?_ ?_⟩
   ·rintro j ys σ' H2 hj ⟨s2,_,h3⟩;refine⟨SqL.of (s2 _ _ gl),?_⟩;rw[<-h3.length,length_map,length_take];refine le_trans (m:=64) (by omega) (by decide)
   ·rintro j x ys σ' H2 hx ⟨s2,⟨v,rfl⟩,h3⟩;obtain⟨hs,hhs,q,rfl,hq⟩:=h2.get hx;have hj:=(List.getElem?_eq_some_iff.mp hhs).1;have eh:=(List.getElem?_eq_some_iff.mp hhs).2;refine⟨_,rfl,_,rfl,by show 1<=sizeLine;decide,fun t ht=>?_⟩;have hl1:hs.length<=60:=by
     have:=(hmem hs (mem_of_getElem? hhs)).1;omega
    refine cat_one (z:=0+(i:Int)) (Same.new ht _ _ (s2 _ _ hq)) z6 hl1 fun v H3 hv s3=>?_;have sn:=(Same.new (o:=.tup [V.int (0+(i:Int))]) ht).trans s3;refine⟨s2.trans sn,⟨_,rfl⟩,?_⟩;rw[take_succ_eq_append_getElem hj,map_append,eh];rw[Int.zero_add]at hv;exact(h3.mv sn.tups).snoc hv
   ·rintro ys σ' H2 ⟨s2,⟨v,rfl⟩,h3⟩ l2 hl2;have et:(chG (upto i)).take xs.length=chG (upto i):=by rw[<-h2.length,take_length]
    rw[et]at h3;have hly:ys.length<=64:=by
     rw[<-h3.length,length_map,h2.length];exact hlx
    refine⟨l,l2,xs,ys,rfl,rfl,Same.new hl2 _ _ (s2 _ _ gl),z6,le_trans (m:=128) (by omega) (by decide),fun l3 hl3=>?_⟩;have sn:=s2.trans ((Same.new (o:=.lst ys) hl2).trans (Same.new (o:=.lst (xs++ys)) hl3));refine⟨s.trans sn,by omega,l3,xs++ys,_,rfl,z6,(s.trans (s2.trans (Same.new hl2))).free hl3,?_⟩;rw[upto_succ,vY];exact(h2.mv sn.tups).append (h3.mv ((Same.new hl2).trans (Same.new hl3)).tups)
  ·rintro σ' H' ⟨s,_,l,xs,v,rfl,gl,nl,h2⟩;exact⟨_,rfl,k l xs H' gl h2 s nl⟩
def xI:List Str:=["_law_heaps","_law_found","_law_heap_here","_law_part"]
theorem kf:FnScope xI ["_law_heaps"] (z7 uo):=FS
inductive sp_law_joined(vs:List V)(H:Hp)(Q:VK)(E:XK):Prop
 |mk (a:Addr) (xs:List V) (ls:List (List Int)):vs=[.ref a]->H a=some (.lst xs)->All2 Tup1 H ls xs->ls.flatten.length<64->(∀(p:Addr)(ms:List Int)(H':Hp),H' p=some (.tup (ms.map V.int))->jJ ls ms->Same H H'->H p=none->Q (.ref p) H')->sp_law_joined vs H Q E
theorem gm(T:Txt P w K mg A):FnOk P w K mg base CX0 1 A.a55 A.f55 ["_law_heaps"] sp_law_joined:=by
 refine T.x55.F.ok kf (by walk_at "n") fun _ _ _ s H vs Q E hr h=>?_
 ·obtain⟨a,xs,ls,rfl,ha,h2,hln,k⟩:=h;refine⟨_,(z8 (pset 1 kf.nd (jg kY))
    (z8 (yu PassesOwn.never rfl (yA (pv 0)) (pgn 2 kf.nd)
     (z9 (yu PassesOwn.never rfl (kD (pv 2)) (pgn 3 kf.nd)
     (z9 (zC (zi mG (kG PySem.F.plainAttrs_list PySem.F.slot_list_count PySem.F.type_list_count mt_countL (pv 1) (pa1 (pv 3))) (kG PySem.F.plainAttrs_tuple PySem.F.slot_tuple_count PySem.F.type_tuple_count pS (pv 2) (pa1 (pv 3))) (zu _))
     (z9 (yB (kG PySem.F.plainAttrs_list PySem.F.slot_list_append PySem.F.type_list_append wc (pv 1) (pa1 (pv 3))))) zk)))))
    (z9 (zo (zH y9 rfl T.w13 boot_tuple (pa1 (rj rfl T.w10 (pv 1)))))))),?_⟩
  refine⟨by show 0<=sizeLine;decide,fun f hf=>?_⟩;have hlc:∀i j (x:List Int),ls[i]? =some x->((ls.take i).flatten++x.take j).length<64:=fun i j x hx=>by
   have hi:=(List.getElem?_eq_some_iff.mp hx).1;have ex:=(List.getElem?_eq_some_iff.mp hx).2;have e1:ls.flatten=(ls.take i).flatten++(x++(ls.drop (i+1)).flatten):=by
    conv=>lhs;rw[<-List.take_append_drop i ls]
    rw[List.flatten_append,drop_eq_getElem_cons hi,ex,flatten_cons]
   rw[e1]at hln;simp only[length_append,length_take]at hln ⊢;exact lt_of_le_of_lt (Nat.add_le_add_left (le_trans (Nat.min_le_right _ _) (Nat.le_add_right _ _)) _) hln
  refine⟨_,rfl,a,rfl,⟨_,SqL.of (Same.new hf _ _ ha)⟩,wC (xs:=xs) (fun i σ' H'=>(∃v w,σ'=[some (.ref a),some (.ref f),v,w])/\Same H H'/\ ∃fs:List Int,H' f=some (.lst (fs.map V.int))/\fs.length<=(ls.take i).flatten.length/\ ∀x,fs.count x=maxC (ls.take i) x) ⟨⟨_,_,rfl⟩,Same.new hf,[],z6,le_refl _,fun _=>rfl⟩ ?_ ?_ ?_⟩
  ·rintro i σ' H' _ ⟨_,s,_⟩;exact SqL.of (s _ _ ha)
  ·rintro i x σ' H' hx ⟨⟨v,w',rfl⟩,s,fs,gf,hfl,hfc⟩;obtain⟨hs,hhs,q,rfl,hq⟩:=h2.get hx;refine⟨_,rfl,q,rfl,⟨_,SqT.of (s _ _ hq)⟩,uE (xs:=hs.map V.int) (fun j σ' H'=>(∃w,σ'=[some (.ref a),some (.ref f),some (.ref q),w])/\Same H H'/\ ∃fs:List Int,H' f=some (.lst (fs.map V.int))/\fs.length<=((ls.take i).flatten++hs.take j).length/\ ∀x,fs.count x=max (maxC (ls.take i) x) (min (hs.count x) (maxC (ls.take i) x+(hs.take j).count x))) ⟨⟨_,rfl⟩,s,fs,gf,by rw[List.take_zero,append_nil];exact hfl,fun x=>by rw[hfc];exact(Nat.max_eq_left (Nat.min_le_right _ _)).symm⟩ ?_ ?_ ?_⟩
   ·rintro j σ' H2 _ ⟨_,s2,_⟩;exact SqT.of (s2 _ _ hq)
   ·rintro j x σ' H2 hx2 ⟨⟨w2,rfl⟩,s2,fs2,gf2,hfl2,hfc2⟩;obtain⟨z,hz,rfl⟩:=kU hx2;have hj:=(List.getElem?_eq_some_iff.mp hz).1;have ez:=(List.getElem?_eq_some_iff.mp hz).2;have e1:∀x,(hs.take (j+1)).count x=(hs.take j).count x+if z=x then 1 else 0:=fun x=>by
     rw[take_succ_eq_append_getElem hj,List.count_append,ez,List.count_singleton];simp
    have e2:(hs.take (j+1)).count z<=hs.count z:=List.Sublist.count_le z (List.take_sublist _ _);have e3:=e1 z;rw[if_pos rfl]at e3;have hl64:=hlc i j hs hhs;have e4:((ls.take i).flatten++hs.take (j+1)).length=((ls.take i).flatten++hs.take j).length+1:=by
     simp only[length_append,length_take];omega
    refine⟨_,rfl,.inl ⟨rfl,_,SqL.of gf2⟩,_,rfl,f,_,_,rfl,rfl,SqL.of gf2,rfl,jW _,?_⟩;refine⟨_,rfl,.inr (.inl ⟨rfl,.inr ⟨_,s2 _ _ hq⟩⟩),_,rfl,q,_,_,rfl,rfl,SqT.of (s2 _ _ hq),rfl,jW _,?_⟩;refine⟨_,_,rfl,rfl,_,rfl,?_⟩;rw[jT,jT];refine ite2 (fun hlt=>?_) (fun hlt=>?_)
    ·have hlt':fs2.count z<hs.count z:=by have:=of_decide_eq_true hlt;omega
     refine⟨_,rfl,.inl ⟨rfl,_,SqL.of gf2⟩,_,rfl,f,_,_,rfl,rfl,gf2,?_,⟨_,rfl⟩,?_,fs2++[z],by rw[z6,map_append];rfl,?_,fun x=>?_⟩
     ·rw[length_map];exact lt_of_lt_of_le (show fs2.length<64 by omega) (by decide)
     ·exact fun b o e=>by rw[zh (zr e hf)];exact s2 _ _ e
     ·rw[e4,length_append];show fs2.length+1<=_;omega
     ·rw[List.count_append,List.count_singleton,hfc2 x,e1 x];by_cases e:z=x
      ·subst e;have:=joinStep (hfc2 z) (by omega) hlt';rw[hfc2 z]at this;simpa using this
      ·have e':(z==x)=false:=by simpa using e
       rw[if_neg e,e'];simp
    ·have hlt':¬fs2.count z<hs.count z:=fun h=>hlt (decide_eq_true (by omega));refine⟨⟨_,rfl⟩,s2,fs2,gf2,by omega,fun x=>?_⟩;rw[hfc2 x,e1 x];by_cases e:z=x
     ·subst e;have:=joinStay (hfc2 z) (by omega) hlt';rw[hfc2 z]at this;simpa using this
     ·rw[if_neg e];simp
   ·rintro σ' H2 ⟨⟨w2,rfl⟩,s2,fs2,gf2,hfl2,hfc2⟩;rw[length_map,take_length]at hfl2 hfc2;have hi:=(List.getElem?_eq_some_iff.mp hhs).1;have ez:=(List.getElem?_eq_some_iff.mp hhs).2;have et:ls.take (i+1)=ls.take i++[hs]:=by rw[take_succ_eq_append_getElem hi,ez]
    refine⟨⟨_,_,rfl⟩,s2,fs2,gf2,?_,fun x=>?_⟩
    ·rw[et,List.flatten_append];simpa using hfl2
    ·rw[et,dS,hfc2 x];show _=max _ (max (hs.count x) 0);rw[Nat.min_eq_left (Nat.le_add_left _ _),Nat.max_zero]
  ·rintro σ' H2 ⟨⟨v,w2,rfl⟩,s2,fs2,gf2,hfl2,hfc2⟩;rw[<-h2.length,take_length]at hfl2 hfc2;refine⟨_,rfl,f,fs2,rfl,.inl (SqL.of gf2),by omega,fun ms l hperm hord hl=>?_⟩;refine⟨l,_,rfl,.inl ⟨SqL.of z6,fun p hp=>?_⟩⟩;exact k p ms _ z6 ⟨hord,fun x=>by rw[hperm.count_eq,hfc2]⟩ (s2.trans ((Same.new hl).trans (Same.new hp))) (s2.free ((Same.new hl).free hp))
def pX:List Str:=["_law_rule"]
theorem mT:FnScope pX ["_law_rule"] (z7 yb):=FS
inductive sp_law_sums(vs:List V)(H:Hp)(Q:VK)(E:XK):Prop
 |mk (p:Addr) (rs:List V) (rule:List (List Int)):vs=[.ref p]->H p=some (.tup rs)->All2 Tup1 H rule rs->rule.length<=6->yo rule->(∀(l:Addr)(H':Hp),H' l=some (.lst (((chG (upto rule.length)).map (sumX rule)).map V.int))->Same H H'->H l=none->Q (.ref l) H')->sp_law_sums vs H Q E
theorem vn(T:Txt P w K mg A):FnOk P w K mg base CX0 3 A.a56 A.f56 ["_law_rule"] sp_law_sums:=by
 refine T.x56.F.ok mT (by walk_at "n") fun _ _ _ s H vs Q E hr h=>?_
 ·obtain⟨p,rs,rule,rfl,hp,h2,h6,hJ,k⟩:=h;refine⟨_,(z9 (zo (zX (ls:=["_law_choice"]) (fr:=[("_law_rule",0)]) (csf (z7 yb) pX) rfl (yA (pcl (wn T) hr T.x54 (pa1 (zt zq rfl T.w5 PySem.boot_len (pa1 (pv 0 (hv:=Or.inr (Or.inl rfl)))))))) (fun _ _ _ _=>pgc 0 (by decide+kernel) rfl rfl) (fun _ _ _ _=>yj) (fun _ _ _ _=>(zt (qS K rfl rfl) (glc (z7 yb)) T.w12 boot_sum (pa1 (yh (gm T) (hr.mono (by decide)) (glc (z7 yb)) T.x55.g T.x55.F.kp T.x55.b .nil wX (pa1 (zX (ls:=["_law_number"]) (fr:=[("_law_rule",1)]) (cs_of2 (z7 yb)) rfl (pi_tupK2 K rfl (pvc (z7 yb) 0)) (fun _ _ _ _=>pgc 0 (by decide+kernel) rfl rfl) (fun _ _ _ _=>yj) (fun _ _ _ _=>(pix (ix_tupK K rfl) (pvc2 (z7 yb) 1) (pvc2 (z7 yb) 0)))))))))))),?_⟩;have hrl:=h2.length;refine⟨_,rfl,p,_,rfl,.inr (SqT.of hp),rs.length,rfl,by omega,fun cl cs H1 gc h4 s1 ncl=>?_⟩;rw[<-hrl]at h4;have hcl:=h4.length;have h64:(chG (upto rule.length)).length<=64:=by
   rw[pc _ _ (kI _)];exact le_trans (Nat.pow_le_pow_right (by decide) h6) (by decide)
  refine⟨cl,rfl,⟨_,SqL.of gc⟩,gC (fun(z:Int) v _=>v=V.int z) ((chG (upto rule.length)).map (sumX rule)) [some (.ref p)] (by rw[length_map];exact hcl) (le_trans (m:=64) (by omega) (by decide)) (fun _ _ _ _ _ h=>h) rfl gc (fun j x b H' P hx hb s' hP=>?_) (fun zs H2 l s2 a2 hl=>?_)⟩
  ·obtain⟨ch,hch,c,rfl,gcc⟩:=h4.get hx;rw[getElem?_map,hch]at hb;have s02:=s1.trans s';obtain⟨cm1,cm2⟩:=wU rule.length (upto rule.length) (kI _) ch (mem_of_getElem? hch);have chb:∀j∈ch,0<=j/\j<rule.length:=fun j hj=>by
    have:=p8 (cm2 j hj);omega
   have gc':=s' _ _ gcc;have hp':=s02 _ _ hp;have h2':=h2.mv s02.tups;refine⟨_,rfl,c,rfl,⟨_,SqT.of gc'⟩,je (xs:=ch.map V.int) (fun i ys σ' H''=>H''=H'/\(∃v,σ'=[v,some (.ref p)])/\All2 Tup1 H' (yt rule (ch.take i)) ys) ⟨rfl,⟨_,rfl⟩,.nil⟩ ?_ ?_ ?_⟩
   ·rintro i ys σ' H'' hi ⟨rfl,_,h3⟩;refine⟨SqT.of gc',?_⟩;rw[<-h3.length];unfold yt;rw[length_map,length_take];exact le_trans (m:=6) (by omega) (by decide)
   ·rintro i x ys σ' H'' hx ⟨rfl,⟨v,rfl⟩,h3⟩;obtain⟨z,hz,rfl⟩:=kU hx;have hi:=(List.getElem?_eq_some_iff.mp hz).1;have ez:=(List.getElem?_eq_some_iff.mp hz).2;have hb:=chb z (mem_of_getElem? hz);obtain⟨w',hw,r⟩:=pick_at h2' hb.1 hb.2;refine⟨_,rfl,_,rfl,p,_,z,_,rfl,rfl,SqT.of hp',hw,rfl,⟨_,rfl⟩,?_⟩;rw[take_succ_eq_append_getElem hi,ez];unfold yt;rw[map_append];exact h3.snoc r
   ·rintro ys σ' H'' ⟨rfl,_,h3⟩ l hl0;rw[length_map,take_length]at h3;have fl:(yt rule ch).flatten.length<64:=by
     have e:(yt rule ch).length=ch.length:=by unfold yt;rw[length_map]
     have:(yt rule ch).flatten.length<=10*(yt rule ch).length:=pz fun l hl'=>by
      rcases rl hl' with h|h
      ·exact(hJ.2 l h).1
      ·rw[h];exact zero_le _
     omega
    refine⟨l,ys,_,rfl,z6,h3.mv (Same.new hl0).tups,fl,fun j1 ms H3 hj1 hjn sD _=>?_⟩;refine⟨j1,ms,rfl,.inr (SqT.of hj1),?_⟩;rw[show ms.sum=b by rw[<-Option.some.inj hb,sumX,ba hjn]];exact hP _ _ ((Same.new hl0).trans sD) rfl
  ·rw[dJ a2];exact k l _ z6 (s1.trans (s2.trans (Same.new hl))) ((s1.trans s2).free hl)
def xJ:List Str:=["_law_one","_law_other","_law_choice","_law_mine","_law_theirs"]
theorem kg:FnScope xJ ["_law_one","_law_other"] (z7 uq):=FS
inductive sp_law_unlike(vs:List V)(H:Hp)(Q:VK)(E:XK):Prop
 |mk (p q:Addr) (rs qs:List V) (one other:List (List Int)):vs=[.ref p,.ref q]->H p=some (.tup rs)->All2 Tup1 H one rs->H q=some (.tup qs)->All2 Tup1 H other qs->one.length=other.length->yo one->yo other->(∀v H',FU one other v H'->Same H H'->Q v H')->sp_law_unlike vs H Q E
theorem gu(T:Txt P w K mg A):FnOk P w K mg base CX0 4 A.a57 A.f57 ["_law_one","_law_other"] sp_law_unlike:=by
 refine T.x57.F.ok kg (by walk_at "n") fun _ _ _ s H vs Q E hr h=>?_
 ·obtain⟨p,q,rs,qs,one,other,rfl,hp,h2,hq,g2,hl,hR,hR2,k⟩:=h;refine⟨_,(z8 (yu PassesOwn.never rfl (pi_zip3 rfl T.w14 (pa3 (pcl (wn T) hr T.x54 (pa1 (zt zq rfl T.w5 PySem.boot_len (pa1 (pv 0))))) (pcl (vn T) hr T.x56 (pa1 (pv 0))) (pcl (vn T) hr T.x56 (pa1 (pv 1))))) (vv rfl (zR (pgn 2 kg.nd) (zR (pgn 3 kg.nd) (zR (pgn 4 kg.nd) jD))))
     (z9 (zC (zi op_ne (pv 3) (pv 4) (zu _))
     (z9 (zo (zx (pa3 (pv 2) (pv 3) (pv 4))))) zk)))
    (z9 (zo vt))),?_⟩
  have hrl:=h2.length;have h6:=hR.1;refine⟨_,rfl,p,_,rfl,.inr (SqT.of hp),rs.length,rfl,by omega,fun cl cs H1 gc h4 s1 ncl=>?_⟩;rw[<-hrl]at h4;refine⟨_,rfl,p,rs,one,rfl,s1 _ _ hp,h2.mv s1.tups,h6,hR,fun l1 H2 gl1 s2 _=>?_⟩;have s12:=s1.trans s2;refine⟨_,rfl,q,qs,other,rfl,s12 _ _ hq,g2.mv s12.tups,hR2.1,hR2,fun l2 H3 gl2 s3 _=>?_⟩;rw[<-hl]at gl2;have s23:=s2.trans s3;have s13:=s12.trans s3;have gc3:=s23 _ _ gc;have gl1':=s3 _ _ gl1;have a3:All2 Tup1 H3 (chG (upto one.length)) cs:=h4.mv s23.tups;have ln:=a3.length;refine⟨cl,l1,l2,rfl,⟨_,SqL.of gc3⟩,⟨_,SqL.of gl1'⟩,⟨_,SqL.of gl2⟩,for_zip3 (xs:=cs) (ys:=((chG (upto one.length)).map (sumX one)).map V.int) (us:=((chG (upto one.length)).map (sumX other)).map V.int) (fun i σ' H'=>Same H3 H'/\(∃v w u,σ'=[some (.ref p),some (.ref q),v,w,u])/\ ∀j c,j<i->(chG (upto one.length))[j]? =some c->sumX one c=sumX other c) ⟨Same.refl _,⟨_,_,_,rfl⟩,(fun j c h=>by omega)⟩ (by rw[length_map,length_map,ln]) (by rw[length_map,length_map,ln]) ?_ ?_ ?_⟩
  ·rintro i σ' H' _ ⟨s',_⟩;exact⟨SqL.of (s' _ _ gc3),SqL.of (s' _ _ gl1'),SqL.of (s' _ _ gl2)⟩
  ·rintro i x y u σ' H' T' hx hy hu ⟨s',⟨v,w',u',rfl⟩,hlt⟩ hT;obtain⟨c,hc,q1,rfl,e1⟩:=a3.get hx;rw[getElem?_map,getElem?_map,hc]at hy hu;cases hy;cases hu;have sT:=Same.new (o:=.tup [V.ref q1,V.int (sumX one c),V.int (sumX other c)]) hT;have gT:=z6 (H:=H') (a:=T') (o:=.tup [V.ref q1,V.int (sumX one c),V.int (sumX other c)]);generalize upd H' T' (.tup [V.ref q1,V.int (sumX one c),V.int (sumX other c)])=H4 at sT gT;refine⟨T',_,rfl,SqT.of gT,rfl,_,_,rfl,_,_,rfl,_,_,rfl,rfl,?_⟩;refine⟨_,rfl,_,rfl,rfl,_,rfl,?_⟩;by_cases he:sumX one c=sumX other c
   ·refine iteNS (by rw[he]) ⟨s'.trans sT,⟨_,_,_,rfl⟩,fun j c' hj hc'=>?_⟩;by_cases hji:j<i
    ·exact hlt j c' hji hc'
    ·have:j=i:=by omega
     subst this;rw[hc]at hc';cases hc';exact he
   ·refine iteT' (by simpa using he) ?_;refine⟨_,rfl,_,rfl,_,rfl,by show 3<=sizeLine;decide,fun t ht=>?_⟩;have s4:=sT.trans (Same.new (o:=.tup [V.ref q1,V.int (sumX one c),V.int (sumX other c)]) ht);refine k _ _ (.inr ⟨c,t,q1,?_,rfl,z6,s4 _ _ (s' _ _ e1)⟩) (s13.trans (s'.trans s4));exact dI hc (decide_eq_true he) fun j b hj hb=>decide_eq_false (fun z=>z (hlt j b hj hb))
  ·rintro σ' H' ⟨s',⟨v,w',u',rfl⟩,hlt⟩;refine k _ H' (.inl ⟨find_no fun j b hb=>decide_eq_false (fun z=>z (hlt j b ?_ hb)),rfl⟩) (s13.trans s');have:=(List.getElem?_eq_some_iff.mp hb).1;omega
def jM:List Str:=["_law_rules","_law_one","_law_two","_law_name_here","_law_found","_law_numbers"]
theorem yq:FnScope jM ["_law_rules","_law_one","_law_two"] (z7 yd):=FS
inductive sp_match_due(vs:List V)(H:Hp)(Q:VK)(E:XK):Prop
 |mk (rd:Addr) (kvs:List (Key×V)) (S:Std) (n m:Str):vs=[.ref rd,.str n,.str m]->H rd=some (.dK kvs)->StdV H S kvs->(∀p∈S,yo p.2)->(∀(t:Addr)(du:DueN)(H':Hp),H' t=some (.tup du.vals)->MDue S n m du->Same H H'->Q (.ref t) H')->sp_match_due vs H Q E
theorem uQ(T:Txt P w K mg A):FnOk P w K mg base CX0 6 A.a58 A.f58 ["_law_rules","_law_one","_law_two"] sp_match_due:=by
 refine T.x58.F.ok yq (by walk_at "n") fun _ _ _ s H vs Q E hr h=>?_
 ·obtain⟨rd,kvs,S,n,m,rfl,hrd,sv,hfine,k⟩:=h;refine⟨_,(z8 (yu PassesOwn.never rfl (kD (zx (pa2 (pv 1) (pv 2)))) (pgn 3 yq.nd)
     (z9 (zC (zi (qp (huR hr)) (pv 3) (pv 0) rfl)
     (z9 (zo (zx (pa2 zj (pv 3))))) zk)))
    (z8 (zC (zi op_ne (zt zq rfl T.w5 PySem.boot_len (pa1 (yL (huR hr) (pv 0) (pv 1) (fun _ _=>rfl)))) (zt zq rfl T.w5 PySem.boot_len (pa1 (yL (huR hr) (pv 0) (pv 2) (fun _ _=>rfl)))) (zu _))
     (z9 (zo (zx (pa2 zj zc)))) zk)
    (z8 (pset 4 yq.nd (pcl (gu T) hr T.x57 (pa2 (yL (huR hr) (pv 0) (pv 1) (fun _ _=>rfl)) (yL (huR hr) (pv 0) (pv 2) (fun _ _=>rfl)))))
    (z8 (zC (zi bi (pv 4) vt (zu _))
     (z9 (zo (zx (pa2 zj zj)))) zk)
    (z8 (pset 5 yq.nd (kG PySem.F.plainAttrs_str PySem.F.slot_str_join PySem.F.type_str_join jC zj (pa1 (zX (ls:=["_law_number"]) (fr:=[]) (csf (z7 yd) jM) rfl (kD (pix zI (pv 4) zc)) (fun _ _ _ _=>pgc 0 (by decide+kernel) rfl rfl) (fun _ _ _ _=>yj) (fun _ _ _ _=>(zH jd (glc (z7 yd)) T.w11 boot_str (pa1 (pvc (z7 yd) 0))))))))
    (z9 (zo (zx (pa2 zj (rg (kj (jh (pv 5) (kj (jh (pix zI (pv 4) zc) (kj (jh (pix zI (pv 4) zc) uj)))))))))))))))),?_⟩
  have two:2<=sizeLine:=by decide
  refine⟨_,rfl,_,rfl,two,fun tp htp=>?_⟩;have s0:=Same.new (o:=.tup [V.str n,V.str m]) htp;have g0:=z6 (H:=H) (a:=tp) (o:=.tup [V.str n,V.str m]);generalize upd H tp (.tup [V.str n,V.str m])=H0 at s0 g0 ⊢;have hrd0:=s0 _ _ hrd;refine⟨tp,rfl,⟨_,SqT.of g0⟩,uE (xs:=[V.str n,V.str m]) (fun i σ' H'=>H'=H0/\(∃v,σ'=[some (.ref rd),some (.str n),some (.str m),v,none,none])/\(0<i-> ∃r1,zG S n=some r1)/\(1<i-> ∃r2,zG S m=some r2)) ⟨rfl,⟨_,rfl⟩,(fun h=>by omega),(fun h=>by omega)⟩ ?_ ?_ ?_⟩
  ·rintro i σ' H' _ ⟨rfl,_⟩;exact SqT.of g0
  ·rintro i x σ' H' hx ⟨rfl,⟨v,rfl⟩,h1,h2⟩;obtain⟨z,rfl,kn,ks⟩:∃z,x=V.str z/\(zG S z=none-> ∀t H'',H'' t=some (.tup (DueN.name z).vals)->Same H' H''->Q (.ref t) H'')/\((∃r,zG S z=some r)->(0<i+1-> ∃r1,zG S n=some r1)/\(1<i+1-> ∃r2,zG S m=some r2)):=by
    match i,hx,h1 with
    | 0,hx,_ =>
     cases hx;exact⟨n,rfl,fun e t H'' gt s=>k t (.name n) H'' gt (.inl ⟨e,rfl⟩) (s0.trans s),fun e=>⟨fun _=>e,fun z=>by omega⟩⟩
    | 1,hx,h1 =>
     cases hx;obtain⟨r1,e1⟩:=h1 Nat.one_pos;exact⟨m,rfl,fun e t H'' gt s=>k t (.name m) H'' gt (.inr ⟨r1,e1,.inl ⟨e,rfl⟩⟩) (s0.trans s),fun e=>⟨fun _=>⟨r1,e1⟩,fun _=>e⟩⟩
   have dg:=DGet.k (k:=Sum.inr z) hrd0;rcases sv.val z with⟨e1,e2⟩|⟨r0,v0,e1,e2,_⟩
   ·rw[e2]at dg;exact⟨_,rfl,_,rfl,rd,none,rfl,dg,_,rfl,iteT ⟨_,rfl,two,fun t ht=>kn e1 t _ z6 (Same.new ht)⟩⟩
   ·rw[e2]at dg;exact⟨_,rfl,_,rfl,rd,_,rfl,dg,_,rfl,iteF ⟨rfl,⟨_,rfl⟩,ks ⟨r0,e1⟩⟩⟩
  rintro σ' H' ⟨rfl,⟨v,rfl⟩,h1,h2⟩;obtain⟨r1,e1⟩:=h1 (by show 0<2;decide);obtain⟨r2,e2⟩:=h2 (by show 1<2;decide);rcases sv.val n with⟨z,_⟩|⟨r',v1,z,q1,p,xs,rfl,gp,a2⟩
  ·rw[e1]at z;cases z
  rw[e1]at z;cases z;rcases sv.val m with⟨z,_⟩|⟨r',v2,z,q2,p2,xs2,rfl,gp2,a22⟩
  ·rw[e2]at z;cases z
  rw[e2]at z;cases z;have hR:yo r1:=hfine _ (kT e1);have hR2:yo r2:=hfine _ (kT e2);have dg:=DGet.k (k:=Sum.inr n) hrd0;rw[q1]at dg;have dg2:=DGet.k (k:=Sum.inr m) hrd0;rw[q2]at dg2;have l1:=a2.length;have l2:=a22.length;refine⟨_,rfl,_,rfl,rd,_,rfl,dg,p,_,rfl,.inr (SqT.of (s0 _ _ gp)),_,rfl,_,rfl,rd,_,rfl,dg2,p2,_,rfl,.inr (SqT.of (s0 _ _ gp2)),rfl,_,rfl,?_⟩;by_cases hl:r1.length=r2.length
  case neg =>
   refine iteT' (by rw[<-l1,<-l2];simp;omega) ⟨two,fun t ht=>k t (.bare _) _ z6 (.inr ⟨r1,e1,.inr ⟨r2,e2,.inl ⟨hl,rfl⟩⟩⟩) (s0.trans (Same.new ht))⟩
  refine iteNS (by rw[<-l1,<-l2,hl]) ?_;refine⟨_,rfl,_,rfl,rd,_,rfl,dg,_,rfl,_,rfl,rd,_,rfl,dg2,p,p2,xs,xs2,r1,r2,rfl,s0 _ _ gp,a2.mv s0.tups,s0 _ _ gp2,a22.mv s0.tups,hl,hR,hR2,fun v H4 hv s04=>?_⟩;have s4:=s0.trans s04;have hk:∀t H',H' t=some (.tup (DueN.told (pP r1 r2)).vals)->Same H H'->Q (.ref t) H':=fun t H' gt s=>k t _ H' gt (.inr ⟨r1,e1,.inr ⟨r2,e2,.inr ⟨hl,rfl⟩⟩⟩) s;unfold pP at hk;rcases hv with⟨e,rfl⟩|⟨c,t,cc,e,rfl,g1,g2⟩
  ·rw[e]at hk;exact⟨_,rfl,rfl,_,rfl,iteT ⟨two,fun t ht=>hk t _ z6 (s4.trans (Same.new ht))⟩⟩
  rw[e]at hk;obtain⟨cl,cm⟩:=wU r1.length (upto r1.length) (kI _) c (List.mem_of_find?_eq_some e);have cl6:c.length<=6:=le_trans cl hR.1;have cb:∀z∈c,0<=z/\z<6:=fun z hz=>by have:=p8 (cm z hz);have:=hR.1;omega
  have s1b:=hR.sum cl6;have s2b:=hR2.sum cl6;refine⟨_,rfl,rfl,_,rfl,iteF ?_⟩;refine⟨rfl,_,rfl,t,_,0,_,rfl,rfl,SqT.of g1,zp (j:=0) rfl,cc,rfl,⟨_,SqT.of g2⟩,je (xs:=c.map V.int) (fun i ys σ' H'=>H'=H4/\(∃v,σ'=[v])/\ys=((c.take i).map numS).map V.str) ⟨rfl,⟨_,rfl⟩,rfl⟩ ?_ ?_ ?_⟩
  ·rintro i ys σ' H' hi ⟨rfl,_,rfl⟩;refine⟨SqT.of g2,?_⟩;rw[length_map,length_map,length_take];exact le_trans (Nat.min_le_right _ _) (le_trans cl6 (by decide))
  ·rintro i x ys σ' H' hx ⟨rfl,⟨v,rfl⟩,rfl⟩;obtain⟨z,hz,rfl⟩:=kU hx;have h1:=cb z (mem_of_getElem? hz);have hi:=(List.getElem?_eq_some_iff.mp hz).1;have ez:=(List.getElem?_eq_some_iff.mp hz).2;refine⟨_,rfl,z,rfl,vd h1.1 (by omega),rfl,⟨_,rfl⟩,?_⟩;rw[take_succ_eq_append_getElem hi,ez];simp[numS]
  ·rintro ys σ' H' ⟨rfl,_,rfl⟩ l hl0;rw[length_map,take_length];have hw:=qh cl6 cb;refine⟨_,l,c.map numS,rfl,rfl,SqL.of z6,?_,?_⟩
   ·rw[show(Str.ofString " ").length=1 by decide+kernel,length_map];exact le_trans hw (by decide)
   have s2:=s4.trans (Same.new (o:=.lst ((c.map numS).map V.str)) hl0);have g1':=Same.new (o:=.lst ((c.map numS).map V.str)) hl0 _ _ g1;obtain⟨q1,q2,q3,q4⟩:=gR cl6 cb s1b s2b;unfold m7 at q4;simp only[zO]at q4;have big:∀n:Nat,n<=300->n<=sizeLine:=fun n h=>le_trans h (by decide);refine⟨?_,_,rfl,_,.inr rfl,big _ (by omega),?_,?_,_,rfl,t,_,1,_,rfl,rfl,SqT.of g1',zp (j:=1) rfl,numS (sumX r1 c),.inl ⟨_,rfl,vd s1b.1 s1b.2,rfl⟩,big _ (by omega),?_,?_,_,rfl,t,_,2,_,rfl,rfl,SqT.of g1',zp (j:=2) rfl,numS (sumX r2 c),.inl ⟨_,rfl,vd s2b.1 s2b.2,rfl⟩,big _ (by omega),?_,?_,by show 2<=sizeLine;decide,fun tq htq=>?_⟩
   all_goals (try rw[zD])
   all_goals first|exact hk tq _ z6 (s2.trans (Same.new htq))|exact big _ (by omega)|(simp only[zO];exact big _ (by omega))
def dY:List Str:=["_law_desk","_law_state","_law_rules","_law_names","_law_which","_law_one","_law_two","_law_line","_law_due","_law_heap_here","_law_number"]
theorem zT:FnScope dY ["_law_desk","_law_state","_law_rules","_law_names"] (z7 qC):=FS
inductive sp_asks(A:Adr)(vs:List V)(H:Hp)(Q:VK)(E:XK):Prop
 |mk (x st rd nl ga ca:Addr) (B:List (Addr×HO)) (O:List Addr) (N:Nat) (names:List Str) (S:Std) (past und:List Std) (kvs:List (Key×V)):vs=[.ref x,.ref st,.ref rd,.ref nl]->WL A.w8 H st ga ca x B O N S past und->N<=900000->(nl,HO.lst (names.map V.str))∈B->(rd,HO.dK kvs)∈B->StdV H S kvs->FineS S 50->past.length<=1000->und.length<=1000->(∀n∈names,zF n=true)->names.length=4->(∀(H':Hp)(O':List Addr),WL A.w8 H' st ga ca x B O' (N+1000) S past und->Tups H H'->Q (.bl true) H')->sp_asks A vs H Q E
theorem mh(T:Txt P w K mg A):FnOk P w K mg base CX0 35 A.a59 A.f59 ["_law_desk","_law_state","_law_rules","_law_names"] (sp_asks A):=by
 refine T.x59.F.ok zT (by walk_at "n") fun _ _ _ s H vs Q E hr h=>?_
 ·obtain⟨x,st,rd,nl,ga,ca,B,O,N,names,S,past,und,kvs,rfl,W0,hN,hn,hrd,sv,F,lp,lu,nm,n4,k⟩:=h;refine⟨_,(z8 (pset 4 zT.nd (pcl (zA T) hr T.x2 (pa2 (pv 1) zc)))
    (z8 (ps_par (i:=5) (j:=6) rfl zT.nd rfl rfl (by decide) rfl rfl (pa2 (pix zy (pv 3) (pcl (zA T) hr T.x2 (pa2 (pv 1) zc))) (pix zy (pv 3) (pcl (zA T) hr T.x2 (pa2 (pv 1) zc)))) rfl)
    (z8 (zC (zi zZ (pv 4) zc (zu _))
     (z9 (zo (pcl (zQ T) hr T.x51 (pa3 (pv 0) zj (zx (pa2 zj (pcl (yK T) hr T.x10 (pa1 (pv 2))))))))) zk)
    (z8 (zC (zi zZ (pv 4) zc (zu _))
     (z9 (zo (pcl (zQ T) hr T.x51 (pa3 (pv 0) (rg (kj (jh (pv 5) (kj (jh (pv 6) uj))))) (pcl (uQ T) hr T.x58 (pa3 (pv 2) (pv 5) (pv 6))))))) zk)
    (z8 (pset 7 zT.nd (rg (kj (jh (pv 5) uj))))
    (z8 (pset 8 zT.nd (zx (pa2 zj (pv 5))))
    (z8 (zC (zi (cz (huR hr)) (pv 5) (pv 2) rfl)
     (z9 (pset 8 zT.nd (zx (pa2 zj (pcl (yp T) hr T.x8 (pa1 (yL (huR hr) (pv 2) (pv 5) (fun _ _=>rfl)))))))) zk)
    (z8 (zC (zi zZ (pv 4) zc (zu _))
     (z8 (pset 9 zT.nd (pcl (wo T) hr T.x4 (pa3 (pv 1) zc zc)))
    (z8 (pset 7 zT.nd (zL yH (rg (kj (jh (pv 5) (kj uj)))) (pcl (yW T) hr T.x7 (pa1 (pv 9)))))
    (z9 (zC (zi (cz (huR hr)) (pv 5) (pv 2) rfl)
     (z8 (pset 10 zT.nd (pcl (xS T) hr T.x53 (pa2 (yL (huR hr) (pv 2) (pv 5) (fun _ _=>rfl)) (pv 9))))
    (z9 (pset 8 zT.nd (zx (pa2 zj (rf (zi bi (pv 10) vt (zu _)) zj (rg (kj (jh (pv 10) uj))))))))) zk)))) zk)
    (z9 (zo (pcl (zQ T) hr T.x51 (pa3 (pv 0) (pv 7) (pv 8))))))))))))),?_⟩
  have two:2<=sizeLine:=by decide
  have lb:(Str.ofString " ").length=1:=by decide+kernel
  have lsh:(Str.ofString "show ").length=5:=by decide+kernel
  have lma:(Str.ofString "match ").length=6:=by decide+kernel
  have lke:(Str.ofString "keeps ").length=6:=by decide+kernel
  have big:∀n:Nat,n<=20000->n<=sizeLine:=fun n h=>le_trans h (by decide);refine⟨_,rfl,st,ga,ca,N,4,rfl,W0.s,by omega,by decide,by decide,fun wh H1 w0 w1 S1 K1=>?_⟩;have W1:=W0.drawn S1 K1;refine⟨_,rfl,_,rfl,st,ga,ca,_,4,rfl,W1.s,by omega,by decide,by decide,fun r2 H2 r20 r21 S2 K2=>?_⟩;have W2:=W1.drawn S2 K2;obtain⟨n,mn,en⟩:=xL n4 r20 r21;refine⟨nl,_,_,_,rfl,rfl,SqL.of (W2.bx _ hn).1,en,?_⟩;refine⟨_,rfl,_,rfl,st,ga,ca,_,4,rfl,W2.s,by omega,by decide,by decide,fun r3 H3 r30 r31 S3 K3=>?_⟩;have W3:=W2.drawn S3 K3;obtain⟨m,mm,em⟩:=xL n4 r30 r31;refine⟨nl,_,_,_,rfl,rfl,SqL.of (W3.bx _ hn).1,em,_,_,rfl,?_⟩;have t03:Tups H H3:=(K1.tups W0.s).trans ((K2.tups W1.s).trans (K3.tups W2.s));have sv3:=sv.mv t03;have gd3:=(W3.bx _ hrd).1;have hnn:=nm n mn;have hnm:=nm m mm;have ln:=zB hnn;have lm:=zB hnm;clear W1 W2 S1 S2 S3 K1 K2 K3 en em;have fin:∀(N':Nat)(H':Hp)(line:Str)(du:DueN)(td:Addr),N'<=N+1000->WL A.w8 H' st ga ca x B O N' S past und->wH S past und line du S past und->H' td=some (.tup du.vals)->Tups H H'->sp_right A [V.ref x,V.str line,V.ref td] H' Q E0:=fun N' H' line du td hN' W' st' gt t' =>
   ⟨x,line,O,S,past,und,du,td,S,past,und,rfl,W'.d.1,st',gt,fun H2 O2 A2=>k H2 O2 ((W'.desk A2).mono hN') (t'.trans A2.tups)⟩
  refine⟨_,rfl,rfl,_,rfl,ite2 (fun _=>?_) (fun _=>?_)⟩
  ·refine⟨_,rfl,_,rfl,rd,kvs,S.map (·.1),rfl,gd3,sv3.keys,by rw[length_map];have:=F.ln;omega,fun s hs=>?_,fun z H4 hNz s4=>⟨two,fun td htd=>?_⟩⟩
   ·obtain⟨p,hp,rfl⟩:=mem_map.mp hs;exact F.nm p hp
   have s5:=s4.trans (Same.new (o:=.tup [V.str (Str.ofString "told"),V.str z]) htd);exact fin _ _ _ (.told z) td (by omega) (W3.same s5) (xo F lp lu hNz) z6 (t03.trans s5.tups)
  refine⟨_,rfl,rfl,_,rfl,ite2 (fun _=>?_) (fun _=>?_)⟩
  ·refine⟨_,rfl,?_,_,rfl,_,.inr rfl,big _ (by omega),?_,?_,_,rfl,_,.inr rfl,big _ (by omega),?_,?_,?_⟩
   all_goals (try rw[zD])
   all_goals first|(refine big _ ?_;simp only[zO];omega)|exact big _ (by omega)|skip
   refine⟨_,rfl,_,rfl,_,rfl,rd,kvs,S,n,m,rfl,gd3,sv3,F.hr,fun td du H4 gt hM s4=>?_⟩;exact fin _ _ (lineX n m) du td (by omega) (W3.same s4) (step_match F lp lu hnn hnm hM) gt (t03.trans s4.tups)
  refine⟨?_,_,rfl,_,.inr rfl,big _ (by omega),?_,?_,?_⟩
  all_goals (try rw[zD])
  all_goals first|(refine big _ ?_;simp only[zO];omega)|exact big _ (by omega)|skip
  refine⟨_,rfl,two,fun t0 ht0=>?_⟩;have s4:=Same.new (o:=.tup [V.str (Str.ofString "name"),V.str n]) ht0;have g4:=z6 (H:=H3) (a:=t0) (o:=.tup [V.str (Str.ofString "name"),V.str n]);generalize upd H3 t0 (.tup [V.str (Str.ofString "name"),V.str n])=H4 at s4 g4 ⊢;dsimp only[d8,jX];refine yD (fun σ' H'=>∃ dd,σ'=[some (.ref x),some (.ref st),some (.ref rd),some (.ref nl),some (.int wh),some (.str n),some (.str m),some (.str (Str.ofString "show "++n)),some (.ref dd),none,none]/\Same H3 H'/\H' dd=some (.tup (jH S n).vals)) (fun nx hnx=>?_) ?_
  ·have dg:=DGet.k (k:=Sum.inr n) (s4 _ _ gd3);rcases sv3.val n with⟨e1,e2⟩|⟨r0,v0,e1,e2,p0,xs0,rfl,gp0,a0⟩
   ·rw[e2]at dg;refine⟨_,rfl,_,rfl,rd,none,rfl,dg,_,rfl,iteF ?_⟩;refine hnx _ _ ⟨t0,rfl,s4,?_⟩;unfold jH;rw[e1];exact g4
   ·rw[e2]at dg;have hR:=F.look e1;refine⟨_,rfl,_,rfl,rd,_,rfl,dg,_,rfl,iteT ?_⟩;refine⟨_,rfl,_,rfl,rd,_,rfl,dg,p0,r0,xs0,rfl,s4 _ _ gp0,a0.mv s4.tups,hR.1,hR.fine.2,fun H5 s5=>⟨two,fun t1 ht1=>?_⟩⟩;refine hnx _ _ ⟨t1,rfl,s4.trans (s5.trans (Same.new ht1)),?_⟩;unfold jH;rw[e1];exact z6
  rintro σ' H5 ⟨dd,rfl,s5,gdd⟩;have W5:=W3.same s5;have t05:=t03.trans s5.tups;refine⟨_,rfl,rfl,_,rfl,ite2 (fun _=>?_) (fun _=>?_)⟩
  case refine_2=>exact⟨_,rfl,_,rfl,_,rfl,fin _ _ _ _ dd (by omega) W5 (d6 F lp lu hnn) gdd t05⟩
  refine⟨_,rfl,st,ga,ca,_,6,4,rfl,W5.s,by omega,by decide,by decide,by decide,by decide,fun q hs H6 lh bh ph gq _ S6 K6=>?_⟩;have hh:IsHeap 60 (10^60) hs:=⟨by omega,fun y hy=>⟨(bh y hy).1,Int.lt_of_le_of_lt (bh y hy).2 (by decide)⟩,ph⟩;have h10:hs.length<=10:=by omega
  have W6:=W5.drawn S6 K6;have k6:=K6.tups W5.s;have t06:=t05.trans k6;have gdd6:=k6 _ _ gdd;have lt:=wz h10 hh.bd;refine⟨?_,_,rfl,_,.inr rfl,big _ (by omega),?_,?_,?_,_,rfl,q,hs,rfl,gq,by omega,fun y hy=>⟨(hh.bd y hy).1,le_of_lt (hh.bd y hy).2⟩,fun H7 s7=>⟨_,_,rfl,rfl,?_,?_⟩⟩
  all_goals (try rw[zD])
  all_goals first|(refine big _ ?_;simp only[zO];omega)|exact big _ (by omega)|skip
  have W7:=W6.same s7;have t07:=t06.trans s7.tups;have gd7:=(W7.bx _ hrd).1;have sv7:=sv.mv t07;have dg:=DGet.k (k:=Sum.inr n) gd7;have sh:=step_keep F lp lu hnn hh h10;unfold lineK dO at sh;rcases sv7.val n with⟨e1,e2⟩|⟨r0,v0,e1,e2,p0,xs0,rfl,gp0,a0⟩
  ·rw[e2]at dg;refine⟨_,rfl,_,rfl,rd,none,rfl,dg,_,rfl,iteF ?_⟩;have gdd7:=s7.tups _ _ gdd6;unfold jH at gdd7;rw[e1]at gdd7 sh;exact⟨_,rfl,_,rfl,_,rfl,fin _ _ _ _ dd (by omega) W7 sh gdd7 t07⟩
  ·rw[e2]at dg;have hR:=F.look e1;rw[e1]at sh;refine⟨_,rfl,_,rfl,rd,_,rfl,dg,_,rfl,iteT ?_⟩;refine⟨_,rfl,_,rfl,rd,_,rfl,dg,_,rfl,p0,q,xs0,r0,hs,rfl,gp0,a0,s7 _ _ gq,le_trans hR.1 (by decide),fun h hh=>le_trans (hR.2 h hh).1 (by decide),fun H8 s8=>?_⟩;have W8:=W7.same s8;have t08:=t07.trans s8.tups;dsimp only at sh;unfold keepT at sh;cases hf:jV r0 hs with
   |none =>
    rw[hf]at sh;refine⟨_,rfl,rfl,_,rfl,iteT ⟨two,fun td htd=>?_⟩⟩;exact⟨_,rfl,_,rfl,_,rfl,fin _ _ _ _ td (by omega) (W8.same (Same.new htd)) sh z6 (t08.trans (Same.new htd).tups)⟩
   |some z =>
    rw[hf]at sh;have zb:0<=z/\z<60:=cZ (le_trans hR.1 (by decide)) hf;have l3:(Str.ofString "no ").length=3:=by decide+kernel
    have lz:(numS z).length<=2:=by rw[zJ];exact ya zb.1 (by decide) (by omega)
    refine⟨_,rfl,rfl,_,rfl,iteF ⟨?_,_,rfl,numS z,.inl ⟨z,rfl,ue zb.1 (Int.le_trans (show z<=60 by omega) (by decide)),rfl⟩,big _ (by omega),?_,?_,two,fun td htd=>?_⟩⟩
    all_goals (try rw[zD])
    all_goals first|(refine big _ ?_;simp only[zO];omega)|exact big _ (by omega)|skip
    exact⟨_,rfl,_,rfl,_,rfl,fin _ _ _ _ td (by omega) (W8.same (Same.new htd)) sh z6 (t08.trans (Same.new htd).tups)⟩
def tU:List Str:=["_law_desk","_law_book","_law_here","_law_word","_law_there"]
theorem uv:FnScope tU ["_law_desk","_law_book","_law_here","_law_word"] (z7 vx):=FS
inductive sp_moved(A:Adr)(vs:List V)(H:Hp)(Q:VK)(E:XK):Prop
 |mk (x bl:Addr) (i:Nat) (w:Str) (st ga ca nl:Addr) (B:List (Addr×HO)) (O:List Addr) (N:Nat) (names:List Str) (book:List Std) (us:List V):vs=[.ref x,.ref bl,.int i,.str w]->BW A.w8 H st ga ca x nl bl B O N names book us i->((w=Str.ofString "undo"\/w=Str.ofString "again"))->(∀(t:Addr)(j:Nat)(H':Hp)(O':List Addr),H' t=some (.tup [.int j,.bl true])->BW A.w8 H' st ga ca x nl bl B O' N names book us j->Tups H H'->(w=Str.ofString "undo"->0<i->j+1=i)->Q (.ref t) H')->sp_moved A vs H Q E
theorem ug(T:Txt P w K mg A):FnOk P w K mg base CX0 35 A.a60 A.f60 ["_law_desk","_law_book","_law_here","_law_word"] (sp_moved A):=by
 refine T.x60.F.ok uv (by walk_at "n") fun _ _ _ s H vs Q E hr h=>?_
 ·obtain⟨x,bl,i,w,st,ga,ca,nl,B,O,N,names,book,us,rfl,b,hw,k⟩:=h;refine⟨_,(z8 (pset 4 uv.nd (rf (zi zZ (pv 3) zj (zu _)) (zL kA (pv 2) zc) (zL op_sub (pv 2) zc)))
    (z8 (zC (PW.pt (cE (zi mG (pv 4) zc (zu _)) (xa (zi op_ge (pv 4) (zt zq rfl T.w5 PySem.boot_len (pa1 (pv 1))) (zu _)))))
     (z9 (zo (zx (pa2 (pv 2) (pcl (zQ T) hr T.x51 (pa3 (pv 0) (pv 3) (zx (pa2 zj zc)))))))) zk)
    (z9 (zo (zx (pa2 (pv 4) (pcl (zQ T) hr T.x51 (pa3 (pv 0) (pv 3) (zx (pa2 zj (pcl (yK T) hr T.x10 (pa1 (pix zy (pv 1) (pv 4)))))))))))))),?_⟩
  have two:2<=sizeLine:=by decide
  have ln60:book.length<=60:=by have:=b.ln;omega
  have ul:=b.ulen;have nothing:∀(there:Int),(w=Str.ofString "undo"/\i=0)\/(w=Str.ofString "again"/\book.length<=i+1)->tRet (tTup (yT (tVar 2) (yT (tCall (sp_right A) [] E0 (yT (tVar 0) (yT (tVar 3) (yT (tTup (yT (tC (V.str (Str.ofString "nothing"))) (yT (tC (V.int 0)) tNil))) tNil)))) tNil))) {nx:=fun x H'=>Q V.non H',rt:=Q} [some (.ref x),some (.ref bl),some (.int i),some (.str w),some (.int there)] H:=by
   intro there hc;refine⟨_,rfl,_,rfl,_,rfl,two,fun td htd=>?_⟩;have s1:=Same.new (o:=.tup [V.str (Str.ofString "nothing"),V.int 0]) htd;have b1:=b.same s1;refine⟨x,_,O,_,_,_,.bare _,td,_,_,_,rfl,b1.wl.d.1,vI ln60 b.fine hc,z6,fun H2 O2 A2=>⟨two,fun t ht=>?_⟩⟩;refine k t i _ O2 z6 ((b1.desk b.lt A2).same (Same.new ht)) (s1.tups.trans (A2.tups.trans (Same.new ht).tups)) fun e hi=>?_;rcases hc with⟨_,e0⟩|⟨e1,_⟩
   ·omega
   ·rw[e1]at e;exact absurd e (by decide+kernel)
  have told:∀(j:Nat),j<book.length->(∀z,yi ((bkAt book j).map (·.1)) z->wH (bkAt book i) (bkP book i) (bkU book i) w (.told z) (bkAt book j) (bkP book j) (bkU book j))->(w=Str.ofString "undo"->0<i->j+1=i)->tRet (tTup (yT (tVar 4) (yT (tCall (sp_right A) [] E0 (yT (tVar 0) (yT (tVar 3) (yT (tTup (yT (tC (V.str (Str.ofString "told"))) (yT (tCall sp_lnames [] E0 (yT (tOp (rIxL K) (tVar 1) (tVar 4)) tNil)) tNil))) tNil)))) tNil))) {nx:=fun x H'=>Q V.non H',rt:=Q} [some (.ref x),some (.ref bl),some (.int i),some (.str w),some (.int (j:Int))] H:=by
   intro j hj hst hu;obtain⟨d,kvs,hd,m,gd,sv⟩:=b.dict hj;refine⟨_,rfl,_,rfl,_,rfl,_,rfl,_,rfl,bl,_,_,_,rfl,rfl,SqL.of b.gb,zp hd,d,kvs,(bkAt book j).map (·.1),rfl,gd,sv.keys,by rw[length_map];have:=(b.fine j).ln;omega,fun s hs=>?_,fun z H1 hN s1=>⟨two,fun td htd=>?_⟩⟩
   ·obtain⟨p,hp,rfl⟩:=mem_map.mp hs;exact(b.fine j).nm p hp
   have s2:=s1.trans (Same.new (o:=.tup [V.str (Str.ofString "told"),V.str z]) htd);have b1:=b.same s2;refine⟨x,_,O,_,_,_,.told z,td,_,_,_,rfl,b1.wl.d.1,hst z hN,z6,fun H2 O2 A2=>⟨two,fun t ht=>?_⟩⟩;exact k t j _ O2 z6 ((b1.desk hj A2).same (Same.new ht)) (s2.tups.trans (A2.tups.trans (Same.new ht).tups)) hu
  rcases hw with rfl|rfl
  ·refine⟨_,rfl,rfl,_,rfl,iteF ⟨_,rfl,_,_,rfl,rfl,?_⟩⟩;cases i with
   |zero =>
    refine⟨_,rfl,_,_,rfl,rfl,_,rfl,ite2 (fun _=>iteT (nothing _ (.inl ⟨rfl,rfl⟩))) fun z=>absurd (decide_eq_true (show((0:Nat):Int)-1<0 by decide)) z⟩
   |succ j =>
    have e:(((j+1:Nat):Int)-1)=(j:Int):=by omega
    have hj:=b.lt;dsimp only;rw[e];refine⟨_,rfl,_,_,rfl,rfl,_,rfl,ite2 (fun z=>absurd (of_decide_eq_true z) (show ¬(j:Int)<0 by omega)) fun _=>?_⟩;refine⟨_,rfl,_,rfl,bl,_,rfl,.inl (SqL.of b.gb),_,_,rfl,rfl,_,rfl,ite2 (fun z=>absurd (of_decide_eq_true z) (show ¬(j:Int)>=(us.length:Int)by omega)) fun _=>?_⟩;exact told j (by omega) (fun z hN=>step_undo hj ln60 b.fine hN) fun _ _=>rfl
  ·refine⟨_,rfl,rfl,_,rfl,iteT ⟨_,rfl,_,_,rfl,rfl,?_⟩⟩;have hi:=b.lt;have e:((i:Int)+1)=((i+1:Nat):Int):=by omega
   dsimp only;rw[e];refine⟨_,rfl,_,_,rfl,rfl,_,rfl,ite2 (fun z=>absurd (of_decide_eq_true z) (show ¬((i+1:Nat):Int)<0 by omega)) fun _=>?_⟩;refine⟨_,rfl,_,rfl,bl,_,rfl,.inl (SqL.of b.gb),_,_,rfl,rfl,_,rfl,ite2 (fun z=>?_) fun z=>?_⟩
   ·have z':((i+1:Nat):Int)>=(us.length:Int):=of_decide_eq_true z;exact nothing _ (.inr ⟨rfl,by omega⟩)
   ·have z':¬((i+1:Nat):Int)>=(us.length:Int):=fun y=>z (decide_eq_true y);exact told (i+1) (by omega) (fun z hN=>step_again (by omega) ln60 b.fine hN) fun y=>absurd y (by decide+kernel)
def n__law_end:List Str:=["_law_desk","_law_names","_law_book","_law_here","_law_name_here","_law_due","_law_right_here"]
theorem ka:FnScope n__law_end ["_law_desk","_law_names","_law_book","_law_here"] (z7 xc):=FS
inductive sp_end(A:Adr)(vs:List V)(H:Hp)(Q:VK)(E:XK):Prop
 |mk (x nl bl:Addr) (i:Nat) (st ga ca:Addr) (B:List (Addr×HO)) (O:List Addr) (N:Nat) (names:List Str) (book:List Std) (us:List V):vs=[.ref x,.ref nl,.ref bl,.int i]->BW A.w8 H st ga ca x nl bl B O N names book us i->(∀H',Q (.bl true) H')->sp_end A vs H Q E
theorem cu(T:Txt P w K mg A):FnOk P w K mg base CX0 37 A.a61 A.f61 ["_law_desk","_law_names","_law_book","_law_here"] (sp_end A):=by
 refine T.x61.F.ok ka (by walk_at "n") fun _ _ _ s H vs Q E hr h=>?_
 ·obtain⟨x,nl,bl,i,st,ga,ca,B,O,N,names,book,us,rfl,b,k⟩:=h;refine⟨_,(z8 (yu PassesOwn.never rfl (yA (pv 1)) (pgn 4 ka.nd)
     (z8 (pset 5 ka.nd (zx (pa2 zj (pv 4))))
    (z8 (zC (zi (cz (huR hr)) (pv 4) (pix zy (pv 2) (pv 3)) rfl)
     (z9 (pset 5 ka.nd (zx (pa2 zj (pcl (yp T) hr T.x8 (pa1 (yL (huR hr) (pix zy (pv 2) (pv 3)) (pv 4) (fun _ _=>rfl)))))))) zk)
    (z9 (zC (wJ (zY (pcl (zQ T) hr T.x51 (pa3 (pv 0) (zL yH zj (pv 4)) (pv 5))) (fun _=>rfl)))
     (z9 (zo cA)) zk)))))
    (z8 (bp PassesOwn.never (zi cy (pv 3) zc (zu _))
     (z8 (gY (pcl (ug T) hr T.x60 (kx (pv 0) (pa3 (pv 2) (pv 3) zj))) (vv rfl (zR (pgn 3 ka.nd) (zR (pgn 6 ka.nd) jD))))
    (z9 (zC (wJ (zY (pv 6) (fun _=>rfl)))
     (z9 (zo cA)) zk))))
    (z9 (zo (pe_and (pcl (zQ T) hr T.x51 (pa3 (pv 0) zj (zx (pa2 zj zc)))) (pe_one (pcl (zQ T) hr T.x51 (pa3 (pv 0) zj (zx (pa2 zj zj)))))))))),?_⟩
  have two:2<=sizeLine:=by decide
  have lsh:(Str.ofString "show ").length=5:=by decide+kernel
  refine⟨_,rfl,nl,rfl,⟨_,SqL.of b.gn⟩,wC (xs:=names.map V.str) (fun _ σ' H'=>∃(O':List Addr)(v4 v5:Option V),σ'=[some (.ref x),some (.ref nl),some (.ref bl),some (.int i),v4,v5,none]/\BW A.w8 H' st ga ca x nl bl B O' N names book us i) ⟨O,_,_,rfl,b⟩ ?_ ?_ ?_⟩
  ·rintro j σ' H' _ ⟨O',v4,v5,rfl,b'⟩;exact SqL.of b'.gn
  ·rintro j y σ' H' hy ⟨O',v4,v5,rfl,b'⟩;rw[getElem?_map]at hy;obtain⟨n,hn,e⟩:=map_eq_some_iff.mp hy;subst e;have hnn:=b'.nm n (mem_of_getElem? hn);have ln:=zB hnn;obtain⟨d,kvs,hd,m,gd,sv⟩:=b'.dict b'.lt;refine⟨_,rfl,two,fun t0 ht0=>?_⟩;have s4:=Same.new (o:=.tup [V.str (Str.ofString "name"),V.str n]) ht0;have g4:=z6 (H:=H') (a:=t0) (o:=.tup [V.str (Str.ofString "name"),V.str n]);generalize upd H' t0 (.tup [V.str (Str.ofString "name"),V.str n])=H4 at s4 g4 ⊢;have b4:=b'.same s4;dsimp only[d8,jX];refine yD (fun σ' H5=>∃ dd,σ'=[some (.ref x),some (.ref nl),some (.ref bl),some (.int i),some (.str n),some (.ref dd),none]/\Same H' H5/\H5 dd=some (.tup (jH (bkAt book i) n).vals)) (fun nx hnx=>?_) ?_
   ·have dg:=DGet.k (k:=Sum.inr n) (s4 _ _ gd);rcases sv.val n with⟨e1,e2⟩|⟨r0,v0,e1,e2,p0,xs0,rfl,gp0,a0⟩
    ·rw[e2]at dg;refine⟨_,rfl,_,rfl,_,rfl,bl,_,_,_,rfl,rfl,SqL.of b4.gb,zp hd,d,none,rfl,dg,_,rfl,iteF ?_⟩;refine hnx _ _ ⟨t0,rfl,s4,?_⟩;unfold jH;rw[e1];exact g4
    ·rw[e2]at dg;have hR:=(b'.fine i).look e1;refine⟨_,rfl,_,rfl,_,rfl,bl,_,_,_,rfl,rfl,SqL.of b4.gb,zp hd,d,_,rfl,dg,_,rfl,iteT ?_⟩;refine⟨_,rfl,_,rfl,bl,_,_,_,rfl,rfl,SqL.of b4.gb,zp hd,_,rfl,d,_,rfl,dg,p0,r0,xs0,rfl,s4 _ _ gp0,a0.mv s4.tups,hR.1,hR.fine.2,fun H5 s5=>⟨two,fun t1 ht1=>?_⟩⟩;refine hnx _ _ ⟨t1,rfl,s4.trans (s5.trans (Same.new ht1)),?_⟩;unfold jH;rw[e1];exact z6
   rintro σ' H5 ⟨dd,rfl,s5,gdd⟩;have b5:=b'.same s5;refine⟨_,rfl,_,rfl,_,_,rfl,rfl,by rw[lsh];exact le_trans (m:=100) (by omega) (by decide),_,rfl,x,_,O',_,_,_,_,dd,_,_,_,rfl,b5.wl.d.1,d6 (b5.fine i) b5.lp.1 b5.lp.2 hnn,gdd,fun H6 O6 A6=>⟨_,rfl,iteF ?_⟩⟩;exact⟨O6,_,_,rfl,b5.desk b5.lt A6⟩
  rintro σ' H' ⟨O',v4,v5,rfl,b'⟩;refine⟨fun(j:Nat) σ' H'=>∃(O':List Addr)(v4 v5 v6:Option V),σ'=[some (.ref x),some (.ref nl),some (.ref bl),some (.int j),v4,v5,v6]/\BW A.w8 H' st ga ca x nl bl B O' N names book us j,⟨i,O',_,_,_,rfl,b'⟩,?_⟩;rintro j σ' H' ⟨O',v4,v5,v6,rfl,b'⟩;refine⟨_,rfl,_,_,rfl,rfl,_,rfl,ite2 (fun hc=>?_) (fun hc=>?_)⟩
  ·have hc':(j:Int)>0:=of_decide_eq_true hc;refine⟨fun σ3 H3=>∃(O':List Addr)(j':Nat)(v4 v5 v6:Option V),j'+1=j/\ σ3=[some (.ref x),some (.ref nl),some (.ref bl),some (.int j'),v4,v5,v6]/\BW A.w8 H3 st ga ca x nl bl B O' N names book us j',fun σ3 H3 ⟨O3,j',a4,a5,a6,e,e3,b3⟩=>⟨j',by omega,O3,a4,a5,a6,e3,b3⟩,?_⟩;refine⟨_,rfl,_,rfl,_,rfl,x,bl,j,_,st,ga,ca,nl,B,O',N,names,book,us,rfl,b',.inl rfl,fun t j' H2 O2 gt b2 _ hu=>?_⟩;refine⟨t,_,rfl,SqT.of gt,rfl,_,_,rfl,_,_,rfl,rfl,?_⟩;exact⟨_,rfl,_,rfl,iteF ⟨O2,j',_,_,_,hu rfl (by omega),rfl,b2⟩⟩
  ·have hj:j=0:=by
    have hc':¬(j:Int)>0:=fun z=>hc (decide_eq_true z);omega
   subst hj;have ln60:book.length<=60:=by have:=b'.ln;omega
   refine⟨_,rfl,two,fun td htd=>?_⟩;have s1:=Same.new (o:=.tup [V.str (Str.ofString "nothing"),V.int 0]) htd;have b1:=b'.same s1;refine⟨x,_,O',_,_,_,.bare _,td,_,_,_,rfl,b1.wl.d.1,vI ln60 b1.fine (.inl ⟨rfl,rfl⟩),z6,fun H2 O2 A2=>⟨_,rfl,iteT ?_⟩⟩;have b2:=b1.desk b1.lt A2;refine⟨_,rfl,two,fun te hte=>?_⟩;have s2:=Same.new (o:=.tup [V.str (Str.ofString "told"),V.str (Str.ofString "no names")]) hte;have b3:=b2.same s2;refine⟨x,_,O2,_,_,_,.told _,te,_,_,_,rfl,b3.wl.d.1,xo (b3.fine 0) b3.lp.1 b3.lp.2 (.inl ⟨by rw[b3.z0];rfl,rfl⟩),z6,fun H3 O3 A3=>k H3⟩
def pT:List Str:=["self"]
theorem vR:FnScope pT ["self"] (z7 wu):=FS
inductive sp_desk_init(A:Adr)(vs:List V)(H:Hp)(Q:VK)(E:XK):Prop
 |mk (x dx:Addr):vs=[.ref x]->H x=some (.ins A.w8 dx [])->(∀(H':Hp)(O:List Addr),DeskAt A.w8 H' x O [] [] []->(∀b o,H b=some o->b≠x->H' b=some o)->(∀b∈O,b=x\/H b=none)->Q .non H')->sp_desk_init A vs H Q E
theorem vL(T:Txt P w K mg A):FnOk P w K mg base CX0 1 A.a62 A.f62 ["self"] (sp_desk_init A):=by
 refine T.x62.F.ok vR (by walk_at "n") fun _ _ _ s H vs Q E hr h=>?_
 ·obtain⟨x,dx,rfl,hx,k⟩:=h;refine⟨_,(z8 (qr (pv 0) re rfl)
    (z8 (qr (pv 0) (jg kY) rfl)
    (z9 (qr (pv 0) (jg kY) rfl)))),?_⟩
  refine fun d hd=>⟨_,rfl,x,A.w8,dx,[],rfl,by rw[zh (zr hx hd)];exact hx,T.w58,T.w61,(by show 0<1000;decide),?_⟩;have nxd:=zr hx hd;refine⟨by show 0<=sizeLine;decide,fun pl hpl=>⟨_,rfl,x,A.w8,dx,[("standing",.ref d)],rfl,?_,T.w58,T.w60,(by show 1<1000;decide),?_⟩⟩
  ·have:x≠pl:=fun e=>by rw[<-e,z6]at hpl;cases hpl
   rw[zh this,z6];rfl
  have nxp:pl≠x:=fun e=>by rw[e,z6]at hpl;cases hpl
  rw[zh nxp]at hpl;have npd:pl≠d:=fun e=>by rw[e,z6]at hpl;cases hpl
  rw[zh npd]at hpl;refine⟨by show 0<=sizeLine;decide,fun ul hul=>⟨_,rfl,x,A.w8,dx,[("standing",.ref d),("past",.ref pl)],rfl,?_,T.w58,T.w62,(by show 2<1000;decide),?_⟩⟩
  ·have:x≠ul:=fun e=>by rw[<-e,z6]at hul;cases hul
   rw[zh this,z6];rfl
  have nxu:ul≠x:=fun e=>by rw[e,z6]at hul;cases hul
  rw[zh nxu]at hul;have nup:ul≠pl:=fun e=>by rw[e,z6]at hul;cases hul
  rw[zh nup,zh nxu]at hul;have nud:ul≠d:=fun e=>by rw[e,z6]at hul;cases hul
  rw[zh nud]at hul;refine k _ [x,d,pl,ul] ⟨by simp,fun b hb=>?_,dx,d,pl,ul,[],[],z6,⟨d,[],rfl,by simp,?_,.nil⟩,?_,.nil,?_,.nil,by simp,by simp,nup.symm⟩ (fun b o hb hne=>?_) (fun b hb=>?_)
  ·have:b=x\/b=d\/b=pl\/b=ul:=by simpa using hb
   rcases this with rfl|rfl|rfl|rfl
   ·exact⟨_,z6⟩
   ·exact⟨_,by rw[zh nxd.symm,zh nud.symm,zh nxd.symm,zh npd.symm,zh nxd.symm,z6]⟩
   ·exact⟨_,by rw[zh nxp,zh nup.symm,zh nxp,z6]⟩
   ·exact⟨_,by rw[zh nxu,z6]⟩
  ·rw[zh nxd.symm,zh nud.symm,zh nxd.symm,zh npd.symm,zh nxd.symm,z6]
  ·rw[zh nxp,zh nup.symm,zh nxp,z6]
  ·rw[zh nxu,z6]
  ·rw[zh hne,zh (zr hb hul),zh hne,zh (zr hb hpl),zh hne,zh (zr hb hd)];exact hb
  ·have:b=x\/b=d\/b=pl\/b=ul:=by simpa using hb
   rcases this with rfl|rfl|rfl|rfl
   ·exact .inl rfl
   ·exact .inr hd
   ·exact .inr hpl
   ·exact .inr hul
def n_law:List Str:=["_law_script","_law_state","_law_names","_law_k","_law_desk","_law_book","_law_here","_law_plan_here","_law_right_here","_law_rules","_law_due"]
theorem kF:FnScope n_law ["_law_script"] (z7 s_law):=FS
inductive sp_law(K:W.Frag)(vs:List V)(H:Hp)(Q:VK)(E:XK):Prop
 |mk (a:Addr) (ns:List Int):vs=[.ref a]->SqL K H a (ns.map V.int)->ns.length<=63->(∀H',Q (.bl true) H')->sp_law K vs H Q E
theorem ok_law(T:Txt P w K mg A):FnOk P w K mg base CX0 45 A.a63 A.f63 ["_law_script"] (sp_law K):=by
 refine T.x63.F.ok kF (by walk_at "n") fun _ _ _ s H vs Q E hr h=>?_
 ·obtain⟨a,ns,rfl,hS,hl,k⟩:=h;refine⟨_,(z8 (pset 1 kF.nd (pcl (xU T) hr T.x0 (pa1 (pv 0))))
    (z8 (pset 2 kF.nd (jg kY))
    (z8 (yu PassesOwn.never rfl (yN rfl T.w9 (pa1 zc)) (pgn 3 kF.nd)
     (z9 (yB (kG PySem.F.plainAttrs_list PySem.F.slot_list_append PySem.F.type_list_append wc (pv 2) (pa1 (pcl (mj T) hr T.x3 (pa2 (pv 1) (pv 2))))))))
    (z8 (pset 4 kF.nd (pe_make0 T.w59 (vL T) (hr.mono (by decide)) rfl T.w30 T.x62.b .nil wX))
    (z8 (pset 5 kF.nd (jg (pa1 re)))
    (z8 (pset 6 kF.nd zc)
    (z8 (yu PassesOwn.never rfl (yN rfl T.w9 (pa1 (zL kA (zt zq rfl T.w5 PySem.boot_len (pa1 (yM cM (pv 0) kZ (j0 zc)))) (pcl (zA T) hr T.x2 (pa2 (pv 1) zc))))) (pgn 3 kF.nd)
     (z8 (pset 7 kF.nd (pcl (mo T) hr T.x6 (pa2 (pv 1) (pv 2))))
    (z8 (zC (zi zZ (zt zq rfl T.w5 PySem.boot_len (pa1 (pv 7))) zc (zu _))
     (z9 (gY (pcl (ug T) hr T.x60 (kx (pv 4) (pa3 (pv 5) (pv 6) (pix zI (pv 7) zc)))) (vv rfl (zR (pgn 6 kF.nd) (zR (pgn 8 kF.nd) jD))))) (z8 (gY (pcl (ml T) hr T.x11 (pa2 (pix zy (pv 5) (pv 6)) (pv 7))) (vv rfl (zR (pgn 9 kF.nd) (zR (pgn 10 kF.nd) jD))))
    (z8 (pset 8 kF.nd (pcl (zQ T) hr T.x51 (pa3 (pv 4) (pcl (uR T) hr T.x9 (pa1 (pv 7))) (pv 10))))
    (z9 (zC (zi zZ (pix zI (pv 10) zc) zj (zu _))
     (z8 (pset 5 kF.nd (zL op_cat (yM cM (pv 5) kZ (j0 (zL kA (pv 6) zc))) (jg (pa1 (pv 9)))))
    (z9 (ps_aug (i:=6) kF.nd rfl (by first|exact Or.inl rfl|exact Or.inr rfl) zc ip_add))) zk)))))
    (z9 (zC (PW.pt (cE (wJ (zY (pv 8) (fun _=>rfl))) (xa (wJ (zY (pcl (mh T) hr T.x59 (kx (pv 4) (pa3 (pv 1) (pix zy (pv 5) (pv 6)) (pv 2)))) (fun _=>rfl))))))
     (z9 (zo cA)) zk)))))
    (z9 (zo (pcl (cu T) hr T.x61 (kx (pv 4) (pa3 (pv 2) (pv 5) (pv 6))))))))))))),?_⟩
  have two:2<=sizeLine:=by decide
  refine⟨_,rfl,a,ns,rfl,hS,hl,fun st ga ca H1 S1 n1 n2 n3 s1=>?_⟩;refine⟨by show 0<=sizeLine;decide,fun nl hnl=>?_⟩;have fnl:H nl=none:=s1.free hnl;have nl3:=S1.nin3 hnl;have S2:=S1.same (Same.new (o:=.lst []) hnl);refine⟨_,rfl,by decide,by decide,kR (n:=4) (fun i σ' H'=>∃(names:List Str)(v3:Option V),σ'=[some (.ref a),some (.ref st),some (.ref nl),v3,none,none,none,none,none,none,none]/\names.length=i/\(∀n∈names,zF n=true)/\StAt H' st ga ca (100*i)/\H' nl=some (.lst (names.map V.str))/\Same H H') ⟨[],_,rfl,rfl,(fun _ h=>by cases h),S2,z6,s1.trans (Same.new hnl)⟩ ?_ ?_⟩
  ·rintro i σ' H' hi ⟨names,v3,rfl,ln,hnm,S',gn,s'⟩;refine⟨_,rfl,.inl ⟨rfl,_,SqL.of gn⟩,_,rfl,_,rfl,st,ga,ca,_,nl,names,rfl,S',by omega,gn,nin2 nl3,by omega,hnm,fun m H5 hm _ S5 K5=>?_⟩;have g5:=K5.at gn (nin2 nl3);refine⟨nl,_,_,rfl,rfl,g5,by rw[length_map];exact lt_of_lt_of_le (m:=10) (by omega) (by decide),?_⟩;refine⟨names++[m],_,rfl,by rw[length_append,ln];rfl,fun n hn=>?_,(S5.upd nl3).mono (by omega),by rw[z6,map_append];rfl,(s'.kept K5 n1 n2).updN fnl⟩;rcases mem_append.mp hn with hn|hn
   ·exact hnm n hn
   ·rw[List.mem_singleton.mp hn];exact hm
  rintro σ' H2 ⟨names,v3,rfl,ln,hnm,S3,gn,s2⟩;refine fun x dx nx ndx ne=>⟨x,dx,rfl,z6,fun H3 O D3 k3 o3=>⟨rfl,?_⟩⟩;obtain⟨s23,f3⟩:=deskAt_new nx ndx (.inr ne) k3 o3;have W0:WL A.w8 H3 st ga ca x [(nl,.lst (names.map V.str))] O 400 [] [] []:=WL.new S3 (fun p hp=>by rw[List.mem_singleton.mp hp];exact⟨gn,nl3⟩) (by simp) D3 s23 f3;have s3:=s2.trans s23;refine fun d0 hd0=>⟨by show 1<=sizeLine;decide,fun bl hbl=>?_⟩;have W2:=(W0.push (o:=.dK []) hd0).push (o:=.lst [V.ref d0]) hbl;have s5:Same H (upd (upd H3 d0 (.dK [])) bl (.lst [V.ref d0])):=s3.trans ((Same.new hd0).trans (Same.new hbl));generalize upd (upd H3 d0 (.dK [])) bl (.lst [V.ref d0])=H5 at W2 s5 ⊢;have b0:BW A.w8 H5 st ga ca x nl bl [(bl,.lst [V.ref d0]),(d0,.dK []),(nl,.lst (names.map V.str))] O 400 names [[]] [.ref d0] 0:=by
   have e:∀j,bkAt [[]] j=[]:=fun j=>by cases j <;>rfl
   exact⟨W2,by simp,by simp,.cons ⟨d0,[],rfl,by simp,StdV.nil⟩ .nil,by decide,by decide,fun j=>by rw[e j];exact⟨(fun _ z=>by cases z),(fun _ z=>by cases z),zero_le _⟩,hnm,ln,rfl⟩
  clear W2 W0 D3 k3 o3 f3 s23 s3 hd0 hbl nx ndx ne S2 S3 s2 gn;refine⟨_,rfl,?_⟩;refine⟨_,rfl,a,_,rfl,SqL.mvS s5 hS,fun l hl0=>⟨l,_,rfl,.inl (SqL.of z6),_,rfl,st,ga,ca,_,9,rfl,(b0.same (Same.new hl0)).wl.s,by decide,by decide,by decide,fun r H7 r0 r1 S7 K7=>⟨_,_,rfl,rfl,?_⟩⟩⟩;have b1:=(b0.same (Same.new hl0)).drawn S7 K7;obtain⟨m,em,hm⟩:∃m:Nat,(((cutV (ns.map V.int) none (some 40)).length:Nat):Int)+r=(m:Int)/\m<=48:=by
   have e:(cutV (ns.map V.int) none (some 40)).length<=40:=by
    rw[show(some (40:Int))=some ((40:Nat):Int)from rfl,xy,length_take];omega
   exact⟨((((cutV (ns.map V.int) none (some 40)).length:Nat):Int)+r).toNat,by omega,by omega⟩
  clear b0 hl0 S7 K7 r0 r1 s5;refine⟨(m:Int),by show [V.int ((((cutV (ns.map V.int) none (some 40)).length:Nat):Int)+r)]=_;rw[em],by omega,by omega,?_⟩;rw[toNat_natCast];refine kR (n:=m) (fun k σ' H'=>∃(bl:Addr)(B:List (Addr×HO))(O:List Addr)(N:Nat)(book:List Std)(us:List V)(i:Nat)(v3 v7 v8 v9 v10:Option V),σ'=[some (.ref a),some (.ref st),some (.ref nl),v3,some (.ref x),some (.ref bl),some (.int i),v7,v8,v9,v10]/\BW A.w8 H' st ga ca x nl bl B O N names book us i/\book.length<=k+1/\N<=1000+5000*k) ⟨bl,_,O,_,_,_,0,_,_,_,_,_,rfl,b1,by decide,by decide⟩ ?_ ?_
  case refine_2 =>
   rintro σ' H' ⟨bl,B,O,N,book,us,i,v3,v7,v8,v9,v10,rfl,b,_,_⟩;exact⟨_,rfl,_,rfl,_,rfl,_,rfl,x,nl,bl,i,st,ga,ca,B,O,N,names,book,us,rfl,b,k⟩
  rintro j σ' H' hj ⟨bl,B,O,N,book,us,i,v3,v7,v8,v9,v10,rfl,b,lb,lN⟩;refine⟨_,rfl,_,rfl,st,ga,ca,N,nl,names,rfl,b.wl.s,by omega,b.gn,nin2 nl3,ln,fun q P' H1 hP hok S1' K1=>?_⟩;have b1:=b.drawn S1' K1;have hlt:=b1.lt;clear S1' K1 b;dsimp only[d8,jX];refine yD (fun σ' H'=>∃(bl:Addr)(B:List (Addr×HO))(O:List Addr)(book:List Std)(us:List V)(i:Nat)(v3 v9 v10:Option V),σ'=[some (.ref a),some (.ref st),some (.ref nl),v3,some (.ref x),some (.ref bl),some (.int i),some (.ref q),some (.bl true),v9,v10]/\BW A.w8 H' st ga ca x nl bl B O (N+4000) names book us i/\book.length<=j+2) (fun nx hnx=>?_) ?_
  case refine_2 =>
   rintro σ' H2 ⟨bl,B,O,book,us,i,v3,v9,v10,rfl,b,lb⟩;obtain⟨d,kvs,hd,m',gd,sv⟩:=b.dict b.lt;refine⟨_,rfl,_,rfl,iteF ⟨_,rfl,_,rfl,_,rfl,_,rfl,bl,_,_,_,rfl,rfl,SqL.of b.gb,zp hd,_,rfl,x,st,d,nl,ga,ca,B,O,_,names,_,_,_,kvs,rfl,b.wl,by omega,b.hn,m',sv,b.fine i,b.lp.1,b.lp.2,b.nm,b.n4,fun H5 O5 W5 t5=>⟨_,rfl,iteF ?_⟩⟩⟩;exact⟨bl,B,O5,_,book,us,i,_,_,_,_,_,rfl,⟨W5,b.hn,b.hb,BW.mvB t5 b.bk,b.lt,b.ln,b.fn,b.nm,b.n4,b.z0⟩,by omega,by omega⟩
  have hq:(∃w,P'= .move w)\/((∀w,P'≠ .move w)/\ ∃xs,H1 q=some (.tup xs)/\xs.length≠1):=by
   cases P' with
   |rule n r=>obtain⟨v,g,_⟩:=hP;exact .inr ⟨(fun _ e=>by cases e),_,g,(fun e=>by cases e)⟩
   |add n h=>obtain⟨v,g,_⟩:=hP;exact .inr ⟨(fun _ e=>by cases e),_,g,(fun e=>by cases e)⟩
   |take n k=>exact .inr ⟨(fun _ e=>by cases e),_,hP,(fun e=>by cases e)⟩
   |copy n m=>exact .inr ⟨(fun _ e=>by cases e),_,hP,(fun e=>by cases e)⟩
   |drop n=>exact .inr ⟨(fun _ e=>by cases e),_,hP,(fun e=>by cases e)⟩
   |move w=>exact .inl ⟨w,rfl⟩
  rcases hq with⟨w,rfl⟩|⟨hmv,xs,gx,lx⟩
  ·refine⟨_,rfl,q,_,rfl,.inr (SqT.of hP),rfl,_,rfl,iteT ?_⟩;refine⟨_,rfl,_,rfl,_,rfl,_,rfl,q,_,0,_,rfl,rfl,SqT.of hP,zp (j:=0) rfl,x,bl,i,w,st,ga,ca,nl,B,O,_,names,book,us,rfl,b1,hok,fun t j' H2 O2 gt b2 _ _=>?_⟩;refine⟨t,_,rfl,SqT.of gt,rfl,_,_,rfl,_,_,rfl,rfl,?_⟩;exact hnx _ _ ⟨bl,B,O2,book,us,j',_,_,_,rfl,b2,by omega⟩
  refine⟨_,rfl,q,_,rfl,.inr (SqT.of gx),rfl,_,rfl,ite2 (fun z=>?_) (fun _=>?_)⟩
  ·exact absurd (V.int.inj (of_decide_eq_true z)) (by omega)
  obtain⟨d,kvs,hd,md,gd,sv⟩:=b1.dict hlt;refine⟨_,rfl,_,rfl,bl,_,_,_,rfl,rfl,SqL.of b1.gb,zp hd,_,rfl,d,q,kvs,bkAt book i,P',names,rfl,gd,sv,hP,hok,b1.nm,(b1.fine i).hr,by have:=(b1.fine i).ln;omega,(b1.fine i).nm,hmv,fun at' d' t' kvs' S' du H2 ga2 gt gd' sv' hnx' s2 hfr=>?_⟩;refine⟨at',_,rfl,SqT.of ga2,rfl,_,_,rfl,_,_,rfl,rfl,?_⟩;have b2:=b1.same s2;have hstep:=step_plan hnx' hok b1.nm (b1.fine i) b1.lp.1 b1.lp.2;have hF:=mI hnx' hok b1.nm (b1.fn i);refine⟨_,rfl,_,rfl,q,P',names,rfl,hP.mv s2.tups,hok,b1.nm,hmv,fun H3 s3=>⟨_,rfl,x,_,O,_,_,_,du,t',S',_,_,rfl,(b2.same s3).wl.d.1,hstep,s3 _ _ gt,fun H4 O4 A4=>?_⟩⟩;have gt4:=A4.tups _ _ (s3 _ _ gt);have t14:Tups H1 H4:=s2.tups.trans (s3.tups.trans A4.tups);cases du with
  |told z =>
   have s13:=s2.trans s3;have W3:=b1.wl.adopt s13 (hfr z rfl) (s3 _ _ gd');have W4:=W3.desk A4;refine⟨_,rfl,t',_,0,_,rfl,rfl,SqT.of gt4,zp (j:=0) rfl,rfl,_,rfl,iteT ?_⟩;have gb4:H4 bl=some (.lst us):=(W4.bx (bl,.lst us) (mem_cons_of_mem _ b1.hb)).1;have ul:=b1.ulen;have ec:cutV us none (some ((i:Int)+1))=us.take (i+1):=by
    rw[show((i:Int)+1)=((i+1:Nat):Int)from rfl,xy,Nat.min_eq_left (by omega)]
   refine⟨_,rfl,_,rfl,_,_,rfl,rfl,_,rfl,bl,us,rfl,SqL.of gb4,fun l1 hl1=>?_⟩;rw[ec];refine⟨_,rfl,by show 1<=sizeLine;decide,fun l2 hl2=>⟨l1,l2,_,_,rfl,rfl,Same.new hl2 _ _ z6,z6,?_,fun l3 hl3=>?_⟩⟩
   ·rw[length_take];exact le_trans (m:=100) (by have:=b1.ln;show min (i+1) us.length+1<=100;omega) (by decide)
   have s5:=(Same.new (o:=.lst (us.take (i+1))) hl1).trans (Same.new (o:=.lst [V.ref d']) hl2);have W6:=(W4.same s5).push (o:=.lst (us.take (i+1)++[V.ref d'])) hl3;have t46:=s5.tups.trans (Same.new (o:=.lst (us.take (i+1)++[V.ref d'])) hl3).tups;refine⟨_,rfl,_,_,rfl,rfl,?_⟩;have b6:=b1.told (bl':=l3) (d:=d') (kvs:=kvs') W6 (fun p hp=>mem_cons_of_mem _ (mem_cons_of_mem _ hp)) (mem_cons_of_mem _ mem_cons_self) mem_cons_self (t14.trans t46) (sv'.mv (s3.tups.trans (A4.tups.trans t46))) hF (by omega);refine hnx _ _ ⟨l3,_,O4,_,_,i+1,_,_,_,rfl,b6,?_⟩;rw[length_append,length_take];show min (i+1) book.length+1<=j+2;omega
  |name n =>
   have hS':=rR.stays hnx' (fun _ e=>by cases e);subst hS';refine⟨_,rfl,t',_,0,_,rfl,rfl,SqT.of gt4,zp (j:=0) rfl,rfl,_,rfl,iteF ?_⟩;exact hnx _ _ ⟨bl,B,O4,book,us,i,_,_,_,rfl,(b2.same s3).desk hlt A4,by omega⟩
  |bare w =>
   have hS':=rR.stays hnx' (fun _ e=>by cases e);subst hS';have hw:=wH.bare hstep;refine⟨_,rfl,t',_,0,_,rfl,rfl,SqT.of gt4,zp (j:=0) rfl,rfl,_,rfl,ite2 (fun z=>?_) (fun _=>?_)⟩
   ·have e:w=Str.ofString "told" :=V.str.inj (of_decide_eq_true z);subst e;exact absurd hw (by decide+kernel)
   ·exact hnx _ _ ⟨bl,B,O4,book,us,i,_,_,_,rfl,(b2.same s3).desk hlt A4,by omega⟩
end
theorem all_mk{l:W.OpenLaw}{w:World}{K:W.Frag}{mg:Str->Option Value}{fa:Addr}{A:Adr}(hfa:mg "law"=some (.ref fa))(T:Txt l.prog w K mg A) :
  ∃fd:FuncData,(∀(s:Shared)(v:Value),BindsTo s fd ⟨[v],[]⟩ [("_law_script",v)])/\ ∀base:Heap,K.In base->base.Ns mainGlobals mg->FnOk l.prog w K mg base CX0 45 fa fd ["_law_script"] (sp_law K):=by
 have e:=hfa.symm.trans T.x63.g;cases e;obtain⟨_,_,_,_,_,_,_,_,_,e,_⟩:=T.x63.F.ex;exact⟨A.f63,fun s v=>by rw[e];exact .of_eq rfl,fun base _ _=>ok_law T⟩
theorem walk{l:W.OpenLaw}{q:Program}{loose:List Str}{XP:(Str->Option Value)->Heap->Prop}{YP:World->Heap->Prop}{d:DefRec}{K:Params->W.Frag}(hn:l.most=some 63)(hdf:d.params.defaults=[])(hY:∀(w:World) (h:Heap),YP w h->(K w.params).In h)(F:∀(w:World) (mg:Str->Option Value) (fa:Addr) (h:Heap),(K w.params).In h->h.Ns mainGlobals mg->mg d.name=some (.ref fa)->
   ∃fd:FuncData,(∀(s:Shared) (u:Value),BindsTo s fd ⟨[u],[]⟩ [("_law_script",u)])/\ ∀base:Heap,(K w.params).In base->base.Ns mainGlobals mg->FnOk l.prog w (K w.params) mg base CX0 45 fa fd ["_law_script"] (sp_law (K w.params))) :
  W.WalkO q loose XP YP l.row.toRowW d [] (fun f vs=>PySem.call f vs) :=
 L2.walk_of (n:=63) (k:=45) (x :="_law_script") (CX:=fun _=>CX0) (sp:=fun w=>sp_law (K w.params)) hn (by decide) hdf ⟨fun _=>rfl,by decide,by decide⟩ hY F (fun _ _ a ns hl _ hS=>⟨a,ns,rfl,hS,hl,fun _=>rfl⟩) fun _ _ _ _ _ z=>z
end My
namespace PySem.W.Fast
def tw6046551966842666067:=0
def tw7343302218388565527:=0
def tw1164146731221479214:=0
def tw3083702159759914714:=0
def tw11870005792599882197:=0
def tw1430051994536964958:=0
def tw8902984028210610762:=0
def tw11267810059402898387:=0
def tw5554606326773698671:=0
def tw18365645024460046305:=0
def tw13066435890456878762:=0
def tw16677692714023951784:=0
def tw819893015893863214:=0
def tw10217885149817928786:=0
def tw4513956451267553223:=0
def tw17917826688802842819:=0
def tw10507690391763259854:=0
def tw17013536246348531516:=0
def tw14122742619327352053:=0
def tw10580525206663637136:=0
def tw9422041174132788313:=0
def tw3077035900563393668:=0
def tw5175086533359324105:=0
def tw16137462981349064464:=0
def tw15653322365634438675:=0
def tw2210413034530376792:=0
def tw1565411993836479777:=0
def tw14842431263051855820:=0
def tw2695085558771841715:=0
def tw6652879436678077689:=0
def tw18266498895069105659:=0
def tw1524006161015963290:=0
def tw11044403612172580077:=0
def tw12225456237420190204:=0
def tw6387397179195166122:=0
def tw12595561694008560096:=0
def tw14521096015535459624:=0
def tw9062353151738491574:=0
def tw2823373120572594867:=0
def tw8501236731891886104:=0
def tw10538700976235642955:=0
def tw12424262131583865679:=0
def tw16256031166077734158:=0
def tw13059250845801901988:=0
def tw2785386167230178938:=0
def tw4739850538603401081:=0
def tw8472325207829380393:=0
def tw15141161640112716460:=0
def tw18142862330226295541:=0
def tw9505768175533203781:=0
def tw11111322810357093899:=0
def tw11235234906844409136:=0
def tw16235363007866525419:=0
def tw10958493361717680318:=0
def tw18309090085220373219:=0
def tw10358419831985624741:=0
def tw17436194799927595397:=0
def tw133950153412486627:=0
def tw6532529575928046289:=0
def tw1634272555303559504:=0
def tw11539329310899350709:=0
def tw16933446385168082627:=0
def tw12614230050327449609:=0
def tw5460170556096065022:=0
def tw12713307772842373158:=0
def tw1285597623517375168:=0
def tw9725132027095333251:=0
def tw18161719624062432977:=0
def tw770228421879420963:=0
def tw5979015312610841231:=0
def tw3060085334032972283:=0
def tw3128914783663885512:=0
def tw13271262095963316332:=0
def tw14008128339943061319:=0
def tw749245854047052699:=0
def tw9449399248271595404:=0
def tw17567945489616520132:=0
def tw1439811069930867712:=0
def tw2696826774855531215:=0
def tw13041187835277860179:=0
def tw6321753007942110487:=0
def tw7715260540770225457:=0
def tw14893981498818773964:=0
def tw13219231458514428240:=0
def tw9283198460708863153:=0
def tw728599256315108796:=0
def tw11430497265677257699:=0
def tw17850552144432824036:=0
def tw14355571875106712784:=0
def tw8751235222242593907:=0
def tw6850077978873553198:=0
def tw1948752948108332260:=0
def tw6046273012177173913:=0
def tw4346853127794542558:=0
def tw8276412854394654510:=0
def tw2570662839521120709:=0
def tw4246851064443293268:=0
def tw9356830879924500057:=0
def tw5599062208881874581:=0
def tw550640774059974410:=0
def tw15372820490486189994:=0
def tw6258974309399083092:=0
def tw12987460794475104141:=0
def tw13189366579560178649:=0
def tw16825182755496175226:=0
def tw3513254013103268972:=0
def tw13718483093678967979:=0
def tw13953454943749943075:=0
def tw8433613133112999085:=0
def tw5914985740072217972:=0
def tw15149754609672893421:=0
def tw5023708980256059825:=0
def tw9151504140017285403:=0
def tw5513526622339222830:=0
def tw17647309681555363446:=0
def tw1726587540062352700:=0
def tw12403194127277785702:=0
def tw13297475858518755715:=0
def tw16174755196126037194:=0
def tw7858714144111490308:=0
def tw16416550211460158297:=0
def tw18069642081591021765:=0
def tw2272431641932246536:=0
def tw17740321373976945358:=0
def tw13147546839070528007:=0
def tw2795598726874816101:=0
def tw5129738201917059273:=0
def tw16373113089762099545:=0
def tw10614847841393556194:=0
def tw16552795377065242958:=0
def tw2421593615237038231:=0
def tw7058315493484755080:=0
def tw8356814360764093487:=0
def tw601626910361644839:=0
def tw4344444497011318494:=0
def tw9206571055470175581:=0
def tw15970642846141793970:=0
def tw8768318275379222532:=0
def tw11076190176346411749:=0
def tw8424651233092370829:=0
def tw13630848057373200803:=0
def tw10726037539466746503:=0
def tw13213686605769047214:=0
def tw18172802361893083465:=0
def tw10943443578305537152:=0
def tw9276419076284898974:=0
def tw189665611612143593:=0
def tw10269471208928354819:=0
def tw8914488019406413212:=0
def tw4234049930544187322:=0
def tw16948841166799443945:=0
def tw3537279205326925269:=0
def tw96078943262649294:=0
def tw14126206977599752689:=0
def tw10700680099416565127:=0
def tw5820536589394338491:=0
def tw1368305647394238137:=0
def tw9142992206903078650:=0
def tw8488920337834705088:=0
def tw2323234969415620209:=0
def tw12517027644884291932:=0
def tw8291481896714496736:=0
def tw450795335200990311:=0
def tw4317633232334256831:=0
def tw17855159931137786307:=0
def tw16340822150853993424:=0
def tw5025992624572631371:=0
def tw15912025155324829834:=0
def tw13844250099912194121:=0
def tw14259224514792882596:=0
def tw1787234055269414455:=0
def tw13077275102960229198:=0
def tw296482784914280678:=0
def tw4370593464259053748:=0
def tw12683085529768181947:=0
def tw7023322414226116567:=0
def tw6664742593618999196:=0
def tw3536631102049504348:=0
def tw16784464353373898924:=0
def tw2430850290582818657:=0
def tw6422887410861587978:=0
def tw2987001104164689428:=0
def tw8343723029836565608:=0
def tw17982646451982344254:=0
def tw3025925588082803143:=0
def tw7118349843917654542:=0
def tw7925015111631760854:=0
def tw16999944722764813990:=0
def tw17439914462327701725:=0
def tw11604573587773010412:=0
def tw10248980815641283104:=0
def tw1414662161620491353:=0
def tw11452807055777836983:=0
def tw11543930645359318842:=0
def tw3936399607965947315:=0
def tw17631860718954527729:=0
def tw13584821445390240749:=0
def tw13258879300284165475:=0
def tw2293986251350440691:=0
def tw15676636870815732903:=0
def tw14892091383236408548:=0
def tw13775011950564950472:=0
def tw10664874543049825137:=0
def tw13545849236427295007:=0
def tw2311730365178016997:=0
def tw15885345948929733905:=0
def tw13467199749930203897:=0
def tw12829795604390979101:=0
def tw5713939325569156190:=0
def tw7994046717498311936:=0
def tw2107924494073713584:=0
def tw15918484021765512174:=0
def tw749971971871885458:=0
def tw484307754589741658:=0
def tw15454435925131856243:=0
def tw8930030436739094223:=0
def tw9558718944808247272:=0
def tw10757949691952542088:=0
def tw7395403806687501234:=0
def tw10286775045981981875:=0
def tw1863297110247127541:=0
def tw11316322140209987041:=0
def tw9883225580857178224:=0
def tw5123673111320377238:=0
def tw15654132226664075653:=0
def tw1343012646020601515:=0
def tw4356403943246539272:=0
def tw12659817096381056288:=0
def tw8297350122877466678:=0
def tw11826238428917631408:=0
def tw14037484741318911806:=0
def tw135576142070528904:=0
def tw10426397121648082228:=0
def tw16313959282564860280:=0
def tw7034434834153546675:=0
def tw14952444961483972420:=0
def tw7757566926256750915:=0
def tw2921683783650946442:=0
def tw10659508495837569852:=0
def tw16071475216142388624:=0
def tw14735881146412414967:=0
def tw11039284387649079968:=0
def tw9670502324723835415:=0
def tw6156949411980220746:=0
def tw10387512690126567676:=0
def tw1142027557864004677:=0
def tw12402753562011970330:=0
def tw12298604906703743274:=0
def tw2661239716534021635:=0
def tw8258673872006649693:=0
def tw12578369512495492738:=0
def tw2133045559332819090:=0
def tw2207646161223749954:=0
def tw1899121982859695673:=0
def tw8906420056485249643:=0
def tw9165928113731550432:=0
def tw5115900785958130411:=0
def tw16803895355949930946:=0
def tw10719257433360752619:=0
def tw2805120642172073158:=0
def tw460331381646655995:=0
def tw9633813326936707499:=0
def tw14232049182938929947:=0
def tw9488713634639391002:=0
def tw2587958404750717784:=0
def tw16974456855088421518:=0
def tw12735243249769074923:=0
def tw17183512690122755290:=0
def tw15517041520105506044:=0
def tw3427145688117772034:=0
def tw4720123999671875697:=0
def tw16118924812059319012:=0
def tw7673608636233449787:=0
def tw8515744838715318319:=0
def tw13344357053586442302:=0
def tw9015933573440719375:=0
def tw16523142025849420295:=0
def tw17086494754406971683:=0
def tw12983514028176287775:=0
def tw3546865752947047911:=0
def tw2924437831381070657:=0
def tw18239300775478960060:=0
def tw2815151215850518816:=0
def tw7471129473169956555:=0
def tw9055639608587952494:=0
def tw8680521585949833709:=0
def tw8122323834802944739:=0
def tw7134340195073876338:=0
def tw6097828877761441590:=0
def tw18276417332839577827:=0
def tw14200699780438365442:=0
def tw14034093230857998965:=0
def tw13334512157478184966:=0
def tw9461945946460803561:=0
def tw2621467801543731240:=0
def tw488270596749715851:=0
def tw11674625380496699251:=0
def tw4678001177221750778:=0
def tw6419141342152223519:=0
def tw17235495398105608621:=0
def tw13620153259498986051:=0
def tw8035467591612868160:=0
def tw5417243648914618947:=0
def tw4055672824549388028:=0
def tw2583399126853615477:=0
def tw12671545164818108613:=0
def tw16162387913012686517:=0
def tw14867530072753801001:=0
def tw7076312956174231658:=0
def tw6983128919510903693:=0
def tw2959326155450260186:=0
def tw14657834305237522892:=0
def tw14497303818059100769:=0
def tw12462491503005082665:=0
def tw14517186294842833157:=0
def tw6787968100998630013:=0
def tw5405867382553916448:=0
def tw9401550481204421579:=0
def tw8388835899399541690:=0
def tw7063878411126573040:=0
def tw625774025000525744:=0
def tw14407502102988481004:=0
def tw7319414593492727856:=0
def tw7502339972182817859:=0
def tw14183723007282920038:=0
def tw5672443239093712923:=0
def tw4364889705391725500:=0
def tw15524135196362243652:=0
def tw13697712393100405152:=0
def tw2044465364224019322:=0
def tw1564943908336042033:=0
def tw7919715808826701301:=0
def tw7873153259109471934:=0
def tw7549191041904591115:=0
def tw16204976664310670834:=0
def tw1454285652131851787:=0
def tw14277088378338656076:=0
def tw422444032205416908:=0
def tw18278356233437384244:=0
def tw12313791038135587616:=0
def tw4483448674395018473:=0
def tw17029515021499867244:=0
def tw14494504776229890746:=0
def tw5179078778422044714:=0
def tw9123665520573513712:=0
def tw8736402287441606598:=0
def tw631046044608012612:=0
def tw8088474024843589806:=0
def tw15078090878806992448:=0
def tw9208053990078671387:=0
def tw3317509970692113039:=0
def tw11392470312914473532:=0
def tw7761485937047496990:=0
def tw16380446480119174866:=0
def tw15421273195948606064:=0
def tw15052916479128200893:=0
def tw12955538071393031929:=0
def tw11064359184002774107:=0
def tw13126625252421594290:=0
def tw12307408296561384496:=0
def tw2463877952028682155:=0
def tw9234892276976323761:=0
def tw7337356759886673514:=0
def tw1475261955908410117:=0
def tw119437748428092635:=0
def tw17225700673281830736:=0
def tw3562018777015522757:=0
def tw3827400877901911267:=0
def tw18322537676743100042:=0
def tw8324333052592819181:=0
def tw10279924025076873302:=0
def tw7169918636255004715:=0
def tw16570955802266256682:=0
def tw14608682942325636565:=0
def tw1296410765848571372:=0
def tw1326487169352384957:=0
def tw7981052622170129180:=0
def tw14619066785024302730:=0
def tw7705802552676054476:=0
def tw17383093879003700893:=0
def tw3559474455171595119:=0
def tw18339496397965395099:=0
def tw8923817883594666029:=0
def tw4767803799265128274:=0
def tw13996840861681863806:=0
def tw1613797112175499274:=0
def tw15591524184401902781:=0
def tw6763734311618616493:=0
def tw5689359770971716724:=0
def tw7283416560034772747:=0
def tw11813979181468250567:=0
def tw18379759848403561893:=0
def tw1053108006408395291:=0
def tw16273198698903934617:=0
def tw4126334189238810570:=0
def tw1386775633723990808:=0
def tw17693819337930546694:=0
def tw1368806574220766318:=0
def tw10418347693290394573:=0
def tw13594841077299872936:=0
def tw4629556794326455898:=0
def tw3404096676731995971:=0
def tw18170793521247297205:=0
def tw17203360545278468708:=0
def tw16374798462258113270:=0
def tw9517562275760790464:=0
def tw10290435296919336134:=0
def tw4180741586490314405:=0
def tw2010434403987921422:=0
def tw1148872985799662179:=0
def tw13154031304022144591:=0
def tw3386717648712672463:=0
def tw17171807912196432716:=0
def tw8504828784244952579:=0
def tw3794739810231386378:=0
def tw3504223651671612086:=0
def tw2974460364066541662:=0
def tw2211680035756546175:=0
def tw14324516200289967457:=0
def tw13572216984148912819:=0
def tw11417131233078137141:=0
def tw11172349616133693886:=0
def tw78621298270868636:=0
def tw5215063097707303180:=0
def tw18161152636021857681:=0
def tw17336438082272032553:=0
def tw86316849041286621:=0
def tw370504701429847711:=0
def tw317883728725856065:=0
def tw990238528099155732:=0
def tw5058310252435066863:=0
def tw3977083234272978658:=0
def tw2833495803363506309:=0
def tw16495622770628226624:=0
def tw13533298739327876519:=0
def tw13109683088371191235:=0
def tw6264156698080540621:=0
def tw3520104392708265068:=0
def tw1244234849660257500:=0
def tw10925198522811349882:=0
def tw8854680872210299857:=0
def tw8194039367151440283:=0
def tw6684768712104474398:=0
def tw641144159447252881:=0
def tw5608960365862126952:=0
def tw5015464065079382815:=0
def tw4992926549714412378:=0
def tw288528916189215866:=0
def tw11331252348561523257:=0
def tw4993211092999354784:=0
def tw16350605082025577221:=0
def tw13741480945888195575:=0
def tw11427068695065888277:=0
def tw8596243626109755001:=0
def tw8420734958271694481:=0
def tw527994228324213370:=0
def tw4068208018802944014:=0
def tw1935245944887779975:=0
def tw15755088832729637704:=0
def tw1309101374687338650:=0
def tw12546901338438075830:=0
def tw10963220776346433197:=0
def tw5502544520207547854:=0
def tw3443368122758962568:=0
def tw18229124196761993332:=0
def tw12353956316883472273:=0
def tw6570943780978896595:=0
def tw4797563824333617696:=0
def tw9559600089631191120:=0
def tw10516393252973130646:=0
def tw9470590138216170179:=0
def tw820934214171574500:=0
def tw5704058020723643240:=0
def tw18038695094490459380:=0
def tw16826282463764646402:=0
def tw10633315654495302191:=0
def tw11759093591383681149:=0
def tw9471954994635172434:=0
def tw8543358555823031040:=0
def tw842199573901583697:=0
def tw7303237732677895747:=0
def tw6107544822026544438:=0
def tw4888608409711982241:=0
def tw4796019142954952816:=0
def tw4521892257767352727:=0
def tw2551883691194658484:=0
def tw18396592592156561935:=0
def tw16602139406759562707:=0
def tw15868684058875688562:=0
def tw13993083344772284131:=0
def tw1371369549634169164:=0
def tw12282270565944841922:=0
def tw12190202225327073589:=0
def tw12016007023080207227:=0
def tw11506749089483878553:=0
def tw79912760607101212:=0
def tw16272589283004520198:=0
def tw6697524350768127207:=0
def tw17350556541479403335:=0
def tw16328559858123123322:=0
def tw3808590146487442606:=0
def tw2133595396927020828:=0
def tw5834456798295706903:=0
def tw17298136331189357787:=0
def tw2403881111208331358:=0
def tw9728355756092330516:=0
def tw3908553392338177913:=0
def tw1538058823482172411:=0
def tw13543494356789170209:=0
def tw12750164592695609540:=0
def tw10676934836914014701:=0
def tw5474419447797557072:=0
def tw5121186838388757893:=0
def tw3290985760878910572:=0
def tw18415765821601042856:=0
def tw17165866806072555379:=0
def tw163940700821619415:=0
def tw11982733812112073930:=0
def tw9350982599319571274:=0
def tw7915482045215776265:=0
def tw6562241992553714944:=0
def tw6251272376717364649:=0
def tw5158384572159190119:=0
def tw4705457549308539827:=0
def tw17562063929402673987:=0
def tw12209100681222858089:=0
def tw12133202390227818459:=0
def tw11162316040506069343:=0
def tw699910656981909164:=0
def tw13001977888517792728:=0
def tw8655895532333710051:=0
def tw5975121549584788333:=0
def tw8756177403128018266:=0
def tw17968906930498439042:=0
def tw17565668336004847122:=0
def tw3778773701177301158:=0
def tw14883193794013387618:=0
def tw9956445269261866580:=0
def tw13889217014912819491:=0
def tw9740314121194674712:=0
def tw8585367027864078249:=0
def tw8535429581020304293:=0
def tw8447477443978567086:=0
end PySem.W.Fast
open PySem PySem.W PyProof.Rows
set_option maxRecDepth 100000 in
set_option maxHeartbeats 0 in
theorem PySem.Challenge.cw_shutpairs_k50_whole_desk_holds : PySem.Challenge.rw_shutpairs_k50_whole_desk.Holds := by
 w_on;o_law;k_head;(case hw=>w_witness2)
 k_fill
 refine My.walk (l:=PySem.Challenge.rw_shutpairs_k50_whole_desk) rfl rfl (fun w h Y=>W.kIn_of Y) ?F
 case F =>
  intro w mg fa h KX G hmg;apply My.all_mk (A:=⟨_,_,_,_,_,_,_,_,_,_,_,_,_,_,_,_,_,_,_,_,_,_,_,_,_,_,_,_,_,_,_,_,_,_,_,_,_,_,_,_,_,_,_,_,_,_,_,_,_,_,_,_,_,_,_,_,_,_,_,_,_,_,_,_,_,_,_,_,_,_,_,_,_,_,_,_,_,_,_,_,_,_,_,_,_,_,_,_,_,_,_,_,_,_,_,_,_,_,_,_,_,_,_,_,_,_,_,_,_,_,_,_,_,_,_,_,_,_,_,_,_,_,_,_,_,_,_,_,_,_,_,_,_,_,_,_,_,_,_,_⟩) hmg;constructor
  all_goals try dsimp only
  iterate 56 (refine' L2.FB.of KX G ?n ?l ?c ?k ?b;(case n=>k_is);(case l=>k_is);(case c=>k_is);(case k=>k_is);(case b=>(intro _ _ _ _ _ _;(repeat intro _);exact rfl)))
  iterate 15 (refine' W.mg_none_of KX G ?z;(case z=>k_is))
  iterate 2 (refine' L2.mgI KX G ?z;(case z=>k_is))
  (refine' L2.mgS KX G ?z;(case z=>k_is))
  (refine' L2.mgI KX G ?z;(case z=>k_is))
  (refine' L2.mgS KX G ?z;(case z=>k_is))
  iterate 2 (refine' L2.mgI KX G ?z;(case z=>k_is))
  (exact⟨_,KX⟩)
  iterate 9 (refine' W.mg_of KX G ?z;(case z=>k_is))
  iterate 5 (refine'⟨?x,?y⟩;(case x=>k_exc);(case y=>k_is))
  iterate 6 (constructor <;>k_is)
  iterate 16 (k_is)
  iterate 8 (refine' L2.MB.of ?n ?i ?l ?c ?k ?b;(case n=>k_is);(case i=>k_is);(case l=>k_is);(case c=>k_is);(case k=>k_is);(case b=>(intro _ _ _ _ _ _;(repeat intro _);exact rfl)))
  iterate 2 (constructor <;>k_is)
  iterate 4 (unfold L2.kz;k_is)
  (constructor <;>first|k_is|(unfold L2.kz;k_is)|kernel_rfl)
  (constructor <;>first|k_is|kernel_rfl)
  iterate 3 (refine' W.mg_of KX G ?z;(case z=>k_is))
  (refine' L2.KForms.lit [L2.rowI "rule",L2.rowI "add",L2.rowI "take",L2.rowI "copy",L2.rowI "drop",L2.rowI "undo",L2.rowI "again",L2.rowI "names",L2.rowI "show",L2.rowI "keeps",L2.rowI "count",L2.rowI "list",L2.rowI "match",L2.rowI "send",L2.rowI "steps"] _ rfl ?l (show(["rule","add","take","copy","drop","undo","again","names","show","keeps","count","list","match","send","steps"]:List Str).Nodup by decide+kernel) rfl ⟨⟨0,_,_,rfl,L2.KTup.lit [L2.colI "FREE",L2.colI "RULE"] ?k0 (show 2<=100 by decide)⟩,⟨1,_,_,rfl,L2.KTup.lit [L2.colI "NAME",L2.colI "HEAP"] ?k1 (show 2<=100 by decide)⟩,⟨2,_,_,rfl,L2.KTup.lit [L2.colI "NAME",L2.colI "NUMBER"] ?k2 (show 2<=100 by decide)⟩,⟨3,_,_,rfl,L2.KTup.lit [L2.colI "NAME",L2.colI "FREE"] ?k3 (show 2<=100 by decide)⟩,⟨4,_,_,rfl,L2.KTup.lit [L2.colI "NAME"] ?k4 (show 1<=100 by decide)⟩,⟨5,_,_,rfl,L2.KTup.lit [] ?k5 (show 0<=100 by decide)⟩,⟨6,_,_,rfl,L2.KTup.lit [] ?k6 (show 0<=100 by decide)⟩,⟨7,_,_,rfl,L2.KTup.lit [] ?k7 (show 0<=100 by decide)⟩,⟨8,_,_,rfl,L2.KTup.lit [L2.colI "NAME"] ?k8 (show 1<=100 by decide)⟩,⟨9,_,_,rfl,L2.KTup.lit [L2.colI "NAME",L2.colI "HEAP"] ?k9 (show 2<=100 by decide)⟩,⟨10,_,_,rfl,L2.KTup.lit [L2.colI "NAME",L2.colI "NUMBER"] ?k10 (show 2<=100 by decide)⟩,⟨11,_,_,rfl,L2.KTup.lit [L2.colI "NAME",L2.colI "NUMBER"] ?k11 (show 2<=100 by decide)⟩,⟨12,_,_,rfl,L2.KTup.lit [L2.colI "NAME",L2.colI "NAME"] ?k12 (show 2<=100 by decide)⟩,⟨13,_,_,rfl,L2.KTup.lit [L2.colI "NAME",L2.colI "NAME",L2.colI "HEAP"] ?k13 (show 3<=100 by decide)⟩,⟨14,_,_,rfl,L2.KTup.lit [L2.colI "NAME",L2.colI "NAME",L2.colI "HEAP"] ?k14 (show 3<=100 by decide)⟩,trivial⟩;(case l=>k_is);(case k0=>k_is);(case k1=>k_is);(case k2=>k_is);(case k3=>k_is);(case k4=>k_is);(case k5=>k_is);(case k6=>k_is);(case k7=>k_is);(case k8=>k_is);(case k9=>k_is);(case k10=>k_is);(case k11=>k_is);(case k12=>k_is);(case k13=>k_is);(case k14=>k_is))
  (refine' L2.KFns.lit [L2.rowI "rule",L2.rowI "add",L2.rowI "take",L2.rowI "copy"] _ rfl ?l (show(["rule","add","take","copy"]:List Str).Nodup by decide+kernel) _ rfl ⟨⟨0,_,rfl⟩,⟨1,_,rfl⟩,⟨2,_,rfl⟩,⟨3,_,rfl⟩,trivial⟩;(case l=>k_is))
  (refine' L2.KFns.lit [L2.rowI "names",L2.rowI "show",L2.rowI "keeps",L2.rowI "count",L2.rowI "list",L2.rowI "match",L2.rowI "send",L2.rowI "steps"] _ rfl ?l (show(["names","show","keeps","count","list","match","send","steps"]:List Str).Nodup by decide+kernel) _ rfl ⟨⟨0,_,rfl⟩,⟨1,_,rfl⟩,⟨2,_,rfl⟩,⟨5,_,rfl⟩,trivial⟩;(case l=>k_is))
